/- An erased page has no records, and none bad; one that was erased in part has, where a record was, that one, or none (page.Records, Bad, Next, Room, Slot; flash.Erase, Wake; record.Read). -/
import Derived.Test.YtipiioggdalkoaaGreatDoorPartE
import Derived.SizedLaws
import Derived.ProofKit
import Derived.OpenShut
import Derived.ShutString
import Derived.ChangeOld
import Derived.Below
namespace Go.Proofs.YtipiioggdalkoaaGreatDoor
open Go.ChangeShapes Go.WideShapes Go.ChangeAt Go.RowKit
open Go.ChangeMaps (open_string shut_string)
set_option linter.unusedVariables false
set_option linter.unusedSimpArgs false
attribute [local irreducible] set5
theorem isFlp {G : Fl} {vp vw f t d : Value} {w : World} (h : isFl G (.agg #[vp, vw, f, t, d]) w) : isCells (G.pages.map strC) vp w := by
  obtain ⟨a, b, e, h1, _⟩ := h
  injection e with e
  injection e with e
  injection e with e1 e
  subst e1
  exact h1
set_option maxRecDepth 100000 in
set_option maxHeartbeats 8000000 in
theorem pageErased_1 (F : Fl) (v : Value) (page : Int) (torn : List UInt8) (n : Int) (w : World) (hv : isFl F v w) (n0 : 0 ≤ n) (n1 : n ≤ 255) (W V : Fl) (ew eg : Int) (hfew : fewB F = false) (HW : Kept (∀ (v : Value) (w : World), isFl F v w → Calls Tryz.prog 25 #[v, .int .i64 0, .string ⟨torn.toArray⟩] w fun e w' => ∃ v', e = .returned (.tuple #[v', .int .i64 ew]) ∧ isFlN w.heap.size W v' w' ∧ Below w.heap.size w w')) (HV : Kept (∀ (v : Value) (w : World), isFl F v w → Calls Tryz.prog 25 #[v, .int .i64 (-1), .string ⟨#[]⟩] w fun e w' => ∃ v', e = .returned (.tuple #[v', .int .i64 eg]) ∧ isFlN w.heap.size V v' w' ∧ Below w.heap.size w w')) :
    Calls Tryz.prog 8 #[v, .int .i64 page, .string ⟨torn.toArray⟩, .int .u8 n] w fun e w' => e = .returned (.bool true) ∧ Below w.heap.size w w' := by
  obtain ⟨vp, vw, rfl, hp, hq⟩ := hv
  have HF := Kept.mk hfew
  clear hfew
  obtain ⟨hB, Vf⟩ := var_box w F vp vw hp hq
  clear hp hq
  go_enter Tryz.func8, Tryz.ntmps8
  go_wp2_with fail
  ((with_reducible refine (works_any _).mono ?_); rintro e W1 ⟨rfl, hb1⟩)
  replace hB := Kept.mk (hB.out.trans ((hb1).mono hB.out.size))
  replace Vf := Kept.mk (Vf.out.keep (hb1))
  clear hb1
  obtain ⟨vpf, vwf, flf, kf0, kf1, kf2, kf3, kf4⟩ := Vf.out.open_
  go_wp2_with fail
  ((with_reducible refine (few_any F _ _ flf).mono ?_); rintro e W2 ⟨rfl, hb1⟩)
  clear kf0 kf1 kf2 kf3 kf4 flf
  replace hB := Kept.mk (hB.out.trans ((hb1).mono hB.out.size))
  replace Vf := Kept.mk (Vf.out.keep (hb1))
  clear hb1
  obtain ⟨vpf, vwf, flf, kf0, kf1, kf2, kf3, kf4⟩ := Vf.out.open_
  rw [HF.out]
  go_wp2_with fail
  ((with_reducible refine (HW.out _ _ flf).mono ?_); rintro e U ⟨v', rfl, hf', hb1⟩)
  obtain ⟨vp', vw', rfl, hp', hq'⟩ := hf'.fl
  have o1 := hp'.one
  have o2 := hq'.one
  obtain ⟨K1, K2, K3, K4⟩ := var_new U W vp' vw' hp' hq'
  clear hp' hq' hf'
  clear kf0 kf1 kf2 kf3 kf4 flf
  replace hB := Kept.mk (hB.out.trans ((hb1).mono hB.out.size))
  replace Vf := Kept.mk (Vf.out.keep (hb1))
  clear hb1
  go_wp2_with (refine wpList_store5 rfl (.tmp 11) (.tmp 35) rfl U.heap.size vp' vw' (.int .i64 W.fuse) (strC W.torn) (.bool W.dead) rfl rfl K1.out K2.out o1 o2 rfl rfl rfl ?_; replace hB := Kept.mk (hB.out.trans ((K3.out).mono hB.out.size)); replace Vf := Kept.mk (Vf.out.keep (K3.out)); have Vw := K4; clear K1 K2 K3 K4 o1 o2; generalize set5 (U.alloc (.cells #[.slice none 0 0, .slice none 0 0, .int .i64 0, .string ⟨#[]⟩, .bool false] 31)) U.heap.size vp' vw' (.int .i64 W.fuse) (strC W.torn) (.bool W.dead) = W3 at *; generalize U.heap.size = gw at *; obtain ⟨vpf, vwf, flf, kf0, kf1, kf2, kf3, kf4⟩ := Vf.out.open_)
  ((with_reducible refine (HV.out _ _ flf).mono ?_); rintro e U ⟨v', rfl, hf', hb1⟩)
  obtain ⟨vp', vw', rfl, hp', hq'⟩ := hf'.fl
  have o1 := hp'.one
  have o2 := hq'.one
  obtain ⟨K1, K2, K3, K4⟩ := var_new U V vp' vw' hp' hq'
  clear hp' hq' hf'
  clear kf0 kf1 kf2 kf3 kf4 flf
  replace hB := Kept.mk (hB.out.trans ((hb1).mono hB.out.size))
  replace Vf := Kept.mk (Vf.out.keep (hb1))
  replace Vw := Kept.mk (Vw.out.keep (hb1))
  clear hb1
  go_wp2_with (refine wpList_store5 rfl (.tmp 13) (.tmp 40) rfl U.heap.size vp' vw' (.int .i64 V.fuse) (strC V.torn) (.bool V.dead) rfl rfl K1.out K2.out o1 o2 rfl rfl rfl ?_; replace hB := Kept.mk (hB.out.trans ((K3.out).mono hB.out.size)); replace Vf := Kept.mk (Vf.out.keep (K3.out)); replace Vw := Kept.mk (Vw.out.keep (K3.out)); have Vv := K4; clear K1 K2 K3 K4 o1 o2; generalize set5 (U.alloc (.cells #[.slice none 0 0, .slice none 0 0, .int .i64 0, .string ⟨#[]⟩, .bool false] 31)) U.heap.size vp' vw' (.int .i64 V.fuse) (strC V.torn) (.bool V.dead) = W4 at *; generalize U.heap.size = gv at *)
  go_wp2
  go_ret
  exact ⟨rfl, hB.out⟩
set_option maxRecDepth 100000 in
set_option maxHeartbeats 8000000 in
theorem pageErased_2 (F : Fl) (v : Value) (page : Int) (torn : List UInt8) (n : Int) (w : World) (hv : isFl F v w) (n0 : 0 ≤ n) (n1 : n ≤ 255) (W V : Fl) (eg : Int) (hfew : fewB F = true) (HW : Kept (∀ (v : Value) (w : World), isFl F v w → Calls Tryz.prog 25 #[v, .int .i64 0, .string ⟨torn.toArray⟩] w fun e w' => ∃ v', e = .returned (.tuple #[v', .int .i64 1]) ∧ isFlN w.heap.size W v' w' ∧ Below w.heap.size w w')) (HV : Kept (∀ (v : Value) (w : World), isFl F v w → Calls Tryz.prog 25 #[v, .int .i64 (-1), .string ⟨#[]⟩] w fun e w' => ∃ v', e = .returned (.tuple #[v', .int .i64 eg]) ∧ isFlN w.heap.size V v' w' ∧ Below w.heap.size w w')) :
    Calls Tryz.prog 8 #[v, .int .i64 page, .string ⟨torn.toArray⟩, .int .u8 n] w fun e w' => e = .returned (.bool true) ∧ Below w.heap.size w w' := by
  obtain ⟨vp, vw, rfl, hp, hq⟩ := hv
  have HF := Kept.mk hfew
  clear hfew
  obtain ⟨hB, Vf⟩ := var_box w F vp vw hp hq
  clear hp hq
  go_enter Tryz.func8, Tryz.ntmps8
  go_wp2_with fail
  ((with_reducible refine (works_any _).mono ?_); rintro e W1 ⟨rfl, hb1⟩)
  replace hB := Kept.mk (hB.out.trans ((hb1).mono hB.out.size))
  replace Vf := Kept.mk (Vf.out.keep (hb1))
  clear hb1
  obtain ⟨vpf, vwf, flf, kf0, kf1, kf2, kf3, kf4⟩ := Vf.out.open_
  go_wp2_with fail
  ((with_reducible refine (few_any F _ _ flf).mono ?_); rintro e W2 ⟨rfl, hb1⟩)
  clear kf0 kf1 kf2 kf3 kf4 flf
  replace hB := Kept.mk (hB.out.trans ((hb1).mono hB.out.size))
  replace Vf := Kept.mk (Vf.out.keep (hb1))
  clear hb1
  obtain ⟨vpf, vwf, flf, kf0, kf1, kf2, kf3, kf4⟩ := Vf.out.open_
  rw [HF.out]
  go_wp2_with fail
  ((with_reducible refine (HW.out _ _ flf).mono ?_); rintro e U ⟨v', rfl, hf', hb1⟩)
  obtain ⟨vp', vw', rfl, hp', hq'⟩ := hf'.fl
  have o1 := hp'.one
  have o2 := hq'.one
  obtain ⟨K1, K2, K3, K4⟩ := var_new U W vp' vw' hp' hq'
  clear hp' hq' hf'
  clear kf0 kf1 kf2 kf3 kf4 flf
  replace hB := Kept.mk (hB.out.trans ((hb1).mono hB.out.size))
  replace Vf := Kept.mk (Vf.out.keep (hb1))
  clear hb1
  go_wp2_with (refine wpList_store5 rfl (.tmp 11) (.tmp 35) rfl U.heap.size vp' vw' (.int .i64 W.fuse) (strC W.torn) (.bool W.dead) rfl rfl K1.out K2.out o1 o2 rfl rfl rfl ?_; replace hB := Kept.mk (hB.out.trans ((K3.out).mono hB.out.size)); replace Vf := Kept.mk (Vf.out.keep (K3.out)); have Vw := K4; clear K1 K2 K3 K4 o1 o2; generalize set5 (U.alloc (.cells #[.slice none 0 0, .slice none 0 0, .int .i64 0, .string ⟨#[]⟩, .bool false] 31)) U.heap.size vp' vw' (.int .i64 W.fuse) (strC W.torn) (.bool W.dead) = W3 at *; generalize U.heap.size = gw at *; obtain ⟨vpf, vwf, flf, kf0, kf1, kf2, kf3, kf4⟩ := Vf.out.open_)
  ((with_reducible refine (HV.out _ _ flf).mono ?_); rintro e U ⟨v', rfl, hf', hb1⟩)
  obtain ⟨vp', vw', rfl, hp', hq'⟩ := hf'.fl
  have o1 := hp'.one
  have o2 := hq'.one
  obtain ⟨K1, K2, K3, K4⟩ := var_new U V vp' vw' hp' hq'
  clear hp' hq' hf'
  clear kf0 kf1 kf2 kf3 kf4 flf
  replace hB := Kept.mk (hB.out.trans ((hb1).mono hB.out.size))
  replace Vf := Kept.mk (Vf.out.keep (hb1))
  replace Vw := Kept.mk (Vw.out.keep (hb1))
  clear hb1
  go_wp2_with (refine wpList_store5 rfl (.tmp 13) (.tmp 40) rfl U.heap.size vp' vw' (.int .i64 V.fuse) (strC V.torn) (.bool V.dead) rfl rfl K1.out K2.out o1 o2 rfl rfl rfl ?_; replace hB := Kept.mk (hB.out.trans ((K3.out).mono hB.out.size)); replace Vf := Kept.mk (Vf.out.keep (K3.out)); replace Vw := Kept.mk (Vw.out.keep (K3.out)); have Vv := K4; clear K1 K2 K3 K4 o1 o2; generalize set5 (U.alloc (.cells #[.slice none 0 0, .slice none 0 0, .int .i64 0, .string ⟨#[]⟩, .bool false] 31)) U.heap.size vp' vw' (.int .i64 V.fuse) (strC V.torn) (.bool V.dead) = W4 at *; generalize U.heap.size = gv at *)
  go_wp2
  go_ret
  exact ⟨rfl, hB.out⟩
set_option maxRecDepth 100000 in
set_option maxHeartbeats 8000000 in
theorem pageErased_3 (F : Fl) (v : Value) (page : Int) (torn : List UInt8) (n : Int) (w : World) (hv : isFl F v w) (n0 : 0 ≤ n) (n1 : n ≤ 255) (W V : Fl) (hfew : fewB F = true) (hp0 : page < 0) (HW : Kept (∀ (v : Value) (w : World), isFl F v w → Calls Tryz.prog 25 #[v, .int .i64 0, .string ⟨torn.toArray⟩] w fun e w' => ∃ v', e = .returned (.tuple #[v', .int .i64 0]) ∧ isFlN w.heap.size W v' w' ∧ Below w.heap.size w w')) (HV : Kept (∀ (v : Value) (w : World), isFl F v w → Calls Tryz.prog 25 #[v, .int .i64 (-1), .string ⟨#[]⟩] w fun e w' => ∃ v', e = .returned (.tuple #[v', .int .i64 0]) ∧ isFlN w.heap.size V v' w' ∧ Below w.heap.size w w')) :
    Calls Tryz.prog 8 #[v, .int .i64 page, .string ⟨torn.toArray⟩, .int .u8 n] w fun e w' => e = .returned (.bool true) ∧ Below w.heap.size w w' := by
  obtain ⟨vp, vw, rfl, hp, hq⟩ := hv
  have HF := Kept.mk hfew
  clear hfew
  have d0 : decide (page < 0) = true := by simpa using hp0
  obtain ⟨hB, Vf⟩ := var_box w F vp vw hp hq
  clear hp hq
  go_enter Tryz.func8, Tryz.ntmps8
  go_wp2_with fail
  ((with_reducible refine (works_any _).mono ?_); rintro e W1 ⟨rfl, hb1⟩)
  replace hB := Kept.mk (hB.out.trans ((hb1).mono hB.out.size))
  replace Vf := Kept.mk (Vf.out.keep (hb1))
  clear hb1
  obtain ⟨vpf, vwf, flf, kf0, kf1, kf2, kf3, kf4⟩ := Vf.out.open_
  go_wp2_with fail
  ((with_reducible refine (few_any F _ _ flf).mono ?_); rintro e W2 ⟨rfl, hb1⟩)
  clear kf0 kf1 kf2 kf3 kf4 flf
  replace hB := Kept.mk (hB.out.trans ((hb1).mono hB.out.size))
  replace Vf := Kept.mk (Vf.out.keep (hb1))
  clear hb1
  obtain ⟨vpf, vwf, flf, kf0, kf1, kf2, kf3, kf4⟩ := Vf.out.open_
  rw [HF.out]
  go_wp2_with fail
  ((with_reducible refine (HW.out _ _ flf).mono ?_); rintro e U ⟨v', rfl, hf', hb1⟩)
  obtain ⟨vp', vw', rfl, hp', hq'⟩ := hf'.fl
  have o1 := hp'.one
  have o2 := hq'.one
  obtain ⟨K1, K2, K3, K4⟩ := var_new U W vp' vw' hp' hq'
  clear hp' hq' hf'
  clear kf0 kf1 kf2 kf3 kf4 flf
  replace hB := Kept.mk (hB.out.trans ((hb1).mono hB.out.size))
  replace Vf := Kept.mk (Vf.out.keep (hb1))
  clear hb1
  go_wp2_with (refine wpList_store5 rfl (.tmp 11) (.tmp 35) rfl U.heap.size vp' vw' (.int .i64 W.fuse) (strC W.torn) (.bool W.dead) rfl rfl K1.out K2.out o1 o2 rfl rfl rfl ?_; replace hB := Kept.mk (hB.out.trans ((K3.out).mono hB.out.size)); replace Vf := Kept.mk (Vf.out.keep (K3.out)); have Vw := K4; clear K1 K2 K3 K4 o1 o2; generalize set5 (U.alloc (.cells #[.slice none 0 0, .slice none 0 0, .int .i64 0, .string ⟨#[]⟩, .bool false] 31)) U.heap.size vp' vw' (.int .i64 W.fuse) (strC W.torn) (.bool W.dead) = W3 at *; generalize U.heap.size = gw at *; obtain ⟨vpf, vwf, flf, kf0, kf1, kf2, kf3, kf4⟩ := Vf.out.open_)
  ((with_reducible refine (HV.out _ _ flf).mono ?_); rintro e U ⟨v', rfl, hf', hb1⟩)
  obtain ⟨vp', vw', rfl, hp', hq'⟩ := hf'.fl
  have o1 := hp'.one
  have o2 := hq'.one
  obtain ⟨K1, K2, K3, K4⟩ := var_new U V vp' vw' hp' hq'
  clear hp' hq' hf'
  clear kf0 kf1 kf2 kf3 kf4 flf
  replace hB := Kept.mk (hB.out.trans ((hb1).mono hB.out.size))
  replace Vf := Kept.mk (Vf.out.keep (hb1))
  replace Vw := Kept.mk (Vw.out.keep (hb1))
  clear hb1
  go_wp2_with (refine wpList_store5 rfl (.tmp 13) (.tmp 40) rfl U.heap.size vp' vw' (.int .i64 V.fuse) (strC V.torn) (.bool V.dead) rfl rfl K1.out K2.out o1 o2 rfl rfl rfl ?_; replace hB := Kept.mk (hB.out.trans ((K3.out).mono hB.out.size)); replace Vf := Kept.mk (Vf.out.keep (K3.out)); replace Vw := Kept.mk (Vw.out.keep (K3.out)); have Vv := K4; clear K1 K2 K3 K4 o1 o2; generalize set5 (U.alloc (.cells #[.slice none 0 0, .slice none 0 0, .int .i64 0, .string ⟨#[]⟩, .bool false] 31)) U.heap.size vp' vw' (.int .i64 V.fuse) (strC V.torn) (.bool V.dead) = W4 at *; generalize U.heap.size = gv at *)
  go_wp2
  go_ret
  exact ⟨rfl, hB.out⟩
set_option maxRecDepth 100000 in
set_option maxHeartbeats 8000000 in
theorem pageErased_4 (F : Fl) (v : Value) (page : Int) (torn : List UInt8) (n : Int) (w : World) (hv : isFl F v w) (n0 : 0 ≤ n) (n1 : n ≤ 255) (W V : Fl) (hfew : fewB F = true) (hp0 : 0 ≤ page) (hp1 : (F.pages.length : Int) ≤ page) (HW : Kept (∀ (v : Value) (w : World), isFl F v w → Calls Tryz.prog 25 #[v, .int .i64 0, .string ⟨torn.toArray⟩] w fun e w' => ∃ v', e = .returned (.tuple #[v', .int .i64 0]) ∧ isFlN w.heap.size W v' w' ∧ Below w.heap.size w w')) (HV : Kept (∀ (v : Value) (w : World), isFl F v w → Calls Tryz.prog 25 #[v, .int .i64 (-1), .string ⟨#[]⟩] w fun e w' => ∃ v', e = .returned (.tuple #[v', .int .i64 0]) ∧ isFlN w.heap.size V v' w' ∧ Below w.heap.size w w')) :
    Calls Tryz.prog 8 #[v, .int .i64 page, .string ⟨torn.toArray⟩, .int .u8 n] w fun e w' => e = .returned (.bool true) ∧ Below w.heap.size w w' := by
  obtain ⟨vp, vw, rfl, hp, hq⟩ := hv
  have HF := Kept.mk hfew
  clear hfew
  have d0 : decide (page < 0) = false := by simp; omega
  have d1 : decide ((F.pages.length : Int) ≤ page) = true := by simpa using hp1
  obtain ⟨hB, Vf⟩ := var_box w F vp vw hp hq
  clear hp hq
  go_enter Tryz.func8, Tryz.ntmps8
  go_wp2_with fail
  ((with_reducible refine (works_any _).mono ?_); rintro e W1 ⟨rfl, hb1⟩)
  replace hB := Kept.mk (hB.out.trans ((hb1).mono hB.out.size))
  replace Vf := Kept.mk (Vf.out.keep (hb1))
  clear hb1
  obtain ⟨vpf, vwf, flf, kf0, kf1, kf2, kf3, kf4⟩ := Vf.out.open_
  go_wp2_with fail
  ((with_reducible refine (few_any F _ _ flf).mono ?_); rintro e W2 ⟨rfl, hb1⟩)
  clear kf0 kf1 kf2 kf3 kf4 flf
  replace hB := Kept.mk (hB.out.trans ((hb1).mono hB.out.size))
  replace Vf := Kept.mk (Vf.out.keep (hb1))
  clear hb1
  obtain ⟨vpf, vwf, flf, kf0, kf1, kf2, kf3, kf4⟩ := Vf.out.open_
  rw [HF.out]
  go_wp2_with fail
  ((with_reducible refine (HW.out _ _ flf).mono ?_); rintro e U ⟨v', rfl, hf', hb1⟩)
  obtain ⟨vp', vw', rfl, hp', hq'⟩ := hf'.fl
  have o1 := hp'.one
  have o2 := hq'.one
  obtain ⟨K1, K2, K3, K4⟩ := var_new U W vp' vw' hp' hq'
  clear hp' hq' hf'
  clear kf0 kf1 kf2 kf3 kf4 flf
  replace hB := Kept.mk (hB.out.trans ((hb1).mono hB.out.size))
  replace Vf := Kept.mk (Vf.out.keep (hb1))
  clear hb1
  go_wp2_with (refine wpList_store5 rfl (.tmp 11) (.tmp 35) rfl U.heap.size vp' vw' (.int .i64 W.fuse) (strC W.torn) (.bool W.dead) rfl rfl K1.out K2.out o1 o2 rfl rfl rfl ?_; replace hB := Kept.mk (hB.out.trans ((K3.out).mono hB.out.size)); replace Vf := Kept.mk (Vf.out.keep (K3.out)); have Vw := K4; clear K1 K2 K3 K4 o1 o2; generalize set5 (U.alloc (.cells #[.slice none 0 0, .slice none 0 0, .int .i64 0, .string ⟨#[]⟩, .bool false] 31)) U.heap.size vp' vw' (.int .i64 W.fuse) (strC W.torn) (.bool W.dead) = W3 at *; generalize U.heap.size = gw at *; obtain ⟨vpf, vwf, flf, kf0, kf1, kf2, kf3, kf4⟩ := Vf.out.open_)
  ((with_reducible refine (HV.out _ _ flf).mono ?_); rintro e U ⟨v', rfl, hf', hb1⟩)
  obtain ⟨vp', vw', rfl, hp', hq'⟩ := hf'.fl
  have o1 := hp'.one
  have o2 := hq'.one
  obtain ⟨K1, K2, K3, K4⟩ := var_new U V vp' vw' hp' hq'
  clear hp' hq' hf'
  clear kf0 kf1 kf2 kf3 kf4 flf
  replace hB := Kept.mk (hB.out.trans ((hb1).mono hB.out.size))
  replace Vf := Kept.mk (Vf.out.keep (hb1))
  replace Vw := Kept.mk (Vw.out.keep (hb1))
  clear hb1
  go_wp2_with (refine wpList_store5 rfl (.tmp 13) (.tmp 40) rfl U.heap.size vp' vw' (.int .i64 V.fuse) (strC V.torn) (.bool V.dead) rfl rfl K1.out K2.out o1 o2 rfl rfl rfl ?_; replace hB := Kept.mk (hB.out.trans ((K3.out).mono hB.out.size)); replace Vf := Kept.mk (Vf.out.keep (K3.out)); replace Vw := Kept.mk (Vw.out.keep (K3.out)); have Vv := K4; clear K1 K2 K3 K4 o1 o2; generalize set5 (U.alloc (.cells #[.slice none 0 0, .slice none 0 0, .int .i64 0, .string ⟨#[]⟩, .bool false] 31)) U.heap.size vp' vw' (.int .i64 V.fuse) (strC V.torn) (.bool V.dead) = W4 at *; generalize U.heap.size = gv at *; obtain ⟨vpf, vwf, flf, kf0, kf1, kf2, kf3, kf4⟩ := Vf.out.open_; obtain ⟨af, cf, hvf⟩ := (isFlp flf).len; rw [List.length_map] at hvf; subst hvf)
  go_wp2
  go_ret
  exact ⟨rfl, hB.out⟩
set_option maxRecDepth 100000 in
set_option maxHeartbeats 8000000 in
theorem pageErased_5 (F : Fl) (v : Value) (k : Nat) (torn : List UInt8) (n : Int) (w : World) (hv : isFl F v w) (n0 : 0 ≤ n) (n1 : n ≤ 255) (W V C D : Fl) (p cP dP : List UInt8) (ec : Int) (hfew : fewB F = true) (hk : k < F.pages.length) (hmm : F.wear.length = F.pages.length) (hpl : p.length ≤ 8192) (HP : Kept (F.pages[k]? = some p ∧ C.pages[k]? = some cP ∧ D.pages[k]? = some dP)) (HL : Kept (C.pages.length = F.pages.length ∧ C.wear.length = F.wear.length ∧ D.pages.length = F.pages.length ∧ D.wear.length = F.wear.length))
    (HSA : Kept (∀ j, j < roomN p n → ∀ W : World, Calls Tryz.prog 18 #[.string ⟨cP.toArray⟩, .int .i64 n, .int .i64 (j : Int)] W fun e w' => e = .returned (.string ⟨(slotL cP n j).toArray⟩) ∧ W = w')) (HSF : Kept (∀ j, j < roomN p n → ∀ W : World, Calls Tryz.prog 18 #[.string ⟨p.toArray⟩, .int .i64 n, .int .i64 (j : Int)] W fun e w' => e = .returned (.string ⟨(slotL p n j).toArray⟩) ∧ W = w'))
    (HRA : Kept (∀ (j : Nat) (W : World), Calls Tryz.prog 30 #[.string ⟨(slotL cP n j).toArray⟩] W fun e w' => e = .returned (.tuple #[.string ⟨(readS (slotL cP n j)).toArray⟩, .int .i64 (readE (slotL cP n j))]) ∧ Below W.heap.size W w')) (HRF : Kept (∀ (j : Nat) (W : World), Calls Tryz.prog 30 #[.string ⟨(slotL p n j).toArray⟩] W fun e w' => e = .returned (.tuple #[.string ⟨(readS (slotL p n j)).toArray⟩, .int .i64 (readE (slotL p n j))]) ∧ Below W.heap.size W w')) (HSAME : Kept (∀ j, readE (slotL cP n j) = 0 → readE (slotL p n j) = 0 → readS (slotL cP n j) = readS (slotL p n j))) (HCA : Kept (∀ t, readE t = 0 ∨ readE t = 2))
    (HBR : Kept (∀ W : World, Calls Tryz.prog 13 #[.string ⟨dP.toArray⟩, .int .i64 n] W fun e W' => ∃ v, e = .returned v ∧ isCells [] v W' ∧ Below W.heap.size W W')) (HBB : Kept (∀ W : World, Calls Tryz.prog 19 #[.string ⟨dP.toArray⟩, .int .i64 n] W fun e W' => e = .returned (.int .i64 0) ∧ Below W.heap.size W W')) (HBN : Kept (∀ W : World, Calls Tryz.prog 20 #[.string ⟨dP.toArray⟩, .int .i64 n] W fun e W' => e = .returned (.int .i64 0) ∧ Below W.heap.size W W'))
    (HW : Kept (∀ (v : Value) (w : World), isFl F v w → Calls Tryz.prog 25 #[v, .int .i64 0, .string ⟨torn.toArray⟩] w fun e w' => ∃ v', e = .returned (.tuple #[v', .int .i64 0]) ∧ isFlN w.heap.size W v' w' ∧ Below w.heap.size w w')) (HV : Kept (∀ (v : Value) (w : World), isFl F v w → Calls Tryz.prog 25 #[v, .int .i64 (-1), .string ⟨#[]⟩] w fun e w' => ∃ v', e = .returned (.tuple #[v', .int .i64 0]) ∧ isFlN w.heap.size V v' w' ∧ Below w.heap.size w w')) (HC : Kept (∀ (v : Value) (w : World), isFl W v w → Calls Tryz.prog 29 #[v, .int .i64 (k : Int)] w fun e w' => ∃ v', e = .returned (.tuple #[v', .int .i64 ec]) ∧ isFlN w.heap.size C v' w' ∧ Below w.heap.size w w')) (HD : Kept (∀ (v : Value) (w : World), isFl V v w → Calls Tryz.prog 29 #[v, .int .i64 (k : Int)] w fun e w' => ∃ v', e = .returned (.tuple #[v', .int .i64 0]) ∧ isFlN w.heap.size D v' w' ∧ Below w.heap.size w w')) :
    Calls Tryz.prog 8 #[v, .int .i64 (k : Int), .string ⟨torn.toArray⟩, .int .u8 n] w fun e w' => e = .returned (.bool true) ∧ Below w.heap.size w w' := by
  obtain ⟨vp, vw, rfl, hp, hq⟩ := hv
  have HF := Kept.mk hfew
  clear hfew
  have hm1 := Nat.le_of_eq hmm
  have hm2 := Nat.le_of_eq hmm.symm
  clear hmm
  have d0 : decide ((k : Int) < 0) = false := by simp
  have d1 : decide ((F.pages.length : Int) ≤ (k : Int)) = false := by simp; omega
  have d1' : decide (F.pages.length ≤ k) = false := by simp; omega
  obtain ⟨hB, Vf⟩ := var_box w F vp vw hp hq
  clear hp hq
  go_enter Tryz.func8, Tryz.ntmps8
  go_wp2_with fail
  ((with_reducible refine (works_any _).mono ?_); rintro e W1 ⟨rfl, hb1⟩)
  replace hB := Kept.mk (hB.out.trans ((hb1).mono hB.out.size))
  replace Vf := Kept.mk (Vf.out.keep (hb1))
  clear hb1
  obtain ⟨vpf, vwf, flf, kf0, kf1, kf2, kf3, kf4⟩ := Vf.out.open_
  go_wp2_with fail
  ((with_reducible refine (few_any F _ _ flf).mono ?_); rintro e W2 ⟨rfl, hb1⟩)
  clear kf0 kf1 kf2 kf3 kf4 flf
  replace hB := Kept.mk (hB.out.trans ((hb1).mono hB.out.size))
  replace Vf := Kept.mk (Vf.out.keep (hb1))
  clear hb1
  obtain ⟨vpf, vwf, flf, kf0, kf1, kf2, kf3, kf4⟩ := Vf.out.open_
  rw [HF.out]
  go_wp2_with fail
  ((with_reducible refine (HW.out _ _ flf).mono ?_); rintro e U ⟨v', rfl, hf', hb1⟩)
  obtain ⟨vp', vw', rfl, hp', hq'⟩ := hf'.fl
  have o1 := hp'.one
  have o2 := hq'.one
  obtain ⟨K1, K2, K3, K4⟩ := var_new U W vp' vw' hp' hq'
  clear hp' hq' hf'
  clear kf0 kf1 kf2 kf3 kf4 flf
  replace hB := Kept.mk (hB.out.trans ((hb1).mono hB.out.size))
  replace Vf := Kept.mk (Vf.out.keep (hb1))
  clear hb1
  go_wp2_with (refine wpList_store5 rfl (.tmp 11) (.tmp 35) rfl U.heap.size vp' vw' (.int .i64 W.fuse) (strC W.torn) (.bool W.dead) rfl rfl K1.out K2.out o1 o2 rfl rfl rfl ?_; replace hB := Kept.mk (hB.out.trans ((K3.out).mono hB.out.size)); replace Vf := Kept.mk (Vf.out.keep (K3.out)); have Vw := K4; clear K1 K2 K3 K4 o1 o2; generalize set5 (U.alloc (.cells #[.slice none 0 0, .slice none 0 0, .int .i64 0, .string ⟨#[]⟩, .bool false] 31)) U.heap.size vp' vw' (.int .i64 W.fuse) (strC W.torn) (.bool W.dead) = W3 at *; generalize U.heap.size = gw at *; obtain ⟨vpf, vwf, flf, kf0, kf1, kf2, kf3, kf4⟩ := Vf.out.open_)
  ((with_reducible refine (HV.out _ _ flf).mono ?_); rintro e U ⟨v', rfl, hf', hb1⟩)
  obtain ⟨vp', vw', rfl, hp', hq'⟩ := hf'.fl
  have o1 := hp'.one
  have o2 := hq'.one
  obtain ⟨K1, K2, K3, K4⟩ := var_new U V vp' vw' hp' hq'
  clear hp' hq' hf'
  clear kf0 kf1 kf2 kf3 kf4 flf
  replace hB := Kept.mk (hB.out.trans ((hb1).mono hB.out.size))
  replace Vf := Kept.mk (Vf.out.keep (hb1))
  replace Vw := Kept.mk (Vw.out.keep (hb1))
  clear hb1
  go_wp2_with (refine wpList_store5 rfl (.tmp 13) (.tmp 40) rfl U.heap.size vp' vw' (.int .i64 V.fuse) (strC V.torn) (.bool V.dead) rfl rfl K1.out K2.out o1 o2 rfl rfl rfl ?_; replace hB := Kept.mk (hB.out.trans ((K3.out).mono hB.out.size)); replace Vf := Kept.mk (Vf.out.keep (K3.out)); replace Vw := Kept.mk (Vw.out.keep (K3.out)); have Vv := K4; clear K1 K2 K3 K4 o1 o2; generalize set5 (U.alloc (.cells #[.slice none 0 0, .slice none 0 0, .int .i64 0, .string ⟨#[]⟩, .bool false] 31)) U.heap.size vp' vw' (.int .i64 V.fuse) (strC V.torn) (.bool V.dead) = W4 at *; generalize U.heap.size = gv at *; obtain ⟨vpf, vwf, flf, kf0, kf1, kf2, kf3, kf4⟩ := Vf.out.open_; obtain ⟨af, cf, hvf⟩ := (isFlp flf).len; rw [List.length_map] at hvf; subst hvf; clear flf kf1 kf2 kf3 kf4; obtain ⟨vpw, vww, flw, kw0, kw1, kw2, kw3, kw4⟩ := Vw.out.open_)
  clear kf0
  ((with_reducible refine (HC.out _ _ flw).mono ?_); rintro e U ⟨v', rfl, hf', hb1⟩)
  obtain ⟨vp', vw', rfl, hp', hq'⟩ := hf'.fl
  have o1 := hp'.one
  have o2 := hq'.one
  obtain ⟨K1, K2, K3, K4⟩ := var_new U C vp' vw' hp' hq'
  clear hp' hq' hf'
  clear kw0 kw1 kw2 kw3 kw4 flw
  replace hB := Kept.mk (hB.out.trans ((hb1).mono hB.out.size))
  replace Vf := Kept.mk (Vf.out.keep (hb1))
  replace Vw := Kept.mk (Vw.out.keep (hb1))
  replace Vv := Kept.mk (Vv.out.keep (hb1))
  clear hb1
  go_wp2_with (refine wpList_store5 rfl (.tmp 15) (.tmp 68) rfl U.heap.size vp' vw' (.int .i64 C.fuse) (strC C.torn) (.bool C.dead) rfl rfl K1.out K2.out o1 o2 rfl rfl rfl ?_; replace hB := Kept.mk (hB.out.trans ((K3.out).mono hB.out.size)); replace Vf := Kept.mk (Vf.out.keep (K3.out)); replace Vw := Kept.mk (Vw.out.keep (K3.out)); replace Vv := Kept.mk (Vv.out.keep (K3.out)); have Va := K4; clear K1 K2 K3 K4 o1 o2; generalize set5 (U.alloc (.cells #[.slice none 0 0, .slice none 0 0, .int .i64 0, .string ⟨#[]⟩, .bool false] 31)) U.heap.size vp' vw' (.int .i64 C.fuse) (strC C.torn) (.bool C.dead) = W5 at *; generalize U.heap.size = ga at *; obtain ⟨vpv, vwv, flv, kv0, kv1, kv2, kv3, kv4⟩ := Vv.out.open_)
  ((with_reducible refine (HD.out _ _ flv).mono ?_); rintro e U ⟨v', rfl, hf', hb1⟩)
  obtain ⟨vp', vw', rfl, hp', hq'⟩ := hf'.fl
  have o1 := hp'.one
  have o2 := hq'.one
  obtain ⟨K1, K2, K3, K4⟩ := var_new U D vp' vw' hp' hq'
  clear hp' hq' hf'
  clear kv0 kv1 kv2 kv3 kv4 flv
  replace hB := Kept.mk (hB.out.trans ((hb1).mono hB.out.size))
  replace Vf := Kept.mk (Vf.out.keep (hb1))
  replace Vw := Kept.mk (Vw.out.keep (hb1))
  replace Vv := Kept.mk (Vv.out.keep (hb1))
  replace Va := Kept.mk (Va.out.keep (hb1))
  clear hb1
  go_wp2_with (refine wpList_store5 rfl (.tmp 17) (.tmp 74) rfl U.heap.size vp' vw' (.int .i64 D.fuse) (strC D.torn) (.bool D.dead) rfl rfl K1.out K2.out o1 o2 rfl rfl rfl ?_; replace hB := Kept.mk (hB.out.trans ((K3.out).mono hB.out.size)); replace Vf := Kept.mk (Vf.out.keep (K3.out)); replace Vw := Kept.mk (Vw.out.keep (K3.out)); replace Vv := Kept.mk (Vv.out.keep (K3.out)); replace Va := Kept.mk (Va.out.keep (K3.out)); have Vb := K4; clear K1 K2 K3 K4 o1 o2; generalize set5 (U.alloc (.cells #[.slice none 0 0, .slice none 0 0, .int .i64 0, .string ⟨#[]⟩, .bool false] 31)) U.heap.size vp' vw' (.int .i64 D.fuse) (strC D.torn) (.bool D.dead) = W6 at *; generalize U.heap.size = gb at *; obtain ⟨bf, of, cf, df, qf, sf, Cf, Lf, lbf, ldf, Pf, Rf⟩ := Vf.out.rows (n := F.pages.length) (m := F.wear.length) rfl rfl (by omega) (by omega); have kf0 := Cf.2.1; have kfp := Pf k _ HP.out.1; clear Cf Lf Pf Rf lbf ldf; obtain ⟨ba, oa, ca, da, qa, sa, Ca, La, lba, lda, Pa, Ra⟩ := Va.out.rows (n := F.pages.length) (m := F.wear.length) HL.out.1 HL.out.2.1 (by omega) (by omega); have ka0 := Ca.2.1; have kap := Pa k _ HP.out.2.1; clear Ca La Pa Ra lba lda; obtain ⟨bb, ob, cb, db, qb, sb, Cb, Lb, lbb, ldb, Pb, Rb⟩ := Vb.out.rows (n := F.pages.length) (m := F.wear.length) HL.out.2.2.1 HL.out.2.2.2 (by omega) (by omega); have kb0 := Cb.2.1; have kbp := Pb k _ HP.out.2.2; clear Cb Lb Pb Rb lbb ldb)
  have HRM := Kept.mk (fun W : World => room_any p n W (by omega))
  have hrl : roomN p n ≤ 8192 := Nat.le_trans (roomN_len p n) hpl
  generalize hrr : roomN p n = r at *
  clear hrr
  ((with_reducible refine (HRM.out _).mono ?_); rintro e w' ⟨rfl, rfl⟩)
  go_wp2_with fail
  clear kf0 kfp ka0 kap kb0 kbp
  go_loopw [21] (fun i wr => ∃ j : Nat, j ≤ r ∧ i = .int .i64 (j : Int) ∧ Kept (Below w.heap.size w wr) ∧ Kept (Var wr w.heap.size F) ∧ Kept (Var wr ga C) ∧ Kept (Var wr gb D)) (fun i _ => r - (intOf i).toNat)
  case atStart => exact ⟨0, Nat.zero_le _, rfl, hB, Vf, Va, Vb⟩
  case round =>
    clear hB Vf Va Vb Vw Vv
    obtain ⟨j, hj, rfl, hB, Vf, Va, Vb⟩ := hrel
    by_cases hlt : j < r
    · have d2 : decide ((j : Int) < (r : Int)) = true := by simpa using hlt
      have HS1 := Kept.mk (HSA.out j hlt)
      have HS2 := Kept.mk (HSF.out j hlt)
      have HR1 := Kept.mk (HRA.out j)
      have HR2 := Kept.mk (HRF.out j)
      have HSM := Kept.mk (HSAME.out j)
      have hc1 := HCA.out (slotL cP n j)
      have hc2 := HCA.out (slotL p n j)
      generalize slotL cP n j = tA at *
      generalize slotL p n j = tF at *
      rcases hc1 with h1 | h1
      · have HE1 := Kept.mk h1
        rcases hc2 with h2 | h2
        · have HE2 := Kept.mk h2
          have HEQ := Kept.mk (HSM.out h1 h2)
          have hne : (!(readS tA == readS tF)) = false := by rw [HEQ.out]; simp
          clear h1 h2 HSM
          obtain ⟨ba, oa, ca, da, qa, sa, Ca, La, lba, lda, Pa, Ra⟩ := Va.out.rows (n := F.pages.length) (m := F.wear.length) HL.out.1 HL.out.2.1 (by omega) (by omega)
          have ka0 := Ca.2.1
          have kap := Pa k _ HP.out.2.1
          clear Ca La Pa Ra lba lda
          go_wp2_with fail
          ((with_reducible refine (HS1.out _).mono ?_); rintro e w' ⟨rfl, rfl⟩)
          go_wp2_with fail
          ((with_reducible refine (HR1.out _).mono ?_); rintro e W8 ⟨rfl, hb⟩)
          rewrite [HE1.out]
          clear ka0 kap
          replace hB := Kept.mk (hB.out.trans (hb.mono hB.out.size))
          replace Vf := Kept.mk (Vf.out.keep hb)
          replace Va := Kept.mk (Va.out.keep hb)
          replace Vb := Kept.mk (Vb.out.keep hb)
          clear hb
          obtain ⟨bf, of, cf, df, qf, sf, Cf, Lf, lbf, ldf, Pf, Rf⟩ := Vf.out.rows (n := F.pages.length) (m := F.wear.length) rfl rfl (by omega) (by omega)
          have kf0 := Cf.2.1
          have kfp := Pf k _ HP.out.1
          clear Cf Lf Pf Rf lbf ldf
          go_wp2_with fail
          ((with_reducible refine (HS2.out _).mono ?_); rintro e w' ⟨rfl, rfl⟩)
          go_wp2_with fail
          ((with_reducible refine (HR2.out _).mono ?_); rintro e W9 ⟨rfl, hb⟩)
          rewrite [HE2.out]
          clear kf0 kfp
          replace hB := Kept.mk (hB.out.trans (hb.mono hB.out.size))
          replace Vf := Kept.mk (Vf.out.keep hb)
          replace Va := Kept.mk (Va.out.keep hb)
          replace Vb := Kept.mk (Vb.out.keep hb)
          clear hb
          generalize readS tA = xA at *
          generalize readS tF = xF at *
          clear HEQ
          go_wp2
          go_roundw
          case rel => exact ⟨j + 1, by omega, by go_num, hB, Vf, Va, Vb⟩
          case measure => simp [intOf]; omega
        · have HE2 := Kept.mk h2
          clear h1 h2 HSM
          obtain ⟨ba, oa, ca, da, qa, sa, Ca, La, lba, lda, Pa, Ra⟩ := Va.out.rows (n := F.pages.length) (m := F.wear.length) HL.out.1 HL.out.2.1 (by omega) (by omega)
          have ka0 := Ca.2.1
          have kap := Pa k _ HP.out.2.1
          clear Ca La Pa Ra lba lda
          go_wp2_with fail
          ((with_reducible refine (HS1.out _).mono ?_); rintro e w' ⟨rfl, rfl⟩)
          go_wp2_with fail
          ((with_reducible refine (HR1.out _).mono ?_); rintro e W8 ⟨rfl, hb⟩)
          rewrite [HE1.out]
          clear ka0 kap
          replace hB := Kept.mk (hB.out.trans (hb.mono hB.out.size))
          replace Vf := Kept.mk (Vf.out.keep hb)
          replace Va := Kept.mk (Va.out.keep hb)
          replace Vb := Kept.mk (Vb.out.keep hb)
          clear hb
          obtain ⟨bf, of, cf, df, qf, sf, Cf, Lf, lbf, ldf, Pf, Rf⟩ := Vf.out.rows (n := F.pages.length) (m := F.wear.length) rfl rfl (by omega) (by omega)
          have kf0 := Cf.2.1
          have kfp := Pf k _ HP.out.1
          clear Cf Lf Pf Rf lbf ldf
          go_wp2_with fail
          ((with_reducible refine (HS2.out _).mono ?_); rintro e w' ⟨rfl, rfl⟩)
          go_wp2_with fail
          ((with_reducible refine (HR2.out _).mono ?_); rintro e W9 ⟨rfl, hb⟩)
          rewrite [HE2.out]
          clear kf0 kfp
          replace hB := Kept.mk (hB.out.trans (hb.mono hB.out.size))
          replace Vf := Kept.mk (Vf.out.keep hb)
          replace Va := Kept.mk (Va.out.keep hb)
          replace Vb := Kept.mk (Vb.out.keep hb)
          clear hb
          go_wp2
          go_roundw
          case rel => exact ⟨j + 1, by omega, by go_num, hB, Vf, Va, Vb⟩
          case measure => simp [intOf]; omega
      · have HE1 := Kept.mk h1
        rcases hc2 with h2 | h2
        · have HE2 := Kept.mk h2
          clear h1 h2 HSM
          obtain ⟨ba, oa, ca, da, qa, sa, Ca, La, lba, lda, Pa, Ra⟩ := Va.out.rows (n := F.pages.length) (m := F.wear.length) HL.out.1 HL.out.2.1 (by omega) (by omega)
          have ka0 := Ca.2.1
          have kap := Pa k _ HP.out.2.1
          clear Ca La Pa Ra lba lda
          go_wp2_with fail
          ((with_reducible refine (HS1.out _).mono ?_); rintro e w' ⟨rfl, rfl⟩)
          go_wp2_with fail
          ((with_reducible refine (HR1.out _).mono ?_); rintro e W8 ⟨rfl, hb⟩)
          rewrite [HE1.out]
          clear ka0 kap
          replace hB := Kept.mk (hB.out.trans (hb.mono hB.out.size))
          replace Vf := Kept.mk (Vf.out.keep hb)
          replace Va := Kept.mk (Va.out.keep hb)
          replace Vb := Kept.mk (Vb.out.keep hb)
          clear hb
          obtain ⟨bf, of, cf, df, qf, sf, Cf, Lf, lbf, ldf, Pf, Rf⟩ := Vf.out.rows (n := F.pages.length) (m := F.wear.length) rfl rfl (by omega) (by omega)
          have kf0 := Cf.2.1
          have kfp := Pf k _ HP.out.1
          clear Cf Lf Pf Rf lbf ldf
          go_wp2_with fail
          ((with_reducible refine (HS2.out _).mono ?_); rintro e w' ⟨rfl, rfl⟩)
          go_wp2_with fail
          ((with_reducible refine (HR2.out _).mono ?_); rintro e W9 ⟨rfl, hb⟩)
          rewrite [HE2.out]
          clear kf0 kfp
          replace hB := Kept.mk (hB.out.trans (hb.mono hB.out.size))
          replace Vf := Kept.mk (Vf.out.keep hb)
          replace Va := Kept.mk (Va.out.keep hb)
          replace Vb := Kept.mk (Vb.out.keep hb)
          clear hb
          go_wp2
          go_roundw
          case rel => exact ⟨j + 1, by omega, by go_num, hB, Vf, Va, Vb⟩
          case measure => simp [intOf]; omega
        · have HE2 := Kept.mk h2
          clear h1 h2 HSM
          obtain ⟨ba, oa, ca, da, qa, sa, Ca, La, lba, lda, Pa, Ra⟩ := Va.out.rows (n := F.pages.length) (m := F.wear.length) HL.out.1 HL.out.2.1 (by omega) (by omega)
          have ka0 := Ca.2.1
          have kap := Pa k _ HP.out.2.1
          clear Ca La Pa Ra lba lda
          go_wp2_with fail
          ((with_reducible refine (HS1.out _).mono ?_); rintro e w' ⟨rfl, rfl⟩)
          go_wp2_with fail
          ((with_reducible refine (HR1.out _).mono ?_); rintro e W8 ⟨rfl, hb⟩)
          rewrite [HE1.out]
          clear ka0 kap
          replace hB := Kept.mk (hB.out.trans (hb.mono hB.out.size))
          replace Vf := Kept.mk (Vf.out.keep hb)
          replace Va := Kept.mk (Va.out.keep hb)
          replace Vb := Kept.mk (Vb.out.keep hb)
          clear hb
          obtain ⟨bf, of, cf, df, qf, sf, Cf, Lf, lbf, ldf, Pf, Rf⟩ := Vf.out.rows (n := F.pages.length) (m := F.wear.length) rfl rfl (by omega) (by omega)
          have kf0 := Cf.2.1
          have kfp := Pf k _ HP.out.1
          clear Cf Lf Pf Rf lbf ldf
          go_wp2_with fail
          ((with_reducible refine (HS2.out _).mono ?_); rintro e w' ⟨rfl, rfl⟩)
          go_wp2_with fail
          ((with_reducible refine (HR2.out _).mono ?_); rintro e W9 ⟨rfl, hb⟩)
          rewrite [HE2.out]
          clear kf0 kfp
          replace hB := Kept.mk (hB.out.trans (hb.mono hB.out.size))
          replace Vf := Kept.mk (Vf.out.keep hb)
          replace Va := Kept.mk (Va.out.keep hb)
          replace Vb := Kept.mk (Vb.out.keep hb)
          clear hb
          go_wp2
          go_roundw
          case rel => exact ⟨j + 1, by omega, by go_num, hB, Vf, Va, Vb⟩
          case measure => simp [intOf]; omega
    · have d2 : decide ((j : Int) < (r : Int)) = false := by simp; omega
      obtain ⟨bb, ob, cb, db, qb, sb, Cb, Lb, lbb, ldb, Pb, Rb⟩ := Vb.out.rows (n := F.pages.length) (m := F.wear.length) HL.out.2.2.1 HL.out.2.2.2 (by omega) (by omega)
      have kb0 := Cb.2.1
      have kbp := Pb k _ HP.out.2.2
      clear Cb Lb Pb Rb lbb ldb
      go_wp2_with fail
      ((with_reducible refine (HBR.out _).mono ?_); rintro e W10 ⟨v9, rfl, hv9, hb⟩)
      obtain ⟨a9, c9, rfl⟩ := hv9.len
      clear hv9 kb0 kbp
      replace hB := Kept.mk (hB.out.trans (hb.mono hB.out.size))
      replace Vf := Kept.mk (Vf.out.keep hb)
      replace Va := Kept.mk (Va.out.keep hb)
      replace Vb := Kept.mk (Vb.out.keep hb)
      clear hb
      obtain ⟨bb, ob, cb, db, qb, sb, Cb, Lb, lbb, ldb, Pb, Rb⟩ := Vb.out.rows (n := F.pages.length) (m := F.wear.length) HL.out.2.2.1 HL.out.2.2.2 (by omega) (by omega)
      have kb0 := Cb.2.1
      have kbp := Pb k _ HP.out.2.2
      clear Cb Lb Pb Rb lbb ldb
      go_wp2_with fail
      ((with_reducible refine (HBB.out _).mono ?_); rintro e W11 ⟨rfl, hb⟩)
      clear kb0 kbp
      replace hB := Kept.mk (hB.out.trans (hb.mono hB.out.size))
      replace Vf := Kept.mk (Vf.out.keep hb)
      replace Va := Kept.mk (Va.out.keep hb)
      replace Vb := Kept.mk (Vb.out.keep hb)
      clear hb
      obtain ⟨bb, ob, cb, db, qb, sb, Cb, Lb, lbb, ldb, Pb, Rb⟩ := Vb.out.rows (n := F.pages.length) (m := F.wear.length) HL.out.2.2.1 HL.out.2.2.2 (by omega) (by omega)
      have kb0 := Cb.2.1
      have kbp := Pb k _ HP.out.2.2
      clear Cb Lb Pb Rb lbb ldb
      go_wp2_with fail
      ((with_reducible refine (HBN.out _).mono ?_); rintro e W12 ⟨rfl, hb⟩)
      clear kb0 kbp
      replace hB := Kept.mk (hB.out.trans (hb.mono hB.out.size))
      replace Vf := Kept.mk (Vf.out.keep hb)
      replace Va := Kept.mk (Va.out.keep hb)
      replace Vb := Kept.mk (Vb.out.keep hb)
      clear hb
      go_wp2
      go_ret
      exact ⟨rfl, hB.out⟩

theorem pageErased_walk (F0 : Fl) (v0 : Value) (a1 : Int) (a2 : ByteArray) (a3 : Int) (c0 : Came F0) (w1 : (Lit.int .i64 a1).wf = true) (w2 : a2.size ≤ maxLen) (w3 : (Lit.int .u8 a3).wf = true) (w : World) (hv : isFl F0 v0 w) (z0 : F0.pages.length * 16 ≤ reachBytes ∧ F0.wear.length * 8 ≤ reachBytes) :
    Calls Tryz.prog 8 #[v0, .int .i64 a1, .string a2, .int .u8 a3] w fun e w' => e = .returned (.bool true) ∧ Below w.heap.size w w' := by
  obtain ⟨y0, y1⟩ : 0 ≤ a3 ∧ a3 ≤ 255 := by
    unfold Lit.wf at w3
    rw [Bool.and_eq_true] at w3
    exact ⟨of_decide_eq_true w3.1, of_decide_eq_true w3.2⟩
  rw [str_eta a2]
  generalize a2.data.toList = t
  have hrb := reachBytes_lt
  have hwk : ∀ (fz : Int) (tn : List UInt8) (v : Value) (w : World), isFl F0 v w → Calls Tryz.prog 25 #[v, .int .i64 fz, .string ⟨tn.toArray⟩] w fun e w' => ∃ v', e = .returned (.tuple #[v', .int .i64 (wakeE F0 tn)]) ∧ isFlN w.heap.size (wakeF F0 fz tn) v' w' ∧ Below w.heap.size w w' :=
    fun fz tn v w hv => wake_any F0 fz tn v w hv (by omega) (by omega)
  cases hfew : fewB F0 with
  | false => exact pageErased_1 F0 v0 a1 t a3 w hv y0 y1 _ _ _ _ hfew ⟨hwk 0 t⟩ ⟨hwk (-1) []⟩
  | true =>
  cases hwb : wakeB F0 t with
  | false =>
    have hE : wakeE F0 t = 1 := by unfold wakeE; rw [hwb]; rfl
    have h0 := hwk 0 t
    rw [hE] at h0
    exact pageErased_2 F0 v0 a1 t a3 w hv y0 y1 _ _ _ hfew ⟨h0⟩ ⟨hwk (-1) []⟩
  | true =>
  have hwb' := hwb
  unfold wakeB at hwb'
  simp only [Bool.and_eq_true, decide_eq_true_eq] at hwb'
  have hwn : wakeB F0 [] = true := by unfold wakeB; rw [hwb'.1]; rfl
  have h0 := hwk 0 t
  have h1 := hwk (-1) []
  rw [show wakeE F0 t = 0 by unfold wakeE; rw [hwb]; rfl] at h0
  rw [show wakeE F0 [] = 0 by unfold wakeE; rw [hwn]; rfl] at h1
  by_cases hp0 : a1 < 0
  · exact pageErased_3 F0 v0 a1 t a3 w hv y0 y1 _ _ hfew hp0 ⟨h0⟩ ⟨h1⟩
  by_cases hp1 : (F0.pages.length : Int) ≤ a1
  · exact pageErased_4 F0 v0 a1 t a3 w hv y0 y1 _ _ hfew (by omega) hp1 ⟨h0⟩ ⟨h1⟩
  rw [show wakeF F0 0 t = { F0 with fuse := 0, torn := t, dead := false } by unfold wakeF; rw [hwb]; rfl] at h0
  rw [show wakeF F0 (-1) [] = { F0 with fuse := -1, torn := [], dead := false } by unfold wakeF; rw [hwn]; rfl] at h1
  obtain ⟨k, rfl⟩ := Int.eq_ofNat_of_zero_le (show 0 ≤ a1 by omega)
  obtain ⟨W, hW⟩ : ∃ W : Fl, W = { F0 with fuse := 0, torn := t, dead := false } := ⟨_, rfl⟩
  obtain ⟨V, hV⟩ : ∃ V : Fl, V = { F0 with fuse := -1, torn := [], dead := false } := ⟨_, rfl⟩
  rw [← hW] at h0
  rw [← hV] at h1
  have hmW : mayB W = true := by rw [hW]; exact wake_mayP (by omega) hwb'.1
  have hmV : mayB V = true := by rw [hV]; exact wake_mayP (by decide) hwb'.1
  have wp : W.pages = F0.pages := by rw [hW]
  have ww : W.wear = F0.wear := by rw [hW]
  have wf_ : W.fuse = 0 := by rw [hW]
  have wd : W.dead = false := by rw [hW]
  have wt : W.torn = t := by rw [hW]
  have vp_ : V.pages = F0.pages := by rw [hV]
  have vw_ : V.wear = F0.wear := by rw [hV]
  have vf : V.fuse = -1 := by rw [hV]
  have vd : V.dead = false := by rw [hV]
  clear hW hV hwk
  have hk : k < F0.pages.length := by omega
  have hhW : hasB W (k : Int) = true := by unfold hasB; rw [hmW, wp]; simp; omega
  have hhV : hasB V (k : Int) = true := by unfold hasB; rw [hmV, vp_]; simp; omega
  have fW := has_facts W k hhW
  have hmm : F0.wear.length = F0.pages.length := by rw [← wp, ← ww]; exact fW.2.2.1
  have h6 : F0.pages.length ≤ 6 := by rw [← wp]; exact fW.2.1
  have hpg : F0.pages.getD k [] = F0.pages[k] := by simp [List.getD_eq_getElem?_getD, hk]
  have hp8 : F0.pages[k].length ≤ 8192 := (fW.2.2.2.2.1 F0.pages[k] (by rw [wp]; exact List.getElem_mem hk)).2.1
  obtain ⟨eC, gC⟩ := erase_tornP hhW wd wf_
  obtain ⟨eD, gD⟩ := erase_liveP hhV vd (by rw [vf]; decide)
  rw [wp, hpg, wt] at gC
  rw [vp_, hpg, vw_] at gD
  have hC : ∀ (v : Value) (w : World), isFl W v w → Calls Tryz.prog 29 #[v, .int .i64 (k : Int)] w fun e w' => ∃ v', e = .returned (.tuple #[v', .int .i64 (eraseE W k)]) ∧ isFlN w.heap.size (eraseF W k) v' w' ∧ Below w.heap.size w w' :=
    fun v w hv => erase_any W k v w hv (by rw [wp]; omega) (by rw [ww]; omega) (by rw [wf_]; decide)
  have hD : ∀ (v : Value) (w : World), isFl V v w → Calls Tryz.prog 29 #[v, .int .i64 (k : Int)] w fun e w' => ∃ v', e = .returned (.tuple #[v', .int .i64 0]) ∧ isFlN w.heap.size (eraseF V k) v' w' ∧ Below w.heap.size w w' := by
    intro v w hv
    have h := erase_any V k v w hv (by rw [vp_]; omega) (by rw [vw_]; omega) (by rw [vf]; decide)
    rwa [eD] at h
  have hz : szN a3 ≤ 2056 := by unfold szN sizeN; split <;> omega
  have hsl : ∀ (q : List UInt8) (j : Nat), (slotL q a3 j).length ≤ 2056 := fun q j => Nat.le_trans (by simp only [slotL, List.length_take]; omega) hz
  have hcl : (betweenL F0.pages[k] (List.replicate F0.pages[k].length 255) t).length = F0.pages[k].length := length_between _ _ _
  refine pageErased_5 F0 v0 k t a3 w hv y0 y1 W V (eraseF W k) (eraseF V k) F0.pages[k] (betweenL F0.pages[k] (List.replicate F0.pages[k].length 255) t) (List.replicate F0.pages[k].length 255) _ hfew hk hmm hp8 ⟨?_⟩ ⟨?_⟩ ⟨?_⟩ ⟨?_⟩ ⟨?_⟩ ⟨?_⟩ ⟨fun j h1 h2 => erased_same _ _ _ _ h1 h2⟩ ⟨?_⟩ ⟨?_⟩ ⟨?_⟩ ⟨?_⟩ ⟨h0⟩ ⟨h1⟩ ⟨hC⟩ ⟨hD⟩
  · rw [gC, gD]; simp [hk]
  · rw [gC, gD]; simp [ww]
  · intro j hj W; exact slot_yes _ a3 j W (by omega) (by rw [roomN_len_eq hcl]; exact hj)
  · intro j hj W; exact slot_yes _ a3 j W (by omega) hj
  · intro j W; exact read_any _ W (hsl _ _)
  · intro j W; exact read_any _ W (hsl _ _)
  · intro q
    rcases readE_cases q with ⟨h, _⟩ | ⟨h, _⟩
    · exact .inl h
    · exact .inr h
  · intro W
    have h := records_any (List.replicate F0.pages[k].length 255) a3 W (by simp; omega) (.inl hz)
    rwa [ones_recs] at h
  · intro W
    have h := bad_any (List.replicate F0.pages[k].length 255) a3 W (by simp; omega) (.inl hz)
    rwa [ones_bad] at h
  · intro W
    have h := next_any (List.replicate F0.pages[k].length 255) a3 W (by simp; omega) (.inl hz)
    rwa [ones_next] at h

set_option maxRecDepth 100000 in
theorem pageErased_lifted (os : Os) (started : os.Started) (H : Type) (enc : TypeId × Value → H) :
    ReturnsInHanded {} Tryz.checked os 8 .any (Rows.pageErasedSpec.pre6 enc Tryz.prog Tryz.f8 Rows.pageErasedRow.domain false) (Rows.pageErasedSpec.post enc Tryz.prog Tryz.f8 false true false false) := by
  refine returnsInHanded_of_change_sized (C := Tryz.checked) (by kernel_rfl : ownKnob Tryz.prog.godebug = none) started (by kernel_rfl) Tryz.func8
    (ChangeSpec.witness6 (enc := enc) (C := Tryz.checked) false ⟨#[], #[.agg #[.slice none 0 0, .slice none 0 0, .int .i64 0, .string ByteArray.empty, .bool false], .int .i64 0, .string ByteArray.empty, .int .u8 0], []⟩ 8 (by kernel_rfl) (by kernel_rfl) (by kernel_rfl) (by kernel_rfl)) ?_
  intro W base args ds gs before hval0 hW hcnd hsz0 _
  have hval : ∀ (j : Nat) t v, Tryz.f8.params[j]? = some t → args[j]? = some v → Value.okWide Tryz.prog W .any base t v := hval0
  have hW' := hW
  obtain ⟨p, q, hA0, hV, rfl, hfz, hnd⟩ := hW
  have hA : DataW.TrodAll enc Tryz.prog W 0 (fun _ => true) true Tryz.f8.params.toList args.toList ds p := hA0
  have hsz : (DataW.weightsEach Tryz.prog (Tryz.f8.params.toList ++ Rows.pageErasedSpec.plain.varTypes Tryz.prog) (ds ++ gs)).all (· ≤ reachBytes) = true := hsz0
  rw [Tryz.params8] at hA hval hsz
  obtain ⟨v0, vs0, d0, ds0, p0, q0, hargs, rfl, rfl, h0, r0⟩ := trodAll_cons hA
  obtain ⟨v1, vs1, d1, ds1, p1, q1, rfl, rfl, rfl, h1, r1⟩ := trodAll_cons r0
  obtain ⟨v2, vs2, d2, ds2, p2, q2, rfl, rfl, rfl, h2, r2⟩ := trodAll_cons r1
  obtain ⟨v3, vs3, d3, ds3, p3, q3, rfl, rfl, rfl, h3, r3⟩ := trodAll_cons r2
  obtain ⟨rfl, rfl, rfl⟩ := trodAll_nil r3
  obtain rfl : args = #[v0, v1, v2, v3] := by cases args; simp_all
  obtain ⟨rfl, rfl⟩ := trodVars_none hV
  obtain ⟨F0, fl0, w0, z0⟩ := open_flash (hval 0 31 v0 rfl rfl) h0
  have lt0 : ∀ x ∈ p0, x.block < W.heap.size := fun x hx => by obtain ⟨fuel, hf⟩ := h0; exact DataW.trod_lt fuel _ _ _ hf x hx
  obtain ⟨a1, rfl, rfl, rfl, w1⟩ := open_int Tryz.underlying3 (hval 1 3 v1 rfl rfl) h1
  obtain ⟨a2, rfl, rfl, rfl, w2⟩ := open_string Tryz.underlying9 (hval 2 9 v2 rfl rfl) h2
  obtain ⟨a3, rfl, rfl, rfl, w3⟩ := open_int Tryz.underlying5 (hval 3 5 v3 rfl rfl) h3
  clear hA0 hval0
  simp only [List.append_nil] at hW'
  replace z0 := z0 (fun m hm => by have := List.all_eq_true.1 hsz m (DataW.weights_mem_each (j := 0) rfl rfl m hm); simpa using this)
  refine (pageErased_walk F0 v0 a1 a2 a3 w0 w1 w2 w3 W fl0 z0).mono fun e W' ⟨he, bel⟩ => ?_
  subst he
  exact ⟨_, rfl, _, _, _, [], _, [], hW', trodAll_mk1 (shut_bool Tryz.underlying4 _), (trodAll_cons_mk (Below.trod (by kernel_rfl) (by kernel_rfl) (of_decide_eq_true (by kernel_rfl)) h0 bel lt0) (trodAll_cons_mk (shut_int Tryz.underlying3 w1) (trodAll_cons_mk (shut_string Tryz.underlying9 w2) (trodAll_cons_mk (shut_int Tryz.underlying5 w3) trodAll_mk0)))), rfl, bel.frame _, fun h => by cases h⟩
/-- THE STATEMENT. -/
theorem pageErased_proved : Rows.PageErasedSaid :=
  OpenClaim.holds_of_wide 8 Tryz.f8 rfl rfl rfl rfl rfl rfl rfl ⟨rfl, rfl, rfl, rfl, rfl⟩ rfl rfl rfl rfl rfl (by kernel_rfl) Tryz.func8 (by kernel_rfl)
    (of_decide_eq_true (by kernel_rfl)) (by unfold Func.isWrapper; first | (rw [if_pos (by decide +kernel)]; kernel_rfl) | (rw [if_neg (by decide +kernel)]; exact ⟨rfl, rfl⟩))
    (fun os started H enc _ => pageErased_lifted os started H enc)
#print axioms pageErased_proved
end Go.Proofs.YtipiioggdalkoaaGreatDoor
