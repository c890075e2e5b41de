/- Bits that are turned twice are as they were; as many are turned as are told, in that page alone (flash.Rot, Same). -/
import Derived.Test.YtdbjgpcokhopiaaFlWorks
import Derived.Test.YtdbjgpcokhopiaaFlRotMath
import Derived.Test.YtdbjgpcokhopiaaFlOpen
import Derived.Test.YtdbjgpcokhopiaaFlowOut
import Derived.ProofKit
import Derived.OpenShut
import Derived.ShutString
import Derived.ChangeOld
import Derived.Below
namespace Go.Proofs.Ytdbjgpcokhopiaa
open Go.ChangeShapes Go.WideShapes Go.ChangeAt Go.RowKit
open Go.ChangeMaps (open_string shut_string)
set_option linter.unusedVariables false
set_option linter.unusedSimpArgs false
attribute [local irreducible] set5

theorem call_count (t : List UInt8) (ht : t.length ≤ 1000000000) (w : World) :
    Calls Try.prog 30 #[.string ⟨t.toArray⟩] w fun e w' => ∃ v, e = .returned v ∧ isVal (.int .i64 (countL t : Int)) v w' ∧ Below w.heap.size w w' :=
  (count_l t w ht).mono (by rintro e w' ⟨rfl, rfl⟩; exact ⟨_, rfl, rfl, Below.refl _ _⟩)
noncomputable def rots17 : Array Oper := regionOf Try.f8 17
set_option maxRecDepth 100000 in
set_option maxHeartbeats 4000000 in
theorem rots_region (Q : Exit → Act → World → Prop) (a0 : Act) (w0 : World) (hsz : a0.tmps.size = 95) (gf gx bf of nf cf bx ox nx cx k : Nat) (p q : List UInt8) (want : Int)
    (e4 : a0.tmps.getD 4 undef = .pointer (some ⟨gf, 0, none⟩)) (e11 : a0.tmps.getD 11 undef = .pointer (some ⟨gx, 0, none⟩)) (e15 : a0.tmps.getD 15 undef = .int .i64 (k : Int)) (e16 : a0.tmps.getD 16 undef = .int .i64 want)
    (cf0 : w0.cell? ⟨gf, 0, none⟩ = some (.slice (some ⟨bf, of, none⟩) nf cf)) (lgf : gf < w0.heap.size) (cx0 : w0.cell? ⟨gx, 0, none⟩ = some (.slice (some ⟨bx, ox, none⟩) nx cx)) (lgx : gx < w0.heap.size) (hkf : k < nf) (hkx : k < nx)
    (pf : w0.cell? ⟨bf, of + k, none⟩ = some (.string ⟨p.toArray⟩)) (lbf : bf < w0.heap.size) (px : w0.cell? ⟨bx, ox + k, none⟩ = some (.string ⟨q.toArray⟩)) (lbx : bx < w0.heap.size) (hp : p.length ≤ 1000000) (hq : q.length ≤ 1000000)
    (hz : ((countL (pairL (· ^^^ ·) q p) : Int) != want) = false)
    (hQ : ∀ (g : Nat → Value) (w : World), g 79 = .bool false → Below w0.heap.size w0 w → Q .normal { tmps := [66, 67, 68, 69, 70, 71, 72, 73, 74, 75, 76, 77, 78, 79].foldl (fun t s => t.setIfInBounds s (g s)) a0.tmps, defers := a0.defers } w) :
    (Code.region 17 rots17 true).wp Try.prog Q a0 w0 := by
  refine wp_region_flow mixed (by rw [hsz]; kernel_rfl) ?_
  rw [show rots17.size = 14 by kernel_rfl]
  refine ⟨isVal (.pointer (some ⟨gx, 0, none⟩)), step_field 25 (.tmp 11) 0 ⟨gx, 0, none⟩ ⟨gx, 0, none⟩ (by kernel_rfl) (wanted_none (by kernel_rfl)) (knows_old 11 (.pointer (some ⟨gx, 0, none⟩)) (by kernel_rfl) e11) (field_fl gx 0 (by omega)), ?_⟩
  refine ⟨isVal (.slice (some ⟨bx, ox, none⟩) nx cx), step_read 22 (.tmp 66) ⟨gx, 0, none⟩ (.slice (some ⟨bx, ox, none⟩) nx cx) (by kernel_rfl) (wanted_none (by kernel_rfl)) (knows_new (V := isVal (.pointer (some ⟨gx, 0, none⟩))) 66 0 (by kernel_rfl) (by kernel_rfl) (by kernel_rfl)) cx0 lgx agg_strs, ?_⟩
  refine ⟨isVal (.int .i64 (k : Int)), step_move (.tmp 15) (by kernel_rfl) (wanted_none (by kernel_rfl)) (stable_val _) (knows_old 15 (.int .i64 (k : Int)) (by kernel_rfl) e15), ?_⟩
  refine ⟨isVal (.pointer (some ⟨bx, ox + k, none⟩)), step_place 22 9 (.tmp 67) (.tmp 68) bx ox nx cx k (by kernel_rfl) (wanted_none (by kernel_rfl)) (knows_new (V := isVal (.slice (some ⟨bx, ox, none⟩) nx cx)) 67 1 (by kernel_rfl) (by kernel_rfl) (by kernel_rfl)) (knows_new (V := isVal (.int .i64 (k : Int))) 68 2 (by kernel_rfl) (by kernel_rfl) (by kernel_rfl)) Try.underlying22 (by kernel_rfl) hkx, ?_⟩
  refine ⟨isVal (.string ⟨q.toArray⟩), step_read 9 (.tmp 69) ⟨bx, ox + k, none⟩ (.string ⟨q.toArray⟩) (by kernel_rfl) (wanted_none (by kernel_rfl)) (knows_new (V := isVal (.pointer (some ⟨bx, ox + k, none⟩))) 69 3 (by kernel_rfl) (by kernel_rfl) (by kernel_rfl)) px lbx agg_str, ?_⟩
  refine ⟨isVal (.pointer (some ⟨gf, 0, none⟩)), step_field 25 (.tmp 4) 0 ⟨gf, 0, none⟩ ⟨gf, 0, none⟩ (by kernel_rfl) (wanted_none (by kernel_rfl)) (knows_old 4 (.pointer (some ⟨gf, 0, none⟩)) (by kernel_rfl) e4) (field_fl gf 0 (by omega)), ?_⟩
  refine ⟨isVal (.slice (some ⟨bf, of, none⟩) nf cf), step_read 22 (.tmp 71) ⟨gf, 0, none⟩ (.slice (some ⟨bf, of, none⟩) nf cf) (by kernel_rfl) (wanted_none (by kernel_rfl)) (knows_new (V := isVal (.pointer (some ⟨gf, 0, none⟩))) 71 5 (by kernel_rfl) (by kernel_rfl) (by kernel_rfl)) cf0 lgf agg_strs, ?_⟩
  refine ⟨isVal (.int .i64 (k : Int)), step_move (.tmp 15) (by kernel_rfl) (wanted_none (by kernel_rfl)) (stable_val _) (knows_old 15 (.int .i64 (k : Int)) (by kernel_rfl) e15), ?_⟩
  refine ⟨isVal (.pointer (some ⟨bf, of + k, none⟩)), step_place 22 9 (.tmp 72) (.tmp 73) bf of nf cf k (by kernel_rfl) (wanted_none (by kernel_rfl)) (knows_new (V := isVal (.slice (some ⟨bf, of, none⟩) nf cf)) 72 6 (by kernel_rfl) (by kernel_rfl) (by kernel_rfl)) (knows_new (V := isVal (.int .i64 (k : Int))) 73 7 (by kernel_rfl) (by kernel_rfl) (by kernel_rfl)) Try.underlying22 (by kernel_rfl) hkf, ?_⟩
  refine ⟨isVal (.string ⟨p.toArray⟩), step_read 9 (.tmp 74) ⟨bf, of + k, none⟩ (.string ⟨p.toArray⟩) (by kernel_rfl) (wanted_none (by kernel_rfl)) (knows_new (V := isVal (.pointer (some ⟨bf, of + k, none⟩))) 74 8 (by kernel_rfl) (by kernel_rfl) (by kernel_rfl)) pf lbf agg_str, ?_⟩
  refine ⟨isVal (.string ⟨(pairL (· ^^^ ·) q p).toArray⟩), step_call 31 #[.tmp 70, .tmp 75] #[9, 9] #[.string ⟨q.toArray⟩, .string ⟨p.toArray⟩] (by kernel_rfl) (wanted_none (by kernel_rfl)) (stable_val _) (args2 (.tmp 70) (.tmp 75) (.string ⟨q.toArray⟩) (.string ⟨p.toArray⟩) (knows_new (V := isVal (.string ⟨q.toArray⟩)) 70 4 (by kernel_rfl) (by kernel_rfl) (by kernel_rfl)) (knows_new (V := isVal (.string ⟨p.toArray⟩)) 75 9 (by kernel_rfl) (by kernel_rfl) (by kernel_rfl))) (enters_of Try.func31 (by kernel_rfl) rfl) (by intro w hb; exact call_xorF q p (by omega) (by omega) w), ?_⟩
  refine ⟨isVal (.int .i64 (countL (pairL (· ^^^ ·) q p) : Int)), step_call 30 #[.tmp 76] #[9] #[.string ⟨(pairL (· ^^^ ·) q p).toArray⟩] (by kernel_rfl) (wanted_none (by kernel_rfl)) (stable_val _) (args1 (.tmp 76) (.string ⟨(pairL (· ^^^ ·) q p).toArray⟩) (knows_new (V := isVal (.string ⟨(pairL (· ^^^ ·) q p).toArray⟩)) 76 10 (by kernel_rfl) (by kernel_rfl) (by kernel_rfl))) (enters_of Try.func30 (by kernel_rfl) rfl) (by intro w hb; exact call_count (pairL (· ^^^ ·) q p) (by rw [length_pairL]; omega) w), ?_⟩
  refine ⟨isVal (.int .i64 want), step_move (.tmp 16) (by kernel_rfl) (wanted_none (by kernel_rfl)) (stable_val _) (knows_old 16 (.int .i64 want) (by kernel_rfl) e16), ?_⟩
  refine ⟨isVal (.bool false), step_bin .neq 3 3 (.tmp 77) (.tmp 78) (.int .i64 (countL (pairL (· ^^^ ·) q p) : Int)) (.int .i64 want) (.bool false) (by kernel_rfl) (wanted_none (by kernel_rfl)) (knows_new (V := isVal (.int .i64 (countL (pairL (· ^^^ ·) q p) : Int))) 77 11 (by kernel_rfl) (by kernel_rfl) (by kernel_rfl)) (knows_new (V := isVal (.int .i64 want)) 78 12 (by kernel_rfl) (by kernel_rfl) (by kernel_rfl)) (fun _ => rfl) (neq_int _ _ _ _ _ hz), ?_⟩
  intro a w hkp hb hd
  rw [kept_of hkp ((List.range 14).map fun i => some (i + 66)) [66, 67, 68, 69, 70, 71, 72, 73, 74, 75, 76, 77, 78, 79] (by kernel_rfl) (by decide)]
  exact hQ (fun s => a.tmps.getD s undef) w (fdone_of (hd 13 (by rw [show rots17.size = 14 by kernel_rfl]; decide)) (t := 79) (V := isVal (.bool false)) (by kernel_rfl) (by kernel_rfl)) hb
set_option maxRecDepth 100000 in
set_option maxHeartbeats 4000000 in
theorem flashRots_1 (F : Fl) (v : Value) (page at_ : Int) (turn : List UInt8) (w : World) (hv : isFl F v w) (hfew : fewB F = false) :
    Calls Try.prog 8 #[v, .int .i64 page, .int .i64 at_, .string ⟨turn.toArray⟩] w fun e w' => e = .returned (.bool true) ∧ Below w.heap.size w w' := by
  obtain ⟨vp, vw, rfl, hp, hq⟩ := hv
  have HF := Kept.mk hfew
  clear hfew
  obtain ⟨hB, Vf⟩ := var_box w F vp vw hp hq
  clear hp hq
  go_enter Try.func8, Try.ntmps8
  go_wp2_with fail
  ((with_reducible refine (works_any _).mono ?_); rintro e W1 ⟨rfl, hb1⟩)
  replace hB := Kept.mk (hB.out.trans ((hb1).mono hB.out.size))
  replace Vf := Kept.mk (Vf.out.keep (hb1))
  clear hb1
  obtain ⟨vpf, vwf, flf, kf0, kf1, kf2, kf3, kf4⟩ := Vf.out.open_
  go_wp2_with fail
  ((with_reducible refine (few_any F _ _ flf).mono ?_); rintro e W2 ⟨rfl, hb1⟩)
  clear kf0 kf1 kf2 kf3 kf4 flf
  replace hB := Kept.mk (hB.out.trans ((hb1).mono hB.out.size))
  replace Vf := Kept.mk (Vf.out.keep (hb1))
  clear hb1
  rw [HF.out]
  go_wp2
  go_ret
  exact ⟨rfl, hB.out⟩
set_option maxRecDepth 100000 in
set_option maxHeartbeats 4000000 in
theorem flashRots_2 (F : Fl) (v : Value) (page at_ : Int) (turn : List UInt8) (w : World) (hv : isFl F v w) (hfew : fewB F = true) (ht : 400 < turn.length) :
    Calls Try.prog 8 #[v, .int .i64 page, .int .i64 at_, .string ⟨turn.toArray⟩] w fun e w' => e = .returned (.bool true) ∧ Below w.heap.size w w' := by
  obtain ⟨vp, vw, rfl, hp, hq⟩ := hv
  have HF := Kept.mk hfew
  clear hfew
  have hsz : (⟨turn.toArray⟩ : ByteArray).size = turn.length := size_mk turn
  have c1 : decide (400 < (turn.length : Int)) = true := by simp; omega
  obtain ⟨hB, Vf⟩ := var_box w F vp vw hp hq
  clear hp hq
  go_enter Try.func8, Try.ntmps8
  go_wp2_with fail
  ((with_reducible refine (works_any _).mono ?_); rintro e W1 ⟨rfl, hb1⟩)
  replace hB := Kept.mk (hB.out.trans ((hb1).mono hB.out.size))
  replace Vf := Kept.mk (Vf.out.keep (hb1))
  clear hb1
  obtain ⟨vpf, vwf, flf, kf0, kf1, kf2, kf3, kf4⟩ := Vf.out.open_
  go_wp2_with fail
  ((with_reducible refine (few_any F _ _ flf).mono ?_); rintro e W2 ⟨rfl, hb1⟩)
  clear kf0 kf1 kf2 kf3 kf4 flf
  replace hB := Kept.mk (hB.out.trans ((hb1).mono hB.out.size))
  replace Vf := Kept.mk (Vf.out.keep (hb1))
  clear hb1
  rw [HF.out]
  go_wp2
  go_ret
  exact ⟨rfl, hB.out⟩
set_option maxRecDepth 100000 in
set_option maxHeartbeats 4000000 in
theorem flashRots_3 (F : Fl) (v : Value) (page at_ : Int) (turn : List UInt8) (w : World) (hv : isFl F v w) (hfew : fewB F = true) (ht : turn.length ≤ 400) (hrot : rotB F page at_ turn = false) :
    Calls Try.prog 8 #[v, .int .i64 page, .int .i64 at_, .string ⟨turn.toArray⟩] w fun e w' => e = .returned (.bool true) ∧ Below w.heap.size w w' := by
  obtain ⟨vp, vw, rfl, hp, hq⟩ := hv
  have HF := Kept.mk hfew
  obtain ⟨hn1, hn2⟩ := few_facts hfew
  clear hfew
  have hsz : (⟨turn.toArray⟩ : ByteArray).size = turn.length := size_mk turn
  have c1 : decide (400 < (turn.length : Int)) = false := by simp; omega
  have HE := Kept.mk (show rotE F page at_ turn = 1 by simp [rotE, hrot])
  have HG := Kept.mk (show rotF F page at_ turn = F by simp [rotF, hrot])
  have HS := Kept.mk (sameB_self F)
  clear hrot
  obtain ⟨hB, Vf⟩ := var_box w F vp vw hp hq
  clear hp hq
  go_enter Try.func8, Try.ntmps8
  go_wp2_with fail
  ((with_reducible refine (works_any _).mono ?_); rintro e W1 ⟨rfl, hb1⟩)
  replace hB := Kept.mk (hB.out.trans ((hb1).mono hB.out.size))
  replace Vf := Kept.mk (Vf.out.keep (hb1))
  clear hb1
  obtain ⟨vpf, vwf, flf, kf0, kf1, kf2, kf3, kf4⟩ := Vf.out.open_
  go_wp2_with fail
  ((with_reducible refine (few_any F _ _ flf).mono ?_); rintro e W2 ⟨rfl, hb1⟩)
  clear kf0 kf1 kf2 kf3 kf4 flf
  replace hB := Kept.mk (hB.out.trans ((hb1).mono hB.out.size))
  replace Vf := Kept.mk (Vf.out.keep (hb1))
  clear hb1
  obtain ⟨vpf, vwf, flf, kf0, kf1, kf2, kf3, kf4⟩ := Vf.out.open_
  rw [HF.out]
  go_wp2_with fail
  ((with_reducible refine (rot_any F page at_ turn _ _ flf (by omega) (by omega) (by omega)).mono ?_); rintro e U ⟨v', rfl, hf', hb1⟩)
  rewrite [HE.out]
  rw [HG.out] at hf'
  obtain ⟨vp', vw', rfl, hp', hq'⟩ := hf'.fl
  have o1 := hp'.one
  have o2 := hq'.one
  obtain ⟨K1, K2, K3, K4⟩ := var_new U F vp' vw' hp' hq'
  clear hp' hq' hf'
  clear kf0 kf1 kf2 kf3 kf4 flf
  replace hB := Kept.mk (hB.out.trans ((hb1).mono hB.out.size))
  replace Vf := Kept.mk (Vf.out.keep (hb1))
  clear hb1
  go_wp2_with (refine wpList_store5 rfl (.tmp 11) (.tmp 36) rfl U.heap.size vp' vw' (.int .i64 F.fuse) (strC F.torn) (.bool F.dead) rfl rfl K1.out K2.out o1 o2 rfl rfl rfl ?_; replace hB := Kept.mk (hB.out.trans ((K3.out).mono hB.out.size)); replace Vf := Kept.mk (Vf.out.keep (K3.out)); have Vx := K4; clear K1 K2 K3 K4 o1 o2; generalize set5 (U.alloc (.cells #[.slice none 0 0, .slice none 0 0, .int .i64 0, .string ⟨#[]⟩, .bool false] 25)) U.heap.size vp' vw' (.int .i64 F.fuse) (strC F.torn) (.bool F.dead) = W3 at *; generalize U.heap.size = gx at *; obtain ⟨vpx, vwx, flx, kx0, kx1, kx2, kx3, kx4⟩ := Vx.out.open_)
  ((with_reducible refine (rot_any F page at_ turn _ _ flx (by omega) (by omega) (by omega)).mono ?_); rintro e U ⟨v', rfl, hf', hb1⟩)
  rewrite [HE.out]
  rw [HG.out] at hf'
  obtain ⟨vp', vw', rfl, hp', hq'⟩ := hf'.fl
  have o1 := hp'.one
  have o2 := hq'.one
  obtain ⟨K1, K2, K3, K4⟩ := var_new U F vp' vw' hp' hq'
  clear hp' hq' hf'
  clear kx0 kx1 kx2 kx3 kx4 flx
  replace hB := Kept.mk (hB.out.trans ((hb1).mono hB.out.size))
  replace Vf := Kept.mk (Vf.out.keep (hb1))
  replace Vx := Kept.mk (Vx.out.keep (hb1))
  clear hb1
  go_wp2_with (refine wpList_store5 rfl (.tmp 13) (.tmp 44) rfl U.heap.size vp' vw' (.int .i64 F.fuse) (strC F.torn) (.bool F.dead) rfl rfl K1.out K2.out o1 o2 rfl rfl rfl ?_; replace hB := Kept.mk (hB.out.trans ((K3.out).mono hB.out.size)); replace Vf := Kept.mk (Vf.out.keep (K3.out)); replace Vx := Kept.mk (Vx.out.keep (K3.out)); have Vy := K4; clear K1 K2 K3 K4 o1 o2; generalize set5 (U.alloc (.cells #[.slice none 0 0, .slice none 0 0, .int .i64 0, .string ⟨#[]⟩, .bool false] 25)) U.heap.size vp' vw' (.int .i64 F.fuse) (strC F.torn) (.bool F.dead) = W4 at *; generalize U.heap.size = gy at *; obtain ⟨vpx, vwx, flx, kx0, kx1, kx2, kx3, kx4⟩ := Vx.out.open_; obtain ⟨vpf, vwf, flf, kf0, kf1, kf2, kf3, kf4⟩ := Vf.out.open_)
  ((with_reducible refine (same_any F F _ _ _ flx flf (by omega) (by omega) (by omega) (by omega)).mono ?_); rintro e W5 ⟨rfl, hb1⟩)
  clear kx0 kx1 kx2 kx3 kx4 flx
  clear kf0 kf1 kf2 kf3 kf4 flf
  replace hB := Kept.mk (hB.out.trans ((hb1).mono hB.out.size))
  replace Vf := Kept.mk (Vf.out.keep (hb1))
  replace Vx := Kept.mk (Vx.out.keep (hb1))
  replace Vy := Kept.mk (Vy.out.keep (hb1))
  clear hb1
  rw [HS.out]
  go_wp2
  go_ret
  exact ⟨rfl, hB.out⟩
set_option maxRecDepth 100000 in
set_option maxHeartbeats 4000000 in
theorem flashRots_4 (F X : Fl) (v : Value) (k n : Nat) (turn : List UInt8) (w : World) (hv : isFl F v w) (hfew : fewB F = true) (ht : turn.length ≤ 400) (hX : X = { F with pages := F.pages.set k (rotL (F.pages.getD k []) n turn) }) (hrot : rotB F k n turn = true) :
    Calls Try.prog 8 #[v, .int .i64 (k : Int), .int .i64 (n : Int), .string ⟨turn.toArray⟩] w fun e w' => e = .returned (.bool true) ∧ Below w.heap.size w w' := by
  obtain ⟨vp, vw, rfl, hp, hq⟩ := hv
  have HF := Kept.mk hfew
  obtain ⟨hn1, hn2⟩ := few_facts hfew
  clear hfew
  have hsz : (⟨turn.toArray⟩ : ByteArray).size = turn.length := size_mk turn
  have c1 : decide (400 < (turn.length : Int)) = false := by simp; omega
  have HX := Kept.mk hX
  have HE := Kept.mk (show rotE F k n turn = 0 by simp [rotE, hrot])
  have HG := Kept.mk (show rotF F k n turn = X by rw [hX]; exact rotF_yes F k n turn hrot)
  obtain ⟨hb2, hf2⟩ := rot_again F k n turn hrot
  rw [HG.out] at hb2 hf2
  have HE2 := Kept.mk (show rotE X k n turn = 0 by simp [rotE, hb2])
  have HG2 := Kept.mk hf2
  have hX1 : X.pages.length = F.pages.length := by rw [hX]; simp
  have hX2 : X.wear.length = F.wear.length := by rw [hX]
  have HS := Kept.mk (sameB_self F)
  have hrot' := hrot
  simp only [rotB, Bool.and_eq_true, decide_eq_true_eq] at hrot'
  obtain ⟨⟨hhas, ht4⟩, hfit⟩ := hrot'
  have HFA := Kept.mk (has_facts F k hhas)
  obtain ⟨hk, h6, hwl, htl, hpg, hwr⟩ := HFA.out
  have hp0 : 0 < F.pages.length := by omega
  have c4 : decide ((turn.length : Int) ≤ 4) = true := by simp; omega
  have HFIT := Kept.mk (show n + turn.length ≤ (F.pages.getD k []).length by unfold fitsB at hfit; simp only [Bool.and_eq_true, decide_eq_true_eq, Int.toNat_natCast] at hfit; omega)
  clear hrot hb2 hf2 hX hhas hfit hpg hwr htl
  obtain ⟨hB, Vf⟩ := var_box w F vp vw hp hq
  clear hp hq
  go_enter Try.func8, Try.ntmps8
  go_wp2_with fail
  ((with_reducible refine (works_any _).mono ?_); rintro e W1 ⟨rfl, hb1⟩)
  replace hB := Kept.mk (hB.out.trans ((hb1).mono hB.out.size))
  replace Vf := Kept.mk (Vf.out.keep (hb1))
  clear hb1
  obtain ⟨vpf, vwf, flf, kf0, kf1, kf2, kf3, kf4⟩ := Vf.out.open_
  go_wp2_with fail
  ((with_reducible refine (few_any F _ _ flf).mono ?_); rintro e W2 ⟨rfl, hb1⟩)
  clear kf0 kf1 kf2 kf3 kf4 flf
  replace hB := Kept.mk (hB.out.trans ((hb1).mono hB.out.size))
  replace Vf := Kept.mk (Vf.out.keep (hb1))
  clear hb1
  obtain ⟨vpf, vwf, flf, kf0, kf1, kf2, kf3, kf4⟩ := Vf.out.open_
  rw [HF.out]
  go_wp2_with fail
  ((with_reducible refine (rot_any F k n turn _ _ flf (by omega) (by omega) (by omega)).mono ?_); rintro e U ⟨v', rfl, hf', hb1⟩)
  rewrite [HE.out]
  rw [HG.out] at hf'
  obtain ⟨vp', vw', rfl, hp', hq'⟩ := hf'.fl
  have o1 := hp'.one
  have o2 := hq'.one
  obtain ⟨K1, K2, K3, K4⟩ := var_new U X vp' vw' hp' hq'
  clear hp' hq' hf'
  clear kf0 kf1 kf2 kf3 kf4 flf
  replace hB := Kept.mk (hB.out.trans ((hb1).mono hB.out.size))
  replace Vf := Kept.mk (Vf.out.keep (hb1))
  clear hb1
  go_wp2_with (refine wpList_store5 rfl (.tmp 11) (.tmp 36) rfl U.heap.size vp' vw' (.int .i64 X.fuse) (strC X.torn) (.bool X.dead) rfl rfl K1.out K2.out o1 o2 rfl rfl rfl ?_; replace hB := Kept.mk (hB.out.trans ((K3.out).mono hB.out.size)); replace Vf := Kept.mk (Vf.out.keep (K3.out)); have Vx := K4; clear K1 K2 K3 K4 o1 o2; generalize set5 (U.alloc (.cells #[.slice none 0 0, .slice none 0 0, .int .i64 0, .string ⟨#[]⟩, .bool false] 25)) U.heap.size vp' vw' (.int .i64 X.fuse) (strC X.torn) (.bool X.dead) = W3 at *; generalize U.heap.size = gx at *; obtain ⟨vpx, vwx, flx, kx0, kx1, kx2, kx3, kx4⟩ := Vx.out.open_)
  ((with_reducible refine (rot_any X k n turn _ _ flx (by omega) (by omega) (by omega)).mono ?_); rintro e U ⟨v', rfl, hf', hb1⟩)
  rewrite [HE2.out]
  rw [HG2.out] at hf'
  obtain ⟨vp', vw', rfl, hp', hq'⟩ := hf'.fl
  have o1 := hp'.one
  have o2 := hq'.one
  obtain ⟨K1, K2, K3, K4⟩ := var_new U F vp' vw' hp' hq'
  clear hp' hq' hf'
  clear kx0 kx1 kx2 kx3 kx4 flx
  replace hB := Kept.mk (hB.out.trans ((hb1).mono hB.out.size))
  replace Vf := Kept.mk (Vf.out.keep (hb1))
  replace Vx := Kept.mk (Vx.out.keep (hb1))
  clear hb1
  go_wp2_with (refine wpList_store5 rfl (.tmp 13) (.tmp 44) rfl U.heap.size vp' vw' (.int .i64 F.fuse) (strC F.torn) (.bool F.dead) rfl rfl K1.out K2.out o1 o2 rfl rfl rfl ?_; replace hB := Kept.mk (hB.out.trans ((K3.out).mono hB.out.size)); replace Vf := Kept.mk (Vf.out.keep (K3.out)); replace Vx := Kept.mk (Vx.out.keep (K3.out)); have Vy := K4; clear K1 K2 K3 K4 o1 o2; generalize set5 (U.alloc (.cells #[.slice none 0 0, .slice none 0 0, .int .i64 0, .string ⟨#[]⟩, .bool false] 25)) U.heap.size vp' vw' (.int .i64 F.fuse) (strC F.torn) (.bool F.dead) = W4 at *; generalize U.heap.size = gy at *)
  go_loopw [15] (fun i wr => ∃ j : Nat, j ≤ F.pages.length ∧ i = .int .i64 (j : Int) ∧ Kept (Below w.heap.size w wr) ∧ Kept (Var wr w.heap.size F) ∧ Kept (Var wr gx X) ∧ Kept (Var wr gy F)) (fun i _ => F.pages.length - (intOf i).toNat)
  case atStart => exact ⟨0, Nat.zero_le _, rfl, hB, Vf, Vx, Vy⟩
  case round =>
    clear hB Vf Vx Vy
    obtain ⟨j, hj, rfl, hB, Vf, Vx, Vy⟩ := hrel
    obtain ⟨bf, of, cf, df, qf, sf, Cf, Lf, lbf, ldf, Pf, Rf⟩ := Vf.out.rows (n := F.pages.length) (m := F.wear.length) rfl rfl hp0 (by omega)
    have PF := Kept.mk Pf
    have CF := Kept.mk Cf
    have kf0 := Cf.2.1
    clear Pf Rf Cf Lf
    by_cases hlt : j < F.pages.length
    · obtain ⟨bx, ox, cx, dx, qx, sx, Cx, Lx, lbx, ldx, Px, Rx⟩ := Vx.out.rows (n := F.pages.length) (m := F.wear.length) hX1 hX2 hp0 (by omega)
      have PX := Kept.mk Px
      have CX := Kept.mk Cx
      clear Px Rx Cx Lx
      have hlen := (HFA.out.2.2.2.2.1 F.pages[j] (List.getElem_mem hlt)).2.1
      have d1 : decide ((j : Int) < (F.pages.length : Int)) = true := by simpa using hlt
      by_cases hjk : j = k
      · subst hjk
        have hget : F.pages.getD j [] = F.pages[j] := by simp [List.getD_eq_getElem?_getD, hlt]
        have HQ := Kept.mk (show X.pages[j]? = some (rotL F.pages[j] n turn) by rw [HX.out, hget]; simp [hlt])
        have HZ := Kept.mk (show ((countL (pairL (· ^^^ ·) (rotL F.pages[j] n turn) F.pages[j]) : Int) != (countL turn : Int)) = false by rw [count_rot _ _ _ (by rw [← hget]; exact HFIT.out)]; simp)
        have HL := Kept.mk (length_rotL F.pages[j] n turn)
        clear hget
        go_wp2_with fail
        ((with_reducible refine (count_l turn _ (by omega)).mono ?_); rintro e w' ⟨rfl, rfl⟩)
        go_wp2_with fail
        refine rots_region _ _ _ rfl w.heap.size gx bf of F.pages.length cf bx ox F.pages.length cx j F.pages[j] (rotL F.pages[j] n turn) (countL turn : Int) rfl rfl rfl rfl CF.out.2.1 CF.out.1 CX.out.2.1 CX.out.1 hlt hlt (PF.out j _ (List.getElem?_eq_getElem hlt)) lbf (PX.out j _ HQ.out) lbx (by omega) (by rw [HL.out]; omega) HZ.out ?_
        intro g W9 hg hb9
        have hb9k := Kept.mk hb9
        clear hb9
        replace hB := Kept.mk (hB.out.trans (hb9k.out.mono hB.out.size))
        replace Vf := Kept.mk (Vf.out.keep hb9k.out)
        replace Vx := Kept.mk (Vx.out.keep hb9k.out)
        replace Vy := Kept.mk (Vy.out.keep hb9k.out)
        clear kf0 hb9k PF PX CF CX lbf lbx ldf ldx
        simp only [List.foldl_cons, List.foldl_nil, hg]
        generalize g 66 = y66
        generalize g 67 = y67
        generalize g 68 = y68
        generalize g 69 = y69
        generalize g 70 = y70
        generalize g 71 = y71
        generalize g 72 = y72
        generalize g 73 = y73
        generalize g 74 = y74
        generalize g 75 = y75
        generalize g 76 = y76
        generalize g 77 = y77
        generalize g 78 = y78
        clear hg
        simp only [List.setIfInBounds_toArray, List.set_cons_succ, List.set_cons_zero]
        go_wp2
        go_roundw
        case rel => exact ⟨j + 1, by omega, by go_num, hB, Vf, Vx, Vy⟩
        case measure => simp [intOf]; omega
      · have hne : ¬ ((j : Int) = (k : Int)) := by omega
        have HQ := Kept.mk (show X.pages[j]? = some F.pages[j] by rw [HX.out]; simp [hlt, Ne.symm hjk])
        have HZ := Kept.mk (show ((countL (pairL (· ^^^ ·) F.pages[j] F.pages[j]) : Int) != 0) = false by rw [xorL_self]; rfl)
        go_wp2_with fail
        refine rots_region _ _ _ rfl w.heap.size gx bf of F.pages.length cf bx ox F.pages.length cx j F.pages[j] (F.pages[j]) 0 rfl rfl rfl rfl CF.out.2.1 CF.out.1 CX.out.2.1 CX.out.1 hlt hlt (PF.out j _ (List.getElem?_eq_getElem hlt)) lbf (PX.out j _ HQ.out) lbx (by omega) (by omega) HZ.out ?_
        intro g W9 hg hb9
        have hb9k := Kept.mk hb9
        clear hb9
        replace hB := Kept.mk (hB.out.trans (hb9k.out.mono hB.out.size))
        replace Vf := Kept.mk (Vf.out.keep hb9k.out)
        replace Vx := Kept.mk (Vx.out.keep hb9k.out)
        replace Vy := Kept.mk (Vy.out.keep hb9k.out)
        clear kf0 hb9k PF PX CF CX lbf lbx ldf ldx
        simp only [List.foldl_cons, List.foldl_nil, hg]
        generalize g 66 = y66
        generalize g 67 = y67
        generalize g 68 = y68
        generalize g 69 = y69
        generalize g 70 = y70
        generalize g 71 = y71
        generalize g 72 = y72
        generalize g 73 = y73
        generalize g 74 = y74
        generalize g 75 = y75
        generalize g 76 = y76
        generalize g 77 = y77
        generalize g 78 = y78
        clear hg
        simp only [List.setIfInBounds_toArray, List.set_cons_succ, List.set_cons_zero]
        go_wp2
        go_roundw
        case rel => exact ⟨j + 1, by omega, by go_num, hB, Vf, Vx, Vy⟩
        case measure => simp [intOf]; omega
    · have d1 : decide ((j : Int) < (F.pages.length : Int)) = false := by simp; omega
      have kf : True := trivial
      obtain ⟨vpf, vwf, flf, kf0', kf1, kf2, kf3, kf4⟩ := Vf.out.open_
      have e0 : vpf = .slice (some ⟨bf, of, none⟩) F.pages.length cf := by rw [kf0] at kf0'; injection kf0' with e; exact e.symm
      subst e0
      clear kf0'
      obtain ⟨vpy, vwy, fly, ky0, ky1, ky2, ky3, ky4⟩ := Vy.out.open_
      go_wp2_with fail
      ((with_reducible refine (same_any F F _ _ _ fly flf (by omega) (by omega) (by omega) (by omega)).mono ?_); rintro e W9 ⟨rfl, hb9⟩)
      replace hB := Kept.mk (hB.out.trans (hb9.mono hB.out.size))
      clear hb9
      rw [HS.out]
      go_wp2
      go_ret
      exact ⟨rfl, hB.out⟩

theorem flashRots_walk (F0 : Fl) (v0 : Value) (a1 a2 : Int) (a3 : ByteArray) (c0 : Came F0) (w1 : (Lit.int .i64 a1).wf = true) (w2 : (Lit.int .i64 a2).wf = true) (w3 : a3.size ≤ maxLen) (w : World) (hv : isFl F0 v0 w) :
    Calls Try.prog 8 #[v0, .int .i64 a1, .int .i64 a2, .string a3] w fun e w' => e = .returned (.bool true) ∧ Below w.heap.size w w' := by
  rw [str_eta a3]
  generalize a3.data.toList = turn
  cases hfew : fewB F0 with
  | false => exact flashRots_1 F0 v0 a1 a2 turn w hv hfew
  | true =>
    by_cases ht : 400 < turn.length
    · exact flashRots_2 F0 v0 a1 a2 turn w hv hfew ht
    · cases hrot : rotB F0 a1 a2 turn with
      | false => exact flashRots_3 F0 v0 a1 a2 turn w hv hfew (by omega) hrot
      | true =>
        have h := hrot
        simp only [rotB, Bool.and_eq_true, decide_eq_true_eq] at h
        obtain ⟨k, rfl⟩ := has_nat h.1.1
        have hf := h.2
        unfold fitsB at hf
        simp only [Bool.and_eq_true, decide_eq_true_eq] at hf
        obtain ⟨n, rfl⟩ := Int.eq_ofNat_of_zero_le hf.1
        exact flashRots_4 F0 _ v0 k n turn w hv hfew (by omega) rfl hrot

set_option maxRecDepth 100000 in
theorem flashRots_lifted (os : Os) (started : os.Started) (H : Type) (enc : TypeId × Value → H) :
    ReturnsInHanded {} Try.checked os 8 .any (Rows.flashRotsSpec.pre6 enc Try.prog Try.f8 Rows.flashRotsRow.domain false) (Rows.flashRotsSpec.post enc Try.prog Try.f8 false true false false) := by
  refine returnsInHanded_of_change (C := Try.checked) (by kernel_rfl : ownKnob Try.prog.godebug = none) started (by kernel_rfl) Try.func8
    (ChangeSpec.witness6 (enc := enc) (C := Try.checked) false ⟨#[], #[.agg #[.slice none 0 0, .slice none 0 0, .int .i64 0, .string ByteArray.empty, .bool false], .int .i64 0, .int .i64 0, .string ByteArray.empty], []⟩ 8 (by kernel_rfl) (by kernel_rfl) (by kernel_rfl) (by kernel_rfl)) ?_
  intro W base args ds gs before hval0 hW hcnd _
  have hval : ∀ (j : Nat) t v, Try.f8.params[j]? = some t → args[j]? = some v → Value.okWide Try.prog W .any base t v := hval0
  have hW' := hW
  obtain ⟨p, q, hA0, hV, rfl, hfz, hnd⟩ := hW
  have hA : DataW.TrodAll enc Try.prog W 0 (fun _ => true) true Try.f8.params.toList args.toList ds p := hA0
  rw [Try.params8] at hA hval
  obtain ⟨v0, vs0, d0, ds0, p0, q0, hargs, rfl, rfl, h0, r0⟩ := trodAll_cons hA
  obtain ⟨v1, vs1, d1, ds1, p1, q1, rfl, rfl, rfl, h1, r1⟩ := trodAll_cons r0
  obtain ⟨v2, vs2, d2, ds2, p2, q2, rfl, rfl, rfl, h2, r2⟩ := trodAll_cons r1
  obtain ⟨v3, vs3, d3, ds3, p3, q3, rfl, rfl, rfl, h3, r3⟩ := trodAll_cons r2
  obtain ⟨rfl, rfl, rfl⟩ := trodAll_nil r3
  obtain rfl : args = #[v0, v1, v2, v3] := by cases args; simp_all
  obtain ⟨rfl, rfl⟩ := trodVars_none hV
  obtain ⟨F0, fl0, w0⟩ := open_flash (hval 0 25 v0 rfl rfl) h0
  have lt0 : ∀ x ∈ p0, x.block < W.heap.size := fun x hx => by obtain ⟨fuel, hf⟩ := h0; exact DataW.trod_lt fuel _ _ _ hf x hx
  obtain ⟨a1, rfl, rfl, rfl, w1⟩ := open_int Try.underlying3 (hval 1 3 v1 rfl rfl) h1
  obtain ⟨a2, rfl, rfl, rfl, w2⟩ := open_int Try.underlying3 (hval 2 3 v2 rfl rfl) h2
  obtain ⟨a3, rfl, rfl, rfl, w3⟩ := open_string Try.underlying9 (hval 3 9 v3 rfl rfl) h3
  clear hA0 hval0
  simp only [List.append_nil] at hW'
  refine (flashRots_walk F0 v0 a1 a2 a3 w0 w1 w2 w3 W fl0).mono fun e W' ⟨he, bel⟩ => ?_
  subst he
  exact ⟨_, rfl, _, _, _, [], _, [], hW', trodAll_mk1 (shut_bool Try.underlying4 _), (trodAll_cons_mk (Below.trod (by kernel_rfl) (by kernel_rfl) (of_decide_eq_true (by kernel_rfl)) h0 bel lt0) (trodAll_cons_mk (shut_int Try.underlying3 w1) (trodAll_cons_mk (shut_int Try.underlying3 w2) (trodAll_cons_mk (shut_string Try.underlying9 w3) trodAll_mk0)))), rfl, bel.frame _, fun h => by cases h⟩
/-- THE STATEMENT. -/
theorem flashRots_proved : Rows.FlashRotsSaid :=
  OpenClaim.holds_of_wide 8 Try.f8 rfl rfl rfl rfl rfl rfl rfl ⟨rfl, rfl, rfl, rfl, rfl⟩ rfl rfl rfl rfl rfl (by kernel_rfl) Try.func8 (by kernel_rfl)
    (of_decide_eq_true (by kernel_rfl)) (by unfold Func.isWrapper; first | (rw [if_pos (by decide +kernel)]; kernel_rfl) | (rw [if_neg (by decide +kernel)]; exact ⟨rfl, rfl⟩))
    (fun os started H enc _ => flashRots_lifted os started H enc)
#print axioms flashRots_proved
end Go.Proofs.Ytdbjgpcokhopiaa
