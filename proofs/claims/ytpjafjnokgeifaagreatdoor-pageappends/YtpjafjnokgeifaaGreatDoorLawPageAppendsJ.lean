/- What appending any payload to any page of any device does, is just what the document says. No condition. -/
import Derived.Test.YtpjafjnokgeifaaGreatDoorPartF
import Derived.SizedLaws
import Derived.ProofKit
import Derived.OpenShut
import Derived.ShutString
import Derived.ChangeOld
import Derived.Below
namespace Go.Proofs.YtpjafjnokgeifaaGreatDoor
open Go.ChangeShapes Go.WideShapes Go.ChangeAt Go.RowKit
open Go.ChangeMaps (open_string shut_string)
set_option linter.unusedVariables false
set_option linter.unusedSimpArgs false
attribute [local irreducible] set5
theorem same_self (F : Fl) : sameB F F = true := by simp [sameB]
theorem prog_len (F : Fl) (n at_ : Int) (s : List UInt8) : (progF F n at_ s).pages.length = F.pages.length ∧ (progF F n at_ s).wear.length = F.wear.length := by
  unfold progF
  split
  · exact ⟨rfl, rfl⟩
  · split
    · exact ⟨rfl, rfl⟩
    · split
      · exact ⟨rfl, rfl⟩
      · split <;> simp
theorem app_len (F : Fl) (n : Int) (s : List UInt8) : (appF F n s).pages.length = F.pages.length ∧ (appF F n s).wear.length = F.wear.length := by
  unfold appF
  split
  · exact ⟨rfl, rfl⟩
  · split
    · exact ⟨rfl, rfl⟩
    · exact prog_len _ _ _ _
set_option maxRecDepth 100000 in
set_option maxHeartbeats 8000000 in
theorem pageAppends_1 (F : Fl) (v : Value) (page : Int) (pl : List UInt8) (w : World) (hv : isFl F v w) (hfew : fewB F = false) :
    Calls Tryz.prog 3 #[v, .int .i64 page, .string ⟨pl.toArray⟩] w fun e w' => e = .returned (.bool true) ∧ Below w.heap.size w w' := by
  obtain ⟨vp, vw, rfl, hp, hq⟩ := hv
  have hsz := size_mk pl
  have HF := Kept.mk hfew
  clear hfew
  obtain ⟨hB, Vf⟩ := var_box w F vp vw hp hq
  clear hp hq
  go_enter Tryz.func3, Tryz.ntmps3
  go_wp2_with fail
  ((with_reducible refine (works_any _).mono ?_); rintro e W1 ⟨rfl, hb1⟩)
  replace hB := Kept.mk (hB.out.trans ((hb1).mono hB.out.size))
  replace Vf := Kept.mk (Vf.out.keep (hb1))
  clear hb1
  obtain ⟨vpf, vwf, flf, kf0, kf1, kf2, kf3, kf4⟩ := Vf.out.open_
  go_wp2_with fail
  ((with_reducible refine (few_any F _ _ flf).mono ?_); rintro e W2 ⟨rfl, hb1⟩)
  clear kf0 kf1 kf2 kf3 kf4 flf
  replace hB := Kept.mk (hB.out.trans ((hb1).mono hB.out.size))
  replace Vf := Kept.mk (Vf.out.keep (hb1))
  clear hb1
  rw [HF.out]
  go_wp2
  all_goals go_ret
  all_goals exact ⟨rfl, hB.out⟩
set_option maxRecDepth 100000 in
set_option maxHeartbeats 8000000 in
theorem pageAppends_2 (F : Fl) (v : Value) (page : Int) (pl : List UInt8) (w : World) (hv : isFl F v w) (hfew : fewB F = true) (h1 : 300 < pl.length) (h2 : pl.length ≤ 4000) :
    Calls Tryz.prog 3 #[v, .int .i64 page, .string ⟨pl.toArray⟩] w fun e w' => e = .returned (.bool true) ∧ Below w.heap.size w w' := by
  obtain ⟨vp, vw, rfl, hp, hq⟩ := hv
  have hsz := size_mk pl
  have HF := Kept.mk hfew
  clear hfew
  have d1 : decide (300 < (pl.length : Int)) = true := by simp; omega
  have d2 : decide ((pl.length : Int) ≤ 4000) = true := by simp; omega
  obtain ⟨hB, Vf⟩ := var_box w F vp vw hp hq
  clear hp hq
  go_enter Tryz.func3, Tryz.ntmps3
  go_wp2_with fail
  ((with_reducible refine (works_any _).mono ?_); rintro e W1 ⟨rfl, hb1⟩)
  replace hB := Kept.mk (hB.out.trans ((hb1).mono hB.out.size))
  replace Vf := Kept.mk (Vf.out.keep (hb1))
  clear hb1
  obtain ⟨vpf, vwf, flf, kf0, kf1, kf2, kf3, kf4⟩ := Vf.out.open_
  go_wp2_with fail
  ((with_reducible refine (few_any F _ _ flf).mono ?_); rintro e W2 ⟨rfl, hb1⟩)
  clear kf0 kf1 kf2 kf3 kf4 flf
  replace hB := Kept.mk (hB.out.trans ((hb1).mono hB.out.size))
  replace Vf := Kept.mk (Vf.out.keep (hb1))
  clear hb1
  rw [HF.out]
  go_wp2
  all_goals go_ret
  all_goals exact ⟨rfl, hB.out⟩
set_option maxRecDepth 100000 in
set_option maxHeartbeats 8000000 in
theorem pageAppends_3 (F : Fl) (v : Value) (page : Int) (pl : List UInt8) (w : World) (hv : isFl F v w) (hfew : fewB F = true) (hl : pl.length ≤ 300) (hl9 : pl.length ≤ 9223372036854775807) (hff : FewF F) (hfz : F.fuse ≤ 9223372036854775807) :
    Calls Tryz.prog 3 #[v, .int .i64 page, .string ⟨pl.toArray⟩] w fun e w' => e = .returned (.bool true) ∧ Below w.heap.size w w' := by
  obtain ⟨vp, vw, rfl, hp, hq⟩ := hv
  have hsz := size_mk pl
  have HF := Kept.mk hfew
  obtain ⟨hn1, hn2⟩ := few_facts hfew
  clear hfew
  have d1 : decide (300 < (pl.length : Int)) = false := by simp; omega
  have HFF := Kept.mk hff
  clear hff
  obtain ⟨lx1, lx2⟩ := app_len F page pl
  obtain ⟨x, hx⟩ : ∃ x, appE F page pl = x := ⟨_, rfl⟩
  obtain ⟨X, hX⟩ : ∃ X, appF F page pl = X := ⟨_, rfl⟩
  rw [hX] at lx1 lx2
  have HE := Kept.mk hx
  have HG := Kept.mk hX
  have HS := Kept.mk (same_self X)
  clear hx hX
  obtain ⟨N, hN⟩ : ∃ N, F.pages.length = N := ⟨_, rfl⟩
  have hN8 : N ≤ 8 := by omega
  have HN := Kept.mk hN
  clear hN
  obtain ⟨hB, Vf⟩ := var_box w F vp vw hp hq
  clear hp hq
  go_enter Tryz.func3, Tryz.ntmps3
  go_wp2_with fail
  ((with_reducible refine (works_any _).mono ?_); rintro e W1 ⟨rfl, hb1⟩)
  replace hB := Kept.mk (hB.out.trans ((hb1).mono hB.out.size))
  replace Vf := Kept.mk (Vf.out.keep (hb1))
  clear hb1
  obtain ⟨vpf, vwf, flf, kf0, kf1, kf2, kf3, kf4⟩ := Vf.out.open_
  go_wp2_with fail
  ((with_reducible refine (few_any F _ _ flf).mono ?_); rintro e W2 ⟨rfl, hb1⟩)
  clear kf0 kf1 kf2 kf3 kf4 flf
  replace hB := Kept.mk (hB.out.trans ((hb1).mono hB.out.size))
  replace Vf := Kept.mk (Vf.out.keep (hb1))
  clear hb1
  rw [HF.out]
  go_wp2_with fail
  go_loopw [9] (fun i wr => ∃ k : Nat, k ≤ N ∧ i = .int .i64 (k : Int) ∧ Kept (∀ j p, j < k → F.pages[j]? = some p → p.length ≤ 1000 ∨ 8192 < p.length) ∧ Kept (Below w.heap.size w wr) ∧ Kept (Var wr w.heap.size F)) (fun i _ => N - (intOf i).toNat)
  case atStart => exact ⟨0, Nat.zero_le _, rfl, ⟨fun j p h => absurd h (Nat.not_lt_zero _)⟩, hB, Vf⟩
  case round =>
    clear hB Vf
    obtain ⟨k, hk, rfl, A, hB, Vf⟩ := hrel
    obtain ⟨W20, rfl⟩ : ∃ W, W = wr := ⟨_, rfl⟩
    by_cases hlt : k < N
    · skip
      have hlt' : (k : Int) < (N : Int) := by omega
      obtain ⟨vpf, vwf, hc5, hp5, hq5⟩ := Vf.out
      obtain ⟨b, off, cap, e5, hb5, hcl⟩ := hp5.some_ (by rw [List.length_map, HN.out]; omega)
      rw [List.length_map, HN.out] at e5
      subst e5
      obtain ⟨p, hp⟩ : ∃ p, F.pages[k]? = some p := ⟨_, List.getElem?_eq_getElem (by rw [HN.out]; exact hlt)⟩
      have HP := Kept.mk hp
      have kp : W20.cell? ⟨b, off + k, none⟩ = some (.string ⟨p.toArray⟩) := hcl k _ (by rw [List.getElem?_map, hp]; rfl)
      have kf0 := hc5.2.1
      have hszp : (⟨p.toArray⟩ : ByteArray).size = p.length := size_mk p
      clear hc5 hp5 hq5 hcl hp
      by_cases c1 : 1000 < p.length
      · have g1 : decide (1000 < (p.length : Int)) = true := by simp; omega
        by_cases c2 : p.length ≤ 8192
        · have g2 : decide ((p.length : Int) ≤ 8192) = true := by simp; omega
          go_wp2
          go_ret
          exact ⟨rfl, hB.out⟩
        · have g2 : decide ((p.length : Int) ≤ 8192) = false := by simp; omega
          go_wp2
          go_roundw
          case rel => exact ⟨k + 1, by omega, by go_num, ⟨fun j q hj hq => by by_cases e : j = k; (· subst e; rw [HP.out] at hq; injection hq with hq; subst hq; omega); (· exact A.out j q (by omega) hq)⟩, hB, Vf⟩
          case measure => simp [intOf]; omega
      · have g1 : decide (1000 < (p.length : Int)) = false := by simp; omega
        go_wp2
        go_roundw
        case rel => exact ⟨k + 1, by omega, by go_num, ⟨fun j q hj hq => by by_cases e : j = k; (· subst e; rw [HP.out] at hq; injection hq with hq; subst hq; omega); (· exact A.out j q (by omega) hq)⟩, hB, Vf⟩
        case measure => simp [intOf]; omega
    · skip
      have hkN : k = N := by omega
      have hlt' : ¬ (k : Int) < (N : Int) := by omega
      have HPG := Kept.mk (show ∀ p ∈ F.pages, p.length ≤ 1000 ∨ 8192 < p.length from fun p hp => by obtain ⟨j, hj⟩ := List.getElem?_of_mem hp; exact A.out j p (by have := (List.getElem?_eq_some_iff.1 hj).1; rw [HN.out] at this; omega) hj)
      clear hkN A hk
      obtain ⟨vpf, vwf, flf, kf0, kf1, kf2, kf3, kf4⟩ := Vf.out.open_
      obtain ⟨qa, qb, qe, hp5, hq5⟩ := id flf
      have eqa : vpf = qa := by injection qe with qe; have q9 := congrArg (fun a : Array Value => a.toList.head?) qe; exact Option.some.inj q9
      subst eqa
      obtain ⟨sa, sc, es⟩ := hp5.len
      rw [List.length_map, HN.out] at es
      subst es
      clear qe hp5 hq5
      go_wp2_with fail
      ((with_reducible refine (append_any F page pl _ _ flf (by omega) (by omega) hfz (by omega)).mono ?_); rintro e U ⟨v', rfl, hf', hb1⟩)
      rewrite [HE.out]
      rw [HG.out] at hf'
      obtain ⟨vp', vw', rfl, hp', hq'⟩ := hf'.fl
      have o1 := hp'.one
      have o2 := hq'.one
      obtain ⟨K1, K2, K3, K4⟩ := var_new U X vp' vw' hp' hq'
      clear hp' hq' hf'
      clear kf0 kf1 kf2 kf3 kf4 flf
      replace hB := Kept.mk (hB.out.trans ((hb1).mono hB.out.size))
      replace Vf := Kept.mk (Vf.out.keep (hb1))
      clear hb1
      go_wp2_with (refine wpList_store5 rfl (.tmp 10) (.tmp 62) rfl U.heap.size vp' vw' (.int .i64 X.fuse) (strC X.torn) (.bool X.dead) rfl rfl K1.out K2.out o1 o2 rfl rfl rfl ?_; replace hB := Kept.mk (hB.out.trans ((K3.out).mono hB.out.size)); replace Vf := Kept.mk (Vf.out.keep (K3.out)); have Va := K4; clear K1 K2 K3 K4 o1 o2; generalize set5 (U.alloc (.cells #[.slice none 0 0, .slice none 0 0, .int .i64 0, .string ⟨#[]⟩, .bool false] 25)) U.heap.size vp' vw' (.int .i64 X.fuse) (strC X.torn) (.bool X.dead) = W21 at *; generalize U.heap.size = ga at *; obtain ⟨vpf, vwf, flf, kf0, kf1, kf2, kf3, kf4⟩ := Vf.out.open_)
      ((with_reducible refine (rappend_any F page pl _ _ flf HFF.out hfz (by omega) (by omega) HPG.out).mono ?_); rintro e U ⟨v', rfl, hf', hb1⟩)
      rewrite [HE.out]
      rw [HG.out] at hf'
      obtain ⟨vp', vw', rfl, hp', hq'⟩ := hf'
      have o1 := hp'.one
      have o2 := hq'.one
      obtain ⟨K1, K2, K3, K4⟩ := var_new U X vp' vw' hp' hq'
      clear hp' hq'
      clear kf0 kf1 kf2 kf3 kf4 flf
      replace hB := Kept.mk (hB.out.trans ((hb1).mono hB.out.size))
      replace Vf := Kept.mk (Vf.out.keep (hb1))
      replace Va := Kept.mk (Va.out.keep (hb1))
      clear hb1
      go_wp2_with (refine wpList_store5 rfl (.tmp 12) (.tmp 69) rfl U.heap.size vp' vw' (.int .i64 X.fuse) (strC X.torn) (.bool X.dead) rfl rfl K1.out K2.out o1 o2 rfl rfl rfl ?_; replace hB := Kept.mk (hB.out.trans ((K3.out).mono hB.out.size)); replace Vf := Kept.mk (Vf.out.keep (K3.out)); replace Va := Kept.mk (Va.out.keep (K3.out)); have Vb := K4; clear K1 K2 K3 K4 o1 o2; generalize set5 (U.alloc (.cells #[.slice none 0 0, .slice none 0 0, .int .i64 0, .string ⟨#[]⟩, .bool false] 25)) U.heap.size vp' vw' (.int .i64 X.fuse) (strC X.torn) (.bool X.dead) = W22 at *; generalize U.heap.size = gb at *; obtain ⟨vpa, vwa, fla, ka0, ka1, ka2, ka3, ka4⟩ := Va.out.open_; obtain ⟨vpb, vwb, flb, kb0, kb1, kb2, kb3, kb4⟩ := Vb.out.open_)
      ((with_reducible refine (rfsame_any X X _ _ _ fla flb (by omega) (by omega) (by omega) (by omega)).mono ?_); rintro e W23 ⟨rfl, hb1⟩)
      clear ka0 ka1 ka2 ka3 ka4 fla
      clear kb0 kb1 kb2 kb3 kb4 flb
      replace hB := Kept.mk (hB.out.trans ((hb1).mono hB.out.size))
      replace Vf := Kept.mk (Vf.out.keep (hb1))
      replace Va := Kept.mk (Va.out.keep (hb1))
      replace Vb := Kept.mk (Vb.out.keep (hb1))
      clear hb1
      rw [HS.out]
      go_wp2
      all_goals go_ret
      all_goals exact ⟨rfl, hB.out⟩
set_option maxRecDepth 100000 in
set_option maxHeartbeats 8000000 in
theorem pageAppends_4 (F : Fl) (v : Value) (page : Int) (pl : List UInt8) (w : World) (hv : isFl F v w) (hfew : fewB F = true) (hl : 4000 < pl.length) (hl9 : pl.length ≤ 9223372036854775807) (hff : FewF F) (hfz : F.fuse ≤ 9223372036854775807) :
    Calls Tryz.prog 3 #[v, .int .i64 page, .string ⟨pl.toArray⟩] w fun e w' => e = .returned (.bool true) ∧ Below w.heap.size w w' := by
  obtain ⟨vp, vw, rfl, hp, hq⟩ := hv
  have hsz := size_mk pl
  have HF := Kept.mk hfew
  obtain ⟨hn1, hn2⟩ := few_facts hfew
  clear hfew
  have d1 : decide (300 < (pl.length : Int)) = true := by simp; omega
  have d2 : decide ((pl.length : Int) ≤ 4000) = false := by simp; omega
  have HFF := Kept.mk hff
  clear hff
  obtain ⟨lx1, lx2⟩ := app_len F page pl
  obtain ⟨x, hx⟩ : ∃ x, appE F page pl = x := ⟨_, rfl⟩
  obtain ⟨X, hX⟩ : ∃ X, appF F page pl = X := ⟨_, rfl⟩
  rw [hX] at lx1 lx2
  have HE := Kept.mk hx
  have HG := Kept.mk hX
  have HS := Kept.mk (same_self X)
  clear hx hX
  obtain ⟨N, hN⟩ : ∃ N, F.pages.length = N := ⟨_, rfl⟩
  have hN8 : N ≤ 8 := by omega
  have HN := Kept.mk hN
  clear hN
  obtain ⟨hB, Vf⟩ := var_box w F vp vw hp hq
  clear hp hq
  go_enter Tryz.func3, Tryz.ntmps3
  go_wp2_with fail
  ((with_reducible refine (works_any _).mono ?_); rintro e W1 ⟨rfl, hb1⟩)
  replace hB := Kept.mk (hB.out.trans ((hb1).mono hB.out.size))
  replace Vf := Kept.mk (Vf.out.keep (hb1))
  clear hb1
  obtain ⟨vpf, vwf, flf, kf0, kf1, kf2, kf3, kf4⟩ := Vf.out.open_
  go_wp2_with fail
  ((with_reducible refine (few_any F _ _ flf).mono ?_); rintro e W2 ⟨rfl, hb1⟩)
  clear kf0 kf1 kf2 kf3 kf4 flf
  replace hB := Kept.mk (hB.out.trans ((hb1).mono hB.out.size))
  replace Vf := Kept.mk (Vf.out.keep (hb1))
  clear hb1
  rw [HF.out]
  go_wp2_with fail
  go_loopw [9] (fun i wr => ∃ k : Nat, k ≤ N ∧ i = .int .i64 (k : Int) ∧ Kept (∀ j p, j < k → F.pages[j]? = some p → p.length ≤ 1000 ∨ 8192 < p.length) ∧ Kept (Below w.heap.size w wr) ∧ Kept (Var wr w.heap.size F)) (fun i _ => N - (intOf i).toNat)
  case atStart => exact ⟨0, Nat.zero_le _, rfl, ⟨fun j p h => absurd h (Nat.not_lt_zero _)⟩, hB, Vf⟩
  case round =>
    clear hB Vf
    obtain ⟨k, hk, rfl, A, hB, Vf⟩ := hrel
    obtain ⟨W20, rfl⟩ : ∃ W, W = wr := ⟨_, rfl⟩
    by_cases hlt : k < N
    · skip
      have hlt' : (k : Int) < (N : Int) := by omega
      obtain ⟨vpf, vwf, hc5, hp5, hq5⟩ := Vf.out
      obtain ⟨b, off, cap, e5, hb5, hcl⟩ := hp5.some_ (by rw [List.length_map, HN.out]; omega)
      rw [List.length_map, HN.out] at e5
      subst e5
      obtain ⟨p, hp⟩ : ∃ p, F.pages[k]? = some p := ⟨_, List.getElem?_eq_getElem (by rw [HN.out]; exact hlt)⟩
      have HP := Kept.mk hp
      have kp : W20.cell? ⟨b, off + k, none⟩ = some (.string ⟨p.toArray⟩) := hcl k _ (by rw [List.getElem?_map, hp]; rfl)
      have kf0 := hc5.2.1
      have hszp : (⟨p.toArray⟩ : ByteArray).size = p.length := size_mk p
      clear hc5 hp5 hq5 hcl hp
      by_cases c1 : 1000 < p.length
      · have g1 : decide (1000 < (p.length : Int)) = true := by simp; omega
        by_cases c2 : p.length ≤ 8192
        · have g2 : decide ((p.length : Int) ≤ 8192) = true := by simp; omega
          go_wp2
          go_ret
          exact ⟨rfl, hB.out⟩
        · have g2 : decide ((p.length : Int) ≤ 8192) = false := by simp; omega
          go_wp2
          go_roundw
          case rel => exact ⟨k + 1, by omega, by go_num, ⟨fun j q hj hq => by by_cases e : j = k; (· subst e; rw [HP.out] at hq; injection hq with hq; subst hq; omega); (· exact A.out j q (by omega) hq)⟩, hB, Vf⟩
          case measure => simp [intOf]; omega
      · have g1 : decide (1000 < (p.length : Int)) = false := by simp; omega
        go_wp2
        go_roundw
        case rel => exact ⟨k + 1, by omega, by go_num, ⟨fun j q hj hq => by by_cases e : j = k; (· subst e; rw [HP.out] at hq; injection hq with hq; subst hq; omega); (· exact A.out j q (by omega) hq)⟩, hB, Vf⟩
        case measure => simp [intOf]; omega
    · skip
      have hkN : k = N := by omega
      have hlt' : ¬ (k : Int) < (N : Int) := by omega
      have HPG := Kept.mk (show ∀ p ∈ F.pages, p.length ≤ 1000 ∨ 8192 < p.length from fun p hp => by obtain ⟨j, hj⟩ := List.getElem?_of_mem hp; exact A.out j p (by have := (List.getElem?_eq_some_iff.1 hj).1; rw [HN.out] at this; omega) hj)
      clear hkN A hk
      obtain ⟨vpf, vwf, flf, kf0, kf1, kf2, kf3, kf4⟩ := Vf.out.open_
      obtain ⟨qa, qb, qe, hp5, hq5⟩ := id flf
      have eqa : vpf = qa := by injection qe with qe; have q9 := congrArg (fun a : Array Value => a.toList.head?) qe; exact Option.some.inj q9
      subst eqa
      obtain ⟨sa, sc, es⟩ := hp5.len
      rw [List.length_map, HN.out] at es
      subst es
      clear qe hp5 hq5
      go_wp2_with fail
      ((with_reducible refine (append_any F page pl _ _ flf (by omega) (by omega) hfz (by omega)).mono ?_); rintro e U ⟨v', rfl, hf', hb1⟩)
      rewrite [HE.out]
      rw [HG.out] at hf'
      obtain ⟨vp', vw', rfl, hp', hq'⟩ := hf'.fl
      have o1 := hp'.one
      have o2 := hq'.one
      obtain ⟨K1, K2, K3, K4⟩ := var_new U X vp' vw' hp' hq'
      clear hp' hq' hf'
      clear kf0 kf1 kf2 kf3 kf4 flf
      replace hB := Kept.mk (hB.out.trans ((hb1).mono hB.out.size))
      replace Vf := Kept.mk (Vf.out.keep (hb1))
      clear hb1
      go_wp2_with (refine wpList_store5 rfl (.tmp 10) (.tmp 62) rfl U.heap.size vp' vw' (.int .i64 X.fuse) (strC X.torn) (.bool X.dead) rfl rfl K1.out K2.out o1 o2 rfl rfl rfl ?_; replace hB := Kept.mk (hB.out.trans ((K3.out).mono hB.out.size)); replace Vf := Kept.mk (Vf.out.keep (K3.out)); have Va := K4; clear K1 K2 K3 K4 o1 o2; generalize set5 (U.alloc (.cells #[.slice none 0 0, .slice none 0 0, .int .i64 0, .string ⟨#[]⟩, .bool false] 25)) U.heap.size vp' vw' (.int .i64 X.fuse) (strC X.torn) (.bool X.dead) = W21 at *; generalize U.heap.size = ga at *; obtain ⟨vpf, vwf, flf, kf0, kf1, kf2, kf3, kf4⟩ := Vf.out.open_)
      ((with_reducible refine (rappend_any F page pl _ _ flf HFF.out hfz (by omega) (by omega) HPG.out).mono ?_); rintro e U ⟨v', rfl, hf', hb1⟩)
      rewrite [HE.out]
      rw [HG.out] at hf'
      obtain ⟨vp', vw', rfl, hp', hq'⟩ := hf'
      have o1 := hp'.one
      have o2 := hq'.one
      obtain ⟨K1, K2, K3, K4⟩ := var_new U X vp' vw' hp' hq'
      clear hp' hq'
      clear kf0 kf1 kf2 kf3 kf4 flf
      replace hB := Kept.mk (hB.out.trans ((hb1).mono hB.out.size))
      replace Vf := Kept.mk (Vf.out.keep (hb1))
      replace Va := Kept.mk (Va.out.keep (hb1))
      clear hb1
      go_wp2_with (refine wpList_store5 rfl (.tmp 12) (.tmp 69) rfl U.heap.size vp' vw' (.int .i64 X.fuse) (strC X.torn) (.bool X.dead) rfl rfl K1.out K2.out o1 o2 rfl rfl rfl ?_; replace hB := Kept.mk (hB.out.trans ((K3.out).mono hB.out.size)); replace Vf := Kept.mk (Vf.out.keep (K3.out)); replace Va := Kept.mk (Va.out.keep (K3.out)); have Vb := K4; clear K1 K2 K3 K4 o1 o2; generalize set5 (U.alloc (.cells #[.slice none 0 0, .slice none 0 0, .int .i64 0, .string ⟨#[]⟩, .bool false] 25)) U.heap.size vp' vw' (.int .i64 X.fuse) (strC X.torn) (.bool X.dead) = W22 at *; generalize U.heap.size = gb at *; obtain ⟨vpa, vwa, fla, ka0, ka1, ka2, ka3, ka4⟩ := Va.out.open_; obtain ⟨vpb, vwb, flb, kb0, kb1, kb2, kb3, kb4⟩ := Vb.out.open_)
      ((with_reducible refine (rfsame_any X X _ _ _ fla flb (by omega) (by omega) (by omega) (by omega)).mono ?_); rintro e W23 ⟨rfl, hb1⟩)
      clear ka0 ka1 ka2 ka3 ka4 fla
      clear kb0 kb1 kb2 kb3 kb4 flb
      replace hB := Kept.mk (hB.out.trans ((hb1).mono hB.out.size))
      replace Vf := Kept.mk (Vf.out.keep (hb1))
      replace Va := Kept.mk (Va.out.keep (hb1))
      replace Vb := Kept.mk (Vb.out.keep (hb1))
      clear hb1
      rw [HS.out]
      go_wp2
      all_goals go_ret
      all_goals exact ⟨rfl, hB.out⟩

theorem pageAppends_walk (F0 : Fl) (v0 : Value) (a1 : Int) (a2 : ByteArray) (c0 : Came F0) (w1 : (Lit.int .i64 a1).wf = true) (w2 : a2.size ≤ maxLen) (w : World) (hv : isFl F0 v0 w) :
    Calls Tryz.prog 3 #[v0, .int .i64 a1, .string a2] w fun e w' => e = .returned (.bool true) ∧ Below w.heap.size w w' := by
  rw [str_eta a2]
  have hl2 : a2.data.toList.length ≤ 9223372036854775807 := by simpa [maxLen] using w2
  generalize a2.data.toList = s at *
  cases hfew : fewB F0 with
  | false => exact pageAppends_1 F0 v0 a1 s w hv hfew
  | true =>
    obtain ⟨q1, q2⟩ := few_facts hfew
    have hff : FewF F0 := ⟨by omega, by omega, by have := c0.torn; unfold maxLen at this; omega, fun p hp => by have := c0.pages p hp; unfold maxLen at this; omega⟩
    by_cases h1 : s.length ≤ 300
    · exact pageAppends_3 F0 v0 a1 s w hv hfew h1 (by omega) hff (wf_i64 c0.fuse).2
    · by_cases h2 : s.length ≤ 4000
      · exact pageAppends_2 F0 v0 a1 s w hv hfew (by omega) h2
      · exact pageAppends_4 F0 v0 a1 s w hv hfew (by omega) hl2 hff (wf_i64 c0.fuse).2

set_option maxRecDepth 100000 in
theorem pageAppends_lifted (os : Os) (started : os.Started) (H : Type) (enc : TypeId × Value → H) :
    ReturnsInHanded {} Tryz.checked os 3 .any (Rows.pageAppendsSpec.pre6 enc Tryz.prog Tryz.f3 Rows.pageAppendsRow.domain false) (Rows.pageAppendsSpec.post enc Tryz.prog Tryz.f3 false true false false) := by
  refine returnsInHanded_of_change (C := Tryz.checked) (by kernel_rfl : ownKnob Tryz.prog.godebug = none) started (by kernel_rfl) Tryz.func3
    (ChangeSpec.witness6 (enc := enc) (C := Tryz.checked) false ⟨#[], #[.agg #[.slice none 0 0, .slice none 0 0, .int .i64 0, .string ByteArray.empty, .bool false], .int .i64 0, .string ByteArray.empty], []⟩ 8 (by kernel_rfl) (by kernel_rfl) (by kernel_rfl) (by kernel_rfl)) ?_
  intro W base args ds gs before hval0 hW hcnd _
  have hval : ∀ (j : Nat) t v, Tryz.f3.params[j]? = some t → args[j]? = some v → Value.okWide Tryz.prog W .any base t v := hval0
  have hW' := hW
  obtain ⟨p, q, hA0, hV, rfl, hfz, hnd⟩ := hW
  have hA : DataW.TrodAll enc Tryz.prog W 0 (fun _ => true) true Tryz.f3.params.toList args.toList ds p := hA0
  rw [Tryz.params3] at hA hval
  obtain ⟨v0, vs0, d0, ds0, p0, q0, hargs, rfl, rfl, h0, r0⟩ := trodAll_cons hA
  obtain ⟨v1, vs1, d1, ds1, p1, q1, rfl, rfl, rfl, h1, r1⟩ := trodAll_cons r0
  obtain ⟨v2, vs2, d2, ds2, p2, q2, rfl, rfl, rfl, h2, r2⟩ := trodAll_cons r1
  obtain ⟨rfl, rfl, rfl⟩ := trodAll_nil r2
  obtain rfl : args = #[v0, v1, v2] := by cases args; simp_all
  obtain ⟨rfl, rfl⟩ := trodVars_none hV
  obtain ⟨F0, fl0, w0, z0⟩ := open_flash (hval 0 25 v0 rfl rfl) h0
  have lt0 : ∀ x ∈ p0, x.block < W.heap.size := fun x hx => by obtain ⟨fuel, hf⟩ := h0; exact DataW.trod_lt fuel _ _ _ hf x hx
  obtain ⟨a1, rfl, rfl, rfl, w1⟩ := open_int Tryz.underlying3 (hval 1 3 v1 rfl rfl) h1
  obtain ⟨a2, rfl, rfl, rfl, w2⟩ := open_string Tryz.underlying9 (hval 2 9 v2 rfl rfl) h2
  clear hA0 hval0
  simp only [List.append_nil] at hW'
  refine (pageAppends_walk F0 v0 a1 a2 w0 w1 w2 W fl0).mono fun e W' ⟨he, bel⟩ => ?_
  subst he
  exact ⟨_, rfl, _, _, _, [], _, [], hW', trodAll_mk1 (shut_bool Tryz.underlying4 _), (trodAll_cons_mk (Below.trod (by kernel_rfl) (by kernel_rfl) (of_decide_eq_true (by kernel_rfl)) h0 bel lt0) (trodAll_cons_mk (shut_int Tryz.underlying3 w1) (trodAll_cons_mk (shut_string Tryz.underlying9 w2) trodAll_mk0))), rfl, bel.frame _, fun h => by cases h⟩
/-- THE STATEMENT. -/
theorem pageAppends_proved : Rows.PageAppendsSaid :=
  OpenClaim.holds_of_wide 3 Tryz.f3 rfl rfl rfl rfl rfl rfl rfl ⟨rfl, rfl, rfl, rfl, rfl⟩ rfl rfl rfl rfl rfl (by kernel_rfl) Tryz.func3 (by kernel_rfl)
    (of_decide_eq_true (by kernel_rfl)) (by unfold Func.isWrapper; first | (rw [if_pos (by decide +kernel)]; kernel_rfl) | (rw [if_neg (by decide +kernel)]; exact ⟨rfl, rfl⟩))
    (fun os started H enc _ => pageAppends_lifted os started H enc)
#print axioms pageAppends_proved
end Go.Proofs.YtpjafjnokgeifaaGreatDoor
