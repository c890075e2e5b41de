/- A new device, whether any may be, one that is woken, one whose bits are turned, whether any page is free, and whether two are alike, are just what the document says. No condition. -/
import Derived.Test.YtpjafjnokgeifaaPartE
import Derived.SizedLaws
import Derived.ProofKit
import Derived.OpenShut
import Derived.ShutString
import Derived.ChangeOld
import Derived.Below
namespace Go.Proofs.Ytpjafjnokgeifaa
open Go.ChangeShapes Go.WideShapes Go.ChangeAt Go.RowKit
open Go.ChangeMaps (open_string shut_string)
set_option linter.unusedVariables false
set_option linter.unusedSimpArgs false
attribute [local irreducible] set5
theorem same_self (F : Fl) : sameB F F = true := by simp [sameB]
theorem wake_len (F : Fl) (x : Int) (s : List UInt8) : (wakeF F x s).pages.length = F.pages.length ∧ (wakeF F x s).wear.length = F.wear.length := by
  unfold wakeF
  split <;> exact ⟨rfl, rfl⟩
theorem rot_len (F : Fl) (n m : Int) (s : List UInt8) : (rotF F n m s).pages.length = F.pages.length ∧ (rotF F n m s).wear.length = F.wear.length := by
  unfold rotF
  split
  · simp
  · exact ⟨rfl, rfl⟩
theorem new_len (n m : Int) : (newF n m).pages.length ≤ 6 ∧ (newF n m).wear.length ≤ 6 := by
  unfold newF
  split
  · rename_i h
    unfold newB at h
    simp only [Bool.and_eq_true, decide_eq_true_eq] at h
    simp only [List.length_replicate]
    omega
  · exact ⟨Nat.zero_le _, Nat.zero_le _⟩
theorem check_no {F : Fl} (h : mayB F = false) : checkE F = 1 := by unfold checkE; rw [h]; rfl
theorem check_yes {F : Fl} (h : mayB F = true) : checkE F = 0 := by unfold checkE; rw [h]; rfl
set_option maxRecDepth 100000 in
set_option maxHeartbeats 8000000 in
theorem flashTells_1 (F O : Fl) (v u : Value) (n m : Int) (s : List UInt8) (w : World) (hv : isFl F v w) (hu : isFl O u w) (hfew : fewB F = false) :
    Calls Try.prog 3 #[v, u, .int .i64 n, .int .i64 m, .string ⟨s.toArray⟩] w fun e w' => e = .returned (.bool true) ∧ Below w.heap.size w w' := by
  obtain ⟨vp, vw, rfl, hp, hq⟩ := hv
  obtain ⟨up, uw, rfl, gp, gq⟩ := hu
  have HF := Kept.mk hfew
  clear hfew
  obtain ⟨hB, Vf⟩ := var_box w F vp vw hp hq
  obtain ⟨hB2, Vo⟩ := var_box (w.alloc (.cells #[vp, vw, .int .i64 F.fuse, strC F.torn, .bool F.dead] 25)) O up uw (stable_cells _ _ _ _ gp hB.out) (stable_cells _ _ _ _ gq hB.out)
  have hs1 : (w.alloc (.cells #[vp, vw, .int .i64 F.fuse, strC F.torn, .bool F.dead] 25)).heap.size = w.heap.size + 1 := by simp
  rw [hs1] at Vo
  replace Vf := Kept.mk (Vf.out.keep hB2.out)
  replace hB := Kept.mk (hB.out.trans (hB2.out.mono hB.out.size))
  clear hB2 hs1 hp hq gp gq
  go_enter Try.func3, Try.ntmps3
  go_wp2_with fail
  ((with_reducible refine (works_any _).mono ?_); rintro e W1 ⟨rfl, hb1⟩)
  replace hB := Kept.mk (hB.out.trans ((hb1).mono hB.out.size))
  replace Vf := Kept.mk (Vf.out.keep (hb1))
  replace Vo := Kept.mk (Vo.out.keep (hb1))
  clear hb1
  obtain ⟨vpf, vwf, flf, kf0, kf1, kf2, kf3, kf4⟩ := Vf.out.open_
  go_wp2_with fail
  ((with_reducible refine (few_any F _ _ flf).mono ?_); rintro e W2 ⟨rfl, hb1⟩)
  clear kf0 kf1 kf2 kf3 kf4 flf
  replace hB := Kept.mk (hB.out.trans ((hb1).mono hB.out.size))
  replace Vf := Kept.mk (Vf.out.keep (hb1))
  replace Vo := Kept.mk (Vo.out.keep (hb1))
  clear hb1
  rw [HF.out]
  go_wp2
  all_goals go_ret
  all_goals exact ⟨rfl, hB.out⟩
set_option maxRecDepth 100000 in
set_option maxHeartbeats 8000000 in
theorem flashTells_2 (F O : Fl) (v u : Value) (n m : Int) (s : List UInt8) (w : World) (hv : isFl F v w) (hu : isFl O u w) (hfew : fewB F = true) (hfo : fewB O = false) :
    Calls Try.prog 3 #[v, u, .int .i64 n, .int .i64 m, .string ⟨s.toArray⟩] w fun e w' => e = .returned (.bool true) ∧ Below w.heap.size w w' := by
  obtain ⟨vp, vw, rfl, hp, hq⟩ := hv
  obtain ⟨up, uw, rfl, gp, gq⟩ := hu
  have HF := Kept.mk hfew
  clear hfew
  have HO := Kept.mk hfo
  clear hfo
  obtain ⟨hB, Vf⟩ := var_box w F vp vw hp hq
  obtain ⟨hB2, Vo⟩ := var_box (w.alloc (.cells #[vp, vw, .int .i64 F.fuse, strC F.torn, .bool F.dead] 25)) O up uw (stable_cells _ _ _ _ gp hB.out) (stable_cells _ _ _ _ gq hB.out)
  have hs1 : (w.alloc (.cells #[vp, vw, .int .i64 F.fuse, strC F.torn, .bool F.dead] 25)).heap.size = w.heap.size + 1 := by simp
  rw [hs1] at Vo
  replace Vf := Kept.mk (Vf.out.keep hB2.out)
  replace hB := Kept.mk (hB.out.trans (hB2.out.mono hB.out.size))
  clear hB2 hs1 hp hq gp gq
  go_enter Try.func3, Try.ntmps3
  go_wp2_with fail
  ((with_reducible refine (works_any _).mono ?_); rintro e W1 ⟨rfl, hb1⟩)
  replace hB := Kept.mk (hB.out.trans ((hb1).mono hB.out.size))
  replace Vf := Kept.mk (Vf.out.keep (hb1))
  replace Vo := Kept.mk (Vo.out.keep (hb1))
  clear hb1
  obtain ⟨vpf, vwf, flf, kf0, kf1, kf2, kf3, kf4⟩ := Vf.out.open_
  go_wp2_with fail
  ((with_reducible refine (few_any F _ _ flf).mono ?_); rintro e W2 ⟨rfl, hb1⟩)
  clear kf0 kf1 kf2 kf3 kf4 flf
  replace hB := Kept.mk (hB.out.trans ((hb1).mono hB.out.size))
  replace Vf := Kept.mk (Vf.out.keep (hb1))
  replace Vo := Kept.mk (Vo.out.keep (hb1))
  clear hb1
  obtain ⟨vpo, vwo, flo, ko0, ko1, ko2, ko3, ko4⟩ := Vo.out.open_
  rw [HF.out]
  go_wp2_with fail
  ((with_reducible refine (few_any O _ _ flo).mono ?_); rintro e W3 ⟨rfl, hb1⟩)
  clear ko0 ko1 ko2 ko3 ko4 flo
  replace hB := Kept.mk (hB.out.trans ((hb1).mono hB.out.size))
  replace Vf := Kept.mk (Vf.out.keep (hb1))
  replace Vo := Kept.mk (Vo.out.keep (hb1))
  clear hb1
  rw [HO.out]
  go_wp2
  all_goals go_ret
  all_goals exact ⟨rfl, hB.out⟩
set_option maxRecDepth 100000 in
set_option maxHeartbeats 8000000 in
theorem flashTells_3 (F O : Fl) (v u : Value) (n m : Int) (s : List UInt8) (w : World) (hv : isFl F v w) (hu : isFl O u w) (hfew : fewB F = true) (hfo : fewB O = true) (hl : (400 < s.length) ∨ ((400 < n ∧ n ≤ 8192) ∨ (400 < m ∧ m ≤ 8192))) :
    Calls Try.prog 3 #[v, u, .int .i64 n, .int .i64 m, .string ⟨s.toArray⟩] w fun e w' => e = .returned (.bool true) ∧ Below w.heap.size w w' := by
  obtain ⟨vp, vw, rfl, hp, hq⟩ := hv
  obtain ⟨up, uw, rfl, gp, gq⟩ := hu
  have HF := Kept.mk hfew
  clear hfew
  have HO := Kept.mk hfo
  clear hfo
  have hsz : (⟨s.toArray⟩ : ByteArray).size = s.length := size_mk s
  have hlong : (400 < s.length) ∨ ((400 < n ∧ n ≤ 8192) ∨ (400 < m ∧ m ≤ 8192)) := hl
  have HLG := Kept.mk hl
  clear hl hlong
  obtain ⟨hB, Vf⟩ := var_box w F vp vw hp hq
  obtain ⟨hB2, Vo⟩ := var_box (w.alloc (.cells #[vp, vw, .int .i64 F.fuse, strC F.torn, .bool F.dead] 25)) O up uw (stable_cells _ _ _ _ gp hB.out) (stable_cells _ _ _ _ gq hB.out)
  have hs1 : (w.alloc (.cells #[vp, vw, .int .i64 F.fuse, strC F.torn, .bool F.dead] 25)).heap.size = w.heap.size + 1 := by simp
  rw [hs1] at Vo
  replace Vf := Kept.mk (Vf.out.keep hB2.out)
  replace hB := Kept.mk (hB.out.trans (hB2.out.mono hB.out.size))
  clear hB2 hs1 hp hq gp gq
  go_enter Try.func3, Try.ntmps3
  go_wp2_with fail
  ((with_reducible refine (works_any _).mono ?_); rintro e W1 ⟨rfl, hb1⟩)
  replace hB := Kept.mk (hB.out.trans ((hb1).mono hB.out.size))
  replace Vf := Kept.mk (Vf.out.keep (hb1))
  replace Vo := Kept.mk (Vo.out.keep (hb1))
  clear hb1
  obtain ⟨vpf, vwf, flf, kf0, kf1, kf2, kf3, kf4⟩ := Vf.out.open_
  go_wp2_with fail
  ((with_reducible refine (few_any F _ _ flf).mono ?_); rintro e W2 ⟨rfl, hb1⟩)
  clear kf0 kf1 kf2 kf3 kf4 flf
  replace hB := Kept.mk (hB.out.trans ((hb1).mono hB.out.size))
  replace Vf := Kept.mk (Vf.out.keep (hb1))
  replace Vo := Kept.mk (Vo.out.keep (hb1))
  clear hb1
  obtain ⟨vpo, vwo, flo, ko0, ko1, ko2, ko3, ko4⟩ := Vo.out.open_
  rw [HF.out]
  go_wp2_with fail
  ((with_reducible refine (few_any O _ _ flo).mono ?_); rintro e W3 ⟨rfl, hb1⟩)
  clear ko0 ko1 ko2 ko3 ko4 flo
  replace hB := Kept.mk (hB.out.trans ((hb1).mono hB.out.size))
  replace Vf := Kept.mk (Vf.out.keep (hb1))
  replace Vo := Kept.mk (Vo.out.keep (hb1))
  clear hb1
  rw [HO.out]
  have hl := HLG.out
  clear HLG
  by_cases c1 : 400 < s.length
  · have d1 : decide (400 < (s.length : Int)) = true := by simp; omega
    go_wp2
    all_goals go_ret
    all_goals exact ⟨rfl, hB.out⟩
  · have d1 : decide (400 < (s.length : Int)) = false := by simp; omega
    by_cases c2 : 400 < n ∧ n ≤ 8192
    · obtain ⟨c3, c4⟩ := c2
      go_wp2
      all_goals go_ret
      all_goals exact ⟨rfl, hB.out⟩
    · have c5 : 400 < m ∧ m ≤ 8192 := by omega
      obtain ⟨c6, c7⟩ := c5
      by_cases c3 : 400 < n
      · have c4 : ¬ n ≤ 8192 := by omega
        go_wp2
        all_goals go_ret
        all_goals exact ⟨rfl, hB.out⟩
      · skip
        go_wp2
        all_goals go_ret
        all_goals exact ⟨rfl, hB.out⟩
set_option maxRecDepth 100000 in
set_option maxHeartbeats 8000000 in
theorem flashTells_4 (F O : Fl) (v u : Value) (n m : Int) (s : List UInt8) (w : World) (hv : isFl F v w) (hu : isFl O u w) (hfew : fewB F = true) (hfo : fewB O = true) (ht : s.length ≤ 400) (hn : ¬ 400 < n) (hm : ¬ 400 < m) (hff : FewF F) :
    Calls Try.prog 3 #[v, u, .int .i64 n, .int .i64 m, .string ⟨s.toArray⟩] w fun e w' => e = .returned (.bool true) ∧ Below w.heap.size w w' := by
  obtain ⟨vp, vw, rfl, hp, hq⟩ := hv
  obtain ⟨up, uw, rfl, gp, gq⟩ := hu
  have HF := Kept.mk hfew
  have HO := Kept.mk hfo
  obtain ⟨hn1, hn2⟩ := few_facts hfew
  obtain ⟨on1, on2⟩ := few_facts hfo
  clear hfew hfo
  have hsz : (⟨s.toArray⟩ : ByteArray).size = s.length := size_mk s
  have d1 : decide (400 < (s.length : Int)) = false := by simp; omega
  have c3 : ¬ 400 < n := hn
  have c5 : ¬ 400 < m := hm
  have HFF := Kept.mk hff
  clear hff hn hm
  obtain ⟨lx1, lx2⟩ := new_len n m
  obtain ⟨ly1, ly2⟩ := wake_len F n s
  obtain ⟨lz1, lz2⟩ := rot_len F n m s
  obtain ⟨e1, he1⟩ : ∃ x : Int, newE n m = x := ⟨_, rfl⟩
  obtain ⟨X, hX⟩ : ∃ x : Fl, newF n m = x := ⟨_, rfl⟩
  obtain ⟨e2, he2⟩ : ∃ x : Int, wakeE F s = x := ⟨_, rfl⟩
  obtain ⟨Y, hY⟩ : ∃ x : Fl, wakeF F n s = x := ⟨_, rfl⟩
  obtain ⟨e3, he3⟩ : ∃ x : Int, rotE F n m s = x := ⟨_, rfl⟩
  obtain ⟨Z, hZ⟩ : ∃ x : Fl, rotF F n m s = x := ⟨_, rfl⟩
  rw [hX] at lx1 lx2
  rw [hY] at ly1 ly2
  rw [hZ] at lz1 lz2
  have He1 := Kept.mk he1
  have HX := Kept.mk hX
  have He2 := Kept.mk he2
  have HY := Kept.mk hY
  have He3 := Kept.mk he3
  have HZ := Kept.mk hZ
  have SX := Kept.mk (same_self X)
  have SY := Kept.mk (same_self Y)
  have SZ := Kept.mk (same_self Z)
  clear he1 hX he2 hY he3 hZ
  obtain ⟨z, hz⟩ : ∃ z, mayB F = z := ⟨_, rfl⟩
  obtain ⟨fr, hfr⟩ : ∃ z, freeB F n = z := ⟨_, rfl⟩
  obtain ⟨sm, hsm⟩ : ∃ z, sameB F O = z := ⟨_, rfl⟩
  have HZ_ := Kept.mk hz
  have HFR := Kept.mk hfr
  have HSM := Kept.mk hsm
  clear hz hfr hsm
  obtain ⟨hB, Vf⟩ := var_box w F vp vw hp hq
  obtain ⟨hB2, Vo⟩ := var_box (w.alloc (.cells #[vp, vw, .int .i64 F.fuse, strC F.torn, .bool F.dead] 25)) O up uw (stable_cells _ _ _ _ gp hB.out) (stable_cells _ _ _ _ gq hB.out)
  have hs1 : (w.alloc (.cells #[vp, vw, .int .i64 F.fuse, strC F.torn, .bool F.dead] 25)).heap.size = w.heap.size + 1 := by simp
  rw [hs1] at Vo
  replace Vf := Kept.mk (Vf.out.keep hB2.out)
  replace hB := Kept.mk (hB.out.trans (hB2.out.mono hB.out.size))
  clear hB2 hs1 hp hq gp gq
  go_enter Try.func3, Try.ntmps3
  go_wp2_with fail
  ((with_reducible refine (works_any _).mono ?_); rintro e W1 ⟨rfl, hb1⟩)
  replace hB := Kept.mk (hB.out.trans ((hb1).mono hB.out.size))
  replace Vf := Kept.mk (Vf.out.keep (hb1))
  replace Vo := Kept.mk (Vo.out.keep (hb1))
  clear hb1
  obtain ⟨vpf, vwf, flf, kf0, kf1, kf2, kf3, kf4⟩ := Vf.out.open_
  go_wp2_with fail
  ((with_reducible refine (few_any F _ _ flf).mono ?_); rintro e W2 ⟨rfl, hb1⟩)
  clear kf0 kf1 kf2 kf3 kf4 flf
  replace hB := Kept.mk (hB.out.trans ((hb1).mono hB.out.size))
  replace Vf := Kept.mk (Vf.out.keep (hb1))
  replace Vo := Kept.mk (Vo.out.keep (hb1))
  clear hb1
  obtain ⟨vpo, vwo, flo, ko0, ko1, ko2, ko3, ko4⟩ := Vo.out.open_
  rw [HF.out]
  go_wp2_with fail
  ((with_reducible refine (few_any O _ _ flo).mono ?_); rintro e W3 ⟨rfl, hb1⟩)
  clear ko0 ko1 ko2 ko3 ko4 flo
  replace hB := Kept.mk (hB.out.trans ((hb1).mono hB.out.size))
  replace Vf := Kept.mk (Vf.out.keep (hb1))
  replace Vo := Kept.mk (Vo.out.keep (hb1))
  clear hb1
  rw [HO.out]
  go_wp2_with fail
  ((with_reducible refine (new_any n m _).mono ?_); rintro e U ⟨v', rfl, hf', hb1⟩)
  rewrite [He1.out]
  rw [HX.out] at hf'
  obtain ⟨vp', vw', rfl, hp', hq'⟩ := hf'.fl
  have o1 := hp'.one
  have o2 := hq'.one
  obtain ⟨K1, K2, K3, K4⟩ := var_new U X vp' vw' hp' hq'
  clear hp' hq' hf'
  replace hB := Kept.mk (hB.out.trans ((hb1).mono hB.out.size))
  replace Vf := Kept.mk (Vf.out.keep (hb1))
  replace Vo := Kept.mk (Vo.out.keep (hb1))
  clear hb1
  go_wp2_with (refine wpList_store5 rfl (.tmp 13) (.tmp 66) rfl U.heap.size vp' vw' (.int .i64 X.fuse) (strC X.torn) (.bool X.dead) rfl rfl K1.out K2.out o1 o2 rfl rfl rfl ?_; replace hB := Kept.mk (hB.out.trans ((K3.out).mono hB.out.size)); replace Vf := Kept.mk (Vf.out.keep (K3.out)); replace Vo := Kept.mk (Vo.out.keep (K3.out)); have Va := K4; clear K1 K2 K3 K4 o1 o2; generalize set5 (U.alloc (.cells #[.slice none 0 0, .slice none 0 0, .int .i64 0, .string ⟨#[]⟩, .bool false] 25)) U.heap.size vp' vw' (.int .i64 X.fuse) (strC X.torn) (.bool X.dead) = W4 at *; generalize U.heap.size = ga at *)
  ((with_reducible refine (rnew_any n m _).mono ?_); rintro e U ⟨v', rfl, hf', hb1⟩)
  rewrite [He1.out]
  rw [HX.out] at hf'
  obtain ⟨vp', vw', rfl, hp', hq'⟩ := hf'
  have o1 := hp'.one
  have o2 := hq'.one
  obtain ⟨K1, K2, K3, K4⟩ := var_new U X vp' vw' hp' hq'
  clear hp' hq'
  replace hB := Kept.mk (hB.out.trans ((hb1).mono hB.out.size))
  replace Vf := Kept.mk (Vf.out.keep (hb1))
  replace Vo := Kept.mk (Vo.out.keep (hb1))
  replace Va := Kept.mk (Va.out.keep (hb1))
  clear hb1
  go_wp2_with (refine wpList_store5 rfl (.tmp 15) (.tmp 72) rfl U.heap.size vp' vw' (.int .i64 X.fuse) (strC X.torn) (.bool X.dead) rfl rfl K1.out K2.out o1 o2 rfl rfl rfl ?_; replace hB := Kept.mk (hB.out.trans ((K3.out).mono hB.out.size)); replace Vf := Kept.mk (Vf.out.keep (K3.out)); replace Vo := Kept.mk (Vo.out.keep (K3.out)); replace Va := Kept.mk (Va.out.keep (K3.out)); have Vb := K4; clear K1 K2 K3 K4 o1 o2; generalize set5 (U.alloc (.cells #[.slice none 0 0, .slice none 0 0, .int .i64 0, .string ⟨#[]⟩, .bool false] 25)) U.heap.size vp' vw' (.int .i64 X.fuse) (strC X.torn) (.bool X.dead) = W5 at *; generalize U.heap.size = gb at *; obtain ⟨vpf, vwf, flf, kf0, kf1, kf2, kf3, kf4⟩ := Vf.out.open_)
  ((with_reducible refine (wake_any F n s _ _ flf (by omega) (by omega)).mono ?_); rintro e U ⟨v', rfl, hf', hb1⟩)
  rewrite [He2.out]
  rw [HY.out] at hf'
  obtain ⟨vp', vw', rfl, hp', hq'⟩ := hf'.fl
  have o1 := hp'.one
  have o2 := hq'.one
  obtain ⟨K1, K2, K3, K4⟩ := var_new U Y vp' vw' hp' hq'
  clear hp' hq' hf'
  clear kf0 kf1 kf2 kf3 kf4 flf
  replace hB := Kept.mk (hB.out.trans ((hb1).mono hB.out.size))
  replace Vf := Kept.mk (Vf.out.keep (hb1))
  replace Vo := Kept.mk (Vo.out.keep (hb1))
  replace Va := Kept.mk (Va.out.keep (hb1))
  replace Vb := Kept.mk (Vb.out.keep (hb1))
  clear hb1
  go_wp2_with (refine wpList_store5 rfl (.tmp 17) (.tmp 79) rfl U.heap.size vp' vw' (.int .i64 Y.fuse) (strC Y.torn) (.bool Y.dead) rfl rfl K1.out K2.out o1 o2 rfl rfl rfl ?_; replace hB := Kept.mk (hB.out.trans ((K3.out).mono hB.out.size)); replace Vf := Kept.mk (Vf.out.keep (K3.out)); replace Vo := Kept.mk (Vo.out.keep (K3.out)); replace Va := Kept.mk (Va.out.keep (K3.out)); replace Vb := Kept.mk (Vb.out.keep (K3.out)); have Vc := K4; clear K1 K2 K3 K4 o1 o2; generalize set5 (U.alloc (.cells #[.slice none 0 0, .slice none 0 0, .int .i64 0, .string ⟨#[]⟩, .bool false] 25)) U.heap.size vp' vw' (.int .i64 Y.fuse) (strC Y.torn) (.bool Y.dead) = W6 at *; generalize U.heap.size = gc at *; obtain ⟨vpf, vwf, flf, kf0, kf1, kf2, kf3, kf4⟩ := Vf.out.open_)
  ((with_reducible refine (rwake_any F n s _ _ flf HFF.out (by omega)).mono ?_); rintro e U ⟨v', rfl, hf', hb1⟩)
  rewrite [He2.out]
  rw [HY.out] at hf'
  obtain ⟨vp', vw', rfl, hp', hq'⟩ := hf'
  have o1 := hp'.one
  have o2 := hq'.one
  obtain ⟨K1, K2, K3, K4⟩ := var_new U Y vp' vw' hp' hq'
  clear hp' hq'
  clear kf0 kf1 kf2 kf3 kf4 flf
  replace hB := Kept.mk (hB.out.trans ((hb1).mono hB.out.size))
  replace Vf := Kept.mk (Vf.out.keep (hb1))
  replace Vo := Kept.mk (Vo.out.keep (hb1))
  replace Va := Kept.mk (Va.out.keep (hb1))
  replace Vb := Kept.mk (Vb.out.keep (hb1))
  replace Vc := Kept.mk (Vc.out.keep (hb1))
  clear hb1
  go_wp2_with (refine wpList_store5 rfl (.tmp 19) (.tmp 86) rfl U.heap.size vp' vw' (.int .i64 Y.fuse) (strC Y.torn) (.bool Y.dead) rfl rfl K1.out K2.out o1 o2 rfl rfl rfl ?_; replace hB := Kept.mk (hB.out.trans ((K3.out).mono hB.out.size)); replace Vf := Kept.mk (Vf.out.keep (K3.out)); replace Vo := Kept.mk (Vo.out.keep (K3.out)); replace Va := Kept.mk (Va.out.keep (K3.out)); replace Vb := Kept.mk (Vb.out.keep (K3.out)); replace Vc := Kept.mk (Vc.out.keep (K3.out)); have Vd := K4; clear K1 K2 K3 K4 o1 o2; generalize set5 (U.alloc (.cells #[.slice none 0 0, .slice none 0 0, .int .i64 0, .string ⟨#[]⟩, .bool false] 25)) U.heap.size vp' vw' (.int .i64 Y.fuse) (strC Y.torn) (.bool Y.dead) = W7 at *; generalize U.heap.size = gd at *; obtain ⟨vpf, vwf, flf, kf0, kf1, kf2, kf3, kf4⟩ := Vf.out.open_)
  ((with_reducible refine (rot_any F n m s _ _ flf (by omega) (by omega) (by omega)).mono ?_); rintro e U ⟨v', rfl, hf', hb1⟩)
  rewrite [He3.out]
  rw [HZ.out] at hf'
  obtain ⟨vp', vw', rfl, hp', hq'⟩ := hf'.fl
  have o1 := hp'.one
  have o2 := hq'.one
  obtain ⟨K1, K2, K3, K4⟩ := var_new U Z vp' vw' hp' hq'
  clear hp' hq' hf'
  clear kf0 kf1 kf2 kf3 kf4 flf
  replace hB := Kept.mk (hB.out.trans ((hb1).mono hB.out.size))
  replace Vf := Kept.mk (Vf.out.keep (hb1))
  replace Vo := Kept.mk (Vo.out.keep (hb1))
  replace Va := Kept.mk (Va.out.keep (hb1))
  replace Vb := Kept.mk (Vb.out.keep (hb1))
  replace Vc := Kept.mk (Vc.out.keep (hb1))
  replace Vd := Kept.mk (Vd.out.keep (hb1))
  clear hb1
  go_wp2_with (refine wpList_store5 rfl (.tmp 21) (.tmp 94) rfl U.heap.size vp' vw' (.int .i64 Z.fuse) (strC Z.torn) (.bool Z.dead) rfl rfl K1.out K2.out o1 o2 rfl rfl rfl ?_; replace hB := Kept.mk (hB.out.trans ((K3.out).mono hB.out.size)); replace Vf := Kept.mk (Vf.out.keep (K3.out)); replace Vo := Kept.mk (Vo.out.keep (K3.out)); replace Va := Kept.mk (Va.out.keep (K3.out)); replace Vb := Kept.mk (Vb.out.keep (K3.out)); replace Vc := Kept.mk (Vc.out.keep (K3.out)); replace Vd := Kept.mk (Vd.out.keep (K3.out)); have Vx := K4; clear K1 K2 K3 K4 o1 o2; generalize set5 (U.alloc (.cells #[.slice none 0 0, .slice none 0 0, .int .i64 0, .string ⟨#[]⟩, .bool false] 25)) U.heap.size vp' vw' (.int .i64 Z.fuse) (strC Z.torn) (.bool Z.dead) = W8 at *; generalize U.heap.size = gx at *; obtain ⟨vpf, vwf, flf, kf0, kf1, kf2, kf3, kf4⟩ := Vf.out.open_)
  ((with_reducible refine (rrot_any F n m s _ _ flf HFF.out (by omega)).mono ?_); rintro e U ⟨v', rfl, hf', hb1⟩)
  rewrite [He3.out]
  rw [HZ.out] at hf'
  obtain ⟨vp', vw', rfl, hp', hq'⟩ := hf'
  have o1 := hp'.one
  have o2 := hq'.one
  obtain ⟨K1, K2, K3, K4⟩ := var_new U Z vp' vw' hp' hq'
  clear hp' hq'
  clear kf0 kf1 kf2 kf3 kf4 flf
  replace hB := Kept.mk (hB.out.trans ((hb1).mono hB.out.size))
  replace Vf := Kept.mk (Vf.out.keep (hb1))
  replace Vo := Kept.mk (Vo.out.keep (hb1))
  replace Va := Kept.mk (Va.out.keep (hb1))
  replace Vb := Kept.mk (Vb.out.keep (hb1))
  replace Vc := Kept.mk (Vc.out.keep (hb1))
  replace Vd := Kept.mk (Vd.out.keep (hb1))
  replace Vx := Kept.mk (Vx.out.keep (hb1))
  clear hb1
  go_wp2_with (refine wpList_store5 rfl (.tmp 23) (.tmp 102) rfl U.heap.size vp' vw' (.int .i64 Z.fuse) (strC Z.torn) (.bool Z.dead) rfl rfl K1.out K2.out o1 o2 rfl rfl rfl ?_; replace hB := Kept.mk (hB.out.trans ((K3.out).mono hB.out.size)); replace Vf := Kept.mk (Vf.out.keep (K3.out)); replace Vo := Kept.mk (Vo.out.keep (K3.out)); replace Va := Kept.mk (Va.out.keep (K3.out)); replace Vb := Kept.mk (Vb.out.keep (K3.out)); replace Vc := Kept.mk (Vc.out.keep (K3.out)); replace Vd := Kept.mk (Vd.out.keep (K3.out)); replace Vx := Kept.mk (Vx.out.keep (K3.out)); have Vy := K4; clear K1 K2 K3 K4 o1 o2; generalize set5 (U.alloc (.cells #[.slice none 0 0, .slice none 0 0, .int .i64 0, .string ⟨#[]⟩, .bool false] 25)) U.heap.size vp' vw' (.int .i64 Z.fuse) (strC Z.torn) (.bool Z.dead) = W9 at *; generalize U.heap.size = gy at *; obtain ⟨vpa, vwa, fla, ka0, ka1, ka2, ka3, ka4⟩ := Va.out.open_; obtain ⟨vpb, vwb, flb, kb0, kb1, kb2, kb3, kb4⟩ := Vb.out.open_)
  ((with_reducible refine (rfsame_any X X _ _ _ fla flb (by omega) (by omega) (by omega) (by omega)).mono ?_); rintro e W10 ⟨rfl, hb1⟩)
  clear ka0 ka1 ka2 ka3 ka4 fla
  clear kb0 kb1 kb2 kb3 kb4 flb
  replace hB := Kept.mk (hB.out.trans ((hb1).mono hB.out.size))
  replace Vf := Kept.mk (Vf.out.keep (hb1))
  replace Vo := Kept.mk (Vo.out.keep (hb1))
  replace Va := Kept.mk (Va.out.keep (hb1))
  replace Vb := Kept.mk (Vb.out.keep (hb1))
  replace Vc := Kept.mk (Vc.out.keep (hb1))
  replace Vd := Kept.mk (Vd.out.keep (hb1))
  replace Vx := Kept.mk (Vx.out.keep (hb1))
  replace Vy := Kept.mk (Vy.out.keep (hb1))
  clear hb1
  obtain ⟨vpc, vwc, flc, kc0, kc1, kc2, kc3, kc4⟩ := Vc.out.open_
  obtain ⟨vpd, vwd, fld, kd0, kd1, kd2, kd3, kd4⟩ := Vd.out.open_
  rw [SX.out]
  go_wp2_with fail
  ((with_reducible refine (rfsame_any Y Y _ _ _ flc fld (by omega) (by omega) (by omega) (by omega)).mono ?_); rintro e W11 ⟨rfl, hb1⟩)
  clear kc0 kc1 kc2 kc3 kc4 flc
  clear kd0 kd1 kd2 kd3 kd4 fld
  replace hB := Kept.mk (hB.out.trans ((hb1).mono hB.out.size))
  replace Vf := Kept.mk (Vf.out.keep (hb1))
  replace Vo := Kept.mk (Vo.out.keep (hb1))
  replace Va := Kept.mk (Va.out.keep (hb1))
  replace Vb := Kept.mk (Vb.out.keep (hb1))
  replace Vc := Kept.mk (Vc.out.keep (hb1))
  replace Vd := Kept.mk (Vd.out.keep (hb1))
  replace Vx := Kept.mk (Vx.out.keep (hb1))
  replace Vy := Kept.mk (Vy.out.keep (hb1))
  clear hb1
  obtain ⟨vpx, vwx, flx, kx0, kx1, kx2, kx3, kx4⟩ := Vx.out.open_
  obtain ⟨vpy, vwy, fly, ky0, ky1, ky2, ky3, ky4⟩ := Vy.out.open_
  rw [SY.out]
  go_wp2_with fail
  ((with_reducible refine (rfsame_any Z Z _ _ _ flx fly (by omega) (by omega) (by omega) (by omega)).mono ?_); rintro e W12 ⟨rfl, hb1⟩)
  clear kx0 kx1 kx2 kx3 kx4 flx
  clear ky0 ky1 ky2 ky3 ky4 fly
  replace hB := Kept.mk (hB.out.trans ((hb1).mono hB.out.size))
  replace Vf := Kept.mk (Vf.out.keep (hb1))
  replace Vo := Kept.mk (Vo.out.keep (hb1))
  replace Va := Kept.mk (Va.out.keep (hb1))
  replace Vb := Kept.mk (Vb.out.keep (hb1))
  replace Vc := Kept.mk (Vc.out.keep (hb1))
  replace Vd := Kept.mk (Vd.out.keep (hb1))
  replace Vx := Kept.mk (Vx.out.keep (hb1))
  replace Vy := Kept.mk (Vy.out.keep (hb1))
  clear hb1
  obtain ⟨vpf, vwf, flf, kf0, kf1, kf2, kf3, kf4⟩ := Vf.out.open_
  rw [SZ.out]
  go_wp2_with fail
  clear Va Vb Vc Vd Vx Vy
  ((with_reducible refine (rfcheck_any F _ _ flf HFF.out).mono ?_); rintro e W13 ⟨rfl, hb1⟩)
  clear kf0 kf1 kf2 kf3 kf4 flf
  replace hB := Kept.mk (hB.out.trans ((hb1).mono hB.out.size))
  replace Vf := Kept.mk (Vf.out.keep (hb1))
  replace Vo := Kept.mk (Vo.out.keep (hb1))
  clear hb1
  obtain ⟨vpf, vwf, flf, kf0, kf1, kf2, kf3, kf4⟩ := Vf.out.open_
  rw [HZ_.out]
  go_wp2_with fail
  ((with_reducible refine (rfree_any F n _ _ flf HFF.out).mono ?_); rintro e W14 ⟨rfl, hb1⟩)
  clear kf0 kf1 kf2 kf3 kf4 flf
  replace hB := Kept.mk (hB.out.trans ((hb1).mono hB.out.size))
  replace Vf := Kept.mk (Vf.out.keep (hb1))
  replace Vo := Kept.mk (Vo.out.keep (hb1))
  clear hb1
  obtain ⟨vpf, vwf, flf, kf0, kf1, kf2, kf3, kf4⟩ := Vf.out.open_
  obtain ⟨vpo, vwo, flo, ko0, ko1, ko2, ko3, ko4⟩ := Vo.out.open_
  rw [HFR.out]
  go_wp2_with fail
  ((with_reducible refine (rfsame_any F O _ _ _ flf flo (by omega) (by omega) (by omega) (by omega)).mono ?_); rintro e W15 ⟨rfl, hb1⟩)
  clear kf0 kf1 kf2 kf3 kf4 flf
  clear ko0 ko1 ko2 ko3 ko4 flo
  replace hB := Kept.mk (hB.out.trans ((hb1).mono hB.out.size))
  replace Vf := Kept.mk (Vf.out.keep (hb1))
  replace Vo := Kept.mk (Vo.out.keep (hb1))
  clear hb1
  obtain ⟨vpf, vwf, flf, kf0, kf1, kf2, kf3, kf4⟩ := Vf.out.open_
  rw [HSM.out]
  go_wp2_with fail
  ((with_reducible refine (check_any F _ _ flf (by omega) (by omega)).mono ?_); rintro e W16 ⟨rfl, hb1⟩)
  clear kf0 kf1 kf2 kf3 kf4 flf
  replace hB := Kept.mk (hB.out.trans ((hb1).mono hB.out.size))
  replace Vf := Kept.mk (Vf.out.keep (hb1))
  replace Vo := Kept.mk (Vo.out.keep (hb1))
  clear hb1
  obtain ⟨vpf, vwf, flf, kf0, kf1, kf2, kf3, kf4⟩ := Vf.out.open_
  cases z with
  | false =>
    rw [check_no HZ_.out]
    go_wp2_with fail
    ((with_reducible refine (free_any F n _ _ flf (by omega) (by omega)).mono ?_); rintro e W17 ⟨rfl, hb1⟩)
    clear kf0 kf1 kf2 kf3 kf4 flf
    replace hB := Kept.mk (hB.out.trans ((hb1).mono hB.out.size))
    replace Vf := Kept.mk (Vf.out.keep (hb1))
    replace Vo := Kept.mk (Vo.out.keep (hb1))
    clear hb1
    obtain ⟨vpf, vwf, flf, kf0, kf1, kf2, kf3, kf4⟩ := Vf.out.open_
    obtain ⟨vpo, vwo, flo, ko0, ko1, ko2, ko3, ko4⟩ := Vo.out.open_
    rw [HFR.out]
    go_wp2_with fail
    ((with_reducible refine (same_any F O _ _ _ flf flo (by omega) (by omega) (by omega) (by omega)).mono ?_); rintro e W18 ⟨rfl, hb1⟩)
    clear kf0 kf1 kf2 kf3 kf4 flf
    clear ko0 ko1 ko2 ko3 ko4 flo
    replace hB := Kept.mk (hB.out.trans ((hb1).mono hB.out.size))
    replace Vf := Kept.mk (Vf.out.keep (hb1))
    replace Vo := Kept.mk (Vo.out.keep (hb1))
    clear hb1
    rw [HSM.out]
    go_wp2
    all_goals go_ret
    all_goals exact ⟨rfl, hB.out⟩
  | true =>
    rw [check_yes HZ_.out]
    go_wp2_with fail
    ((with_reducible refine (free_any F n _ _ flf (by omega) (by omega)).mono ?_); rintro e W17 ⟨rfl, hb1⟩)
    clear kf0 kf1 kf2 kf3 kf4 flf
    replace hB := Kept.mk (hB.out.trans ((hb1).mono hB.out.size))
    replace Vf := Kept.mk (Vf.out.keep (hb1))
    replace Vo := Kept.mk (Vo.out.keep (hb1))
    clear hb1
    obtain ⟨vpf, vwf, flf, kf0, kf1, kf2, kf3, kf4⟩ := Vf.out.open_
    obtain ⟨vpo, vwo, flo, ko0, ko1, ko2, ko3, ko4⟩ := Vo.out.open_
    rw [HFR.out]
    go_wp2_with fail
    ((with_reducible refine (same_any F O _ _ _ flf flo (by omega) (by omega) (by omega) (by omega)).mono ?_); rintro e W18 ⟨rfl, hb1⟩)
    clear kf0 kf1 kf2 kf3 kf4 flf
    clear ko0 ko1 ko2 ko3 ko4 flo
    replace hB := Kept.mk (hB.out.trans ((hb1).mono hB.out.size))
    replace Vf := Kept.mk (Vf.out.keep (hb1))
    replace Vo := Kept.mk (Vo.out.keep (hb1))
    clear hb1
    rw [HSM.out]
    go_wp2
    all_goals go_ret
    all_goals exact ⟨rfl, hB.out⟩
set_option maxRecDepth 100000 in
set_option maxHeartbeats 8000000 in
theorem flashTells_5 (F O : Fl) (v u : Value) (n m : Int) (s : List UInt8) (w : World) (hv : isFl F v w) (hu : isFl O u w) (hfew : fewB F = true) (hfo : fewB O = true) (ht : s.length ≤ 400) (hn : ¬ 400 < n) (hm : 8192 < m) (hff : FewF F) :
    Calls Try.prog 3 #[v, u, .int .i64 n, .int .i64 m, .string ⟨s.toArray⟩] w fun e w' => e = .returned (.bool true) ∧ Below w.heap.size w w' := by
  obtain ⟨vp, vw, rfl, hp, hq⟩ := hv
  obtain ⟨up, uw, rfl, gp, gq⟩ := hu
  have HF := Kept.mk hfew
  have HO := Kept.mk hfo
  obtain ⟨hn1, hn2⟩ := few_facts hfew
  obtain ⟨on1, on2⟩ := few_facts hfo
  clear hfew hfo
  have hsz : (⟨s.toArray⟩ : ByteArray).size = s.length := size_mk s
  have d1 : decide (400 < (s.length : Int)) = false := by simp; omega
  have c3 : ¬ 400 < n := hn
  have c5 : 400 < m := by omega
  have c6 : ¬ m ≤ 8192 := by omega
  have HFF := Kept.mk hff
  clear hff hn hm
  obtain ⟨lx1, lx2⟩ := new_len n m
  obtain ⟨ly1, ly2⟩ := wake_len F n s
  obtain ⟨lz1, lz2⟩ := rot_len F n m s
  obtain ⟨e1, he1⟩ : ∃ x : Int, newE n m = x := ⟨_, rfl⟩
  obtain ⟨X, hX⟩ : ∃ x : Fl, newF n m = x := ⟨_, rfl⟩
  obtain ⟨e2, he2⟩ : ∃ x : Int, wakeE F s = x := ⟨_, rfl⟩
  obtain ⟨Y, hY⟩ : ∃ x : Fl, wakeF F n s = x := ⟨_, rfl⟩
  obtain ⟨e3, he3⟩ : ∃ x : Int, rotE F n m s = x := ⟨_, rfl⟩
  obtain ⟨Z, hZ⟩ : ∃ x : Fl, rotF F n m s = x := ⟨_, rfl⟩
  rw [hX] at lx1 lx2
  rw [hY] at ly1 ly2
  rw [hZ] at lz1 lz2
  have He1 := Kept.mk he1
  have HX := Kept.mk hX
  have He2 := Kept.mk he2
  have HY := Kept.mk hY
  have He3 := Kept.mk he3
  have HZ := Kept.mk hZ
  have SX := Kept.mk (same_self X)
  have SY := Kept.mk (same_self Y)
  have SZ := Kept.mk (same_self Z)
  clear he1 hX he2 hY he3 hZ
  obtain ⟨z, hz⟩ : ∃ z, mayB F = z := ⟨_, rfl⟩
  obtain ⟨fr, hfr⟩ : ∃ z, freeB F n = z := ⟨_, rfl⟩
  obtain ⟨sm, hsm⟩ : ∃ z, sameB F O = z := ⟨_, rfl⟩
  have HZ_ := Kept.mk hz
  have HFR := Kept.mk hfr
  have HSM := Kept.mk hsm
  clear hz hfr hsm
  obtain ⟨hB, Vf⟩ := var_box w F vp vw hp hq
  obtain ⟨hB2, Vo⟩ := var_box (w.alloc (.cells #[vp, vw, .int .i64 F.fuse, strC F.torn, .bool F.dead] 25)) O up uw (stable_cells _ _ _ _ gp hB.out) (stable_cells _ _ _ _ gq hB.out)
  have hs1 : (w.alloc (.cells #[vp, vw, .int .i64 F.fuse, strC F.torn, .bool F.dead] 25)).heap.size = w.heap.size + 1 := by simp
  rw [hs1] at Vo
  replace Vf := Kept.mk (Vf.out.keep hB2.out)
  replace hB := Kept.mk (hB.out.trans (hB2.out.mono hB.out.size))
  clear hB2 hs1 hp hq gp gq
  go_enter Try.func3, Try.ntmps3
  go_wp2_with fail
  ((with_reducible refine (works_any _).mono ?_); rintro e W1 ⟨rfl, hb1⟩)
  replace hB := Kept.mk (hB.out.trans ((hb1).mono hB.out.size))
  replace Vf := Kept.mk (Vf.out.keep (hb1))
  replace Vo := Kept.mk (Vo.out.keep (hb1))
  clear hb1
  obtain ⟨vpf, vwf, flf, kf0, kf1, kf2, kf3, kf4⟩ := Vf.out.open_
  go_wp2_with fail
  ((with_reducible refine (few_any F _ _ flf).mono ?_); rintro e W2 ⟨rfl, hb1⟩)
  clear kf0 kf1 kf2 kf3 kf4 flf
  replace hB := Kept.mk (hB.out.trans ((hb1).mono hB.out.size))
  replace Vf := Kept.mk (Vf.out.keep (hb1))
  replace Vo := Kept.mk (Vo.out.keep (hb1))
  clear hb1
  obtain ⟨vpo, vwo, flo, ko0, ko1, ko2, ko3, ko4⟩ := Vo.out.open_
  rw [HF.out]
  go_wp2_with fail
  ((with_reducible refine (few_any O _ _ flo).mono ?_); rintro e W3 ⟨rfl, hb1⟩)
  clear ko0 ko1 ko2 ko3 ko4 flo
  replace hB := Kept.mk (hB.out.trans ((hb1).mono hB.out.size))
  replace Vf := Kept.mk (Vf.out.keep (hb1))
  replace Vo := Kept.mk (Vo.out.keep (hb1))
  clear hb1
  rw [HO.out]
  go_wp2_with fail
  ((with_reducible refine (new_any n m _).mono ?_); rintro e U ⟨v', rfl, hf', hb1⟩)
  rewrite [He1.out]
  rw [HX.out] at hf'
  obtain ⟨vp', vw', rfl, hp', hq'⟩ := hf'.fl
  have o1 := hp'.one
  have o2 := hq'.one
  obtain ⟨K1, K2, K3, K4⟩ := var_new U X vp' vw' hp' hq'
  clear hp' hq' hf'
  replace hB := Kept.mk (hB.out.trans ((hb1).mono hB.out.size))
  replace Vf := Kept.mk (Vf.out.keep (hb1))
  replace Vo := Kept.mk (Vo.out.keep (hb1))
  clear hb1
  go_wp2_with (refine wpList_store5 rfl (.tmp 13) (.tmp 66) rfl U.heap.size vp' vw' (.int .i64 X.fuse) (strC X.torn) (.bool X.dead) rfl rfl K1.out K2.out o1 o2 rfl rfl rfl ?_; replace hB := Kept.mk (hB.out.trans ((K3.out).mono hB.out.size)); replace Vf := Kept.mk (Vf.out.keep (K3.out)); replace Vo := Kept.mk (Vo.out.keep (K3.out)); have Va := K4; clear K1 K2 K3 K4 o1 o2; generalize set5 (U.alloc (.cells #[.slice none 0 0, .slice none 0 0, .int .i64 0, .string ⟨#[]⟩, .bool false] 25)) U.heap.size vp' vw' (.int .i64 X.fuse) (strC X.torn) (.bool X.dead) = W4 at *; generalize U.heap.size = ga at *)
  ((with_reducible refine (rnew_any n m _).mono ?_); rintro e U ⟨v', rfl, hf', hb1⟩)
  rewrite [He1.out]
  rw [HX.out] at hf'
  obtain ⟨vp', vw', rfl, hp', hq'⟩ := hf'
  have o1 := hp'.one
  have o2 := hq'.one
  obtain ⟨K1, K2, K3, K4⟩ := var_new U X vp' vw' hp' hq'
  clear hp' hq'
  replace hB := Kept.mk (hB.out.trans ((hb1).mono hB.out.size))
  replace Vf := Kept.mk (Vf.out.keep (hb1))
  replace Vo := Kept.mk (Vo.out.keep (hb1))
  replace Va := Kept.mk (Va.out.keep (hb1))
  clear hb1
  go_wp2_with (refine wpList_store5 rfl (.tmp 15) (.tmp 72) rfl U.heap.size vp' vw' (.int .i64 X.fuse) (strC X.torn) (.bool X.dead) rfl rfl K1.out K2.out o1 o2 rfl rfl rfl ?_; replace hB := Kept.mk (hB.out.trans ((K3.out).mono hB.out.size)); replace Vf := Kept.mk (Vf.out.keep (K3.out)); replace Vo := Kept.mk (Vo.out.keep (K3.out)); replace Va := Kept.mk (Va.out.keep (K3.out)); have Vb := K4; clear K1 K2 K3 K4 o1 o2; generalize set5 (U.alloc (.cells #[.slice none 0 0, .slice none 0 0, .int .i64 0, .string ⟨#[]⟩, .bool false] 25)) U.heap.size vp' vw' (.int .i64 X.fuse) (strC X.torn) (.bool X.dead) = W5 at *; generalize U.heap.size = gb at *; obtain ⟨vpf, vwf, flf, kf0, kf1, kf2, kf3, kf4⟩ := Vf.out.open_)
  ((with_reducible refine (wake_any F n s _ _ flf (by omega) (by omega)).mono ?_); rintro e U ⟨v', rfl, hf', hb1⟩)
  rewrite [He2.out]
  rw [HY.out] at hf'
  obtain ⟨vp', vw', rfl, hp', hq'⟩ := hf'.fl
  have o1 := hp'.one
  have o2 := hq'.one
  obtain ⟨K1, K2, K3, K4⟩ := var_new U Y vp' vw' hp' hq'
  clear hp' hq' hf'
  clear kf0 kf1 kf2 kf3 kf4 flf
  replace hB := Kept.mk (hB.out.trans ((hb1).mono hB.out.size))
  replace Vf := Kept.mk (Vf.out.keep (hb1))
  replace Vo := Kept.mk (Vo.out.keep (hb1))
  replace Va := Kept.mk (Va.out.keep (hb1))
  replace Vb := Kept.mk (Vb.out.keep (hb1))
  clear hb1
  go_wp2_with (refine wpList_store5 rfl (.tmp 17) (.tmp 79) rfl U.heap.size vp' vw' (.int .i64 Y.fuse) (strC Y.torn) (.bool Y.dead) rfl rfl K1.out K2.out o1 o2 rfl rfl rfl ?_; replace hB := Kept.mk (hB.out.trans ((K3.out).mono hB.out.size)); replace Vf := Kept.mk (Vf.out.keep (K3.out)); replace Vo := Kept.mk (Vo.out.keep (K3.out)); replace Va := Kept.mk (Va.out.keep (K3.out)); replace Vb := Kept.mk (Vb.out.keep (K3.out)); have Vc := K4; clear K1 K2 K3 K4 o1 o2; generalize set5 (U.alloc (.cells #[.slice none 0 0, .slice none 0 0, .int .i64 0, .string ⟨#[]⟩, .bool false] 25)) U.heap.size vp' vw' (.int .i64 Y.fuse) (strC Y.torn) (.bool Y.dead) = W6 at *; generalize U.heap.size = gc at *; obtain ⟨vpf, vwf, flf, kf0, kf1, kf2, kf3, kf4⟩ := Vf.out.open_)
  ((with_reducible refine (rwake_any F n s _ _ flf HFF.out (by omega)).mono ?_); rintro e U ⟨v', rfl, hf', hb1⟩)
  rewrite [He2.out]
  rw [HY.out] at hf'
  obtain ⟨vp', vw', rfl, hp', hq'⟩ := hf'
  have o1 := hp'.one
  have o2 := hq'.one
  obtain ⟨K1, K2, K3, K4⟩ := var_new U Y vp' vw' hp' hq'
  clear hp' hq'
  clear kf0 kf1 kf2 kf3 kf4 flf
  replace hB := Kept.mk (hB.out.trans ((hb1).mono hB.out.size))
  replace Vf := Kept.mk (Vf.out.keep (hb1))
  replace Vo := Kept.mk (Vo.out.keep (hb1))
  replace Va := Kept.mk (Va.out.keep (hb1))
  replace Vb := Kept.mk (Vb.out.keep (hb1))
  replace Vc := Kept.mk (Vc.out.keep (hb1))
  clear hb1
  go_wp2_with (refine wpList_store5 rfl (.tmp 19) (.tmp 86) rfl U.heap.size vp' vw' (.int .i64 Y.fuse) (strC Y.torn) (.bool Y.dead) rfl rfl K1.out K2.out o1 o2 rfl rfl rfl ?_; replace hB := Kept.mk (hB.out.trans ((K3.out).mono hB.out.size)); replace Vf := Kept.mk (Vf.out.keep (K3.out)); replace Vo := Kept.mk (Vo.out.keep (K3.out)); replace Va := Kept.mk (Va.out.keep (K3.out)); replace Vb := Kept.mk (Vb.out.keep (K3.out)); replace Vc := Kept.mk (Vc.out.keep (K3.out)); have Vd := K4; clear K1 K2 K3 K4 o1 o2; generalize set5 (U.alloc (.cells #[.slice none 0 0, .slice none 0 0, .int .i64 0, .string ⟨#[]⟩, .bool false] 25)) U.heap.size vp' vw' (.int .i64 Y.fuse) (strC Y.torn) (.bool Y.dead) = W7 at *; generalize U.heap.size = gd at *; obtain ⟨vpf, vwf, flf, kf0, kf1, kf2, kf3, kf4⟩ := Vf.out.open_)
  ((with_reducible refine (rot_any F n m s _ _ flf (by omega) (by omega) (by omega)).mono ?_); rintro e U ⟨v', rfl, hf', hb1⟩)
  rewrite [He3.out]
  rw [HZ.out] at hf'
  obtain ⟨vp', vw', rfl, hp', hq'⟩ := hf'.fl
  have o1 := hp'.one
  have o2 := hq'.one
  obtain ⟨K1, K2, K3, K4⟩ := var_new U Z vp' vw' hp' hq'
  clear hp' hq' hf'
  clear kf0 kf1 kf2 kf3 kf4 flf
  replace hB := Kept.mk (hB.out.trans ((hb1).mono hB.out.size))
  replace Vf := Kept.mk (Vf.out.keep (hb1))
  replace Vo := Kept.mk (Vo.out.keep (hb1))
  replace Va := Kept.mk (Va.out.keep (hb1))
  replace Vb := Kept.mk (Vb.out.keep (hb1))
  replace Vc := Kept.mk (Vc.out.keep (hb1))
  replace Vd := Kept.mk (Vd.out.keep (hb1))
  clear hb1
  go_wp2_with (refine wpList_store5 rfl (.tmp 21) (.tmp 94) rfl U.heap.size vp' vw' (.int .i64 Z.fuse) (strC Z.torn) (.bool Z.dead) rfl rfl K1.out K2.out o1 o2 rfl rfl rfl ?_; replace hB := Kept.mk (hB.out.trans ((K3.out).mono hB.out.size)); replace Vf := Kept.mk (Vf.out.keep (K3.out)); replace Vo := Kept.mk (Vo.out.keep (K3.out)); replace Va := Kept.mk (Va.out.keep (K3.out)); replace Vb := Kept.mk (Vb.out.keep (K3.out)); replace Vc := Kept.mk (Vc.out.keep (K3.out)); replace Vd := Kept.mk (Vd.out.keep (K3.out)); have Vx := K4; clear K1 K2 K3 K4 o1 o2; generalize set5 (U.alloc (.cells #[.slice none 0 0, .slice none 0 0, .int .i64 0, .string ⟨#[]⟩, .bool false] 25)) U.heap.size vp' vw' (.int .i64 Z.fuse) (strC Z.torn) (.bool Z.dead) = W8 at *; generalize U.heap.size = gx at *; obtain ⟨vpf, vwf, flf, kf0, kf1, kf2, kf3, kf4⟩ := Vf.out.open_)
  ((with_reducible refine (rrot_any F n m s _ _ flf HFF.out (by omega)).mono ?_); rintro e U ⟨v', rfl, hf', hb1⟩)
  rewrite [He3.out]
  rw [HZ.out] at hf'
  obtain ⟨vp', vw', rfl, hp', hq'⟩ := hf'
  have o1 := hp'.one
  have o2 := hq'.one
  obtain ⟨K1, K2, K3, K4⟩ := var_new U Z vp' vw' hp' hq'
  clear hp' hq'
  clear kf0 kf1 kf2 kf3 kf4 flf
  replace hB := Kept.mk (hB.out.trans ((hb1).mono hB.out.size))
  replace Vf := Kept.mk (Vf.out.keep (hb1))
  replace Vo := Kept.mk (Vo.out.keep (hb1))
  replace Va := Kept.mk (Va.out.keep (hb1))
  replace Vb := Kept.mk (Vb.out.keep (hb1))
  replace Vc := Kept.mk (Vc.out.keep (hb1))
  replace Vd := Kept.mk (Vd.out.keep (hb1))
  replace Vx := Kept.mk (Vx.out.keep (hb1))
  clear hb1
  go_wp2_with (refine wpList_store5 rfl (.tmp 23) (.tmp 102) rfl U.heap.size vp' vw' (.int .i64 Z.fuse) (strC Z.torn) (.bool Z.dead) rfl rfl K1.out K2.out o1 o2 rfl rfl rfl ?_; replace hB := Kept.mk (hB.out.trans ((K3.out).mono hB.out.size)); replace Vf := Kept.mk (Vf.out.keep (K3.out)); replace Vo := Kept.mk (Vo.out.keep (K3.out)); replace Va := Kept.mk (Va.out.keep (K3.out)); replace Vb := Kept.mk (Vb.out.keep (K3.out)); replace Vc := Kept.mk (Vc.out.keep (K3.out)); replace Vd := Kept.mk (Vd.out.keep (K3.out)); replace Vx := Kept.mk (Vx.out.keep (K3.out)); have Vy := K4; clear K1 K2 K3 K4 o1 o2; generalize set5 (U.alloc (.cells #[.slice none 0 0, .slice none 0 0, .int .i64 0, .string ⟨#[]⟩, .bool false] 25)) U.heap.size vp' vw' (.int .i64 Z.fuse) (strC Z.torn) (.bool Z.dead) = W9 at *; generalize U.heap.size = gy at *; obtain ⟨vpa, vwa, fla, ka0, ka1, ka2, ka3, ka4⟩ := Va.out.open_; obtain ⟨vpb, vwb, flb, kb0, kb1, kb2, kb3, kb4⟩ := Vb.out.open_)
  ((with_reducible refine (rfsame_any X X _ _ _ fla flb (by omega) (by omega) (by omega) (by omega)).mono ?_); rintro e W10 ⟨rfl, hb1⟩)
  clear ka0 ka1 ka2 ka3 ka4 fla
  clear kb0 kb1 kb2 kb3 kb4 flb
  replace hB := Kept.mk (hB.out.trans ((hb1).mono hB.out.size))
  replace Vf := Kept.mk (Vf.out.keep (hb1))
  replace Vo := Kept.mk (Vo.out.keep (hb1))
  replace Va := Kept.mk (Va.out.keep (hb1))
  replace Vb := Kept.mk (Vb.out.keep (hb1))
  replace Vc := Kept.mk (Vc.out.keep (hb1))
  replace Vd := Kept.mk (Vd.out.keep (hb1))
  replace Vx := Kept.mk (Vx.out.keep (hb1))
  replace Vy := Kept.mk (Vy.out.keep (hb1))
  clear hb1
  obtain ⟨vpc, vwc, flc, kc0, kc1, kc2, kc3, kc4⟩ := Vc.out.open_
  obtain ⟨vpd, vwd, fld, kd0, kd1, kd2, kd3, kd4⟩ := Vd.out.open_
  rw [SX.out]
  go_wp2_with fail
  ((with_reducible refine (rfsame_any Y Y _ _ _ flc fld (by omega) (by omega) (by omega) (by omega)).mono ?_); rintro e W11 ⟨rfl, hb1⟩)
  clear kc0 kc1 kc2 kc3 kc4 flc
  clear kd0 kd1 kd2 kd3 kd4 fld
  replace hB := Kept.mk (hB.out.trans ((hb1).mono hB.out.size))
  replace Vf := Kept.mk (Vf.out.keep (hb1))
  replace Vo := Kept.mk (Vo.out.keep (hb1))
  replace Va := Kept.mk (Va.out.keep (hb1))
  replace Vb := Kept.mk (Vb.out.keep (hb1))
  replace Vc := Kept.mk (Vc.out.keep (hb1))
  replace Vd := Kept.mk (Vd.out.keep (hb1))
  replace Vx := Kept.mk (Vx.out.keep (hb1))
  replace Vy := Kept.mk (Vy.out.keep (hb1))
  clear hb1
  obtain ⟨vpx, vwx, flx, kx0, kx1, kx2, kx3, kx4⟩ := Vx.out.open_
  obtain ⟨vpy, vwy, fly, ky0, ky1, ky2, ky3, ky4⟩ := Vy.out.open_
  rw [SY.out]
  go_wp2_with fail
  ((with_reducible refine (rfsame_any Z Z _ _ _ flx fly (by omega) (by omega) (by omega) (by omega)).mono ?_); rintro e W12 ⟨rfl, hb1⟩)
  clear kx0 kx1 kx2 kx3 kx4 flx
  clear ky0 ky1 ky2 ky3 ky4 fly
  replace hB := Kept.mk (hB.out.trans ((hb1).mono hB.out.size))
  replace Vf := Kept.mk (Vf.out.keep (hb1))
  replace Vo := Kept.mk (Vo.out.keep (hb1))
  replace Va := Kept.mk (Va.out.keep (hb1))
  replace Vb := Kept.mk (Vb.out.keep (hb1))
  replace Vc := Kept.mk (Vc.out.keep (hb1))
  replace Vd := Kept.mk (Vd.out.keep (hb1))
  replace Vx := Kept.mk (Vx.out.keep (hb1))
  replace Vy := Kept.mk (Vy.out.keep (hb1))
  clear hb1
  obtain ⟨vpf, vwf, flf, kf0, kf1, kf2, kf3, kf4⟩ := Vf.out.open_
  rw [SZ.out]
  go_wp2_with fail
  clear Va Vb Vc Vd Vx Vy
  ((with_reducible refine (rfcheck_any F _ _ flf HFF.out).mono ?_); rintro e W13 ⟨rfl, hb1⟩)
  clear kf0 kf1 kf2 kf3 kf4 flf
  replace hB := Kept.mk (hB.out.trans ((hb1).mono hB.out.size))
  replace Vf := Kept.mk (Vf.out.keep (hb1))
  replace Vo := Kept.mk (Vo.out.keep (hb1))
  clear hb1
  obtain ⟨vpf, vwf, flf, kf0, kf1, kf2, kf3, kf4⟩ := Vf.out.open_
  rw [HZ_.out]
  go_wp2_with fail
  ((with_reducible refine (rfree_any F n _ _ flf HFF.out).mono ?_); rintro e W14 ⟨rfl, hb1⟩)
  clear kf0 kf1 kf2 kf3 kf4 flf
  replace hB := Kept.mk (hB.out.trans ((hb1).mono hB.out.size))
  replace Vf := Kept.mk (Vf.out.keep (hb1))
  replace Vo := Kept.mk (Vo.out.keep (hb1))
  clear hb1
  obtain ⟨vpf, vwf, flf, kf0, kf1, kf2, kf3, kf4⟩ := Vf.out.open_
  obtain ⟨vpo, vwo, flo, ko0, ko1, ko2, ko3, ko4⟩ := Vo.out.open_
  rw [HFR.out]
  go_wp2_with fail
  ((with_reducible refine (rfsame_any F O _ _ _ flf flo (by omega) (by omega) (by omega) (by omega)).mono ?_); rintro e W15 ⟨rfl, hb1⟩)
  clear kf0 kf1 kf2 kf3 kf4 flf
  clear ko0 ko1 ko2 ko3 ko4 flo
  replace hB := Kept.mk (hB.out.trans ((hb1).mono hB.out.size))
  replace Vf := Kept.mk (Vf.out.keep (hb1))
  replace Vo := Kept.mk (Vo.out.keep (hb1))
  clear hb1
  obtain ⟨vpf, vwf, flf, kf0, kf1, kf2, kf3, kf4⟩ := Vf.out.open_
  rw [HSM.out]
  go_wp2_with fail
  ((with_reducible refine (check_any F _ _ flf (by omega) (by omega)).mono ?_); rintro e W16 ⟨rfl, hb1⟩)
  clear kf0 kf1 kf2 kf3 kf4 flf
  replace hB := Kept.mk (hB.out.trans ((hb1).mono hB.out.size))
  replace Vf := Kept.mk (Vf.out.keep (hb1))
  replace Vo := Kept.mk (Vo.out.keep (hb1))
  clear hb1
  obtain ⟨vpf, vwf, flf, kf0, kf1, kf2, kf3, kf4⟩ := Vf.out.open_
  cases z with
  | false =>
    rw [check_no HZ_.out]
    go_wp2_with fail
    ((with_reducible refine (free_any F n _ _ flf (by omega) (by omega)).mono ?_); rintro e W17 ⟨rfl, hb1⟩)
    clear kf0 kf1 kf2 kf3 kf4 flf
    replace hB := Kept.mk (hB.out.trans ((hb1).mono hB.out.size))
    replace Vf := Kept.mk (Vf.out.keep (hb1))
    replace Vo := Kept.mk (Vo.out.keep (hb1))
    clear hb1
    obtain ⟨vpf, vwf, flf, kf0, kf1, kf2, kf3, kf4⟩ := Vf.out.open_
    obtain ⟨vpo, vwo, flo, ko0, ko1, ko2, ko3, ko4⟩ := Vo.out.open_
    rw [HFR.out]
    go_wp2_with fail
    ((with_reducible refine (same_any F O _ _ _ flf flo (by omega) (by omega) (by omega) (by omega)).mono ?_); rintro e W18 ⟨rfl, hb1⟩)
    clear kf0 kf1 kf2 kf3 kf4 flf
    clear ko0 ko1 ko2 ko3 ko4 flo
    replace hB := Kept.mk (hB.out.trans ((hb1).mono hB.out.size))
    replace Vf := Kept.mk (Vf.out.keep (hb1))
    replace Vo := Kept.mk (Vo.out.keep (hb1))
    clear hb1
    rw [HSM.out]
    go_wp2
    all_goals go_ret
    all_goals exact ⟨rfl, hB.out⟩
  | true =>
    rw [check_yes HZ_.out]
    go_wp2_with fail
    ((with_reducible refine (free_any F n _ _ flf (by omega) (by omega)).mono ?_); rintro e W17 ⟨rfl, hb1⟩)
    clear kf0 kf1 kf2 kf3 kf4 flf
    replace hB := Kept.mk (hB.out.trans ((hb1).mono hB.out.size))
    replace Vf := Kept.mk (Vf.out.keep (hb1))
    replace Vo := Kept.mk (Vo.out.keep (hb1))
    clear hb1
    obtain ⟨vpf, vwf, flf, kf0, kf1, kf2, kf3, kf4⟩ := Vf.out.open_
    obtain ⟨vpo, vwo, flo, ko0, ko1, ko2, ko3, ko4⟩ := Vo.out.open_
    rw [HFR.out]
    go_wp2_with fail
    ((with_reducible refine (same_any F O _ _ _ flf flo (by omega) (by omega) (by omega) (by omega)).mono ?_); rintro e W18 ⟨rfl, hb1⟩)
    clear kf0 kf1 kf2 kf3 kf4 flf
    clear ko0 ko1 ko2 ko3 ko4 flo
    replace hB := Kept.mk (hB.out.trans ((hb1).mono hB.out.size))
    replace Vf := Kept.mk (Vf.out.keep (hb1))
    replace Vo := Kept.mk (Vo.out.keep (hb1))
    clear hb1
    rw [HSM.out]
    go_wp2
    all_goals go_ret
    all_goals exact ⟨rfl, hB.out⟩
set_option maxRecDepth 100000 in
set_option maxHeartbeats 8000000 in
theorem flashTells_6 (F O : Fl) (v u : Value) (n m : Int) (s : List UInt8) (w : World) (hv : isFl F v w) (hu : isFl O u w) (hfew : fewB F = true) (hfo : fewB O = true) (ht : s.length ≤ 400) (hn : 8192 < n) (hm : ¬ 400 < m) (hff : FewF F) :
    Calls Try.prog 3 #[v, u, .int .i64 n, .int .i64 m, .string ⟨s.toArray⟩] w fun e w' => e = .returned (.bool true) ∧ Below w.heap.size w w' := by
  obtain ⟨vp, vw, rfl, hp, hq⟩ := hv
  obtain ⟨up, uw, rfl, gp, gq⟩ := hu
  have HF := Kept.mk hfew
  have HO := Kept.mk hfo
  obtain ⟨hn1, hn2⟩ := few_facts hfew
  obtain ⟨on1, on2⟩ := few_facts hfo
  clear hfew hfo
  have hsz : (⟨s.toArray⟩ : ByteArray).size = s.length := size_mk s
  have d1 : decide (400 < (s.length : Int)) = false := by simp; omega
  have c3 : 400 < n := by omega
  have c4 : ¬ n ≤ 8192 := by omega
  have c5 : ¬ 400 < m := hm
  have HFF := Kept.mk hff
  clear hff hn hm
  obtain ⟨lx1, lx2⟩ := new_len n m
  obtain ⟨ly1, ly2⟩ := wake_len F n s
  obtain ⟨lz1, lz2⟩ := rot_len F n m s
  obtain ⟨e1, he1⟩ : ∃ x : Int, newE n m = x := ⟨_, rfl⟩
  obtain ⟨X, hX⟩ : ∃ x : Fl, newF n m = x := ⟨_, rfl⟩
  obtain ⟨e2, he2⟩ : ∃ x : Int, wakeE F s = x := ⟨_, rfl⟩
  obtain ⟨Y, hY⟩ : ∃ x : Fl, wakeF F n s = x := ⟨_, rfl⟩
  obtain ⟨e3, he3⟩ : ∃ x : Int, rotE F n m s = x := ⟨_, rfl⟩
  obtain ⟨Z, hZ⟩ : ∃ x : Fl, rotF F n m s = x := ⟨_, rfl⟩
  rw [hX] at lx1 lx2
  rw [hY] at ly1 ly2
  rw [hZ] at lz1 lz2
  have He1 := Kept.mk he1
  have HX := Kept.mk hX
  have He2 := Kept.mk he2
  have HY := Kept.mk hY
  have He3 := Kept.mk he3
  have HZ := Kept.mk hZ
  have SX := Kept.mk (same_self X)
  have SY := Kept.mk (same_self Y)
  have SZ := Kept.mk (same_self Z)
  clear he1 hX he2 hY he3 hZ
  obtain ⟨z, hz⟩ : ∃ z, mayB F = z := ⟨_, rfl⟩
  obtain ⟨fr, hfr⟩ : ∃ z, freeB F n = z := ⟨_, rfl⟩
  obtain ⟨sm, hsm⟩ : ∃ z, sameB F O = z := ⟨_, rfl⟩
  have HZ_ := Kept.mk hz
  have HFR := Kept.mk hfr
  have HSM := Kept.mk hsm
  clear hz hfr hsm
  obtain ⟨hB, Vf⟩ := var_box w F vp vw hp hq
  obtain ⟨hB2, Vo⟩ := var_box (w.alloc (.cells #[vp, vw, .int .i64 F.fuse, strC F.torn, .bool F.dead] 25)) O up uw (stable_cells _ _ _ _ gp hB.out) (stable_cells _ _ _ _ gq hB.out)
  have hs1 : (w.alloc (.cells #[vp, vw, .int .i64 F.fuse, strC F.torn, .bool F.dead] 25)).heap.size = w.heap.size + 1 := by simp
  rw [hs1] at Vo
  replace Vf := Kept.mk (Vf.out.keep hB2.out)
  replace hB := Kept.mk (hB.out.trans (hB2.out.mono hB.out.size))
  clear hB2 hs1 hp hq gp gq
  go_enter Try.func3, Try.ntmps3
  go_wp2_with fail
  ((with_reducible refine (works_any _).mono ?_); rintro e W1 ⟨rfl, hb1⟩)
  replace hB := Kept.mk (hB.out.trans ((hb1).mono hB.out.size))
  replace Vf := Kept.mk (Vf.out.keep (hb1))
  replace Vo := Kept.mk (Vo.out.keep (hb1))
  clear hb1
  obtain ⟨vpf, vwf, flf, kf0, kf1, kf2, kf3, kf4⟩ := Vf.out.open_
  go_wp2_with fail
  ((with_reducible refine (few_any F _ _ flf).mono ?_); rintro e W2 ⟨rfl, hb1⟩)
  clear kf0 kf1 kf2 kf3 kf4 flf
  replace hB := Kept.mk (hB.out.trans ((hb1).mono hB.out.size))
  replace Vf := Kept.mk (Vf.out.keep (hb1))
  replace Vo := Kept.mk (Vo.out.keep (hb1))
  clear hb1
  obtain ⟨vpo, vwo, flo, ko0, ko1, ko2, ko3, ko4⟩ := Vo.out.open_
  rw [HF.out]
  go_wp2_with fail
  ((with_reducible refine (few_any O _ _ flo).mono ?_); rintro e W3 ⟨rfl, hb1⟩)
  clear ko0 ko1 ko2 ko3 ko4 flo
  replace hB := Kept.mk (hB.out.trans ((hb1).mono hB.out.size))
  replace Vf := Kept.mk (Vf.out.keep (hb1))
  replace Vo := Kept.mk (Vo.out.keep (hb1))
  clear hb1
  rw [HO.out]
  go_wp2_with fail
  ((with_reducible refine (new_any n m _).mono ?_); rintro e U ⟨v', rfl, hf', hb1⟩)
  rewrite [He1.out]
  rw [HX.out] at hf'
  obtain ⟨vp', vw', rfl, hp', hq'⟩ := hf'.fl
  have o1 := hp'.one
  have o2 := hq'.one
  obtain ⟨K1, K2, K3, K4⟩ := var_new U X vp' vw' hp' hq'
  clear hp' hq' hf'
  replace hB := Kept.mk (hB.out.trans ((hb1).mono hB.out.size))
  replace Vf := Kept.mk (Vf.out.keep (hb1))
  replace Vo := Kept.mk (Vo.out.keep (hb1))
  clear hb1
  go_wp2_with (refine wpList_store5 rfl (.tmp 13) (.tmp 66) rfl U.heap.size vp' vw' (.int .i64 X.fuse) (strC X.torn) (.bool X.dead) rfl rfl K1.out K2.out o1 o2 rfl rfl rfl ?_; replace hB := Kept.mk (hB.out.trans ((K3.out).mono hB.out.size)); replace Vf := Kept.mk (Vf.out.keep (K3.out)); replace Vo := Kept.mk (Vo.out.keep (K3.out)); have Va := K4; clear K1 K2 K3 K4 o1 o2; generalize set5 (U.alloc (.cells #[.slice none 0 0, .slice none 0 0, .int .i64 0, .string ⟨#[]⟩, .bool false] 25)) U.heap.size vp' vw' (.int .i64 X.fuse) (strC X.torn) (.bool X.dead) = W4 at *; generalize U.heap.size = ga at *)
  ((with_reducible refine (rnew_any n m _).mono ?_); rintro e U ⟨v', rfl, hf', hb1⟩)
  rewrite [He1.out]
  rw [HX.out] at hf'
  obtain ⟨vp', vw', rfl, hp', hq'⟩ := hf'
  have o1 := hp'.one
  have o2 := hq'.one
  obtain ⟨K1, K2, K3, K4⟩ := var_new U X vp' vw' hp' hq'
  clear hp' hq'
  replace hB := Kept.mk (hB.out.trans ((hb1).mono hB.out.size))
  replace Vf := Kept.mk (Vf.out.keep (hb1))
  replace Vo := Kept.mk (Vo.out.keep (hb1))
  replace Va := Kept.mk (Va.out.keep (hb1))
  clear hb1
  go_wp2_with (refine wpList_store5 rfl (.tmp 15) (.tmp 72) rfl U.heap.size vp' vw' (.int .i64 X.fuse) (strC X.torn) (.bool X.dead) rfl rfl K1.out K2.out o1 o2 rfl rfl rfl ?_; replace hB := Kept.mk (hB.out.trans ((K3.out).mono hB.out.size)); replace Vf := Kept.mk (Vf.out.keep (K3.out)); replace Vo := Kept.mk (Vo.out.keep (K3.out)); replace Va := Kept.mk (Va.out.keep (K3.out)); have Vb := K4; clear K1 K2 K3 K4 o1 o2; generalize set5 (U.alloc (.cells #[.slice none 0 0, .slice none 0 0, .int .i64 0, .string ⟨#[]⟩, .bool false] 25)) U.heap.size vp' vw' (.int .i64 X.fuse) (strC X.torn) (.bool X.dead) = W5 at *; generalize U.heap.size = gb at *; obtain ⟨vpf, vwf, flf, kf0, kf1, kf2, kf3, kf4⟩ := Vf.out.open_)
  ((with_reducible refine (wake_any F n s _ _ flf (by omega) (by omega)).mono ?_); rintro e U ⟨v', rfl, hf', hb1⟩)
  rewrite [He2.out]
  rw [HY.out] at hf'
  obtain ⟨vp', vw', rfl, hp', hq'⟩ := hf'.fl
  have o1 := hp'.one
  have o2 := hq'.one
  obtain ⟨K1, K2, K3, K4⟩ := var_new U Y vp' vw' hp' hq'
  clear hp' hq' hf'
  clear kf0 kf1 kf2 kf3 kf4 flf
  replace hB := Kept.mk (hB.out.trans ((hb1).mono hB.out.size))
  replace Vf := Kept.mk (Vf.out.keep (hb1))
  replace Vo := Kept.mk (Vo.out.keep (hb1))
  replace Va := Kept.mk (Va.out.keep (hb1))
  replace Vb := Kept.mk (Vb.out.keep (hb1))
  clear hb1
  go_wp2_with (refine wpList_store5 rfl (.tmp 17) (.tmp 79) rfl U.heap.size vp' vw' (.int .i64 Y.fuse) (strC Y.torn) (.bool Y.dead) rfl rfl K1.out K2.out o1 o2 rfl rfl rfl ?_; replace hB := Kept.mk (hB.out.trans ((K3.out).mono hB.out.size)); replace Vf := Kept.mk (Vf.out.keep (K3.out)); replace Vo := Kept.mk (Vo.out.keep (K3.out)); replace Va := Kept.mk (Va.out.keep (K3.out)); replace Vb := Kept.mk (Vb.out.keep (K3.out)); have Vc := K4; clear K1 K2 K3 K4 o1 o2; generalize set5 (U.alloc (.cells #[.slice none 0 0, .slice none 0 0, .int .i64 0, .string ⟨#[]⟩, .bool false] 25)) U.heap.size vp' vw' (.int .i64 Y.fuse) (strC Y.torn) (.bool Y.dead) = W6 at *; generalize U.heap.size = gc at *; obtain ⟨vpf, vwf, flf, kf0, kf1, kf2, kf3, kf4⟩ := Vf.out.open_)
  ((with_reducible refine (rwake_any F n s _ _ flf HFF.out (by omega)).mono ?_); rintro e U ⟨v', rfl, hf', hb1⟩)
  rewrite [He2.out]
  rw [HY.out] at hf'
  obtain ⟨vp', vw', rfl, hp', hq'⟩ := hf'
  have o1 := hp'.one
  have o2 := hq'.one
  obtain ⟨K1, K2, K3, K4⟩ := var_new U Y vp' vw' hp' hq'
  clear hp' hq'
  clear kf0 kf1 kf2 kf3 kf4 flf
  replace hB := Kept.mk (hB.out.trans ((hb1).mono hB.out.size))
  replace Vf := Kept.mk (Vf.out.keep (hb1))
  replace Vo := Kept.mk (Vo.out.keep (hb1))
  replace Va := Kept.mk (Va.out.keep (hb1))
  replace Vb := Kept.mk (Vb.out.keep (hb1))
  replace Vc := Kept.mk (Vc.out.keep (hb1))
  clear hb1
  go_wp2_with (refine wpList_store5 rfl (.tmp 19) (.tmp 86) rfl U.heap.size vp' vw' (.int .i64 Y.fuse) (strC Y.torn) (.bool Y.dead) rfl rfl K1.out K2.out o1 o2 rfl rfl rfl ?_; replace hB := Kept.mk (hB.out.trans ((K3.out).mono hB.out.size)); replace Vf := Kept.mk (Vf.out.keep (K3.out)); replace Vo := Kept.mk (Vo.out.keep (K3.out)); replace Va := Kept.mk (Va.out.keep (K3.out)); replace Vb := Kept.mk (Vb.out.keep (K3.out)); replace Vc := Kept.mk (Vc.out.keep (K3.out)); have Vd := K4; clear K1 K2 K3 K4 o1 o2; generalize set5 (U.alloc (.cells #[.slice none 0 0, .slice none 0 0, .int .i64 0, .string ⟨#[]⟩, .bool false] 25)) U.heap.size vp' vw' (.int .i64 Y.fuse) (strC Y.torn) (.bool Y.dead) = W7 at *; generalize U.heap.size = gd at *; obtain ⟨vpf, vwf, flf, kf0, kf1, kf2, kf3, kf4⟩ := Vf.out.open_)
  ((with_reducible refine (rot_any F n m s _ _ flf (by omega) (by omega) (by omega)).mono ?_); rintro e U ⟨v', rfl, hf', hb1⟩)
  rewrite [He3.out]
  rw [HZ.out] at hf'
  obtain ⟨vp', vw', rfl, hp', hq'⟩ := hf'.fl
  have o1 := hp'.one
  have o2 := hq'.one
  obtain ⟨K1, K2, K3, K4⟩ := var_new U Z vp' vw' hp' hq'
  clear hp' hq' hf'
  clear kf0 kf1 kf2 kf3 kf4 flf
  replace hB := Kept.mk (hB.out.trans ((hb1).mono hB.out.size))
  replace Vf := Kept.mk (Vf.out.keep (hb1))
  replace Vo := Kept.mk (Vo.out.keep (hb1))
  replace Va := Kept.mk (Va.out.keep (hb1))
  replace Vb := Kept.mk (Vb.out.keep (hb1))
  replace Vc := Kept.mk (Vc.out.keep (hb1))
  replace Vd := Kept.mk (Vd.out.keep (hb1))
  clear hb1
  go_wp2_with (refine wpList_store5 rfl (.tmp 21) (.tmp 94) rfl U.heap.size vp' vw' (.int .i64 Z.fuse) (strC Z.torn) (.bool Z.dead) rfl rfl K1.out K2.out o1 o2 rfl rfl rfl ?_; replace hB := Kept.mk (hB.out.trans ((K3.out).mono hB.out.size)); replace Vf := Kept.mk (Vf.out.keep (K3.out)); replace Vo := Kept.mk (Vo.out.keep (K3.out)); replace Va := Kept.mk (Va.out.keep (K3.out)); replace Vb := Kept.mk (Vb.out.keep (K3.out)); replace Vc := Kept.mk (Vc.out.keep (K3.out)); replace Vd := Kept.mk (Vd.out.keep (K3.out)); have Vx := K4; clear K1 K2 K3 K4 o1 o2; generalize set5 (U.alloc (.cells #[.slice none 0 0, .slice none 0 0, .int .i64 0, .string ⟨#[]⟩, .bool false] 25)) U.heap.size vp' vw' (.int .i64 Z.fuse) (strC Z.torn) (.bool Z.dead) = W8 at *; generalize U.heap.size = gx at *; obtain ⟨vpf, vwf, flf, kf0, kf1, kf2, kf3, kf4⟩ := Vf.out.open_)
  ((with_reducible refine (rrot_any F n m s _ _ flf HFF.out (by omega)).mono ?_); rintro e U ⟨v', rfl, hf', hb1⟩)
  rewrite [He3.out]
  rw [HZ.out] at hf'
  obtain ⟨vp', vw', rfl, hp', hq'⟩ := hf'
  have o1 := hp'.one
  have o2 := hq'.one
  obtain ⟨K1, K2, K3, K4⟩ := var_new U Z vp' vw' hp' hq'
  clear hp' hq'
  clear kf0 kf1 kf2 kf3 kf4 flf
  replace hB := Kept.mk (hB.out.trans ((hb1).mono hB.out.size))
  replace Vf := Kept.mk (Vf.out.keep (hb1))
  replace Vo := Kept.mk (Vo.out.keep (hb1))
  replace Va := Kept.mk (Va.out.keep (hb1))
  replace Vb := Kept.mk (Vb.out.keep (hb1))
  replace Vc := Kept.mk (Vc.out.keep (hb1))
  replace Vd := Kept.mk (Vd.out.keep (hb1))
  replace Vx := Kept.mk (Vx.out.keep (hb1))
  clear hb1
  go_wp2_with (refine wpList_store5 rfl (.tmp 23) (.tmp 102) rfl U.heap.size vp' vw' (.int .i64 Z.fuse) (strC Z.torn) (.bool Z.dead) rfl rfl K1.out K2.out o1 o2 rfl rfl rfl ?_; replace hB := Kept.mk (hB.out.trans ((K3.out).mono hB.out.size)); replace Vf := Kept.mk (Vf.out.keep (K3.out)); replace Vo := Kept.mk (Vo.out.keep (K3.out)); replace Va := Kept.mk (Va.out.keep (K3.out)); replace Vb := Kept.mk (Vb.out.keep (K3.out)); replace Vc := Kept.mk (Vc.out.keep (K3.out)); replace Vd := Kept.mk (Vd.out.keep (K3.out)); replace Vx := Kept.mk (Vx.out.keep (K3.out)); have Vy := K4; clear K1 K2 K3 K4 o1 o2; generalize set5 (U.alloc (.cells #[.slice none 0 0, .slice none 0 0, .int .i64 0, .string ⟨#[]⟩, .bool false] 25)) U.heap.size vp' vw' (.int .i64 Z.fuse) (strC Z.torn) (.bool Z.dead) = W9 at *; generalize U.heap.size = gy at *; obtain ⟨vpa, vwa, fla, ka0, ka1, ka2, ka3, ka4⟩ := Va.out.open_; obtain ⟨vpb, vwb, flb, kb0, kb1, kb2, kb3, kb4⟩ := Vb.out.open_)
  ((with_reducible refine (rfsame_any X X _ _ _ fla flb (by omega) (by omega) (by omega) (by omega)).mono ?_); rintro e W10 ⟨rfl, hb1⟩)
  clear ka0 ka1 ka2 ka3 ka4 fla
  clear kb0 kb1 kb2 kb3 kb4 flb
  replace hB := Kept.mk (hB.out.trans ((hb1).mono hB.out.size))
  replace Vf := Kept.mk (Vf.out.keep (hb1))
  replace Vo := Kept.mk (Vo.out.keep (hb1))
  replace Va := Kept.mk (Va.out.keep (hb1))
  replace Vb := Kept.mk (Vb.out.keep (hb1))
  replace Vc := Kept.mk (Vc.out.keep (hb1))
  replace Vd := Kept.mk (Vd.out.keep (hb1))
  replace Vx := Kept.mk (Vx.out.keep (hb1))
  replace Vy := Kept.mk (Vy.out.keep (hb1))
  clear hb1
  obtain ⟨vpc, vwc, flc, kc0, kc1, kc2, kc3, kc4⟩ := Vc.out.open_
  obtain ⟨vpd, vwd, fld, kd0, kd1, kd2, kd3, kd4⟩ := Vd.out.open_
  rw [SX.out]
  go_wp2_with fail
  ((with_reducible refine (rfsame_any Y Y _ _ _ flc fld (by omega) (by omega) (by omega) (by omega)).mono ?_); rintro e W11 ⟨rfl, hb1⟩)
  clear kc0 kc1 kc2 kc3 kc4 flc
  clear kd0 kd1 kd2 kd3 kd4 fld
  replace hB := Kept.mk (hB.out.trans ((hb1).mono hB.out.size))
  replace Vf := Kept.mk (Vf.out.keep (hb1))
  replace Vo := Kept.mk (Vo.out.keep (hb1))
  replace Va := Kept.mk (Va.out.keep (hb1))
  replace Vb := Kept.mk (Vb.out.keep (hb1))
  replace Vc := Kept.mk (Vc.out.keep (hb1))
  replace Vd := Kept.mk (Vd.out.keep (hb1))
  replace Vx := Kept.mk (Vx.out.keep (hb1))
  replace Vy := Kept.mk (Vy.out.keep (hb1))
  clear hb1
  obtain ⟨vpx, vwx, flx, kx0, kx1, kx2, kx3, kx4⟩ := Vx.out.open_
  obtain ⟨vpy, vwy, fly, ky0, ky1, ky2, ky3, ky4⟩ := Vy.out.open_
  rw [SY.out]
  go_wp2_with fail
  ((with_reducible refine (rfsame_any Z Z _ _ _ flx fly (by omega) (by omega) (by omega) (by omega)).mono ?_); rintro e W12 ⟨rfl, hb1⟩)
  clear kx0 kx1 kx2 kx3 kx4 flx
  clear ky0 ky1 ky2 ky3 ky4 fly
  replace hB := Kept.mk (hB.out.trans ((hb1).mono hB.out.size))
  replace Vf := Kept.mk (Vf.out.keep (hb1))
  replace Vo := Kept.mk (Vo.out.keep (hb1))
  replace Va := Kept.mk (Va.out.keep (hb1))
  replace Vb := Kept.mk (Vb.out.keep (hb1))
  replace Vc := Kept.mk (Vc.out.keep (hb1))
  replace Vd := Kept.mk (Vd.out.keep (hb1))
  replace Vx := Kept.mk (Vx.out.keep (hb1))
  replace Vy := Kept.mk (Vy.out.keep (hb1))
  clear hb1
  obtain ⟨vpf, vwf, flf, kf0, kf1, kf2, kf3, kf4⟩ := Vf.out.open_
  rw [SZ.out]
  go_wp2_with fail
  clear Va Vb Vc Vd Vx Vy
  ((with_reducible refine (rfcheck_any F _ _ flf HFF.out).mono ?_); rintro e W13 ⟨rfl, hb1⟩)
  clear kf0 kf1 kf2 kf3 kf4 flf
  replace hB := Kept.mk (hB.out.trans ((hb1).mono hB.out.size))
  replace Vf := Kept.mk (Vf.out.keep (hb1))
  replace Vo := Kept.mk (Vo.out.keep (hb1))
  clear hb1
  obtain ⟨vpf, vwf, flf, kf0, kf1, kf2, kf3, kf4⟩ := Vf.out.open_
  rw [HZ_.out]
  go_wp2_with fail
  ((with_reducible refine (rfree_any F n _ _ flf HFF.out).mono ?_); rintro e W14 ⟨rfl, hb1⟩)
  clear kf0 kf1 kf2 kf3 kf4 flf
  replace hB := Kept.mk (hB.out.trans ((hb1).mono hB.out.size))
  replace Vf := Kept.mk (Vf.out.keep (hb1))
  replace Vo := Kept.mk (Vo.out.keep (hb1))
  clear hb1
  obtain ⟨vpf, vwf, flf, kf0, kf1, kf2, kf3, kf4⟩ := Vf.out.open_
  obtain ⟨vpo, vwo, flo, ko0, ko1, ko2, ko3, ko4⟩ := Vo.out.open_
  rw [HFR.out]
  go_wp2_with fail
  ((with_reducible refine (rfsame_any F O _ _ _ flf flo (by omega) (by omega) (by omega) (by omega)).mono ?_); rintro e W15 ⟨rfl, hb1⟩)
  clear kf0 kf1 kf2 kf3 kf4 flf
  clear ko0 ko1 ko2 ko3 ko4 flo
  replace hB := Kept.mk (hB.out.trans ((hb1).mono hB.out.size))
  replace Vf := Kept.mk (Vf.out.keep (hb1))
  replace Vo := Kept.mk (Vo.out.keep (hb1))
  clear hb1
  obtain ⟨vpf, vwf, flf, kf0, kf1, kf2, kf3, kf4⟩ := Vf.out.open_
  rw [HSM.out]
  go_wp2_with fail
  ((with_reducible refine (check_any F _ _ flf (by omega) (by omega)).mono ?_); rintro e W16 ⟨rfl, hb1⟩)
  clear kf0 kf1 kf2 kf3 kf4 flf
  replace hB := Kept.mk (hB.out.trans ((hb1).mono hB.out.size))
  replace Vf := Kept.mk (Vf.out.keep (hb1))
  replace Vo := Kept.mk (Vo.out.keep (hb1))
  clear hb1
  obtain ⟨vpf, vwf, flf, kf0, kf1, kf2, kf3, kf4⟩ := Vf.out.open_
  cases z with
  | false =>
    rw [check_no HZ_.out]
    go_wp2_with fail
    ((with_reducible refine (free_any F n _ _ flf (by omega) (by omega)).mono ?_); rintro e W17 ⟨rfl, hb1⟩)
    clear kf0 kf1 kf2 kf3 kf4 flf
    replace hB := Kept.mk (hB.out.trans ((hb1).mono hB.out.size))
    replace Vf := Kept.mk (Vf.out.keep (hb1))
    replace Vo := Kept.mk (Vo.out.keep (hb1))
    clear hb1
    obtain ⟨vpf, vwf, flf, kf0, kf1, kf2, kf3, kf4⟩ := Vf.out.open_
    obtain ⟨vpo, vwo, flo, ko0, ko1, ko2, ko3, ko4⟩ := Vo.out.open_
    rw [HFR.out]
    go_wp2_with fail
    ((with_reducible refine (same_any F O _ _ _ flf flo (by omega) (by omega) (by omega) (by omega)).mono ?_); rintro e W18 ⟨rfl, hb1⟩)
    clear kf0 kf1 kf2 kf3 kf4 flf
    clear ko0 ko1 ko2 ko3 ko4 flo
    replace hB := Kept.mk (hB.out.trans ((hb1).mono hB.out.size))
    replace Vf := Kept.mk (Vf.out.keep (hb1))
    replace Vo := Kept.mk (Vo.out.keep (hb1))
    clear hb1
    rw [HSM.out]
    go_wp2
    all_goals go_ret
    all_goals exact ⟨rfl, hB.out⟩
  | true =>
    rw [check_yes HZ_.out]
    go_wp2_with fail
    ((with_reducible refine (free_any F n _ _ flf (by omega) (by omega)).mono ?_); rintro e W17 ⟨rfl, hb1⟩)
    clear kf0 kf1 kf2 kf3 kf4 flf
    replace hB := Kept.mk (hB.out.trans ((hb1).mono hB.out.size))
    replace Vf := Kept.mk (Vf.out.keep (hb1))
    replace Vo := Kept.mk (Vo.out.keep (hb1))
    clear hb1
    obtain ⟨vpf, vwf, flf, kf0, kf1, kf2, kf3, kf4⟩ := Vf.out.open_
    obtain ⟨vpo, vwo, flo, ko0, ko1, ko2, ko3, ko4⟩ := Vo.out.open_
    rw [HFR.out]
    go_wp2_with fail
    ((with_reducible refine (same_any F O _ _ _ flf flo (by omega) (by omega) (by omega) (by omega)).mono ?_); rintro e W18 ⟨rfl, hb1⟩)
    clear kf0 kf1 kf2 kf3 kf4 flf
    clear ko0 ko1 ko2 ko3 ko4 flo
    replace hB := Kept.mk (hB.out.trans ((hb1).mono hB.out.size))
    replace Vf := Kept.mk (Vf.out.keep (hb1))
    replace Vo := Kept.mk (Vo.out.keep (hb1))
    clear hb1
    rw [HSM.out]
    go_wp2
    all_goals go_ret
    all_goals exact ⟨rfl, hB.out⟩
set_option maxRecDepth 100000 in
set_option maxHeartbeats 8000000 in
theorem flashTells_7 (F O : Fl) (v u : Value) (n m : Int) (s : List UInt8) (w : World) (hv : isFl F v w) (hu : isFl O u w) (hfew : fewB F = true) (hfo : fewB O = true) (ht : s.length ≤ 400) (hn : 8192 < n) (hm : 8192 < m) (hff : FewF F) :
    Calls Try.prog 3 #[v, u, .int .i64 n, .int .i64 m, .string ⟨s.toArray⟩] w fun e w' => e = .returned (.bool true) ∧ Below w.heap.size w w' := by
  obtain ⟨vp, vw, rfl, hp, hq⟩ := hv
  obtain ⟨up, uw, rfl, gp, gq⟩ := hu
  have HF := Kept.mk hfew
  have HO := Kept.mk hfo
  obtain ⟨hn1, hn2⟩ := few_facts hfew
  obtain ⟨on1, on2⟩ := few_facts hfo
  clear hfew hfo
  have hsz : (⟨s.toArray⟩ : ByteArray).size = s.length := size_mk s
  have d1 : decide (400 < (s.length : Int)) = false := by simp; omega
  have c3 : 400 < n := by omega
  have c4 : ¬ n ≤ 8192 := by omega
  have c5 : 400 < m := by omega
  have c6 : ¬ m ≤ 8192 := by omega
  have HFF := Kept.mk hff
  clear hff hn hm
  obtain ⟨lx1, lx2⟩ := new_len n m
  obtain ⟨ly1, ly2⟩ := wake_len F n s
  obtain ⟨lz1, lz2⟩ := rot_len F n m s
  obtain ⟨e1, he1⟩ : ∃ x : Int, newE n m = x := ⟨_, rfl⟩
  obtain ⟨X, hX⟩ : ∃ x : Fl, newF n m = x := ⟨_, rfl⟩
  obtain ⟨e2, he2⟩ : ∃ x : Int, wakeE F s = x := ⟨_, rfl⟩
  obtain ⟨Y, hY⟩ : ∃ x : Fl, wakeF F n s = x := ⟨_, rfl⟩
  obtain ⟨e3, he3⟩ : ∃ x : Int, rotE F n m s = x := ⟨_, rfl⟩
  obtain ⟨Z, hZ⟩ : ∃ x : Fl, rotF F n m s = x := ⟨_, rfl⟩
  rw [hX] at lx1 lx2
  rw [hY] at ly1 ly2
  rw [hZ] at lz1 lz2
  have He1 := Kept.mk he1
  have HX := Kept.mk hX
  have He2 := Kept.mk he2
  have HY := Kept.mk hY
  have He3 := Kept.mk he3
  have HZ := Kept.mk hZ
  have SX := Kept.mk (same_self X)
  have SY := Kept.mk (same_self Y)
  have SZ := Kept.mk (same_self Z)
  clear he1 hX he2 hY he3 hZ
  obtain ⟨z, hz⟩ : ∃ z, mayB F = z := ⟨_, rfl⟩
  obtain ⟨fr, hfr⟩ : ∃ z, freeB F n = z := ⟨_, rfl⟩
  obtain ⟨sm, hsm⟩ : ∃ z, sameB F O = z := ⟨_, rfl⟩
  have HZ_ := Kept.mk hz
  have HFR := Kept.mk hfr
  have HSM := Kept.mk hsm
  clear hz hfr hsm
  obtain ⟨hB, Vf⟩ := var_box w F vp vw hp hq
  obtain ⟨hB2, Vo⟩ := var_box (w.alloc (.cells #[vp, vw, .int .i64 F.fuse, strC F.torn, .bool F.dead] 25)) O up uw (stable_cells _ _ _ _ gp hB.out) (stable_cells _ _ _ _ gq hB.out)
  have hs1 : (w.alloc (.cells #[vp, vw, .int .i64 F.fuse, strC F.torn, .bool F.dead] 25)).heap.size = w.heap.size + 1 := by simp
  rw [hs1] at Vo
  replace Vf := Kept.mk (Vf.out.keep hB2.out)
  replace hB := Kept.mk (hB.out.trans (hB2.out.mono hB.out.size))
  clear hB2 hs1 hp hq gp gq
  go_enter Try.func3, Try.ntmps3
  go_wp2_with fail
  ((with_reducible refine (works_any _).mono ?_); rintro e W1 ⟨rfl, hb1⟩)
  replace hB := Kept.mk (hB.out.trans ((hb1).mono hB.out.size))
  replace Vf := Kept.mk (Vf.out.keep (hb1))
  replace Vo := Kept.mk (Vo.out.keep (hb1))
  clear hb1
  obtain ⟨vpf, vwf, flf, kf0, kf1, kf2, kf3, kf4⟩ := Vf.out.open_
  go_wp2_with fail
  ((with_reducible refine (few_any F _ _ flf).mono ?_); rintro e W2 ⟨rfl, hb1⟩)
  clear kf0 kf1 kf2 kf3 kf4 flf
  replace hB := Kept.mk (hB.out.trans ((hb1).mono hB.out.size))
  replace Vf := Kept.mk (Vf.out.keep (hb1))
  replace Vo := Kept.mk (Vo.out.keep (hb1))
  clear hb1
  obtain ⟨vpo, vwo, flo, ko0, ko1, ko2, ko3, ko4⟩ := Vo.out.open_
  rw [HF.out]
  go_wp2_with fail
  ((with_reducible refine (few_any O _ _ flo).mono ?_); rintro e W3 ⟨rfl, hb1⟩)
  clear ko0 ko1 ko2 ko3 ko4 flo
  replace hB := Kept.mk (hB.out.trans ((hb1).mono hB.out.size))
  replace Vf := Kept.mk (Vf.out.keep (hb1))
  replace Vo := Kept.mk (Vo.out.keep (hb1))
  clear hb1
  rw [HO.out]
  go_wp2_with fail
  ((with_reducible refine (new_any n m _).mono ?_); rintro e U ⟨v', rfl, hf', hb1⟩)
  rewrite [He1.out]
  rw [HX.out] at hf'
  obtain ⟨vp', vw', rfl, hp', hq'⟩ := hf'.fl
  have o1 := hp'.one
  have o2 := hq'.one
  obtain ⟨K1, K2, K3, K4⟩ := var_new U X vp' vw' hp' hq'
  clear hp' hq' hf'
  replace hB := Kept.mk (hB.out.trans ((hb1).mono hB.out.size))
  replace Vf := Kept.mk (Vf.out.keep (hb1))
  replace Vo := Kept.mk (Vo.out.keep (hb1))
  clear hb1
  go_wp2_with (refine wpList_store5 rfl (.tmp 13) (.tmp 66) rfl U.heap.size vp' vw' (.int .i64 X.fuse) (strC X.torn) (.bool X.dead) rfl rfl K1.out K2.out o1 o2 rfl rfl rfl ?_; replace hB := Kept.mk (hB.out.trans ((K3.out).mono hB.out.size)); replace Vf := Kept.mk (Vf.out.keep (K3.out)); replace Vo := Kept.mk (Vo.out.keep (K3.out)); have Va := K4; clear K1 K2 K3 K4 o1 o2; generalize set5 (U.alloc (.cells #[.slice none 0 0, .slice none 0 0, .int .i64 0, .string ⟨#[]⟩, .bool false] 25)) U.heap.size vp' vw' (.int .i64 X.fuse) (strC X.torn) (.bool X.dead) = W4 at *; generalize U.heap.size = ga at *)
  ((with_reducible refine (rnew_any n m _).mono ?_); rintro e U ⟨v', rfl, hf', hb1⟩)
  rewrite [He1.out]
  rw [HX.out] at hf'
  obtain ⟨vp', vw', rfl, hp', hq'⟩ := hf'
  have o1 := hp'.one
  have o2 := hq'.one
  obtain ⟨K1, K2, K3, K4⟩ := var_new U X vp' vw' hp' hq'
  clear hp' hq'
  replace hB := Kept.mk (hB.out.trans ((hb1).mono hB.out.size))
  replace Vf := Kept.mk (Vf.out.keep (hb1))
  replace Vo := Kept.mk (Vo.out.keep (hb1))
  replace Va := Kept.mk (Va.out.keep (hb1))
  clear hb1
  go_wp2_with (refine wpList_store5 rfl (.tmp 15) (.tmp 72) rfl U.heap.size vp' vw' (.int .i64 X.fuse) (strC X.torn) (.bool X.dead) rfl rfl K1.out K2.out o1 o2 rfl rfl rfl ?_; replace hB := Kept.mk (hB.out.trans ((K3.out).mono hB.out.size)); replace Vf := Kept.mk (Vf.out.keep (K3.out)); replace Vo := Kept.mk (Vo.out.keep (K3.out)); replace Va := Kept.mk (Va.out.keep (K3.out)); have Vb := K4; clear K1 K2 K3 K4 o1 o2; generalize set5 (U.alloc (.cells #[.slice none 0 0, .slice none 0 0, .int .i64 0, .string ⟨#[]⟩, .bool false] 25)) U.heap.size vp' vw' (.int .i64 X.fuse) (strC X.torn) (.bool X.dead) = W5 at *; generalize U.heap.size = gb at *; obtain ⟨vpf, vwf, flf, kf0, kf1, kf2, kf3, kf4⟩ := Vf.out.open_)
  ((with_reducible refine (wake_any F n s _ _ flf (by omega) (by omega)).mono ?_); rintro e U ⟨v', rfl, hf', hb1⟩)
  rewrite [He2.out]
  rw [HY.out] at hf'
  obtain ⟨vp', vw', rfl, hp', hq'⟩ := hf'.fl
  have o1 := hp'.one
  have o2 := hq'.one
  obtain ⟨K1, K2, K3, K4⟩ := var_new U Y vp' vw' hp' hq'
  clear hp' hq' hf'
  clear kf0 kf1 kf2 kf3 kf4 flf
  replace hB := Kept.mk (hB.out.trans ((hb1).mono hB.out.size))
  replace Vf := Kept.mk (Vf.out.keep (hb1))
  replace Vo := Kept.mk (Vo.out.keep (hb1))
  replace Va := Kept.mk (Va.out.keep (hb1))
  replace Vb := Kept.mk (Vb.out.keep (hb1))
  clear hb1
  go_wp2_with (refine wpList_store5 rfl (.tmp 17) (.tmp 79) rfl U.heap.size vp' vw' (.int .i64 Y.fuse) (strC Y.torn) (.bool Y.dead) rfl rfl K1.out K2.out o1 o2 rfl rfl rfl ?_; replace hB := Kept.mk (hB.out.trans ((K3.out).mono hB.out.size)); replace Vf := Kept.mk (Vf.out.keep (K3.out)); replace Vo := Kept.mk (Vo.out.keep (K3.out)); replace Va := Kept.mk (Va.out.keep (K3.out)); replace Vb := Kept.mk (Vb.out.keep (K3.out)); have Vc := K4; clear K1 K2 K3 K4 o1 o2; generalize set5 (U.alloc (.cells #[.slice none 0 0, .slice none 0 0, .int .i64 0, .string ⟨#[]⟩, .bool false] 25)) U.heap.size vp' vw' (.int .i64 Y.fuse) (strC Y.torn) (.bool Y.dead) = W6 at *; generalize U.heap.size = gc at *; obtain ⟨vpf, vwf, flf, kf0, kf1, kf2, kf3, kf4⟩ := Vf.out.open_)
  ((with_reducible refine (rwake_any F n s _ _ flf HFF.out (by omega)).mono ?_); rintro e U ⟨v', rfl, hf', hb1⟩)
  rewrite [He2.out]
  rw [HY.out] at hf'
  obtain ⟨vp', vw', rfl, hp', hq'⟩ := hf'
  have o1 := hp'.one
  have o2 := hq'.one
  obtain ⟨K1, K2, K3, K4⟩ := var_new U Y vp' vw' hp' hq'
  clear hp' hq'
  clear kf0 kf1 kf2 kf3 kf4 flf
  replace hB := Kept.mk (hB.out.trans ((hb1).mono hB.out.size))
  replace Vf := Kept.mk (Vf.out.keep (hb1))
  replace Vo := Kept.mk (Vo.out.keep (hb1))
  replace Va := Kept.mk (Va.out.keep (hb1))
  replace Vb := Kept.mk (Vb.out.keep (hb1))
  replace Vc := Kept.mk (Vc.out.keep (hb1))
  clear hb1
  go_wp2_with (refine wpList_store5 rfl (.tmp 19) (.tmp 86) rfl U.heap.size vp' vw' (.int .i64 Y.fuse) (strC Y.torn) (.bool Y.dead) rfl rfl K1.out K2.out o1 o2 rfl rfl rfl ?_; replace hB := Kept.mk (hB.out.trans ((K3.out).mono hB.out.size)); replace Vf := Kept.mk (Vf.out.keep (K3.out)); replace Vo := Kept.mk (Vo.out.keep (K3.out)); replace Va := Kept.mk (Va.out.keep (K3.out)); replace Vb := Kept.mk (Vb.out.keep (K3.out)); replace Vc := Kept.mk (Vc.out.keep (K3.out)); have Vd := K4; clear K1 K2 K3 K4 o1 o2; generalize set5 (U.alloc (.cells #[.slice none 0 0, .slice none 0 0, .int .i64 0, .string ⟨#[]⟩, .bool false] 25)) U.heap.size vp' vw' (.int .i64 Y.fuse) (strC Y.torn) (.bool Y.dead) = W7 at *; generalize U.heap.size = gd at *; obtain ⟨vpf, vwf, flf, kf0, kf1, kf2, kf3, kf4⟩ := Vf.out.open_)
  ((with_reducible refine (rot_any F n m s _ _ flf (by omega) (by omega) (by omega)).mono ?_); rintro e U ⟨v', rfl, hf', hb1⟩)
  rewrite [He3.out]
  rw [HZ.out] at hf'
  obtain ⟨vp', vw', rfl, hp', hq'⟩ := hf'.fl
  have o1 := hp'.one
  have o2 := hq'.one
  obtain ⟨K1, K2, K3, K4⟩ := var_new U Z vp' vw' hp' hq'
  clear hp' hq' hf'
  clear kf0 kf1 kf2 kf3 kf4 flf
  replace hB := Kept.mk (hB.out.trans ((hb1).mono hB.out.size))
  replace Vf := Kept.mk (Vf.out.keep (hb1))
  replace Vo := Kept.mk (Vo.out.keep (hb1))
  replace Va := Kept.mk (Va.out.keep (hb1))
  replace Vb := Kept.mk (Vb.out.keep (hb1))
  replace Vc := Kept.mk (Vc.out.keep (hb1))
  replace Vd := Kept.mk (Vd.out.keep (hb1))
  clear hb1
  go_wp2_with (refine wpList_store5 rfl (.tmp 21) (.tmp 94) rfl U.heap.size vp' vw' (.int .i64 Z.fuse) (strC Z.torn) (.bool Z.dead) rfl rfl K1.out K2.out o1 o2 rfl rfl rfl ?_; replace hB := Kept.mk (hB.out.trans ((K3.out).mono hB.out.size)); replace Vf := Kept.mk (Vf.out.keep (K3.out)); replace Vo := Kept.mk (Vo.out.keep (K3.out)); replace Va := Kept.mk (Va.out.keep (K3.out)); replace Vb := Kept.mk (Vb.out.keep (K3.out)); replace Vc := Kept.mk (Vc.out.keep (K3.out)); replace Vd := Kept.mk (Vd.out.keep (K3.out)); have Vx := K4; clear K1 K2 K3 K4 o1 o2; generalize set5 (U.alloc (.cells #[.slice none 0 0, .slice none 0 0, .int .i64 0, .string ⟨#[]⟩, .bool false] 25)) U.heap.size vp' vw' (.int .i64 Z.fuse) (strC Z.torn) (.bool Z.dead) = W8 at *; generalize U.heap.size = gx at *; obtain ⟨vpf, vwf, flf, kf0, kf1, kf2, kf3, kf4⟩ := Vf.out.open_)
  ((with_reducible refine (rrot_any F n m s _ _ flf HFF.out (by omega)).mono ?_); rintro e U ⟨v', rfl, hf', hb1⟩)
  rewrite [He3.out]
  rw [HZ.out] at hf'
  obtain ⟨vp', vw', rfl, hp', hq'⟩ := hf'
  have o1 := hp'.one
  have o2 := hq'.one
  obtain ⟨K1, K2, K3, K4⟩ := var_new U Z vp' vw' hp' hq'
  clear hp' hq'
  clear kf0 kf1 kf2 kf3 kf4 flf
  replace hB := Kept.mk (hB.out.trans ((hb1).mono hB.out.size))
  replace Vf := Kept.mk (Vf.out.keep (hb1))
  replace Vo := Kept.mk (Vo.out.keep (hb1))
  replace Va := Kept.mk (Va.out.keep (hb1))
  replace Vb := Kept.mk (Vb.out.keep (hb1))
  replace Vc := Kept.mk (Vc.out.keep (hb1))
  replace Vd := Kept.mk (Vd.out.keep (hb1))
  replace Vx := Kept.mk (Vx.out.keep (hb1))
  clear hb1
  go_wp2_with (refine wpList_store5 rfl (.tmp 23) (.tmp 102) rfl U.heap.size vp' vw' (.int .i64 Z.fuse) (strC Z.torn) (.bool Z.dead) rfl rfl K1.out K2.out o1 o2 rfl rfl rfl ?_; replace hB := Kept.mk (hB.out.trans ((K3.out).mono hB.out.size)); replace Vf := Kept.mk (Vf.out.keep (K3.out)); replace Vo := Kept.mk (Vo.out.keep (K3.out)); replace Va := Kept.mk (Va.out.keep (K3.out)); replace Vb := Kept.mk (Vb.out.keep (K3.out)); replace Vc := Kept.mk (Vc.out.keep (K3.out)); replace Vd := Kept.mk (Vd.out.keep (K3.out)); replace Vx := Kept.mk (Vx.out.keep (K3.out)); have Vy := K4; clear K1 K2 K3 K4 o1 o2; generalize set5 (U.alloc (.cells #[.slice none 0 0, .slice none 0 0, .int .i64 0, .string ⟨#[]⟩, .bool false] 25)) U.heap.size vp' vw' (.int .i64 Z.fuse) (strC Z.torn) (.bool Z.dead) = W9 at *; generalize U.heap.size = gy at *; obtain ⟨vpa, vwa, fla, ka0, ka1, ka2, ka3, ka4⟩ := Va.out.open_; obtain ⟨vpb, vwb, flb, kb0, kb1, kb2, kb3, kb4⟩ := Vb.out.open_)
  ((with_reducible refine (rfsame_any X X _ _ _ fla flb (by omega) (by omega) (by omega) (by omega)).mono ?_); rintro e W10 ⟨rfl, hb1⟩)
  clear ka0 ka1 ka2 ka3 ka4 fla
  clear kb0 kb1 kb2 kb3 kb4 flb
  replace hB := Kept.mk (hB.out.trans ((hb1).mono hB.out.size))
  replace Vf := Kept.mk (Vf.out.keep (hb1))
  replace Vo := Kept.mk (Vo.out.keep (hb1))
  replace Va := Kept.mk (Va.out.keep (hb1))
  replace Vb := Kept.mk (Vb.out.keep (hb1))
  replace Vc := Kept.mk (Vc.out.keep (hb1))
  replace Vd := Kept.mk (Vd.out.keep (hb1))
  replace Vx := Kept.mk (Vx.out.keep (hb1))
  replace Vy := Kept.mk (Vy.out.keep (hb1))
  clear hb1
  obtain ⟨vpc, vwc, flc, kc0, kc1, kc2, kc3, kc4⟩ := Vc.out.open_
  obtain ⟨vpd, vwd, fld, kd0, kd1, kd2, kd3, kd4⟩ := Vd.out.open_
  rw [SX.out]
  go_wp2_with fail
  ((with_reducible refine (rfsame_any Y Y _ _ _ flc fld (by omega) (by omega) (by omega) (by omega)).mono ?_); rintro e W11 ⟨rfl, hb1⟩)
  clear kc0 kc1 kc2 kc3 kc4 flc
  clear kd0 kd1 kd2 kd3 kd4 fld
  replace hB := Kept.mk (hB.out.trans ((hb1).mono hB.out.size))
  replace Vf := Kept.mk (Vf.out.keep (hb1))
  replace Vo := Kept.mk (Vo.out.keep (hb1))
  replace Va := Kept.mk (Va.out.keep (hb1))
  replace Vb := Kept.mk (Vb.out.keep (hb1))
  replace Vc := Kept.mk (Vc.out.keep (hb1))
  replace Vd := Kept.mk (Vd.out.keep (hb1))
  replace Vx := Kept.mk (Vx.out.keep (hb1))
  replace Vy := Kept.mk (Vy.out.keep (hb1))
  clear hb1
  obtain ⟨vpx, vwx, flx, kx0, kx1, kx2, kx3, kx4⟩ := Vx.out.open_
  obtain ⟨vpy, vwy, fly, ky0, ky1, ky2, ky3, ky4⟩ := Vy.out.open_
  rw [SY.out]
  go_wp2_with fail
  ((with_reducible refine (rfsame_any Z Z _ _ _ flx fly (by omega) (by omega) (by omega) (by omega)).mono ?_); rintro e W12 ⟨rfl, hb1⟩)
  clear kx0 kx1 kx2 kx3 kx4 flx
  clear ky0 ky1 ky2 ky3 ky4 fly
  replace hB := Kept.mk (hB.out.trans ((hb1).mono hB.out.size))
  replace Vf := Kept.mk (Vf.out.keep (hb1))
  replace Vo := Kept.mk (Vo.out.keep (hb1))
  replace Va := Kept.mk (Va.out.keep (hb1))
  replace Vb := Kept.mk (Vb.out.keep (hb1))
  replace Vc := Kept.mk (Vc.out.keep (hb1))
  replace Vd := Kept.mk (Vd.out.keep (hb1))
  replace Vx := Kept.mk (Vx.out.keep (hb1))
  replace Vy := Kept.mk (Vy.out.keep (hb1))
  clear hb1
  obtain ⟨vpf, vwf, flf, kf0, kf1, kf2, kf3, kf4⟩ := Vf.out.open_
  rw [SZ.out]
  go_wp2_with fail
  clear Va Vb Vc Vd Vx Vy
  ((with_reducible refine (rfcheck_any F _ _ flf HFF.out).mono ?_); rintro e W13 ⟨rfl, hb1⟩)
  clear kf0 kf1 kf2 kf3 kf4 flf
  replace hB := Kept.mk (hB.out.trans ((hb1).mono hB.out.size))
  replace Vf := Kept.mk (Vf.out.keep (hb1))
  replace Vo := Kept.mk (Vo.out.keep (hb1))
  clear hb1
  obtain ⟨vpf, vwf, flf, kf0, kf1, kf2, kf3, kf4⟩ := Vf.out.open_
  rw [HZ_.out]
  go_wp2_with fail
  ((with_reducible refine (rfree_any F n _ _ flf HFF.out).mono ?_); rintro e W14 ⟨rfl, hb1⟩)
  clear kf0 kf1 kf2 kf3 kf4 flf
  replace hB := Kept.mk (hB.out.trans ((hb1).mono hB.out.size))
  replace Vf := Kept.mk (Vf.out.keep (hb1))
  replace Vo := Kept.mk (Vo.out.keep (hb1))
  clear hb1
  obtain ⟨vpf, vwf, flf, kf0, kf1, kf2, kf3, kf4⟩ := Vf.out.open_
  obtain ⟨vpo, vwo, flo, ko0, ko1, ko2, ko3, ko4⟩ := Vo.out.open_
  rw [HFR.out]
  go_wp2_with fail
  ((with_reducible refine (rfsame_any F O _ _ _ flf flo (by omega) (by omega) (by omega) (by omega)).mono ?_); rintro e W15 ⟨rfl, hb1⟩)
  clear kf0 kf1 kf2 kf3 kf4 flf
  clear ko0 ko1 ko2 ko3 ko4 flo
  replace hB := Kept.mk (hB.out.trans ((hb1).mono hB.out.size))
  replace Vf := Kept.mk (Vf.out.keep (hb1))
  replace Vo := Kept.mk (Vo.out.keep (hb1))
  clear hb1
  obtain ⟨vpf, vwf, flf, kf0, kf1, kf2, kf3, kf4⟩ := Vf.out.open_
  rw [HSM.out]
  go_wp2_with fail
  ((with_reducible refine (check_any F _ _ flf (by omega) (by omega)).mono ?_); rintro e W16 ⟨rfl, hb1⟩)
  clear kf0 kf1 kf2 kf3 kf4 flf
  replace hB := Kept.mk (hB.out.trans ((hb1).mono hB.out.size))
  replace Vf := Kept.mk (Vf.out.keep (hb1))
  replace Vo := Kept.mk (Vo.out.keep (hb1))
  clear hb1
  obtain ⟨vpf, vwf, flf, kf0, kf1, kf2, kf3, kf4⟩ := Vf.out.open_
  cases z with
  | false =>
    rw [check_no HZ_.out]
    go_wp2_with fail
    ((with_reducible refine (free_any F n _ _ flf (by omega) (by omega)).mono ?_); rintro e W17 ⟨rfl, hb1⟩)
    clear kf0 kf1 kf2 kf3 kf4 flf
    replace hB := Kept.mk (hB.out.trans ((hb1).mono hB.out.size))
    replace Vf := Kept.mk (Vf.out.keep (hb1))
    replace Vo := Kept.mk (Vo.out.keep (hb1))
    clear hb1
    obtain ⟨vpf, vwf, flf, kf0, kf1, kf2, kf3, kf4⟩ := Vf.out.open_
    obtain ⟨vpo, vwo, flo, ko0, ko1, ko2, ko3, ko4⟩ := Vo.out.open_
    rw [HFR.out]
    go_wp2_with fail
    ((with_reducible refine (same_any F O _ _ _ flf flo (by omega) (by omega) (by omega) (by omega)).mono ?_); rintro e W18 ⟨rfl, hb1⟩)
    clear kf0 kf1 kf2 kf3 kf4 flf
    clear ko0 ko1 ko2 ko3 ko4 flo
    replace hB := Kept.mk (hB.out.trans ((hb1).mono hB.out.size))
    replace Vf := Kept.mk (Vf.out.keep (hb1))
    replace Vo := Kept.mk (Vo.out.keep (hb1))
    clear hb1
    rw [HSM.out]
    go_wp2
    all_goals go_ret
    all_goals exact ⟨rfl, hB.out⟩
  | true =>
    rw [check_yes HZ_.out]
    go_wp2_with fail
    ((with_reducible refine (free_any F n _ _ flf (by omega) (by omega)).mono ?_); rintro e W17 ⟨rfl, hb1⟩)
    clear kf0 kf1 kf2 kf3 kf4 flf
    replace hB := Kept.mk (hB.out.trans ((hb1).mono hB.out.size))
    replace Vf := Kept.mk (Vf.out.keep (hb1))
    replace Vo := Kept.mk (Vo.out.keep (hb1))
    clear hb1
    obtain ⟨vpf, vwf, flf, kf0, kf1, kf2, kf3, kf4⟩ := Vf.out.open_
    obtain ⟨vpo, vwo, flo, ko0, ko1, ko2, ko3, ko4⟩ := Vo.out.open_
    rw [HFR.out]
    go_wp2_with fail
    ((with_reducible refine (same_any F O _ _ _ flf flo (by omega) (by omega) (by omega) (by omega)).mono ?_); rintro e W18 ⟨rfl, hb1⟩)
    clear kf0 kf1 kf2 kf3 kf4 flf
    clear ko0 ko1 ko2 ko3 ko4 flo
    replace hB := Kept.mk (hB.out.trans ((hb1).mono hB.out.size))
    replace Vf := Kept.mk (Vf.out.keep (hb1))
    replace Vo := Kept.mk (Vo.out.keep (hb1))
    clear hb1
    rw [HSM.out]
    go_wp2
    all_goals go_ret
    all_goals exact ⟨rfl, hB.out⟩

theorem flashTells_walk (F0 : Fl) (v0 : Value) (F1 : Fl) (v1 : Value) (a2 a3 : Int) (a4 : ByteArray) (c0 : Came F0) (c1 : Came F1) (w2 : (Lit.int .i64 a2).wf = true) (w3 : (Lit.int .i64 a3).wf = true) (w4 : a4.size ≤ maxLen) (w : World) (hv : isFl F0 v0 w) (hu : isFl F1 v1 w) :
    Calls Try.prog 3 #[v0, v1, .int .i64 a2, .int .i64 a3, .string a4] w fun e w' => e = .returned (.bool true) ∧ Below w.heap.size w w' := by
  rw [str_eta a4]
  generalize a4.data.toList = s
  cases hfew : fewB F0 with
  | false => exact flashTells_1 F0 F1 v0 v1 a2 a3 s w hv hu hfew
  | true =>
    cases hfo : fewB F1 with
    | false => exact flashTells_2 F0 F1 v0 v1 a2 a3 s w hv hu hfew hfo
    | true =>
      by_cases hl : (400 < s.length) ∨ ((400 < a2 ∧ a2 ≤ 8192) ∨ (400 < a3 ∧ a3 ≤ 8192))
      · exact flashTells_3 F0 F1 v0 v1 a2 a3 s w hv hu hfew hfo hl
      · obtain ⟨q1, q2⟩ := few_facts hfew
        have hff : FewF F0 := ⟨by omega, by omega, by have := c0.torn; unfold maxLen at this; omega, fun p hp => by have := c0.pages p hp; unfold maxLen at this; omega⟩
        by_cases hn : 400 < a2
        · by_cases hm : 400 < a3
          · exact flashTells_7 F0 F1 v0 v1 a2 a3 s w hv hu hfew hfo (by omega) (by omega) (by omega) hff
          · exact flashTells_6 F0 F1 v0 v1 a2 a3 s w hv hu hfew hfo (by omega) (by omega) hm hff
        · by_cases hm : 400 < a3
          · exact flashTells_5 F0 F1 v0 v1 a2 a3 s w hv hu hfew hfo (by omega) hn (by omega) hff
          · exact flashTells_4 F0 F1 v0 v1 a2 a3 s w hv hu hfew hfo (by omega) hn hm hff

set_option maxRecDepth 100000 in
theorem flashTells_lifted (os : Os) (started : os.Started) (H : Type) (enc : TypeId × Value → H) :
    ReturnsInHanded {} Try.checked os 3 .any (Rows.flashTellsSpec.pre6 enc Try.prog Try.f3 Rows.flashTellsRow.domain false) (Rows.flashTellsSpec.post enc Try.prog Try.f3 false true false false) := by
  refine returnsInHanded_of_change (C := Try.checked) (by kernel_rfl : ownKnob Try.prog.godebug = none) started (by kernel_rfl) Try.func3
    (ChangeSpec.witness6 (enc := enc) (C := Try.checked) false ⟨#[], #[.agg #[.slice none 0 0, .slice none 0 0, .int .i64 0, .string ByteArray.empty, .bool false], .agg #[.slice none 0 0, .slice none 0 0, .int .i64 0, .string ByteArray.empty, .bool false], .int .i64 0, .int .i64 0, .string ByteArray.empty], []⟩ 8 (by kernel_rfl) (by kernel_rfl) (by kernel_rfl) (by kernel_rfl)) ?_
  intro W base args ds gs before hval0 hW hcnd _
  have hval : ∀ (j : Nat) t v, Try.f3.params[j]? = some t → args[j]? = some v → Value.okWide Try.prog W .any base t v := hval0
  have hW' := hW
  obtain ⟨p, q, hA0, hV, rfl, hfz, hnd⟩ := hW
  have hA : DataW.TrodAll enc Try.prog W 0 (fun _ => true) true Try.f3.params.toList args.toList ds p := hA0
  rw [Try.params3] at hA hval
  obtain ⟨v0, vs0, d0, ds0, p0, q0, hargs, rfl, rfl, h0, r0⟩ := trodAll_cons hA
  obtain ⟨v1, vs1, d1, ds1, p1, q1, rfl, rfl, rfl, h1, r1⟩ := trodAll_cons r0
  obtain ⟨v2, vs2, d2, ds2, p2, q2, rfl, rfl, rfl, h2, r2⟩ := trodAll_cons r1
  obtain ⟨v3, vs3, d3, ds3, p3, q3, rfl, rfl, rfl, h3, r3⟩ := trodAll_cons r2
  obtain ⟨v4, vs4, d4, ds4, p4, q4, rfl, rfl, rfl, h4, r4⟩ := trodAll_cons r3
  obtain ⟨rfl, rfl, rfl⟩ := trodAll_nil r4
  obtain rfl : args = #[v0, v1, v2, v3, v4] := by cases args; simp_all
  obtain ⟨rfl, rfl⟩ := trodVars_none hV
  obtain ⟨F0, fl0, w0, z0⟩ := open_flash (hval 0 25 v0 rfl rfl) h0
  have lt0 : ∀ x ∈ p0, x.block < W.heap.size := fun x hx => by obtain ⟨fuel, hf⟩ := h0; exact DataW.trod_lt fuel _ _ _ hf x hx
  obtain ⟨F1, fl1, w1, z1⟩ := open_flash (hval 1 25 v1 rfl rfl) h1
  have lt1 : ∀ x ∈ p1, x.block < W.heap.size := fun x hx => by obtain ⟨fuel, hf⟩ := h1; exact DataW.trod_lt fuel _ _ _ hf x hx
  obtain ⟨a2, rfl, rfl, rfl, w2⟩ := open_int Try.underlying3 (hval 2 3 v2 rfl rfl) h2
  obtain ⟨a3, rfl, rfl, rfl, w3⟩ := open_int Try.underlying3 (hval 3 3 v3 rfl rfl) h3
  obtain ⟨a4, rfl, rfl, rfl, w4⟩ := open_string Try.underlying9 (hval 4 9 v4 rfl rfl) h4
  clear hA0 hval0
  simp only [List.append_nil] at hW'
  refine (flashTells_walk F0 v0 F1 v1 a2 a3 a4 w0 w1 w2 w3 w4 W fl0 fl1).mono fun e W' ⟨he, bel⟩ => ?_
  subst he
  exact ⟨_, rfl, _, _, _, [], _, [], hW', trodAll_mk1 (shut_bool Try.underlying4 _), (trodAll_cons_mk (Below.trod (by kernel_rfl) (by kernel_rfl) (of_decide_eq_true (by kernel_rfl)) h0 bel lt0) (trodAll_cons_mk (Below.trod (by kernel_rfl) (by kernel_rfl) (of_decide_eq_true (by kernel_rfl)) h1 bel lt1) (trodAll_cons_mk (shut_int Try.underlying3 w2) (trodAll_cons_mk (shut_int Try.underlying3 w3) (trodAll_cons_mk (shut_string Try.underlying9 w4) trodAll_mk0))))), rfl, bel.frame _, fun h => by cases h⟩
/-- THE STATEMENT. -/
theorem flashTells_proved : Rows.FlashTellsSaid :=
  OpenClaim.holds_of_wide 3 Try.f3 rfl rfl rfl rfl rfl rfl rfl ⟨rfl, rfl, rfl, rfl, rfl⟩ rfl rfl rfl rfl rfl (by kernel_rfl) Try.func3 (by kernel_rfl)
    (of_decide_eq_true (by kernel_rfl)) (by unfold Func.isWrapper; first | (rw [if_pos (by decide +kernel)]; kernel_rfl) | (rw [if_neg (by decide +kernel)]; exact ⟨rfl, rfl⟩))
    (fun os started H enc _ => flashTells_lifted os started H enc)
#print axioms flashTells_proved
end Go.Proofs.Ytpjafjnokgeifaa
