/- FlashBetween: a program that fits. -/
import Derived.Test.YtipiioggdalkoaaFlBetA
namespace Go.Proofs.Ytipiioggdalkoaa
open Go.ChangeShapes Go.WideShapes Go.ChangeAt Go.RowKit
open Go.ChangeMaps (open_string shut_string)
set_option linter.unusedVariables false
set_option linter.unusedSimpArgs false
attribute [local irreducible] set5
set_option maxRecDepth 100000 in
set_option maxHeartbeats 8000000 in
theorem flashBetween_7 (F : Fl) (v : Value) (k : Nat) (at_ : Int) (s torn : List UInt8) (w : World) (hv : isFl F v w) (W V A B C D : Fl) (p cP aP bP : List UInt8) (x1 x2 : Int) (hfew : fewB F = true) (hs : s.length ≤ 400) (hk : k < F.pages.length) (hmm : F.wear.length = F.pages.length) (hx0 : 0 ≤ x2) (hx1 : x2 ≤ 2147483647) (HX : Kept ((if (2147483647 : Int) < x2 + 1 then 2147483647 else x2 + 1) = x1))
    (HCD : Kept (C.dead = true ∧ D.dead = false ∧ C.pages.length = F.pages.length ∧ D.pages.length = F.pages.length ∧ C.wear.length = F.wear.length ∧ D.wear.length = F.wear.length ∧ C.pages[k]? = some cP ∧ F.pages[k]? = some p ∧ D.wear[k]? = some x1 ∧ F.wear[k]? = some x2 ∧ C.wear = F.wear)) (hcp : cP.length ≤ 10000) (hpp : p.length ≤ 10000) (HOR : Kept (pairL (· ||| ·) p cP = cP)) (hap : aP.length ≤ 10000) (hbp : bP.length ≤ 10000) (HAND : Kept (pairL (· &&& ·) p aP = aP)) (HOR2 : Kept (pairL (· ||| ·) aP bP = aP)) (HAB : Kept (A.dead = true ∧ B.dead = false ∧ A.pages.length = F.pages.length ∧ B.pages.length = F.pages.length ∧ A.wear.length = F.wear.length ∧ B.wear.length = F.wear.length ∧ A.pages[k]? = some aP ∧ B.pages[k]? = some bP ∧ A.wear = F.wear)) (HOTH : Kept (∀ j, j ≠ k → A.pages[j]? = F.pages[j]? ∧ B.pages[j]? = F.pages[j]? ∧ C.pages[j]? = F.pages[j]? ∧ D.pages[j]? = F.pages[j]?)) (HFR : Kept (∀ (v : Value) (w : World), isFl D v w → Calls Try.prog 24 #[v, .int .i64 (k : Int)] w fun e w' => e = .returned (.bool true) ∧ Below w.heap.size w w'))
    (HW : Kept (∀ (v : Value) (w : World), isFl F v w → Calls Try.prog 17 #[v, .int .i64 0, .string ⟨torn.toArray⟩] w fun e w' => ∃ v', e = .returned (.tuple #[v', .int .i64 0]) ∧ isFlN w.heap.size W v' w' ∧ Below w.heap.size w w')) (HV : Kept (∀ (v : Value) (w : World), isFl F v w → Calls Try.prog 17 #[v, .int .i64 (-1), .string ⟨torn.toArray⟩] w fun e w' => ∃ v', e = .returned (.tuple #[v', .int .i64 0]) ∧ isFlN w.heap.size V v' w' ∧ Below w.heap.size w w'))
    (HA : Kept (∀ (v : Value) (w : World), isFl W v w → Calls Try.prog 12 #[v, .int .i64 (k : Int), .int .i64 at_, .string ⟨s.toArray⟩] w fun e w' => ∃ v', e = .returned (.tuple #[v', .int .i64 8]) ∧ isFlN w.heap.size A v' w' ∧ Below w.heap.size w w')) (HB : Kept (∀ (v : Value) (w : World), isFl V v w → Calls Try.prog 12 #[v, .int .i64 (k : Int), .int .i64 at_, .string ⟨s.toArray⟩] w fun e w' => ∃ v', e = .returned (.tuple #[v', .int .i64 0]) ∧ isFlN w.heap.size B v' w' ∧ Below w.heap.size w w'))
    (HC : Kept (∀ (v : Value) (w : World), isFl W v w → Calls Try.prog 10 #[v, .int .i64 (k : Int)] w fun e w' => ∃ v', e = .returned (.tuple #[v', .int .i64 8]) ∧ isFlN w.heap.size C v' w' ∧ Below w.heap.size w w')) (HD : Kept (∀ (v : Value) (w : World), isFl V v w → Calls Try.prog 10 #[v, .int .i64 (k : Int)] w fun e w' => ∃ v', e = .returned (.tuple #[v', .int .i64 0]) ∧ isFlN w.heap.size D v' w' ∧ Below w.heap.size w w')) :
    Calls Try.prog 5 #[v, .int .i64 (k : Int), .int .i64 at_, .string ⟨s.toArray⟩, .string ⟨torn.toArray⟩] w fun e w' => e = .returned (.bool true) ∧ Below w.heap.size w w' := by
  obtain ⟨vp, vw, rfl, hp, hq⟩ := hv
  have HF := Kept.mk hfew
  obtain ⟨hn1, hn2⟩ := few_facts hfew
  clear hfew
  have hsz : (⟨s.toArray⟩ : ByteArray).size = s.length := size_mk s
  have c1 : decide (400 < (s.length : Int)) = false := by simp; omega
  have hm1 := Nat.le_of_eq hmm
  have hm2 := Nat.le_of_eq hmm.symm
  clear hmm
  have d0 : decide ((k : Int) < 0) = false := by simp
  have d1 : decide ((F.pages.length : Int) ≤ (k : Int)) = false := by simp; omega
  have d1' : decide (F.pages.length ≤ k) = false := by simp; omega
  obtain ⟨hB, Vf⟩ := var_box w F vp vw hp hq
  clear hp hq
  go_enter Try.func5, Try.ntmps5
  go_wp2_with fail
  ((with_reducible refine (works_any _).mono ?_); rintro e W1 ⟨rfl, hb1⟩)
  replace hB := Kept.mk (hB.out.trans ((hb1).mono hB.out.size))
  replace Vf := Kept.mk (Vf.out.keep (hb1))
  clear hb1
  obtain ⟨vpf, vwf, flf, kf0, kf1, kf2, kf3, kf4⟩ := Vf.out.open_
  go_wp2_with fail
  ((with_reducible refine (few_any F _ _ flf).mono ?_); rintro e W2 ⟨rfl, hb1⟩)
  clear kf0 kf1 kf2 kf3 kf4 flf
  replace hB := Kept.mk (hB.out.trans ((hb1).mono hB.out.size))
  replace Vf := Kept.mk (Vf.out.keep (hb1))
  clear hb1
  obtain ⟨vpf, vwf, flf, kf0, kf1, kf2, kf3, kf4⟩ := Vf.out.open_
  rw [HF.out]
  go_wp2_with fail
  ((with_reducible refine (HW.out _ _ flf).mono ?_); rintro e U ⟨v', rfl, hf', hb1⟩)
  obtain ⟨vp', vw', rfl, hp', hq'⟩ := hf'.fl
  have o1 := hp'.one
  have o2 := hq'.one
  obtain ⟨K1, K2, K3, K4⟩ := var_new U W vp' vw' hp' hq'
  clear hp' hq' hf'
  clear kf0 kf1 kf2 kf3 kf4 flf
  replace hB := Kept.mk (hB.out.trans ((hb1).mono hB.out.size))
  replace Vf := Kept.mk (Vf.out.keep (hb1))
  clear hb1
  go_wp2_with (refine wpList_store5 rfl (.tmp 13) (.tmp 45) rfl U.heap.size vp' vw' (.int .i64 W.fuse) (strC W.torn) (.bool W.dead) rfl rfl K1.out K2.out o1 o2 rfl rfl rfl ?_; replace hB := Kept.mk (hB.out.trans ((K3.out).mono hB.out.size)); replace Vf := Kept.mk (Vf.out.keep (K3.out)); have Vw := K4; clear K1 K2 K3 K4 o1 o2; generalize set5 (U.alloc (.cells #[.slice none 0 0, .slice none 0 0, .int .i64 0, .string ⟨#[]⟩, .bool false] 25)) U.heap.size vp' vw' (.int .i64 W.fuse) (strC W.torn) (.bool W.dead) = W3 at *; generalize U.heap.size = gw at *; obtain ⟨vpf, vwf, flf, kf0, kf1, kf2, kf3, kf4⟩ := Vf.out.open_)
  ((with_reducible refine (HV.out _ _ flf).mono ?_); rintro e U ⟨v', rfl, hf', hb1⟩)
  obtain ⟨vp', vw', rfl, hp', hq'⟩ := hf'.fl
  have o1 := hp'.one
  have o2 := hq'.one
  obtain ⟨K1, K2, K3, K4⟩ := var_new U V vp' vw' hp' hq'
  clear hp' hq' hf'
  clear kf0 kf1 kf2 kf3 kf4 flf
  replace hB := Kept.mk (hB.out.trans ((hb1).mono hB.out.size))
  replace Vf := Kept.mk (Vf.out.keep (hb1))
  replace Vw := Kept.mk (Vw.out.keep (hb1))
  clear hb1
  go_wp2_with (refine wpList_store5 rfl (.tmp 15) (.tmp 51) rfl U.heap.size vp' vw' (.int .i64 V.fuse) (strC V.torn) (.bool V.dead) rfl rfl K1.out K2.out o1 o2 rfl rfl rfl ?_; replace hB := Kept.mk (hB.out.trans ((K3.out).mono hB.out.size)); replace Vf := Kept.mk (Vf.out.keep (K3.out)); replace Vw := Kept.mk (Vw.out.keep (K3.out)); have Vv := K4; clear K1 K2 K3 K4 o1 o2; generalize set5 (U.alloc (.cells #[.slice none 0 0, .slice none 0 0, .int .i64 0, .string ⟨#[]⟩, .bool false] 25)) U.heap.size vp' vw' (.int .i64 V.fuse) (strC V.torn) (.bool V.dead) = W4 at *; generalize U.heap.size = gv at *; obtain ⟨vpf, vwf, flf, kf0, kf1, kf2, kf3, kf4⟩ := Vf.out.open_; obtain ⟨af, cf, hvf⟩ := (isFlp flf).len; rw [List.length_map] at hvf; subst hvf; clear flf kf1 kf2 kf3 kf4; obtain ⟨vpw, vww, flw, kw0, kw1, kw2, kw3, kw4⟩ := Vw.out.open_)
  clear kf0
  ((with_reducible refine (HA.out _ _ flw).mono ?_); rintro e U ⟨v', rfl, hf', hb1⟩)
  obtain ⟨vp', vw', rfl, hp', hq'⟩ := hf'.fl
  have o1 := hp'.one
  have o2 := hq'.one
  obtain ⟨K1, K2, K3, K4⟩ := var_new U A vp' vw' hp' hq'
  clear hp' hq' hf'
  clear kw0 kw1 kw2 kw3 kw4 flw
  replace hB := Kept.mk (hB.out.trans ((hb1).mono hB.out.size))
  replace Vf := Kept.mk (Vf.out.keep (hb1))
  replace Vw := Kept.mk (Vw.out.keep (hb1))
  replace Vv := Kept.mk (Vv.out.keep (hb1))
  clear hb1
  go_wp2_with (refine wpList_store5 rfl (.tmp 17) (.tmp 82) rfl U.heap.size vp' vw' (.int .i64 A.fuse) (strC A.torn) (.bool A.dead) rfl rfl K1.out K2.out o1 o2 rfl rfl rfl ?_; replace hB := Kept.mk (hB.out.trans ((K3.out).mono hB.out.size)); replace Vf := Kept.mk (Vf.out.keep (K3.out)); replace Vw := Kept.mk (Vw.out.keep (K3.out)); replace Vv := Kept.mk (Vv.out.keep (K3.out)); have Va := K4; clear K1 K2 K3 K4 o1 o2; generalize set5 (U.alloc (.cells #[.slice none 0 0, .slice none 0 0, .int .i64 0, .string ⟨#[]⟩, .bool false] 25)) U.heap.size vp' vw' (.int .i64 A.fuse) (strC A.torn) (.bool A.dead) = W5 at *; generalize U.heap.size = ga at *; obtain ⟨vpv, vwv, flv, kv0, kv1, kv2, kv3, kv4⟩ := Vv.out.open_)
  ((with_reducible refine (HB.out _ _ flv).mono ?_); rintro e U ⟨v', rfl, hf', hb1⟩)
  obtain ⟨vp', vw', rfl, hp', hq'⟩ := hf'.fl
  have o1 := hp'.one
  have o2 := hq'.one
  obtain ⟨K1, K2, K3, K4⟩ := var_new U B vp' vw' hp' hq'
  clear hp' hq' hf'
  clear kv0 kv1 kv2 kv3 kv4 flv
  replace hB := Kept.mk (hB.out.trans ((hb1).mono hB.out.size))
  replace Vf := Kept.mk (Vf.out.keep (hb1))
  replace Vw := Kept.mk (Vw.out.keep (hb1))
  replace Vv := Kept.mk (Vv.out.keep (hb1))
  replace Va := Kept.mk (Va.out.keep (hb1))
  clear hb1
  go_wp2_with (refine wpList_store5 rfl (.tmp 19) (.tmp 90) rfl U.heap.size vp' vw' (.int .i64 B.fuse) (strC B.torn) (.bool B.dead) rfl rfl K1.out K2.out o1 o2 rfl rfl rfl ?_; replace hB := Kept.mk (hB.out.trans ((K3.out).mono hB.out.size)); replace Vf := Kept.mk (Vf.out.keep (K3.out)); replace Vw := Kept.mk (Vw.out.keep (K3.out)); replace Vv := Kept.mk (Vv.out.keep (K3.out)); replace Va := Kept.mk (Va.out.keep (K3.out)); have Vb := K4; clear K1 K2 K3 K4 o1 o2; generalize set5 (U.alloc (.cells #[.slice none 0 0, .slice none 0 0, .int .i64 0, .string ⟨#[]⟩, .bool false] 25)) U.heap.size vp' vw' (.int .i64 B.fuse) (strC B.torn) (.bool B.dead) = W6 at *; generalize U.heap.size = gb at *; obtain ⟨vpw, vww, flw, kw0, kw1, kw2, kw3, kw4⟩ := Vw.out.open_)
  ((with_reducible refine (HC.out _ _ flw).mono ?_); rintro e U ⟨v', rfl, hf', hb1⟩)
  obtain ⟨vp', vw', rfl, hp', hq'⟩ := hf'.fl
  have o1 := hp'.one
  have o2 := hq'.one
  obtain ⟨K1, K2, K3, K4⟩ := var_new U C vp' vw' hp' hq'
  clear hp' hq' hf'
  clear kw0 kw1 kw2 kw3 kw4 flw
  replace hB := Kept.mk (hB.out.trans ((hb1).mono hB.out.size))
  replace Vf := Kept.mk (Vf.out.keep (hb1))
  replace Vw := Kept.mk (Vw.out.keep (hb1))
  replace Vv := Kept.mk (Vv.out.keep (hb1))
  replace Va := Kept.mk (Va.out.keep (hb1))
  replace Vb := Kept.mk (Vb.out.keep (hb1))
  clear hb1
  go_wp2_with (refine wpList_store5 rfl (.tmp 21) (.tmp 96) rfl U.heap.size vp' vw' (.int .i64 C.fuse) (strC C.torn) (.bool C.dead) rfl rfl K1.out K2.out o1 o2 rfl rfl rfl ?_; replace hB := Kept.mk (hB.out.trans ((K3.out).mono hB.out.size)); replace Vf := Kept.mk (Vf.out.keep (K3.out)); replace Vw := Kept.mk (Vw.out.keep (K3.out)); replace Vv := Kept.mk (Vv.out.keep (K3.out)); replace Va := Kept.mk (Va.out.keep (K3.out)); replace Vb := Kept.mk (Vb.out.keep (K3.out)); have Vc := K4; clear K1 K2 K3 K4 o1 o2; generalize set5 (U.alloc (.cells #[.slice none 0 0, .slice none 0 0, .int .i64 0, .string ⟨#[]⟩, .bool false] 25)) U.heap.size vp' vw' (.int .i64 C.fuse) (strC C.torn) (.bool C.dead) = W7 at *; generalize U.heap.size = gc at *; obtain ⟨vpv, vwv, flv, kv0, kv1, kv2, kv3, kv4⟩ := Vv.out.open_)
  ((with_reducible refine (HD.out _ _ flv).mono ?_); rintro e U ⟨v', rfl, hf', hb1⟩)
  obtain ⟨vp', vw', rfl, hp', hq'⟩ := hf'.fl
  have o1 := hp'.one
  have o2 := hq'.one
  obtain ⟨K1, K2, K3, K4⟩ := var_new U D vp' vw' hp' hq'
  clear hp' hq' hf'
  clear kv0 kv1 kv2 kv3 kv4 flv
  replace hB := Kept.mk (hB.out.trans ((hb1).mono hB.out.size))
  replace Vf := Kept.mk (Vf.out.keep (hb1))
  replace Vw := Kept.mk (Vw.out.keep (hb1))
  replace Vv := Kept.mk (Vv.out.keep (hb1))
  replace Va := Kept.mk (Va.out.keep (hb1))
  replace Vb := Kept.mk (Vb.out.keep (hb1))
  replace Vc := Kept.mk (Vc.out.keep (hb1))
  clear hb1
  go_wp2_with (refine wpList_store5 rfl (.tmp 23) (.tmp 102) rfl U.heap.size vp' vw' (.int .i64 D.fuse) (strC D.torn) (.bool D.dead) rfl rfl K1.out K2.out o1 o2 rfl rfl rfl ?_; replace hB := Kept.mk (hB.out.trans ((K3.out).mono hB.out.size)); replace Vf := Kept.mk (Vf.out.keep (K3.out)); replace Vw := Kept.mk (Vw.out.keep (K3.out)); replace Vv := Kept.mk (Vv.out.keep (K3.out)); replace Va := Kept.mk (Va.out.keep (K3.out)); replace Vb := Kept.mk (Vb.out.keep (K3.out)); replace Vc := Kept.mk (Vc.out.keep (K3.out)); have Vd := K4; clear K1 K2 K3 K4 o1 o2; generalize set5 (U.alloc (.cells #[.slice none 0 0, .slice none 0 0, .int .i64 0, .string ⟨#[]⟩, .bool false] 25)) U.heap.size vp' vw' (.int .i64 D.fuse) (strC D.torn) (.bool D.dead) = W8 at *; generalize U.heap.size = gd at *)
  obtain ⟨bf, of, cf, df, qf, sf, Cf, Lf, lbf, ldf, Pf, Rf⟩ := Vf.out.rows (n := F.pages.length) (m := F.wear.length) rfl rfl (by omega) (by omega)
  obtain ⟨bc, oc, cc, dc, qc, sc, Cc, Lc, lbc, ldc, Pc, Rc⟩ := Vc.out.rows (n := F.pages.length) (m := F.wear.length) HCD.out.2.2.1 HCD.out.2.2.2.2.1 (by omega) (by omega)
  obtain ⟨bd, od, cd, dd, qd, sd, Cd, Ld, lbd, ldd, Pd, Rd⟩ := Vd.out.rows (n := F.pages.length) (m := F.wear.length) HCD.out.2.2.2.1 HCD.out.2.2.2.2.2.1 (by omega) (by omega)
  rw [HCD.out.1] at Cc
  rw [HCD.out.2.1] at Cd Ld
  refine bet15_wp _ _ _ rfl F.pages.length F.wear.length k _ _ _ _ _ _ _ _ _ _ _ _ _ _ _ _ _ _ _ _ _ _ _ _ _ _ _ _ x1 x2 (by omega) hx0 hx1 HX.out Cc Cd Cf (Rd k _ HCD.out.2.2.2.2.2.2.2.2.1) ldd (Rf k _ HCD.out.2.2.2.2.2.2.2.2.2.1) ldf rfl rfl rfl rfl rfl rfl ?_
  clear Cc Cd Cf Lc Ld Lf Pc Pd Pf Rc Rd Rf
  intro f9 W11 hg hb9
  replace hB := Kept.mk (hB.out.trans (hb9.mono hB.out.size))
  replace Vf := Kept.mk (Vf.out.keep hb9)
  replace Vw := Kept.mk (Vw.out.keep hb9)
  replace Vv := Kept.mk (Vv.out.keep hb9)
  replace Va := Kept.mk (Va.out.keep hb9)
  replace Vb := Kept.mk (Vb.out.keep hb9)
  replace Vc := Kept.mk (Vc.out.keep hb9)
  replace Vd := Kept.mk (Vd.out.keep hb9)
  clear hb9
  simp only [List.foldl_cons, List.foldl_nil, hg]
  generalize f9 104 = y104
  generalize f9 105 = y105
  generalize f9 106 = y106
  generalize f9 107 = y107
  generalize f9 108 = y108
  generalize f9 109 = y109
  generalize f9 110 = y110
  generalize f9 111 = y111
  generalize f9 112 = y112
  generalize f9 113 = y113
  generalize f9 114 = y114
  generalize f9 115 = y115
  generalize f9 116 = y116
  generalize f9 117 = y117
  generalize f9 118 = y118
  generalize f9 119 = y119
  generalize f9 120 = y120
  generalize f9 121 = y121
  generalize f9 122 = y122
  generalize f9 123 = y123
  generalize f9 124 = y124
  generalize f9 125 = y125
  generalize f9 126 = y126
  generalize f9 127 = y127
  generalize f9 128 = y128
  generalize f9 129 = y129
  generalize f9 130 = y130
  generalize f9 131 = y131
  generalize f9 132 = y132
  generalize f9 133 = y133
  generalize f9 134 = y134
  generalize f9 135 = y135
  generalize f9 136 = y136
  generalize f9 137 = y137
  generalize f9 138 = y138
  generalize f9 139 = y139
  generalize f9 140 = y140
  generalize f9 141 = y141
  generalize f9 142 = y142
  generalize f9 143 = y143
  generalize f9 144 = y144
  generalize f9 145 = y145
  generalize f9 146 = y146
  generalize f9 147 = y147
  generalize f9 148 = y148
  generalize f9 149 = y149
  generalize f9 150 = y150
  clear hg
  simp only [List.setIfInBounds_toArray, List.set_cons_succ, List.set_cons_zero]
  obtain ⟨bf, of, cf, df, qf, sf, Cf, Lf, lbf, ldf, Pf, Rf⟩ := Vf.out.rows (n := F.pages.length) (m := F.wear.length) rfl rfl (by omega) (by omega)
  obtain ⟨bc, oc, cc, dc, qc, sc, Cc, Lc, lbc, ldc, Pc, Rc⟩ := Vc.out.rows (n := F.pages.length) (m := F.wear.length) HCD.out.2.2.1 HCD.out.2.2.2.2.1 (by omega) (by omega)
  obtain ⟨bd, od, cd, dd, qd, sd, Cd, Ld, lbd, ldd, Pd, Rd⟩ := Vd.out.rows (n := F.pages.length) (m := F.wear.length) HCD.out.2.2.2.1 HCD.out.2.2.2.2.2.1 (by omega) (by omega)
  rw [HCD.out.1] at Cc
  rw [HCD.out.2.1] at Cd Ld
  have kf0 := Cf.2.1
  have kfp := Pf k _ HCD.out.2.2.2.2.2.2.2.1
  have Ccq := Kept.mk Cc
  have Lcq := Kept.mk Lc
  have Pcq := Kept.mk Pc
  have Cdq := Kept.mk Cd
  have Ldq := Kept.mk Ld
  have Pdq := Kept.mk Pd
  have Cfq := Kept.mk Cf
  have Lfq := Kept.mk Lf
  have Pfq := Kept.mk Pf
  have HI := Kept.mk (cells_of_fl Lc Lf)
  clear Cc Cd Cf Lc Ld Lf Pc Pd Pf Rc Rd Rf
  go_wp2_with fail
  refine bet18_wp _ _ _ rfl F.pages.length F.wear.length k _ _ _ _ _ _ _ _ _ _ _ _ _ _ _ _ _ _ _ _ _ _ _ _ _ _ _ _ p cP hk Ccq.out Cdq.out Cfq.out (Pcq.out k _ HCD.out.2.2.2.2.2.2.1) lbc (fun w2 hb2 => (or_l p cP w2 (by omega) (by omega)).mono (by rintro e w' ⟨rfl, hb⟩; exact ⟨_, rfl, by rw [HOR.out]; rfl, hb⟩)) (fun w2 hb2 => (refInts_any C.wear F.wear _ _ w2 (stable_cells _ _ _ _ HI.out.1 hb2) (stable_cells _ _ _ _ HI.out.2 hb2) (by rw [HCD.out.2.2.2.2.2.2.2.2.2.2]; omega) (by omega)).mono (by rintro e w' ⟨rfl, hb⟩; exact ⟨_, rfl, by rw [HCD.out.2.2.2.2.2.2.2.2.2.2]; simp [isVal], hb⟩)) (fun w2 hb2 => (HFR.out _ w2 (fl_grow Ldq.out hb2)).mono (by rintro e w' ⟨rfl, hb⟩; exact ⟨_, rfl, rfl, hb⟩)) rfl rfl rfl rfl rfl ?_
  clear Ccq Cdq Cfq Lcq Ldq Lfq Pcq Pdq Pfq HI kf0 kfp
  intro f9 W12 hg hb9
  replace hB := Kept.mk (hB.out.trans (hb9.mono hB.out.size))
  replace Vf := Kept.mk (Vf.out.keep hb9)
  replace Vw := Kept.mk (Vw.out.keep hb9)
  replace Vv := Kept.mk (Vv.out.keep hb9)
  replace Va := Kept.mk (Va.out.keep hb9)
  replace Vb := Kept.mk (Vb.out.keep hb9)
  replace Vc := Kept.mk (Vc.out.keep hb9)
  replace Vd := Kept.mk (Vd.out.keep hb9)
  clear hb9
  simp only [List.foldl_cons, List.foldl_nil, hg]
  generalize f9 157 = y157
  generalize f9 158 = y158
  generalize f9 159 = y159
  generalize f9 160 = y160
  generalize f9 161 = y161
  generalize f9 162 = y162
  generalize f9 163 = y163
  generalize f9 164 = y164
  generalize f9 165 = y165
  generalize f9 166 = y166
  generalize f9 167 = y167
  generalize f9 168 = y168
  generalize f9 169 = y169
  generalize f9 170 = y170
  generalize f9 171 = y171
  generalize f9 172 = y172
  generalize f9 173 = y173
  generalize f9 174 = y174
  generalize f9 175 = y175
  generalize f9 176 = y176
  generalize f9 177 = y177
  generalize f9 178 = y178
  generalize f9 179 = y179
  generalize f9 180 = y180
  generalize f9 181 = y181
  generalize f9 182 = y182
  clear hg
  simp only [List.setIfInBounds_toArray, List.set_cons_succ, List.set_cons_zero]
  go_wp2_with fail
  go_loopw [26] (fun i wr => ∃ j : Nat, j ≤ F.pages.length ∧ i = .int .i64 (j : Int) ∧ Kept (Below w.heap.size w wr) ∧ Kept (Var wr w.heap.size F) ∧ Kept (Var wr ga A) ∧ Kept (Var wr gb B) ∧ Kept (Var wr gc C) ∧ Kept (Var wr gd D)) (fun i _ => F.pages.length - (intOf i).toNat)
  case atStart => exact ⟨0, Nat.zero_le _, rfl, hB, Vf, Va, Vb, Vc, Vd⟩
  case round =>
    clear hB Vf Va Vb Vc Vd Vw Vv
    obtain ⟨j, hj, rfl, hB, Vf, Va, Vb, Vc, Vd⟩ := hrel
    by_cases hlt : j < F.pages.length
    · have d2 : decide ((j : Int) < (F.pages.length : Int)) = true := by simpa using hlt
      obtain ⟨bf, of, cf, df, qf, sf, Cf, Lf, lbf, ldf, Pf, Rf⟩ := Vf.out.rows (n := F.pages.length) (m := F.wear.length) rfl rfl (by omega) (by omega)
      obtain ⟨ba, oa, ca, da, qa, sa, Ca, La, lba, lda, Pa, Ra⟩ := Va.out.rows (n := F.pages.length) (m := F.wear.length) HAB.out.2.2.1 HAB.out.2.2.2.2.1 (by omega) (by omega)
      obtain ⟨bb, ob, cb, db, qb, sb, Cb, Lb, lbb, ldb, Pb, Rb⟩ := Vb.out.rows (n := F.pages.length) (m := F.wear.length) HAB.out.2.2.2.1 HAB.out.2.2.2.2.2.1 (by omega) (by omega)
      obtain ⟨bc, oc, cc, dc, qc, sc, Cc, Lc, lbc, ldc, Pc, Rc⟩ := Vc.out.rows (n := F.pages.length) (m := F.wear.length) HCD.out.2.2.1 HCD.out.2.2.2.2.1 (by omega) (by omega)
      obtain ⟨bd, od, cd, dd, qd, sd, Cd, Ld, lbd, ldd, Pd, Rd⟩ := Vd.out.rows (n := F.pages.length) (m := F.wear.length) HCD.out.2.2.2.1 HCD.out.2.2.2.2.2.1 (by omega) (by omega)
      have kf0 := Cf.2.1
      have Caq := Kept.mk Ca
      have Paq := Kept.mk Pa
      have Cbq := Kept.mk Cb
      have Pbq := Kept.mk Pb
      have Ccq := Kept.mk Cc
      have Pcq := Kept.mk Pc
      have Cdq := Kept.mk Cd
      have Pdq := Kept.mk Pd
      have Cfq := Kept.mk Cf
      have Pfq := Kept.mk Pf
      clear Ca La Pa Ra Cb Lb Pb Rb Cc Lc Pc Rc Cd Ld Pd Rd Cf Lf Pf Rf
      go_wp2_with fail
      clear kf0
      by_cases hjk : j = k
      · have hne : ((j : Int) != (k : Int)) = false := by simp [hjk]
        have HNE := Kept.mk hne
        clear hne hjk
        refine bet25s_wp _ _ _ rfl F.pages.length F.wear.length k j p hlt HNE.out _ _ _ _ 0 0 0 Caq.out.2.1 Caq.out.1 lba _ _ _ _ 0 0 0 Cbq.out.2.1 Cbq.out.1 lbb _ _ _ _ 0 0 0 Ccq.out.2.1 Ccq.out.1 lbc _ _ _ _ 0 0 0 Cdq.out.2.1 Cdq.out.1 lbd _ _ _ _ 0 0 0 Cfq.out.2.1 Cfq.out.1 lbf rfl rfl rfl rfl rfl rfl rfl ?_
        intro f9 W21 hg hb9
        replace hB := Kept.mk (hB.out.trans (hb9.mono hB.out.size))
        replace Vf := Kept.mk (Vf.out.keep hb9)
        replace Va := Kept.mk (Va.out.keep hb9)
        replace Vb := Kept.mk (Vb.out.keep hb9)
        replace Vc := Kept.mk (Vc.out.keep hb9)
        replace Vd := Kept.mk (Vd.out.keep hb9)
        clear Caq Paq Cbq Pbq Ccq Pcq Cdq Pdq Cfq Pfq
        clear hb9
        simp only [List.foldl_cons, List.foldl_nil, hg]
        generalize f9 199 = y199
        generalize f9 200 = y200
        generalize f9 201 = y201
        generalize f9 202 = y202
        generalize f9 203 = y203
        generalize f9 204 = y204
        generalize f9 205 = y205
        generalize f9 206 = y206
        generalize f9 207 = y207
        generalize f9 208 = y208
        generalize f9 209 = y209
        generalize f9 210 = y210
        generalize f9 211 = y211
        generalize f9 212 = y212
        generalize f9 213 = y213
        generalize f9 214 = y214
        generalize f9 215 = y215
        generalize f9 216 = y216
        generalize f9 217 = y217
        generalize f9 218 = y218
        generalize f9 219 = y219
        generalize f9 220 = y220
        generalize f9 221 = y221
        generalize f9 222 = y222
        generalize f9 223 = y223
        generalize f9 224 = y224
        generalize f9 225 = y225
        generalize f9 226 = y226
        generalize f9 227 = y227
        generalize f9 228 = y228
        generalize f9 229 = y229
        generalize f9 230 = y230
        generalize f9 231 = y231
        generalize f9 232 = y232
        generalize f9 233 = y233
        generalize f9 234 = y234
        generalize f9 235 = y235
        generalize f9 236 = y236
        generalize f9 237 = y237
        generalize f9 238 = y238
        generalize f9 239 = y239
        generalize f9 240 = y240
        generalize f9 241 = y241
        generalize f9 242 = y242
        generalize f9 243 = y243
        generalize f9 244 = y244
        generalize f9 245 = y245
        generalize f9 246 = y246
        generalize f9 247 = y247
        generalize f9 248 = y248
        generalize f9 249 = y249
        generalize f9 250 = y250
        generalize f9 251 = y251
        generalize f9 252 = y252
        clear hg
        simp only [List.setIfInBounds_toArray, List.set_cons_succ, List.set_cons_zero]
        go_wp2
        go_roundw
        case rel => exact ⟨j + 1, by omega, by go_num, hB, Vf, Va, Vb, Vc, Vd⟩
        case measure => simp [intOf]; omega
      · have hne : ((j : Int) != (k : Int)) = true := by simp [bne]; omega
        have HNE := Kept.mk hne
        have HOT := Kept.mk (HOTH.out j hjk)
        clear hne
        have HQ := Kept.mk (show F.pages[j]? = some F.pages[j] from List.getElem?_eq_getElem hlt)
        refine bet25_wp _ _ _ rfl F.pages.length F.wear.length k j F.pages[j] hlt HNE.out _ _ _ _ 0 0 0 Caq.out.2.1 Caq.out.1 (Paq.out j _ (HOT.out.1.trans HQ.out)) lba _ _ _ _ 0 0 0 Cbq.out.2.1 Cbq.out.1 (Pbq.out j _ (HOT.out.2.1.trans HQ.out)) lbb _ _ _ _ 0 0 0 Ccq.out.2.1 Ccq.out.1 (Pcq.out j _ (HOT.out.2.2.1.trans HQ.out)) lbc _ _ _ _ 0 0 0 Cdq.out.2.1 Cdq.out.1 (Pdq.out j _ (HOT.out.2.2.2.trans HQ.out)) lbd _ _ _ _ 0 0 0 Cfq.out.2.1 Cfq.out.1 (Pfq.out j _ HQ.out) lbf rfl rfl rfl rfl rfl rfl rfl ?_
        clear HQ HOT
        intro f9 W21 hg hb9
        replace hB := Kept.mk (hB.out.trans (hb9.mono hB.out.size))
        replace Vf := Kept.mk (Vf.out.keep hb9)
        replace Va := Kept.mk (Va.out.keep hb9)
        replace Vb := Kept.mk (Vb.out.keep hb9)
        replace Vc := Kept.mk (Vc.out.keep hb9)
        replace Vd := Kept.mk (Vd.out.keep hb9)
        clear Caq Paq Cbq Pbq Ccq Pcq Cdq Pdq Cfq Pfq
        clear hb9
        simp only [List.foldl_cons, List.foldl_nil, hg]
        generalize f9 199 = y199
        generalize f9 200 = y200
        generalize f9 201 = y201
        generalize f9 202 = y202
        generalize f9 203 = y203
        generalize f9 204 = y204
        generalize f9 205 = y205
        generalize f9 206 = y206
        generalize f9 207 = y207
        generalize f9 208 = y208
        generalize f9 209 = y209
        generalize f9 210 = y210
        generalize f9 211 = y211
        generalize f9 212 = y212
        generalize f9 213 = y213
        generalize f9 214 = y214
        generalize f9 215 = y215
        generalize f9 216 = y216
        generalize f9 217 = y217
        generalize f9 218 = y218
        generalize f9 219 = y219
        generalize f9 220 = y220
        generalize f9 221 = y221
        generalize f9 222 = y222
        generalize f9 223 = y223
        generalize f9 224 = y224
        generalize f9 225 = y225
        generalize f9 226 = y226
        generalize f9 227 = y227
        generalize f9 228 = y228
        generalize f9 229 = y229
        generalize f9 230 = y230
        generalize f9 231 = y231
        generalize f9 232 = y232
        generalize f9 233 = y233
        generalize f9 234 = y234
        generalize f9 235 = y235
        generalize f9 236 = y236
        generalize f9 237 = y237
        generalize f9 238 = y238
        generalize f9 239 = y239
        generalize f9 240 = y240
        generalize f9 241 = y241
        generalize f9 242 = y242
        generalize f9 243 = y243
        generalize f9 244 = y244
        generalize f9 245 = y245
        generalize f9 246 = y246
        generalize f9 247 = y247
        generalize f9 248 = y248
        generalize f9 249 = y249
        generalize f9 250 = y250
        generalize f9 251 = y251
        generalize f9 252 = y252
        clear hg
        simp only [List.setIfInBounds_toArray, List.set_cons_succ, List.set_cons_zero]
        go_wp2
        go_roundw
        case rel => exact ⟨j + 1, by omega, by go_num, hB, Vf, Va, Vb, Vc, Vd⟩
        case measure => simp [intOf]; omega
    · have d2 : decide ((j : Int) < (F.pages.length : Int)) = false := by simp; omega
      obtain ⟨bf, of, cf, df, qf, sf, Cf, Lf, lbf, ldf, Pf, Rf⟩ := Vf.out.rows (n := F.pages.length) (m := F.wear.length) rfl rfl (by omega) (by omega)
      obtain ⟨ba, oa, ca, da, qa, sa, Ca, La, lba, lda, Pa, Ra⟩ := Va.out.rows (n := F.pages.length) (m := F.wear.length) HAB.out.2.2.1 HAB.out.2.2.2.2.1 (by omega) (by omega)
      obtain ⟨bb, ob, cb, db, qb, sb, Cb, Lb, lbb, ldb, Pb, Rb⟩ := Vb.out.rows (n := F.pages.length) (m := F.wear.length) HAB.out.2.2.2.1 HAB.out.2.2.2.2.2.1 (by omega) (by omega)
      obtain ⟨bc, oc, cc, dc, qc, sc, Cc, Lc, lbc, ldc, Pc, Rc⟩ := Vc.out.rows (n := F.pages.length) (m := F.wear.length) HCD.out.2.2.1 HCD.out.2.2.2.2.1 (by omega) (by omega)
      obtain ⟨bd, od, cd, dd, qd, sd, Cd, Ld, lbd, ldd, Pd, Rd⟩ := Vd.out.rows (n := F.pages.length) (m := F.wear.length) HCD.out.2.2.2.1 HCD.out.2.2.2.2.2.1 (by omega) (by omega)
      rw [HAB.out.1] at Ca
      have kf0 := Cf.2.1
      have kf1 := Cf.2.2.1
      have Caq := Kept.mk Ca
      have Paq := Kept.mk Pa
      have Cbq := Kept.mk Cb
      have Pbq := Kept.mk Pb
      have Ccq := Kept.mk Cc
      have Pcq := Kept.mk Pc
      have Cdq := Kept.mk Cd
      have Pdq := Kept.mk Pd
      have Cfq := Kept.mk Cf
      have Pfq := Kept.mk Pf
      have HI := Kept.mk (cells_of_fl La Lf)
      clear Ca La Pa Ra Cb Lb Pb Rb Cc Lc Pc Rc Cd Ld Pd Rd Cf Lf Pf Rf
      go_wp2_with fail
      clear kf0 kf1
      refine bet27_wp _ _ _ rfl F.pages.length F.wear.length k p aP bP hk (fun w2 hb2 => (and_l p aP w2 (by omega) (by omega)).mono (by rintro e w' ⟨rfl, hb⟩; exact ⟨_, rfl, by rw [HAND.out]; rfl, hb⟩)) (fun w2 hb2 => (or_l aP bP w2 (by omega) (by omega)).mono (by rintro e w' ⟨rfl, hb⟩; exact ⟨_, rfl, by rw [HOR2.out]; rfl, hb⟩)) _ _ _ _ 0 0 0 Caq.out.2.1 Caq.out.1 (Paq.out k _ HAB.out.2.2.2.2.2.2.1) lba _ _ _ _ 0 0 0 Cbq.out.2.1 Cbq.out.1 (Pbq.out k _ HAB.out.2.2.2.2.2.2.2.1) lbb rfl rfl rfl rfl ?_
      intro f9 W13 hg hb9
      replace hB := Kept.mk (hB.out.trans (hb9.mono hB.out.size))
      have Ca := Caq.out.keep hb9 Caq.out.1
      have Cf := Cfq.out.keep hb9 Cfq.out.1
      have HI2 := Kept.mk (And.intro (stable_cells _ _ _ _ HI.out.1 hb9) (stable_cells _ _ _ _ HI.out.2 hb9))
      obtain ⟨_, ka0, ka1, ka2, ka3, ka4⟩ := Ca
      obtain ⟨_, kf0, kf1, kf2, kf3, kf4⟩ := Cf
      clear Caq Paq Cbq Pbq Ccq Pcq Cdq Pdq Cfq Pfq HI
      clear hb9
      simp only [List.foldl_cons, List.foldl_nil, hg]
      generalize f9 254 = y254
      generalize f9 255 = y255
      generalize f9 256 = y256
      generalize f9 257 = y257
      generalize f9 258 = y258
      generalize f9 259 = y259
      generalize f9 260 = y260
      generalize f9 261 = y261
      generalize f9 262 = y262
      generalize f9 263 = y263
      generalize f9 264 = y264
      generalize f9 265 = y265
      generalize f9 266 = y266
      generalize f9 267 = y267
      generalize f9 268 = y268
      generalize f9 269 = y269
      generalize f9 270 = y270
      generalize f9 271 = y271
      generalize f9 272 = y272
      generalize f9 273 = y273
      generalize f9 274 = y274
      generalize f9 275 = y275
      generalize f9 276 = y276
      generalize f9 277 = y277
      generalize f9 278 = y278
      generalize f9 279 = y279
      generalize f9 280 = y280
      generalize f9 281 = y281
      generalize f9 282 = y282
      generalize f9 283 = y283
      generalize f9 284 = y284
      generalize f9 285 = y285
      clear hg
      simp only [List.setIfInBounds_toArray, List.set_cons_succ, List.set_cons_zero]
      go_wp2_with fail
      ((with_reducible refine (refInts_any A.wear F.wear _ _ _ HI2.out.1 HI2.out.2 (by rw [HAB.out.2.2.2.2.2.2.2.2]; omega) (by omega)).mono ?_); rintro e W14 ⟨rfl, hb9⟩)
      replace hB := Kept.mk (hB.out.trans (hb9.mono hB.out.size))
      have HEQ := Kept.mk (show decide (A.wear = F.wear) = true by rw [HAB.out.2.2.2.2.2.2.2.2]; simp)
      rewrite [HEQ.out]
      clear hb9 ka0 ka1 ka2 ka3 ka4 kf0 kf1 kf2 kf3 kf4
      go_wp2
      go_ret
      exact ⟨rfl, hB.out⟩
end Go.Proofs.Ytipiioggdalkoaa
