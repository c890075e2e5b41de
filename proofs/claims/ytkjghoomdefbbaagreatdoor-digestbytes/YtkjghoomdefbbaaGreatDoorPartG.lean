/- Joined texts: contracts of the program's functions, and the mathematics that they lean on. -/
import Derived.Test.YtkjghoomdefbbaaGreatDoorPartF
import Derived.Maps.AppendAt
import Derived.OwnWalk
import Derived.Laws.BytesArg
import Derived.Deep.Slices
import Derived.RegionTactic
import Derived.Test.YtkjghoomdefbbaaGreatDoorProg
import Derived.ProofKit
import Derived.OpenShut
import Derived.Laws.IdiomArrays
import Derived.ChangeSame
section
namespace Go.Proofs.YtkjghoomdefbbaaGreatDoor
open Go.RowKit
set_option linter.unusedVariables false
set_option linter.unusedSimpArgs false
attribute [local irreducible] setN eK aZ2 aK1 t16 putEn

theorem eql_t {P : Program} {t : TypeId} {k : IntKind} (x y : Int) (h : x = y) (w : World) : (binOp .eql t (.int k x) (.int k y)).run P w = .ok (.bool true) w := by simp [go_sem, h]
theorem sub_v {P : Program} {t : TypeId} (x y z : Int) (h : x - y = z) (h0 : -4611686018427387904 ≤ z) (h1 : z ≤ 4611686018427387904) (w : World) : (binOp .sub t (.int .i64 x) (.int .i64 y)).run P w = .ok (.int .i64 z) w := by
  subst h
  simp [go_sem]
  rw [IntKind.wrap_i64]
  omega
theorem agg_in (w : World) : (isAgg 3).run Tryz.prog w = .ok false w := by simp [isAgg, run_underlying Tryz.underlying3]
def isLen (n : Nat) : VP := fun v _ => ∃ a c, v = .slice a n c
theorem stable_len (n : Nat) : Stable (isLen n) := fun _ _ _ h _ => h
theorem built_n : Tryz.prog.built 26 [] = some #[.int .i64 0, .int .i64 0, .int .i64 0, .int .i64 0] := by kernel_rfl
theorem built_1 : Tryz.prog.built 26 [(0, .int .i64 1), (1, .int .i64 2), (2, .int .i64 3), (3, .int .i64 4)] = some #[.int .i64 1, .int .i64 2, .int .i64 3, .int .i64 4] := by kernel_rfl
section
variable {P : Program} {ops : Array Oper} {base : World} {a0 : Act} {Q : Exit → Act → World → Prop} {kn : Nat → VP} {i : Nat} {V : VP}
theorem step_lenP (t : TypeId) (x : Operand) (n : Nat) {e : TypeId} (hop : (ops[i]?).map (·.op) = some (.call { callee := .builtin .len, args := #[x], argTypes := #[t] })) (hw : Wanted ops a0 kn i) (hx : Knows ops a0 kn i x (isLen n))
    (hu : P.underlying t = some (.slice e)) : FStep P ops base a0 Q kn i (isVal (.int .i64 (n : Int))) :=
  step_pure (.int .i64 (n : Int)) hop hw fun o a w ho hk hd => by
    obtain ⟨b, c, e1⟩ := hx a w hk hd
    unfold execOp
    rw [ho]
    simp only [resolve, Sem.run_bind, Sem.run_pure, Result.andThen_ok, invoke, builtin, List.map_toArray, List.map_cons, List.map_nil, e1]
    simp [Builtin.len_, run_underlying hu]
    try rfl
theorem step_at0 (t e : TypeId) (x y : Operand) (n g : Nat) (hop : (ops[i]?).map (·.op) = some (.indexAddr t x y)) (hw : Wanted ops a0 kn i) (hx : Knows ops a0 kn i x (isVal (.pointer (some ⟨g, 0, none⟩)))) (hy : Knows ops a0 kn i y (isVal (.int .i64 0)))
    (ht : P.underlying t = some (.array n e)) (hs : P.cellsOf e = 1) (hi : (P.info? e).map (·.size) = some 1) (hk : 0 < n) : FStep P ops base a0 Q kn i (isVal (.pointer (some ⟨g, 0, none⟩))) :=
  step_pure _ hop hw fun o a w ho hk' hd => by
    have e1 : a.eval x = .pointer (some ⟨g, 0, none⟩) := hx a w hk' hd
    have e2 : a.eval y = .int .i64 0 := hy a w hk' hd
    unfold execOp
    rw [ho]
    simp only [e1, e2, Sem.run_bind]
    obtain ⟨ie, hie, hz⟩ := Option.map_eq_some_iff.1 hi
    have hsz : (sizeOf e).run P w = .ok 1 w := by simp [sizeOf, typeInfo, hie, hz]
    simp [Instr.indexAt, run_underlying ht, Instr.sureAddr, asIntOf, hsz, hk, Addr.add]
end
noncomputable def wk14Ops : Array Oper := regionOf Tryz.f9 14
set_option maxRecDepth 100000 in
set_option maxHeartbeats 2000000 in
theorem wk14_region (Q : Exit → Act → World → Prop) (a0 : Act) (w0 : World) (hsz : a0.tmps.size = 141) (g h b l : Nat) (vs vi us ui : Value) (e10 : a0.tmps.getD 10 undef = .pointer (some ⟨g, 0, none⟩)) (e1 : a0.tmps.getD 1 undef = .pointer (some ⟨h, 0, none⟩)) (e4 : a0.tmps.getD 4 undef = .pointer (some ⟨b, 0, none⟩)) (e14 : a0.tmps.getD 14 undef = .pointer (some ⟨l, 0, none⟩)) (e6 : a0.tmps.getD 6 undef = .int .i64 0) (e9 : a0.tmps.getD 9 undef = .int .i64 0) (e7 : a0.tmps.getD 7 undef = .string ⟨(putEn eK).toArray⟩) (e11 : a0.tmps.getD 11 undef = .int .i64 1) (e12 : a0.tmps.getD 12 undef = .string ⟨t16.toArray⟩) (e13 : a0.tmps.getD 13 undef = .int .i64 0) (e15 : a0.tmps.getD 15 undef = .int .i64 0) (e17 : a0.tmps.getD 17 undef = .int .i64 1) (e19 : a0.tmps.getD 19 undef = .int .i64 2) (HG : CellsN w0 g [.int .i64 3264677171, .int .i64 0, .int .i64 0, .int .i64 0]) (HH : CellsN w0 h [.int .i64 aZ2.cap, vs, vi]) (HK : CellsN w0 b [.int .i64 aK1.cap, us, ui]) (HL : CellsN w0 l [.int .i64 1, .int .i64 2, .int .i64 3, .int .i64 4]) (hA : isAr aZ2 (.agg #[.int .i64 aZ2.cap, vs, vi]) w0) (hK : isAr aK1 (.agg #[.int .i64 aK1.cap, us, ui]) w0)
    (hQ : ∀ (g : Nat → Value) (w : World), g 0 = .bool true → Below w0.heap.size w0 w → Q .normal { tmps := [70, 71, 72, 73, 74, 75, 76, 77, 78, 79, 80, 81, 82, 83, 84, 85, 86, 87, 88, 89, 90, 91, 92, 93, 94, 95, 96, 97, 98, 99, 100, 101, 102, 103, 104, 105, 106, 107, 108, 109, 110, 111, 112, 113, 114, 115, 116, 117, 118, 119, 120, 121, 122, 123, 124, 125, 126, 127, 128, 129, 130, 131, 132, 133, 134, 135, 136, 137, 138, 139, 140, 0].foldl (fun t s => t.setIfInBounds s (g s)) a0.tmps, defers := a0.defers } w) :
    (Code.region 14 wk14Ops true).wp Tryz.prog Q a0 w0 := by
  refine wp_region_flow mixed (by rw [hsz]; kernel_rfl) ?_
  rw [show wk14Ops.size = 72 by kernel_rfl]
  refine ⟨isVal (.int .i64 0), step_move (.tmp 6) (by kernel_rfl) (wanted_none (by kernel_rfl)) (stable_val _) (knows_old 6 (.int .i64 0) (by kernel_rfl) e6), ?_⟩
  refine ⟨isVal (.bool true), step_bin .eql 35 35 (.tmp 70) (.const (.int .i64 0)) (.int .i64 0) (.int .i64 0) (.bool true) (by kernel_rfl) (wanted_none (by kernel_rfl)) (knows_new (V := isVal (.int .i64 0)) 70 0 (by kernel_rfl) (by kernel_rfl) (by kernel_rfl)) (knows_const _) (fun _ => rfl) (eql_t _ _ (by (have h16 := t16_len; omega))), ?_⟩
  refine ⟨isVal (.bool true), step_move (.tmp 71) (by kernel_rfl) (wanted_none (by kernel_rfl)) (stable_val _) (knows_new (V := isVal (.bool true)) 71 1 (by kernel_rfl) (by kernel_rfl) (by kernel_rfl)), ?_⟩
  refine ⟨isVal (.agg #[.int .i64 aZ2.cap, vs, vi]), step_loadN 25 (.tmp 1) (h) [.int .i64 aZ2.cap, vs, vi] (by kernel_rfl) (wanted_some 2 72 true (by kernel_rfl) (by kernel_rfl) (by kernel_rfl) (by kernel_rfl)) (knows_old 1 (.pointer (some ⟨h, 0, none⟩)) (by kernel_rfl) e1) size_ar agg_ar (HH), ?_⟩
  refine ⟨isVal (.agg #[.int .i64 0, .int .i64 0, .int .i64 0, .int .i64 0]), step_call 18 #[.tmp 73] #[25] #[.agg #[.int .i64 aZ2.cap, vs, vi]] (by kernel_rfl) (wanted_some 2 72 true (by kernel_rfl) (by kernel_rfl) (by kernel_rfl) (by kernel_rfl)) (stable_val _) (args1 (.tmp 73) (.agg #[.int .i64 aZ2.cap, vs, vi]) (knows_new (V := isVal (.agg #[.int .i64 aZ2.cap, vs, vi])) 73 3 (by kernel_rfl) (by kernel_rfl) (by kernel_rfl))) (enters_of Tryz.func18 (by kernel_rfl) rfl) (by intro w' hb; exact (w_sumsA _ w' (stable_ar _ _ _ _ hA hb)).mono (by rintro e w2 ⟨rfl, hb2⟩; exact ⟨_, rfl, rfl, hb2⟩)), ?_⟩
  refine ⟨isVal (.agg #[.int .i64 0, .int .i64 0, .int .i64 0, .int .i64 0]), step_buildP 26 #[] (by kernel_rfl) (wanted_some 2 72 true (by kernel_rfl) (by kernel_rfl) (by kernel_rfl) (by kernel_rfl)) (stable_val _) (by
    intro a w hk hd
    exact ⟨_, by simpa [] using (built_n), rfl⟩), ?_⟩
  refine ⟨isVal (.bool true), step_bin .eql 26 26 (.tmp 74) (.tmp 75) (.agg #[.int .i64 0, .int .i64 0, .int .i64 0, .int .i64 0]) (.agg #[.int .i64 0, .int .i64 0, .int .i64 0, .int .i64 0]) (.bool true) (by kernel_rfl) (wanted_some 2 72 true (by kernel_rfl) (by kernel_rfl) (by kernel_rfl) (by kernel_rfl)) (knows_new (V := isVal (.agg #[.int .i64 0, .int .i64 0, .int .i64 0, .int .i64 0])) 74 4 (by kernel_rfl) (by kernel_rfl) (by kernel_rfl)) (knows_new (V := isVal (.agg #[.int .i64 0, .int .i64 0, .int .i64 0, .int .i64 0])) 75 5 (by kernel_rfl) (by kernel_rfl) (by kernel_rfl)) (fun _ => rfl) (fun W => eql_i4 26 3 0 0 0 0 0 0 0 0 true Tryz.underlying26 Tryz.underlying3 (by kernel_rfl) (by simp) W), ?_⟩
  refine ⟨isVal (.bool true), step_pick (.tmp 72) (.tmp 76) (.const (.bool false)) true (by kernel_rfl) (wanted_none (by kernel_rfl)) (stable_val _) (knows_new (V := isVal (.bool true)) 72 2 (by kernel_rfl) (by kernel_rfl) (by kernel_rfl)) (knows_new (V := isVal (.bool true)) 76 6 (by kernel_rfl) (by kernel_rfl) (by kernel_rfl)), ?_⟩
  refine ⟨isVal (.bool true), step_move (.tmp 77) (by kernel_rfl) (wanted_none (by kernel_rfl)) (stable_val _) (knows_new (V := isVal (.bool true)) 77 7 (by kernel_rfl) (by kernel_rfl) (by kernel_rfl)), ?_⟩
  refine ⟨isVal (.int .i64 0), step_move (.tmp 9) (by kernel_rfl) (wanted_some 8 78 true (by kernel_rfl) (by kernel_rfl) (by kernel_rfl) (by kernel_rfl)) (stable_val _) (knows_old 9 (.int .i64 0) (by kernel_rfl) e9), ?_⟩
  refine ⟨isVal (.pointer (some ⟨g, 0, none⟩)), step_at0 26 3 (.tmp 10) (.tmp 79) 4 g (by kernel_rfl) (wanted_some 8 78 true (by kernel_rfl) (by kernel_rfl) (by kernel_rfl) (by kernel_rfl)) (knows_old 10 (.pointer (some ⟨g, 0, none⟩)) (by kernel_rfl) e10) (knows_new (V := isVal (.int .i64 0)) 79 9 (by kernel_rfl) (by kernel_rfl) (by kernel_rfl)) Tryz.underlying26 (by kernel_rfl) (by kernel_rfl) (by omega), ?_⟩
  refine ⟨isVal (.int .i64 3264677171), step_read 3 (.tmp 80) ⟨g, 0, none⟩ (.int .i64 3264677171) (by kernel_rfl) (wanted_some 8 78 true (by kernel_rfl) (by kernel_rfl) (by kernel_rfl) (by kernel_rfl)) (knows_new (V := isVal (.pointer (some ⟨g, 0, none⟩))) 80 10 (by kernel_rfl) (by kernel_rfl) (by kernel_rfl)) ((HG).2 0 _ rfl) (HG).1 (agg_in), ?_⟩
  refine ⟨isVal (.string ⟨(putEn eK).toArray⟩), step_move (.tmp 7) (by kernel_rfl) (wanted_some 8 78 true (by kernel_rfl) (by kernel_rfl) (by kernel_rfl) (by kernel_rfl)) (stable_val _) (knows_old 7 (.string ⟨(putEn eK).toArray⟩) (by kernel_rfl) e7), ?_⟩
  refine ⟨isVal (.int .i64 3264677171), step_call 32 #[.tmp 82] #[9] #[.string ⟨(putEn eK).toArray⟩] (by kernel_rfl) (wanted_some 8 78 true (by kernel_rfl) (by kernel_rfl) (by kernel_rfl) (by kernel_rfl)) (stable_val _) (args1 (.tmp 82) (.string ⟨(putEn eK).toArray⟩) (knows_new (V := isVal (.string ⟨(putEn eK).toArray⟩)) 82 12 (by kernel_rfl) (by kernel_rfl) (by kernel_rfl))) (enters_of Tryz.func32 (by kernel_rfl) rfl) (by intro w' hb; exact (w_crc w').mono (by rintro e w2 ⟨rfl, hb2⟩; exact ⟨_, rfl, rfl, hb2⟩)), ?_⟩
  refine ⟨isVal (.bool true), step_bin .eql 3 3 (.tmp 81) (.tmp 83) (.int .i64 3264677171) (.int .i64 3264677171) (.bool true) (by kernel_rfl) (wanted_some 8 78 true (by kernel_rfl) (by kernel_rfl) (by kernel_rfl) (by kernel_rfl)) (knows_new (V := isVal (.int .i64 3264677171)) 81 11 (by kernel_rfl) (by kernel_rfl) (by kernel_rfl)) (knows_new (V := isVal (.int .i64 3264677171)) 83 13 (by kernel_rfl) (by kernel_rfl) (by kernel_rfl)) (fun _ => rfl) (eql_t _ _ (by (have h16 := t16_len; omega))), ?_⟩
  refine ⟨isVal (.bool true), step_pick (.tmp 78) (.tmp 84) (.const (.bool false)) true (by kernel_rfl) (wanted_none (by kernel_rfl)) (stable_val _) (knows_new (V := isVal (.bool true)) 78 8 (by kernel_rfl) (by kernel_rfl) (by kernel_rfl)) (knows_new (V := isVal (.bool true)) 84 14 (by kernel_rfl) (by kernel_rfl) (by kernel_rfl)), ?_⟩
  refine ⟨isVal (.bool true), step_move (.tmp 85) (by kernel_rfl) (wanted_none (by kernel_rfl)) (stable_val _) (knows_new (V := isVal (.bool true)) 85 15 (by kernel_rfl) (by kernel_rfl) (by kernel_rfl)), ?_⟩
  refine ⟨isVal (.int .i64 1), step_move (.tmp 11) (by kernel_rfl) (wanted_some 16 86 true (by kernel_rfl) (by kernel_rfl) (by kernel_rfl) (by kernel_rfl)) (stable_val _) (knows_old 11 (.int .i64 1) (by kernel_rfl) e11), ?_⟩
  refine ⟨isVal (.int .i64 0), step_move (.tmp 9) (by kernel_rfl) (wanted_some 16 86 true (by kernel_rfl) (by kernel_rfl) (by kernel_rfl) (by kernel_rfl)) (stable_val _) (knows_old 9 (.int .i64 0) (by kernel_rfl) e9), ?_⟩
  refine ⟨isVal (.int .u64 0), step_conv 3 55 (.tmp 88) (.int .i64 0) (.int .u64 0) (by kernel_rfl) (wanted_some 16 86 true (by kernel_rfl) (by kernel_rfl) (by kernel_rfl) (by kernel_rfl)) (knows_new (V := isVal (.int .i64 0)) 88 18 (by kernel_rfl) (by kernel_rfl) (by kernel_rfl)) (fun W => by kernel_rfl), ?_⟩
  refine ⟨isVal (.int .i64 1), step_bin .shl 3 55 (.const (.int .i64 1)) (.tmp 89) (.int .i64 1) (.int .u64 0) (.int .i64 1) (by kernel_rfl) (wanted_some 16 86 true (by kernel_rfl) (by kernel_rfl) (by kernel_rfl) (by kernel_rfl)) (knows_const _) (knows_new (V := isVal (.int .u64 0)) 89 19 (by kernel_rfl) (by kernel_rfl) (by kernel_rfl)) (fun _ => rfl) (fun W => by kernel_rfl), ?_⟩
  refine ⟨isVal (.bool true), step_bin .eql 3 3 (.tmp 87) (.tmp 90) (.int .i64 1) (.int .i64 1) (.bool true) (by kernel_rfl) (wanted_some 16 86 true (by kernel_rfl) (by kernel_rfl) (by kernel_rfl) (by kernel_rfl)) (knows_new (V := isVal (.int .i64 1)) 87 17 (by kernel_rfl) (by kernel_rfl) (by kernel_rfl)) (knows_new (V := isVal (.int .i64 1)) 90 20 (by kernel_rfl) (by kernel_rfl) (by kernel_rfl)) (fun _ => rfl) (eql_t _ _ (by (have h16 := t16_len; omega))), ?_⟩
  refine ⟨isVal (.bool true), step_pick (.tmp 86) (.tmp 91) (.const (.bool false)) true (by kernel_rfl) (wanted_none (by kernel_rfl)) (stable_val _) (knows_new (V := isVal (.bool true)) 86 16 (by kernel_rfl) (by kernel_rfl) (by kernel_rfl)) (knows_new (V := isVal (.bool true)) 91 21 (by kernel_rfl) (by kernel_rfl) (by kernel_rfl)), ?_⟩
  refine ⟨isVal (.bool true), step_move (.tmp 92) (by kernel_rfl) (wanted_none (by kernel_rfl)) (stable_val _) (knows_new (V := isVal (.bool true)) 92 22 (by kernel_rfl) (by kernel_rfl) (by kernel_rfl)), ?_⟩
  refine ⟨isVal (.agg #[.int .i64 aK1.cap, us, ui]), step_loadN 25 (.tmp 4) (b) [.int .i64 aK1.cap, us, ui] (by kernel_rfl) (wanted_some 23 93 true (by kernel_rfl) (by kernel_rfl) (by kernel_rfl) (by kernel_rfl)) (knows_old 4 (.pointer (some ⟨b, 0, none⟩)) (by kernel_rfl) e4) size_ar agg_ar (HK), ?_⟩
  refine ⟨isVal (.int .i64 1), step_move (.tmp 11) (by kernel_rfl) (wanted_some 23 93 true (by kernel_rfl) (by kernel_rfl) (by kernel_rfl) (by kernel_rfl)) (stable_val _) (knows_old 11 (.int .i64 1) (by kernel_rfl) e11), ?_⟩
  refine ⟨(isLen 1), step_call 15 #[.tmp 94, .tmp 95, .const (.int .i64 5)] #[25, 3, 3] #[.agg #[.int .i64 aK1.cap, us, ui], .int .i64 1, .int .i64 5] (by kernel_rfl) (wanted_some 23 93 true (by kernel_rfl) (by kernel_rfl) (by kernel_rfl) (by kernel_rfl)) (stable_len 1) (args3 (.tmp 94) (.tmp 95) (.const (.int .i64 5)) (.agg #[.int .i64 aK1.cap, us, ui]) (.int .i64 1) (.int .i64 5) (knows_new (V := isVal (.agg #[.int .i64 aK1.cap, us, ui])) 94 24 (by kernel_rfl) (by kernel_rfl) (by kernel_rfl)) (knows_new (V := isVal (.int .i64 1)) 95 25 (by kernel_rfl) (by kernel_rfl) (by kernel_rfl)) (knows_const _)) (enters_of Tryz.func15 (by kernel_rfl) rfl) (by intro w' hb; exact (w_in 1 5 1 _ w' (stable_ar _ _ _ _ hK hb) (by kernel_rfl)).mono (by rintro e w2 ⟨a, c, rfl, hb2⟩; exact ⟨_, rfl, ⟨a, c, rfl⟩, hb2⟩)), ?_⟩
  refine ⟨isVal (.int .i64 1), step_lenP 22 (.tmp 96) 1 (by kernel_rfl) (wanted_some 23 93 true (by kernel_rfl) (by kernel_rfl) (by kernel_rfl) (by kernel_rfl)) (knows_new (V := (isLen 1)) 96 26 (by kernel_rfl) (by kernel_rfl) (by kernel_rfl)) Tryz.underlying22, ?_⟩
  refine ⟨isVal (.bool true), step_bin .eql 3 3 (.tmp 97) (.const (.int .i64 1)) (.int .i64 1) (.int .i64 1) (.bool true) (by kernel_rfl) (wanted_some 23 93 true (by kernel_rfl) (by kernel_rfl) (by kernel_rfl) (by kernel_rfl)) (knows_new (V := isVal (.int .i64 1)) 97 27 (by kernel_rfl) (by kernel_rfl) (by kernel_rfl)) (knows_const _) (fun _ => rfl) (eql_t _ _ (by (have h16 := t16_len; omega))), ?_⟩
  refine ⟨isVal (.bool true), step_pick (.tmp 93) (.tmp 98) (.const (.bool false)) true (by kernel_rfl) (wanted_none (by kernel_rfl)) (stable_val _) (knows_new (V := isVal (.bool true)) 93 23 (by kernel_rfl) (by kernel_rfl) (by kernel_rfl)) (knows_new (V := isVal (.bool true)) 98 28 (by kernel_rfl) (by kernel_rfl) (by kernel_rfl)), ?_⟩
  refine ⟨isVal (.bool true), step_move (.tmp 99) (by kernel_rfl) (wanted_none (by kernel_rfl)) (stable_val _) (knows_new (V := isVal (.bool true)) 99 29 (by kernel_rfl) (by kernel_rfl) (by kernel_rfl)), ?_⟩
  refine ⟨isVal (.agg #[.int .i64 aK1.cap, us, ui]), step_loadN 25 (.tmp 4) (b) [.int .i64 aK1.cap, us, ui] (by kernel_rfl) (wanted_some 30 100 true (by kernel_rfl) (by kernel_rfl) (by kernel_rfl) (by kernel_rfl)) (knows_old 4 (.pointer (some ⟨b, 0, none⟩)) (by kernel_rfl) e4) size_ar agg_ar (HK), ?_⟩
  refine ⟨isVal (.int .i64 1), step_move (.tmp 11) (by kernel_rfl) (wanted_some 30 100 true (by kernel_rfl) (by kernel_rfl) (by kernel_rfl) (by kernel_rfl)) (stable_val _) (knows_old 11 (.int .i64 1) (by kernel_rfl) e11), ?_⟩
  refine ⟨isVal (.int .i64 14), step_bin .sub 3 3 (.const (.int .i64 15)) (.tmp 102) (.int .i64 15) (.int .i64 1) (.int .i64 14) (by kernel_rfl) (wanted_some 30 100 true (by kernel_rfl) (by kernel_rfl) (by kernel_rfl) (by kernel_rfl)) (knows_const _) (knows_new (V := isVal (.int .i64 1)) 102 32 (by kernel_rfl) (by kernel_rfl) (by kernel_rfl)) (fun _ => rfl) (sub_v 15 1 14 (by (have h16 := t16_len; omega)) (by (have h16 := t16_len; omega)) (by (have h16 := t16_len; omega))), ?_⟩
  refine ⟨(isLen 0), step_call 15 #[.tmp 101, .tmp 103, .const (.int .i64 5)] #[25, 3, 3] #[.agg #[.int .i64 aK1.cap, us, ui], .int .i64 14, .int .i64 5] (by kernel_rfl) (wanted_some 30 100 true (by kernel_rfl) (by kernel_rfl) (by kernel_rfl) (by kernel_rfl)) (stable_len 0) (args3 (.tmp 101) (.tmp 103) (.const (.int .i64 5)) (.agg #[.int .i64 aK1.cap, us, ui]) (.int .i64 14) (.int .i64 5) (knows_new (V := isVal (.agg #[.int .i64 aK1.cap, us, ui])) 101 31 (by kernel_rfl) (by kernel_rfl) (by kernel_rfl)) (knows_new (V := isVal (.int .i64 14)) 103 33 (by kernel_rfl) (by kernel_rfl) (by kernel_rfl)) (knows_const _)) (enters_of Tryz.func15 (by kernel_rfl) rfl) (by intro w' hb; exact (w_in 14 5 0 _ w' (stable_ar _ _ _ _ hK hb) (by kernel_rfl)).mono (by rintro e w2 ⟨a, c, rfl, hb2⟩; exact ⟨_, rfl, ⟨a, c, rfl⟩, hb2⟩)), ?_⟩
  refine ⟨isVal (.int .i64 0), step_lenP 22 (.tmp 104) 0 (by kernel_rfl) (wanted_some 30 100 true (by kernel_rfl) (by kernel_rfl) (by kernel_rfl) (by kernel_rfl)) (knows_new (V := (isLen 0)) 104 34 (by kernel_rfl) (by kernel_rfl) (by kernel_rfl)) Tryz.underlying22, ?_⟩
  refine ⟨isVal (.bool true), step_bin .eql 3 3 (.tmp 105) (.const (.int .i64 0)) (.int .i64 0) (.int .i64 0) (.bool true) (by kernel_rfl) (wanted_some 30 100 true (by kernel_rfl) (by kernel_rfl) (by kernel_rfl) (by kernel_rfl)) (knows_new (V := isVal (.int .i64 0)) 105 35 (by kernel_rfl) (by kernel_rfl) (by kernel_rfl)) (knows_const _) (fun _ => rfl) (eql_t _ _ (by (have h16 := t16_len; omega))), ?_⟩
  refine ⟨isVal (.bool true), step_pick (.tmp 100) (.tmp 106) (.const (.bool false)) true (by kernel_rfl) (wanted_none (by kernel_rfl)) (stable_val _) (knows_new (V := isVal (.bool true)) 100 30 (by kernel_rfl) (by kernel_rfl) (by kernel_rfl)) (knows_new (V := isVal (.bool true)) 106 36 (by kernel_rfl) (by kernel_rfl) (by kernel_rfl)), ?_⟩
  refine ⟨isVal (.bool true), step_move (.tmp 107) (by kernel_rfl) (wanted_none (by kernel_rfl)) (stable_val _) (knows_new (V := isVal (.bool true)) 107 37 (by kernel_rfl) (by kernel_rfl) (by kernel_rfl)), ?_⟩
  refine ⟨isVal (.agg #[.int .i64 aK1.cap, us, ui]), step_loadN 25 (.tmp 4) (b) [.int .i64 aK1.cap, us, ui] (by kernel_rfl) (wanted_some 38 108 true (by kernel_rfl) (by kernel_rfl) (by kernel_rfl) (by kernel_rfl)) (knows_old 4 (.pointer (some ⟨b, 0, none⟩)) (by kernel_rfl) e4) size_ar agg_ar (HK), ?_⟩
  refine ⟨isVal (.int .i64 1), step_move (.tmp 11) (by kernel_rfl) (wanted_some 38 108 true (by kernel_rfl) (by kernel_rfl) (by kernel_rfl) (by kernel_rfl)) (stable_val _) (knows_old 11 (.int .i64 1) (by kernel_rfl) e11), ?_⟩
  refine ⟨(isLen 0), step_call 15 #[.tmp 109, .tmp 110, .const (.int .i64 0)] #[25, 3, 3] #[.agg #[.int .i64 aK1.cap, us, ui], .int .i64 1, .int .i64 0] (by kernel_rfl) (wanted_some 38 108 true (by kernel_rfl) (by kernel_rfl) (by kernel_rfl) (by kernel_rfl)) (stable_len 0) (args3 (.tmp 109) (.tmp 110) (.const (.int .i64 0)) (.agg #[.int .i64 aK1.cap, us, ui]) (.int .i64 1) (.int .i64 0) (knows_new (V := isVal (.agg #[.int .i64 aK1.cap, us, ui])) 109 39 (by kernel_rfl) (by kernel_rfl) (by kernel_rfl)) (knows_new (V := isVal (.int .i64 1)) 110 40 (by kernel_rfl) (by kernel_rfl) (by kernel_rfl)) (knows_const _)) (enters_of Tryz.func15 (by kernel_rfl) rfl) (by intro w' hb; exact (w_in 1 0 0 _ w' (stable_ar _ _ _ _ hK hb) (by kernel_rfl)).mono (by rintro e w2 ⟨a, c, rfl, hb2⟩; exact ⟨_, rfl, ⟨a, c, rfl⟩, hb2⟩)), ?_⟩
  refine ⟨isVal (.int .i64 0), step_lenP 22 (.tmp 111) 0 (by kernel_rfl) (wanted_some 38 108 true (by kernel_rfl) (by kernel_rfl) (by kernel_rfl) (by kernel_rfl)) (knows_new (V := (isLen 0)) 111 41 (by kernel_rfl) (by kernel_rfl) (by kernel_rfl)) Tryz.underlying22, ?_⟩
  refine ⟨isVal (.bool true), step_bin .eql 3 3 (.tmp 112) (.const (.int .i64 0)) (.int .i64 0) (.int .i64 0) (.bool true) (by kernel_rfl) (wanted_some 38 108 true (by kernel_rfl) (by kernel_rfl) (by kernel_rfl) (by kernel_rfl)) (knows_new (V := isVal (.int .i64 0)) 112 42 (by kernel_rfl) (by kernel_rfl) (by kernel_rfl)) (knows_const _) (fun _ => rfl) (eql_t _ _ (by (have h16 := t16_len; omega))), ?_⟩
  refine ⟨isVal (.bool true), step_pick (.tmp 108) (.tmp 113) (.const (.bool false)) true (by kernel_rfl) (wanted_none (by kernel_rfl)) (stable_val _) (knows_new (V := isVal (.bool true)) 108 38 (by kernel_rfl) (by kernel_rfl) (by kernel_rfl)) (knows_new (V := isVal (.bool true)) 113 43 (by kernel_rfl) (by kernel_rfl) (by kernel_rfl)), ?_⟩
  refine ⟨isVal (.bool true), step_move (.tmp 114) (by kernel_rfl) (wanted_none (by kernel_rfl)) (stable_val _) (knows_new (V := isVal (.bool true)) 114 44 (by kernel_rfl) (by kernel_rfl) (by kernel_rfl)), ?_⟩
  refine ⟨isVal (.string ⟨t16.toArray⟩), step_move (.tmp 12) (by kernel_rfl) (wanted_some 45 115 true (by kernel_rfl) (by kernel_rfl) (by kernel_rfl) (by kernel_rfl)) (stable_val _) (knows_old 12 (.string ⟨t16.toArray⟩) (by kernel_rfl) e12), ?_⟩
  refine ⟨isVal (.int .i64 (t16.length : Int)), step_len 9 (.tmp 116) (.string ⟨t16.toArray⟩) (.int .i64 (t16.length : Int)) (by kernel_rfl) (wanted_some 45 115 true (by kernel_rfl) (by kernel_rfl) (by kernel_rfl) (by kernel_rfl)) (knows_new (V := isVal (.string ⟨t16.toArray⟩)) 116 46 (by kernel_rfl) (by kernel_rfl) (by kernel_rfl)) (len_str t16), ?_⟩
  refine ⟨isVal (.bool true), step_bin .eql 3 3 (.tmp 117) (.const (.int .i64 16)) (.int .i64 (t16.length : Int)) (.int .i64 16) (.bool true) (by kernel_rfl) (wanted_some 45 115 true (by kernel_rfl) (by kernel_rfl) (by kernel_rfl) (by kernel_rfl)) (knows_new (V := isVal (.int .i64 (t16.length : Int))) 117 47 (by kernel_rfl) (by kernel_rfl) (by kernel_rfl)) (knows_const _) (fun _ => rfl) (eql_t _ _ (by (have h16 := t16_len; omega))), ?_⟩
  refine ⟨isVal (.bool true), step_pick (.tmp 115) (.tmp 118) (.const (.bool false)) true (by kernel_rfl) (wanted_none (by kernel_rfl)) (stable_val _) (knows_new (V := isVal (.bool true)) 115 45 (by kernel_rfl) (by kernel_rfl) (by kernel_rfl)) (knows_new (V := isVal (.bool true)) 118 48 (by kernel_rfl) (by kernel_rfl) (by kernel_rfl)), ?_⟩
  refine ⟨isVal (.bool true), step_move (.tmp 119) (by kernel_rfl) (wanted_none (by kernel_rfl)) (stable_val _) (knows_new (V := isVal (.bool true)) 119 49 (by kernel_rfl) (by kernel_rfl) (by kernel_rfl)), ?_⟩
  refine ⟨isVal (.int .i64 0), step_move (.tmp 13) (by kernel_rfl) (wanted_some 50 120 true (by kernel_rfl) (by kernel_rfl) (by kernel_rfl) (by kernel_rfl)) (stable_val _) (knows_old 13 (.int .i64 0) (by kernel_rfl) e13), ?_⟩
  refine ⟨isVal (.bool true), step_bin .eql 35 35 (.tmp 121) (.const (.int .i64 0)) (.int .i64 0) (.int .i64 0) (.bool true) (by kernel_rfl) (wanted_some 50 120 true (by kernel_rfl) (by kernel_rfl) (by kernel_rfl) (by kernel_rfl)) (knows_new (V := isVal (.int .i64 0)) 121 51 (by kernel_rfl) (by kernel_rfl) (by kernel_rfl)) (knows_const _) (fun _ => rfl) (eql_t _ _ (by (have h16 := t16_len; omega))), ?_⟩
  refine ⟨isVal (.bool true), step_pick (.tmp 120) (.tmp 122) (.const (.bool false)) true (by kernel_rfl) (wanted_none (by kernel_rfl)) (stable_val _) (knows_new (V := isVal (.bool true)) 120 50 (by kernel_rfl) (by kernel_rfl) (by kernel_rfl)) (knows_new (V := isVal (.bool true)) 122 52 (by kernel_rfl) (by kernel_rfl) (by kernel_rfl)), ?_⟩
  refine ⟨isVal (.bool true), step_move (.tmp 123) (by kernel_rfl) (wanted_none (by kernel_rfl)) (stable_val _) (knows_new (V := isVal (.bool true)) 123 53 (by kernel_rfl) (by kernel_rfl) (by kernel_rfl)), ?_⟩
  refine ⟨isVal (.agg #[.int .i64 1, .int .i64 2, .int .i64 3, .int .i64 4]), step_loadN 26 (.tmp 14) (l) [.int .i64 1, .int .i64 2, .int .i64 3, .int .i64 4] (by kernel_rfl) (wanted_some 54 124 true (by kernel_rfl) (by kernel_rfl) (by kernel_rfl) (by kernel_rfl)) (knows_old 14 (.pointer (some ⟨l, 0, none⟩)) (by kernel_rfl) e14) size_a4 agg_a4 (HL), ?_⟩
  refine ⟨isVal (.agg #[.int .i64 1, .int .i64 2, .int .i64 3, .int .i64 4]), step_buildP 26 #[(0, .const (.int .i64 1)), (1, .const (.int .i64 2)), (2, .const (.int .i64 3)), (3, .const (.int .i64 4))] (by kernel_rfl) (wanted_some 54 124 true (by kernel_rfl) (by kernel_rfl) (by kernel_rfl) (by kernel_rfl)) (stable_val _) (by
    intro a w hk hd
    have e0 : a.eval (.const (.int .i64 1)) = (.int .i64 1) := (knows_const _) a w hk hd
    have e1 : a.eval (.const (.int .i64 2)) = (.int .i64 2) := (knows_const _) a w hk hd
    have e2 : a.eval (.const (.int .i64 3)) = (.int .i64 3) := (knows_const _) a w hk hd
    have e3 : a.eval (.const (.int .i64 4)) = (.int .i64 4) := (knows_const _) a w hk hd
    exact ⟨_, by simpa [e0, e1, e2, e3] using (built_1), rfl⟩), ?_⟩
  refine ⟨isVal (.bool true), step_bin .eql 26 26 (.tmp 125) (.tmp 126) (.agg #[.int .i64 1, .int .i64 2, .int .i64 3, .int .i64 4]) (.agg #[.int .i64 1, .int .i64 2, .int .i64 3, .int .i64 4]) (.bool true) (by kernel_rfl) (wanted_some 54 124 true (by kernel_rfl) (by kernel_rfl) (by kernel_rfl) (by kernel_rfl)) (knows_new (V := isVal (.agg #[.int .i64 1, .int .i64 2, .int .i64 3, .int .i64 4])) 125 55 (by kernel_rfl) (by kernel_rfl) (by kernel_rfl)) (knows_new (V := isVal (.agg #[.int .i64 1, .int .i64 2, .int .i64 3, .int .i64 4])) 126 56 (by kernel_rfl) (by kernel_rfl) (by kernel_rfl)) (fun _ => rfl) (fun W => eql_i4 26 3 1 2 3 4 1 2 3 4 true Tryz.underlying26 Tryz.underlying3 (by kernel_rfl) (by simp) W), ?_⟩
  refine ⟨isVal (.bool true), step_pick (.tmp 124) (.tmp 127) (.const (.bool false)) true (by kernel_rfl) (wanted_none (by kernel_rfl)) (stable_val _) (knows_new (V := isVal (.bool true)) 124 54 (by kernel_rfl) (by kernel_rfl) (by kernel_rfl)) (knows_new (V := isVal (.bool true)) 127 57 (by kernel_rfl) (by kernel_rfl) (by kernel_rfl)), ?_⟩
  refine ⟨isVal (.bool true), step_move (.tmp 128) (by kernel_rfl) (wanted_none (by kernel_rfl)) (stable_val _) (knows_new (V := isVal (.bool true)) 128 58 (by kernel_rfl) (by kernel_rfl) (by kernel_rfl)), ?_⟩
  refine ⟨isVal (.int .i64 0), step_move (.tmp 15) (by kernel_rfl) (wanted_some 59 129 true (by kernel_rfl) (by kernel_rfl) (by kernel_rfl) (by kernel_rfl)) (stable_val _) (knows_old 15 (.int .i64 0) (by kernel_rfl) e15), ?_⟩
  refine ⟨isVal (.bool true), step_bin .eql 35 35 (.tmp 130) (.const (.int .i64 0)) (.int .i64 0) (.int .i64 0) (.bool true) (by kernel_rfl) (wanted_some 59 129 true (by kernel_rfl) (by kernel_rfl) (by kernel_rfl) (by kernel_rfl)) (knows_new (V := isVal (.int .i64 0)) 130 60 (by kernel_rfl) (by kernel_rfl) (by kernel_rfl)) (knows_const _) (fun _ => rfl) (eql_t _ _ (by (have h16 := t16_len; omega))), ?_⟩
  refine ⟨isVal (.bool true), step_pick (.tmp 129) (.tmp 131) (.const (.bool false)) true (by kernel_rfl) (wanted_none (by kernel_rfl)) (stable_val _) (knows_new (V := isVal (.bool true)) 129 59 (by kernel_rfl) (by kernel_rfl) (by kernel_rfl)) (knows_new (V := isVal (.bool true)) 131 61 (by kernel_rfl) (by kernel_rfl) (by kernel_rfl)), ?_⟩
  refine ⟨isVal (.bool true), step_move (.tmp 132) (by kernel_rfl) (wanted_none (by kernel_rfl)) (stable_val _) (knows_new (V := isVal (.bool true)) 132 62 (by kernel_rfl) (by kernel_rfl) (by kernel_rfl)), ?_⟩
  refine ⟨isVal (.int .i64 1), step_move (.tmp 17) (by kernel_rfl) (wanted_some 63 133 true (by kernel_rfl) (by kernel_rfl) (by kernel_rfl) (by kernel_rfl)) (stable_val _) (knows_old 17 (.int .i64 1) (by kernel_rfl) e17), ?_⟩
  refine ⟨isVal (.bool true), step_bin .eql 35 35 (.tmp 134) (.const (.int .i64 1)) (.int .i64 1) (.int .i64 1) (.bool true) (by kernel_rfl) (wanted_some 63 133 true (by kernel_rfl) (by kernel_rfl) (by kernel_rfl) (by kernel_rfl)) (knows_new (V := isVal (.int .i64 1)) 134 64 (by kernel_rfl) (by kernel_rfl) (by kernel_rfl)) (knows_const _) (fun _ => rfl) (eql_t _ _ (by (have h16 := t16_len; omega))), ?_⟩
  refine ⟨isVal (.bool true), step_pick (.tmp 133) (.tmp 135) (.const (.bool false)) true (by kernel_rfl) (wanted_none (by kernel_rfl)) (stable_val _) (knows_new (V := isVal (.bool true)) 133 63 (by kernel_rfl) (by kernel_rfl) (by kernel_rfl)) (knows_new (V := isVal (.bool true)) 135 65 (by kernel_rfl) (by kernel_rfl) (by kernel_rfl)), ?_⟩
  refine ⟨isVal (.bool true), step_move (.tmp 136) (by kernel_rfl) (wanted_none (by kernel_rfl)) (stable_val _) (knows_new (V := isVal (.bool true)) 136 66 (by kernel_rfl) (by kernel_rfl) (by kernel_rfl)), ?_⟩
  refine ⟨isVal (.int .i64 2), step_move (.tmp 19) (by kernel_rfl) (wanted_some 67 137 true (by kernel_rfl) (by kernel_rfl) (by kernel_rfl) (by kernel_rfl)) (stable_val _) (knows_old 19 (.int .i64 2) (by kernel_rfl) e19), ?_⟩
  refine ⟨isVal (.bool true), step_bin .eql 35 35 (.tmp 138) (.const (.int .i64 2)) (.int .i64 2) (.int .i64 2) (.bool true) (by kernel_rfl) (wanted_some 67 137 true (by kernel_rfl) (by kernel_rfl) (by kernel_rfl) (by kernel_rfl)) (knows_new (V := isVal (.int .i64 2)) 138 68 (by kernel_rfl) (by kernel_rfl) (by kernel_rfl)) (knows_const _) (fun _ => rfl) (eql_t _ _ (by (have h16 := t16_len; omega))), ?_⟩
  refine ⟨isVal (.bool true), step_pick (.tmp 137) (.tmp 139) (.const (.bool false)) true (by kernel_rfl) (wanted_none (by kernel_rfl)) (stable_val _) (knows_new (V := isVal (.bool true)) 137 67 (by kernel_rfl) (by kernel_rfl) (by kernel_rfl)) (knows_new (V := isVal (.bool true)) 139 69 (by kernel_rfl) (by kernel_rfl) (by kernel_rfl)), ?_⟩
  refine ⟨isVal (.bool true), step_assign (.tmp 140) (by kernel_rfl) (wanted_none (by kernel_rfl)) (stable_val _) (knows_new (V := isVal (.bool true)) 140 70 (by kernel_rfl) (by kernel_rfl) (by kernel_rfl)), ?_⟩
  intro a w hkp hb hd
  rw [kept_of hkp [some 70, some 71, some 72, some 73, some 74, some 75, some 76, some 77, some 78, some 79, some 80, some 81, some 82, some 83, some 84, some 85, some 86, some 87, some 88, some 89, some 90, some 91, some 92, some 93, some 94, some 95, some 96, some 97, some 98, some 99, some 100, some 101, some 102, some 103, some 104, some 105, some 106, some 107, some 108, some 109, some 110, some 111, some 112, some 113, some 114, some 115, some 116, some 117, some 118, some 119, some 120, some 121, some 122, some 123, some 124, some 125, some 126, some 127, some 128, some 129, some 130, some 131, some 132, some 133, some 134, some 135, some 136, some 137, some 138, some 139, some 140, some 0] [70, 71, 72, 73, 74, 75, 76, 77, 78, 79, 80, 81, 82, 83, 84, 85, 86, 87, 88, 89, 90, 91, 92, 93, 94, 95, 96, 97, 98, 99, 100, 101, 102, 103, 104, 105, 106, 107, 108, 109, 110, 111, 112, 113, 114, 115, 116, 117, 118, 119, 120, 121, 122, 123, 124, 125, 126, 127, 128, 129, 130, 131, 132, 133, 134, 135, 136, 137, 138, 139, 140, 0] (by kernel_rfl) (by decide)]
  have d0 := fdone_of (hd 71 (by rw [show wk14Ops.size = 72 by kernel_rfl]; decide)) (t := 0) (V := isVal (.bool true)) (by kernel_rfl) (by kernel_rfl)
  exact hQ (fun s => a.tmps.getD s undef) w d0 hb
set_option maxRecDepth 100000 in
set_option maxHeartbeats 4000000 in
theorem dgworks_any (w : World) : Calls Tryz.prog 9 #[] w fun e w' => e = .returned (.bool true) ∧ Below w.heap.size w w' := by
  have hB := Kept.mk (Below.refl w.heap.size w)
  have he0 : ∀ W, (binOp .eql 26 (.agg #[.int .i64 0, .int .i64 0, .int .i64 0, .int .i64 0]) (.agg #[.int .i64 0, .int .i64 0, .int .i64 0, .int .i64 0])).run Tryz.prog W = .ok (.bool true) W := fun W => eql_i4 26 3 0 0 0 0 0 0 0 0 true Tryz.underlying26 Tryz.underlying3 (by kernel_rfl) (by simp) W
  have he1 : ∀ W, (binOp .eql 26 (.agg #[.int .i64 1, .int .i64 2, .int .i64 3, .int .i64 4]) (.agg #[.int .i64 1, .int .i64 2, .int .i64 3, .int .i64 4])).run Tryz.prog W = .ok (.bool true) W := fun W => eql_i4 26 3 1 2 3 4 1 2 3 4 true Tryz.underlying26 Tryz.underlying3 (by kernel_rfl) (by simp) W
  go_enter Tryz.func9, Tryz.ntmps9
  go_wp2_with fail
  ((with_reducible refine (w_dnew _).mono ?_); rintro e U ⟨v', rfl, ⟨p', m', rfl, hp', hm'⟩, hb1⟩)
  obtain ⟨K1, K2, K3, K4, K5⟩ := anew U aZ2 p' m' hp' hm' U.heap.size rfl
  clear hp' hm'
  replace hB := Kept.mk (hB.out.trans ((hb1).mono hB.out.size))
  clear hb1
  go_wp2_with (have hz0 := K1; refine wpList_storeN 25 rfl (.tmp 1) (.tmp 22) rfl U.heap.size [.int .i64 aZ2.cap, p', m'] size_ar rfl rfl K1.out rfl K2.out K5.out ?_; replace hB := Kept.mk (hB.out.trans ((K3.out).mono hB.out.size)); have Va := Kept.mk K4.out; clear hz0 K1 K2 K3 K4 K5; generalize setN (U.alloc (.cells #[.int .i64 0, .slice none 0 0, .slice none 0 0] 25)) U.heap.size 0 [.int .i64 aZ2.cap, p', m'] = W1 at *; generalize U.heap.size = ga at *; obtain ⟨qa, ra, xa, sa, ia, ka0, ka1, ka2⟩ := Va.out.open_; have Xa := Kept.mk xa; have Sa := Kept.mk sa; have Ia := Kept.mk ia; clear xa sa ia; obtain ⟨hBx, Vx, Xx2⟩ := w_litK W1; have kw0 := (hBx.out.cell (p := ⟨ga, 0, none⟩) Va.out.lt).trans ka0; have kw1 := (hBx.out.cell (p := ⟨ga, 1, none⟩) Va.out.lt).trans ka1; have kw2 := (hBx.out.cell (p := ⟨ga, 2, none⟩) Va.out.lt).trans ka2)
  have Xa2 := Kept.mk (stable_ar _ _ _ _ Xa.out hBx.out)
  replace hB := Kept.mk (hB.out.trans (hBx.out.mono hB.out.size))
  replace Va := Kept.mk (Va.out.keep hBx.out)
  clear hBx kw0 kw1 kw2
  clear Xa Sa Ia ka0 ka1 ka2
  generalize W1.heap.size = gx at *
  generalize (W1.alloc (.cells #[.string ⟨#[107]⟩, .int .i64 3, .int .i64 0, .int .i64 0, .bool false, .string ⟨#[]⟩, .slice none 0 0, .slice none 0 0, .int .u64 1] 48)) = W2 at *
  ((with_reducible refine (w_djoin _ _ _ Xa2.out Xx2.out).mono ?_); rintro e U ⟨v', rfl, ⟨p', m', rfl, hp', hm'⟩, hb1⟩)
  obtain ⟨K1, K2, K3, K4, K5⟩ := anew U aK1 p' m' hp' hm' U.heap.size rfl
  clear hp' hm'
  replace hB := Kept.mk (hB.out.trans ((hb1).mono hB.out.size))
  replace Va := Kept.mk (Va.out.keep (hb1))
  replace Vx := Kept.mk (Vx.out.keep (hb1))
  clear hb1
  go_wp2_with (have hz0 := K1; refine wpList_storeN 25 rfl (.tmp 4) (.tmp 30) rfl U.heap.size [.int .i64 aK1.cap, p', m'] size_ar rfl rfl K1.out rfl K2.out K5.out ?_; replace hB := Kept.mk (hB.out.trans ((K3.out).mono hB.out.size)); replace Va := Kept.mk (Va.out.keep (K3.out)); replace Vx := Kept.mk (Vx.out.keep (K3.out)); have Vb := Kept.mk K4.out; clear hz0 K1 K2 K3 K4 K5; generalize setN (U.alloc (.cells #[.int .i64 0, .slice none 0 0, .slice none 0 0] 25)) U.heap.size 0 [.int .i64 aK1.cap, p', m'] = W3 at *; generalize U.heap.size = gb at *; obtain ⟨qx, rx, xx, yx, kx0, kx1, kx2, kx3, kx4, kx5, kx6, kx7, kx8⟩ := Vx.out.open_; have Xx := Kept.mk xx; have Yx := Kept.mk yx; clear xx yx)
  ((with_reducible refine (w_dput _ _ Xx.out).mono ?_); rintro e W4 ⟨rfl, hb1⟩)
  clear Xx Yx kx0 kx1 kx2 kx3 kx4 kx5 kx6 kx7 kx8
  replace hB := Kept.mk (hB.out.trans ((hb1).mono hB.out.size))
  replace Va := Kept.mk (Va.out.keep (hb1))
  replace Vx := Kept.mk (Vx.out.keep (hb1))
  replace Vb := Kept.mk (Vb.out.keep (hb1))
  clear hb1
  go_wp2_with fail
  ((with_reducible refine (w_bucket _).mono ?_); rintro e W5 ⟨rfl, hb1⟩)
  replace hB := Kept.mk (hB.out.trans ((hb1).mono hB.out.size))
  replace Va := Kept.mk (Va.out.keep (hb1))
  replace Vx := Kept.mk (Vx.out.keep (hb1))
  replace Vb := Kept.mk (Vb.out.keep (hb1))
  clear hb1
  obtain ⟨qb, rb, xb, sb, ib, kb0, kb1, kb2⟩ := Vb.out.open_
  have Xb := Kept.mk xb
  have Sb := Kept.mk sb
  have Ib := Kept.mk ib
  clear xb sb ib
  go_wp2_with fail
  ((with_reducible refine (w_sumsK _ _ Xb.out).mono ?_); rintro e U ⟨rfl, hb1⟩)
  obtain ⟨K1, K2, K3, K4, K5⟩ := snew U (3264677171) (0) (0) (0) U.heap.size rfl
  clear Xb Sb Ib kb0 kb1 kb2
  replace hB := Kept.mk (hB.out.trans ((hb1).mono hB.out.size))
  replace Va := Kept.mk (Va.out.keep (hb1))
  replace Vx := Kept.mk (Vx.out.keep (hb1))
  replace Vb := Kept.mk (Vb.out.keep (hb1))
  clear hb1
  go_wp2_with (have hz0 := K1; refine wpList_storeN 26 rfl (.tmp 10) (.tmp 46) rfl U.heap.size [.int .i64 3264677171, .int .i64 0, .int .i64 0, .int .i64 0] size_a4 rfl rfl K1.out rfl K2.out K5.out ?_; replace hB := Kept.mk (hB.out.trans ((K3.out).mono hB.out.size)); replace Va := Kept.mk (Va.out.keep (K3.out)); replace Vx := Kept.mk (Vx.out.keep (K3.out)); replace Vb := Kept.mk (Vb.out.keep (K3.out)); have Vs := Kept.mk K4.out; clear hz0 K1 K2 K3 K4 K5; generalize setN (U.alloc (.cells #[.int .i64 0, .int .i64 0, .int .i64 0, .int .i64 0] 26)) U.heap.size 0 [.int .i64 3264677171, .int .i64 0, .int .i64 0, .int .i64 0] = W6 at *; generalize U.heap.size = gs at *; obtain ⟨qa, ra, xa, sa, ia, ka0, ka1, ka2⟩ := Va.out.open_; have Xa := Kept.mk xa; have Sa := Kept.mk sa; have Ia := Kept.mk ia; clear xa sa ia)
  refine wk9_region _ _ _ rfl gs ga _ _ rfl rfl Vs.out.cells ?HH Xa.out ?_
  case HH => exact ⟨Va.out.lt, fun j x hx => by match j, hx with | 0, h => exact ka0 ▸ h | 1, h => exact ka1 ▸ h | 2, h => exact ka2 ▸ h | n + 3, h => simp at h⟩
  intro f9 W9 d11 hb1
  simp only [List.foldl_cons, List.foldl_nil, d11]
  generalize f9 47 = y47
  generalize f9 48 = y48
  generalize f9 49 = y49
  generalize f9 50 = y50
  clear d11
  try simp only [List.setIfInBounds_toArray, List.set_cons_succ, List.set_cons_zero]
  clear Xa Sa Ia ka0 ka1 ka2
  replace hB := Kept.mk (hB.out.trans ((hb1).mono hB.out.size))
  replace Va := Kept.mk (Va.out.keep (hb1))
  replace Vx := Kept.mk (Vx.out.keep (hb1))
  replace Vb := Kept.mk (Vb.out.keep (hb1))
  replace Vs := Kept.mk (Vs.out.keep (hb1))
  clear hb1
  go_wp2_with fail
  ((with_reducible refine (w_put4 _).mono ?_); rintro e W8 ⟨rfl, hb1⟩)
  replace hB := Kept.mk (hB.out.trans ((hb1).mono hB.out.size))
  replace Va := Kept.mk (Va.out.keep (hb1))
  replace Vx := Kept.mk (Vx.out.keep (hb1))
  replace Vb := Kept.mk (Vb.out.keep (hb1))
  replace Vs := Kept.mk (Vs.out.keep (hb1))
  clear hb1
  go_wp2_with fail
  ((with_reducible refine (w_get4 _).mono ?_); rintro e U ⟨rfl, hb1⟩)
  obtain ⟨K1, K2, K3, K4, K5⟩ := snew U (1) (2) (3) (4) U.heap.size rfl
  replace hB := Kept.mk (hB.out.trans ((hb1).mono hB.out.size))
  replace Va := Kept.mk (Va.out.keep (hb1))
  replace Vx := Kept.mk (Vx.out.keep (hb1))
  replace Vb := Kept.mk (Vb.out.keep (hb1))
  replace Vs := Kept.mk (Vs.out.keep (hb1))
  clear hb1
  go_wp2_with (have hz0 := K1; refine wpList_storeN 26 rfl (.tmp 14) (.tmp 59) rfl U.heap.size [.int .i64 1, .int .i64 2, .int .i64 3, .int .i64 4] size_a4 rfl rfl K1.out rfl K2.out K5.out ?_; replace hB := Kept.mk (hB.out.trans ((K3.out).mono hB.out.size)); replace Va := Kept.mk (Va.out.keep (K3.out)); replace Vx := Kept.mk (Vx.out.keep (K3.out)); replace Vb := Kept.mk (Vb.out.keep (K3.out)); replace Vs := Kept.mk (Vs.out.keep (K3.out)); have Vl := Kept.mk K4.out; clear hz0 K1 K2 K3 K4 K5; generalize setN (U.alloc (.cells #[.int .i64 0, .int .i64 0, .int .i64 0, .int .i64 0] 26)) U.heap.size 0 [.int .i64 1, .int .i64 2, .int .i64 3, .int .i64 4] = W9 at *; generalize U.heap.size = gl at *)
  ((with_reducible refine (w_put4n _).mono ?_); rintro e W10 ⟨rfl, hb1⟩)
  replace hB := Kept.mk (hB.out.trans ((hb1).mono hB.out.size))
  replace Va := Kept.mk (Va.out.keep (hb1))
  replace Vx := Kept.mk (Vx.out.keep (hb1))
  replace Vb := Kept.mk (Vb.out.keep (hb1))
  replace Vs := Kept.mk (Vs.out.keep (hb1))
  replace Vl := Kept.mk (Vl.out.keep (hb1))
  clear hb1
  go_wp2_with fail
  ((with_reducible refine (w_get0 _).mono ?_); rintro e U ⟨rfl, hb1⟩)
  obtain ⟨K1, K2, K3, K4, K5⟩ := snew U (0) (0) (0) (0) U.heap.size rfl
  replace hB := Kept.mk (hB.out.trans ((hb1).mono hB.out.size))
  replace Va := Kept.mk (Va.out.keep (hb1))
  replace Vx := Kept.mk (Vx.out.keep (hb1))
  replace Vb := Kept.mk (Vb.out.keep (hb1))
  replace Vs := Kept.mk (Vs.out.keep (hb1))
  replace Vl := Kept.mk (Vl.out.keep (hb1))
  clear hb1
  go_wp2_with (have hz0 := K1; refine wpList_storeN 26 rfl (.tmp 18) (.tmp 68) rfl U.heap.size [.int .i64 0, .int .i64 0, .int .i64 0, .int .i64 0] size_a4 rfl rfl K1.out rfl K2.out K5.out ?_; replace hB := Kept.mk (hB.out.trans ((K3.out).mono hB.out.size)); replace Va := Kept.mk (Va.out.keep (K3.out)); replace Vx := Kept.mk (Vx.out.keep (K3.out)); replace Vb := Kept.mk (Vb.out.keep (K3.out)); replace Vs := Kept.mk (Vs.out.keep (K3.out)); replace Vl := Kept.mk (Vl.out.keep (K3.out)); have Vz := Kept.mk K4.out; clear hz0 K1 K2 K3 K4 K5; generalize setN (U.alloc (.cells #[.int .i64 0, .int .i64 0, .int .i64 0, .int .i64 0] 26)) U.heap.size 0 [.int .i64 0, .int .i64 0, .int .i64 0, .int .i64 0] = W11 at *; generalize U.heap.size = gz at *; obtain ⟨qa, ra, xa, sa, ia, ka0, ka1, ka2⟩ := Va.out.open_; have Xa := Kept.mk xa; have Sa := Kept.mk sa; have Ia := Kept.mk ia; clear xa sa ia)
  obtain ⟨qb, rb, xb, sb, ib, kb0, kb1, kb2⟩ := Vb.out.open_
  have Xb := Kept.mk xb
  have Sb := Kept.mk sb
  have Ib := Kept.mk ib
  clear xb sb ib
  refine wk14_region _ _ _ rfl gs ga gb gl _ _ _ _ rfl rfl rfl rfl rfl rfl rfl rfl rfl rfl rfl rfl rfl Vs.out.cells ?HH ?HB Vl.out.cells Xa.out Xb.out ?_
  case HH => exact ⟨Va.out.lt, fun j x hx => by match j, hx with | 0, h => exact ka0 ▸ h | 1, h => exact ka1 ▸ h | 2, h => exact ka2 ▸ h | n + 3, h => simp at h⟩
  case HB => exact ⟨Vb.out.lt, fun j x hx => by match j, hx with | 0, h => exact kb0 ▸ h | 1, h => exact kb1 ▸ h | 2, h => exact kb2 ▸ h | n + 3, h => simp at h⟩
  intro f9 W9 d0 hb1
  simp only [List.foldl_cons, List.foldl_nil, d0]
  generalize f9 70 = y70
  generalize f9 71 = y71
  generalize f9 72 = y72
  generalize f9 73 = y73
  generalize f9 74 = y74
  generalize f9 75 = y75
  generalize f9 76 = y76
  generalize f9 77 = y77
  generalize f9 78 = y78
  generalize f9 79 = y79
  generalize f9 80 = y80
  generalize f9 81 = y81
  generalize f9 82 = y82
  generalize f9 83 = y83
  generalize f9 84 = y84
  generalize f9 85 = y85
  generalize f9 86 = y86
  generalize f9 87 = y87
  generalize f9 88 = y88
  generalize f9 89 = y89
  generalize f9 90 = y90
  generalize f9 91 = y91
  generalize f9 92 = y92
  generalize f9 93 = y93
  generalize f9 94 = y94
  generalize f9 95 = y95
  generalize f9 96 = y96
  generalize f9 97 = y97
  generalize f9 98 = y98
  generalize f9 99 = y99
  generalize f9 100 = y100
  generalize f9 101 = y101
  generalize f9 102 = y102
  generalize f9 103 = y103
  generalize f9 104 = y104
  generalize f9 105 = y105
  generalize f9 106 = y106
  generalize f9 107 = y107
  generalize f9 108 = y108
  generalize f9 109 = y109
  generalize f9 110 = y110
  generalize f9 111 = y111
  generalize f9 112 = y112
  generalize f9 113 = y113
  generalize f9 114 = y114
  generalize f9 115 = y115
  generalize f9 116 = y116
  generalize f9 117 = y117
  generalize f9 118 = y118
  generalize f9 119 = y119
  generalize f9 120 = y120
  generalize f9 121 = y121
  generalize f9 122 = y122
  generalize f9 123 = y123
  generalize f9 124 = y124
  generalize f9 125 = y125
  generalize f9 126 = y126
  generalize f9 127 = y127
  generalize f9 128 = y128
  generalize f9 129 = y129
  generalize f9 130 = y130
  generalize f9 131 = y131
  generalize f9 132 = y132
  generalize f9 133 = y133
  generalize f9 134 = y134
  generalize f9 135 = y135
  generalize f9 136 = y136
  generalize f9 137 = y137
  generalize f9 138 = y138
  generalize f9 139 = y139
  generalize f9 140 = y140
  clear d0
  try simp only [List.setIfInBounds_toArray, List.set_cons_succ, List.set_cons_zero]
  clear Xa Sa Ia ka0 ka1 ka2 Xb Sb Ib kb0 kb1 kb2
  replace hB := Kept.mk (hB.out.trans (hb1.mono hB.out.size))
  clear hb1
  go_wp2
  go_ret
  exact ⟨rfl, hB.out⟩
end Go.Proofs.YtkjghoomdefbbaaGreatDoor
end
section
namespace Go.Proofs.YtkjghoomdefbbaaGreatDoor
set_option linter.unusedVariables false

theorem pairL_pad : ∀ (a b : List UInt8), pairL (· ^^^ ·) a b = pairL (· ^^^ ·) a (b ++ List.replicate (a.length - b.length) 0)
  | [], _ => by simp [pairL]
  | x :: a, [] => by
    have : ∀ l : List UInt8, pairL (· ^^^ ·) l (List.replicate l.length 0) = l := by
      intro l
      induction l with
      | nil => rfl
      | cons y l ih => simp [pairL, List.replicate_succ]; exact ih
    rw [List.nil_append, List.length_nil, Nat.sub_zero, this]; rfl
  | x :: a, y :: b => by
    rw [List.cons_append, pairL, pairL, List.length_cons, List.length_cons, Nat.add_sub_add_right, ← pairL_pad a b]
/-- What is turned in four bytes that stand next to each other comes to nothing where nothing is turned alone. -/
theorem turned (n : Nat) (t q : List UInt8) (k : Nat) (hq : q.length = 4) (hk : k + 4 ≤ t.length) (hn : n < 4294967296) :
    (onL n (pairL (· ^^^ ·) t (List.replicate k 0 ++ q)) = onL n t) ↔ getN q = 0 := by
  rw [pairL_pad]
  have hlen : t.length = (List.replicate k 0 ++ q ++ List.replicate (t.length - (List.replicate k (0 : UInt8) ++ q).length) 0).length := by
    simp [hq]; omega
  have h := onL_xor t _ n 0 hlen
  rw [Nat.xor_zero] at h
  rw [h]
  generalize t.length - (List.replicate k (0 : UInt8) ++ q).length = r
  rw [onL_append, onL_append, onL_zeros k, stps_zero, onL_getN q, onL_zeros r, hq, Nat.zero_xor, ← stps_add]
  have hg : getN q < 4294967296 := by have := getN_lt q; rw [hq] at this; exact this
  have ht := onL_lt t hn
  constructor
  · intro e
    have e2 := congrArg (onL n t ^^^ ·) e
    simp only [← Nat.xor_assoc, Nat.xor_self, Nat.zero_xor] at e2
    exact stps_nil _ hg e2
  · intro e
    rw [e, stps_zero, Nat.xor_zero]
end Go.Proofs.YtkjghoomdefbbaaGreatDoor
end
section
namespace Go.Proofs.YtkjghoomdefbbaaGreatDoor
open Go.RowKit
set_option linter.unusedVariables false

def encB (l : List UInt8) : List Value := l.map fun b => .int .u8 (b.toNat : Int)
theorem encB_snoc (l : List UInt8) (x : UInt8) : encB l ++ [.int .u8 (x.toNat : Int)] = encB (l ++ [x]) := by simp [encB]

/-- The slice v holds just the bytes l, in a block of the call's own. -/
def OwnB (w : World) (base : Nat) (e : TypeId) (v : Value) (l : List UInt8) : Prop := w.ownsRow base e 1 v l.length (encB l)

theorem OwnB.nil (w : World) (base : Nat) (e : TypeId) : OwnB w base e (.slice none 0 0) [] := World.ownsRow_nil _ _ _ _
theorem OwnB.back {P : Program} {w : World} {base : Nat} {e : TypeId} {v : Value} {l : List UInt8} (h : OwnB w base e v l) (src dst : TypeId)
    (hs : P.underlying src = some (.slice e)) (he : P.underlying e = some (.int .u8)) (hd : P.underlying dst = some .string) :
    (convert src dst v).run P w = .ok (.string ⟨l.toArray⟩) w := by
  obtain ⟨h1, ⟨rfl, h0⟩ | ⟨g, cap, cur, rfl, _, hh, _, _, hcs, ht⟩⟩ := h
  · have : l = [] := List.eq_nil_of_length_eq_zero h0
    subst this
    exact run_convert_bytes_nil (w := w) src e hs he 0 0 dst hd
  · refine run_convert_bytes_back w src dst e ⟨g, 0, none⟩ cap l hs he hd (fun j hj => ?_)
    have hc : w.cell? ⟨g, j, none⟩ = cur[j]? := cell_of_row w g j cur e (0, 0) hh
    have hj2 : cur.toList[j]? = some (.int .u8 (l[j].toNat : Int)) := by
      have := congrArg (fun x => x[j]?) ht
      simp only [Nat.mul_one] at this
      rw [List.getElem?_take_of_lt hj] at this
      rw [this]
      simp [encB, hj]
    have e1 : (⟨g, 0, none⟩ : Addr).add j = ⟨g, j, none⟩ := by
      by_cases e0 : j = 0
      · subst e0; simp [Addr.add]
      · simp [Addr.add, e0]
    rw [e1, hc, ← Array.getElem?_toList, hj2]
theorem OwnB.size_le {w : World} {base : Nat} {e : TypeId} {v : Value} {l : List UInt8} (h : OwnB w base e v l) : ∀ k, v.ownBlock = some k → base ≤ k := by
  intro k hk
  obtain ⟨_, ⟨rfl, _⟩ | ⟨g, cap, cur, rfl, hb, _⟩⟩ := h
  · simp [Value.ownBlock] at hk
  · simp only [Value.ownBlock, Option.some.injEq] at hk
    omega
end Go.Proofs.YtkjghoomdefbbaaGreatDoor
end
section
namespace Go.Proofs.YtkjghoomdefbbaaGreatDoor
open Go.RowKit
set_option linter.unusedVariables false

theorem putL_snoc : ∀ (k m : Nat), putL m (k + 1) = putL m k ++ [UInt8.ofNat (m / 256 ^ k)]
  | 0, m => by simp [putL]
  | k + 1, m => by
    have h := putL_snoc k (m / 256)
    rw [putL, h, putL, Nat.div_div_eq_div_mul, Nat.pow_succ, Nat.mul_comm]
    simp

set_option maxRecDepth 20000 in
set_option maxHeartbeats 400000 in
theorem refPut_bad (n width : Int) (w : World) (h : isWidthB width = false ∨ n < 0) :
    Calls Tryz.prog 44 #[.int .i64 n, .int .i64 width] w fun e w' => e = .returned (.tuple #[.string ⟨#[]⟩, .int .i64 1]) ∧ w = w' := by
  by_cases h1 : width < 1
  · go_enter Tryz.func44, Tryz.ntmps44
    go_wp2
    go_ret2
    exact ⟨rfl, rfl⟩
  · have h1' : decide (width < 1) = false := by simpa using h1
    by_cases h7 : 7 < width
    · go_enter Tryz.func44, Tryz.ntmps44
      go_wp2
      go_ret2
      exact ⟨rfl, rfl⟩
    · have h7' : decide (7 < width) = false := by simpa using h7
      have hn : n < 0 := by
        rcases h with h | h
        · simp only [isWidthB, Bool.and_eq_false_iff, decide_eq_false_iff_not] at h; omega
        · exact h
      clear h
      go_enter Tryz.func44, Tryz.ntmps44
      go_wp2
      go_ret2
      exact ⟨rfl, rfl⟩

/-- What is left of a number, byte by byte. -/
def leftN (m k : Nat) : Nat := m / 256 ^ k
theorem leftN_succ (m k : Nat) : leftN m (k + 1) = leftN m k / 256 := by
  unfold leftN; rw [Nat.pow_succ, Nat.div_div_eq_div_mul]
theorem leftN_le (m k : Nat) : leftN m k ≤ m := Nat.div_le_self _ _

set_option maxRecDepth 20000 in
set_option maxHeartbeats 400000 in
theorem refPut_run (m wd : Nat) (w : World) (h1 : 1 ≤ wd) (h7 : wd ≤ 7) (hm : (m : Int) ≤ 9223372036854775807) (z : Bool) (hz : decide (0 < leftN m wd) = z) :
    Calls Tryz.prog 44 #[.int .i64 (m : Int), .int .i64 (wd : Int)] w fun e w' => e = .returned (if z = true then .tuple #[.string ⟨#[]⟩, .int .i64 1] else .tuple #[.string ⟨(putL m wd).toArray⟩, .int .i64 0]) ∧ Below w.heap.size w w' := by
  obtain ⟨i0, hi, hz0, hz1, hz2⟩ := info_parts Tryz.infoU8
  have d1 : decide ((wd : Int) < 1) = false := by simp; omega
  have d2 : decide (7 < (wd : Int)) = false := by simp; omega
  have d3 : decide ((m : Int) < 0) = false := by simp
  have HZ := Lib.hid hz
  clear hz
  go_enter Tryz.func44, Tryz.ntmps44
  go_wp2
  go_loopw [0, 6, 7] (fun n v i wr => ∃ k : Nat, k ≤ wd ∧ i = .int .i64 k ∧ n = .int .i64 (leftN m k : Int) ∧ OwnB wr w.heap.size 5 v (putL m k) ∧ Below w.heap.size w wr) (fun _ _ i _ => wd - (intOf i).toNat)
  case atStart => exact ⟨0, Nat.zero_le _, rfl, by simp [leftN], OwnB.nil _ _ _, Below.refl _ _⟩
  case round =>
    obtain ⟨k, hk, rfl, rfl, hown, hbel⟩ := hrel
    have hle := leftN_le m k
    by_cases hlt : k < wd
    · have hlen := length_putL k m
      have hbs := hown.size_le
      have HS := Lib.hid (putL_snoc k m)
      have HN := Lib.hid (leftN_succ m k)
      have HQ := Lib.hid (show ((leftN m k : Int) % 256) = ((UInt8.ofNat (m / 256 ^ k)).toNat : Int) by unfold leftN; simp)
      generalize putL m k = l at *
      have HO := Lib.hid hown
      have HBS := Lib.hid hbs
      have hll : l.length ≤ 7 := by omega
      clear hown hbs hlen
      go_wp2_with (at_builtin; refine wpList_append_own _ rfl _ _ 63 rfl w.heap.size 5 i0 (.int .u8 0) 1 1 Tryz.underlying63 hi hz0 hz1 hz2 rfl (by decide) _ _ _ rfl (HO.out.alloc _) ⟨wr.heap.size, 0, none⟩ 1 1 [.int .u8 ((leftN m k : Int) % 256)] rfl rfl ?c1 ?c2 ?c3 ?c4 ?c5 ?_)
      case c1 => exact cell_one_new _ _ _
      case c2 => intro u hu; simp at hu; subst hu; rfl
      case c3 => unfold maxLen; omega
      case c4 => omega
      case c5 => have := hbel.size; simp; omega
      · intro v' w1 hown' hgrow _
        have hB1 : Below w.heap.size w w1 := (hbel.alloc (by have := hbel.size; omega) _).grown hgrow (by have := hbel.size; simp; omega) HBS.out
        have HO1 : Hid (OwnB w1 w.heap.size 5 v' (putL m (k + 1))) := by
          show OwnB _ _ _ _ _
          rw [HS.out]
          rw [HQ.out, encB_snoc] at hown'
          have e : l.length + 1 = (l ++ [UInt8.ofNat (m / 256 ^ k)]).length := by simp
          rw [e] at hown'
          exact hown'
        clear hown' hgrow
        go_wp2
        go_roundw
        case rel => exact ⟨k + 1, by omega, by go_num, by rw [HN.out]; go_num, HO1.out, hB1⟩
        case measure => simp [intOf]; omega
    · obtain rfl : k = wd := by omega
      have hbk := hown.back (P := Tryz.prog) 63 9 Tryz.underlying63 Tryz.underlying5 Tryz.underlying9
      have HO := Lib.hid hown
      clear hown
      have hzz := HZ.out
      cases z with
      | true =>
        have hp : 0 < leftN m k := by simpa using hzz
        go_wp2
        go_ret2
        exact ⟨rfl, hbel⟩
      | false =>
        have hp : ¬ 0 < leftN m k := by simpa using hzz
        go_wp2
        go_ret2
        exact ⟨rfl, hbel⟩

theorem refPut_any (n width : Int) (w : World) (hm : n ≤ 9223372036854775807) :
    Calls Tryz.prog 44 #[.int .i64 n, .int .i64 width] w fun e w' => e = .returned (.tuple #[.string ⟨(putS n width).toArray⟩, .int .i64 (putE n width)]) ∧ Below w.heap.size w w' := by
  by_cases h : isWidthB width = false ∨ n < 0
  · refine (refPut_bad n width w h).mono ?_
    rintro e w' ⟨rfl, rfl⟩
    have ok : okPut n width = false := by
      rcases h with h | h
      · simp [okPut, h]
      · simp [okPut]; omega
    exact ⟨by simp [putS, putE, ok], Below.refl _ _⟩
  · have hw : isWidthB width = true := by simp at h; exact h.1
    have hwd : 1 ≤ width ∧ width ≤ 7 := by simpa [isWidthB] using hw
    obtain ⟨m, rfl⟩ := Int.eq_ofNat_of_zero_le (show 0 ≤ n by simp at h; omega)
    obtain ⟨wd, rfl⟩ := Int.eq_ofNat_of_zero_le (show 0 ≤ width by omega)
    refine (refPut_run m wd w (by omega) (by omega) hm _ rfl).mono ?_
    rintro e w' ⟨rfl, hb⟩
    have hiff : okPut (m : Int) (wd : Int) = !decide (0 < leftN m wd) := by
      have e1 : ((256 : Int) ^ wd) = ((256 ^ wd : Nat) : Int) := by simp
      simp only [okPut, hw, Bool.true_and, Int.toNat_natCast, e1]
      unfold leftN
      by_cases hz : m < 256 ^ wd
      · have : m / 256 ^ wd = 0 := Nat.div_eq_of_lt hz
        simp [this]
        omega
      · have := Nat.div_pos (Nat.le_of_not_lt hz) (Nat.pow_pos (n := wd) (show 0 < 256 by omega))
        simp [this]
        omega
    refine ⟨?_, hb⟩
    cases hd : decide (0 < leftN m wd) with
    | true => rw [hd] at hiff; simp [putS, putE, hiff]
    | false => rw [hd] at hiff; simp [putS, putE, hiff]

theorem getN_drop (l : List UInt8) (i : Nat) (h : i < l.length) : getN (l.drop i) = 256 * getN (l.drop (i + 1)) + l[i].toNat := by
  rw [List.drop_eq_getElem_cons h, getN]
  omega

theorem get_step (g b : Nat) (hg : g ≤ 281474976710656) (hb : b < 2 ^ 8) : wrap64 (256 * (g : Int) + wrap64 (b : Int)) = ((256 * g + b : Nat) : Int) := by
  unfold wrap64
  omega

set_option maxRecDepth 20000 in
set_option maxHeartbeats 400000 in
theorem refGet_ok (l : List UInt8) (at_ wd : Nat) (w : World) (hl : l.length ≤ 1000000000) (h1 : 1 ≤ wd) (h7 : wd ≤ 7) (hf : at_ + wd ≤ l.length) :
    Calls Tryz.prog 46 #[.string ⟨l.toArray⟩, .int .i64 (at_ : Int), .int .i64 (wd : Int)] w fun e w' => e = .returned (.tuple #[.int .i64 (getN ((l.drop at_).take wd) : Int), .int .i64 0]) ∧ w = w' := by
  have d1 : decide ((wd : Int) < 1) = false := by simp; omega
  have d2 : decide (7 < (wd : Int)) = false := by simp; omega
  have d0 : decide ((at_ : Int) < 0) = false := by simp
  have d3 : decide (l.length < at_) = false := by simp; omega
  have d4 : decide ((l.length : Int) - (at_ : Int) < (wd : Int)) = false := by simp; omega
  have hq : ((l.drop at_).take wd).length = wd := by rw [List.length_take, List.length_drop]; omega
  have HQ := Lib.hid hq
  clear hq
  go_enter Tryz.func46, Tryz.ntmps46
  go_wp2
  go_loop [8, 9] (fun n i => ∃ k : Nat, k ≤ wd ∧ i = .int .i64 ((k : Int) - 1) ∧ n = .int .i64 (getN (((l.drop at_).take wd).drop k) : Int)) (fun _ i => (intOf i + 1).toNat)
  case atStart => exact ⟨wd, Nat.le_refl _, rfl, by rw [List.drop_eq_nil_of_le (by rw [HQ.out]; exact Nat.le_refl _)]; rfl⟩
  case round =>
    obtain ⟨k, hk, rfl, rfl⟩ := hrel
    by_cases h0 : 0 < k
    · obtain ⟨j, rfl⟩ : ∃ j, k = j + 1 := ⟨k - 1, by omega⟩
      have HD := Lib.hid (getN_drop ((l.drop at_).take wd) j (by rw [HQ.out]; omega))
      have HG := Lib.hid (show ((l.drop at_).take wd)[j]'(by rw [HQ.out]; omega) = l[at_ + j]'(by omega) by simp)
      have hgl := getN_lt (((l.drop at_).take wd).drop (j + 1))
      have hgp : 256 ^ (((l.drop at_).take wd).drop (j + 1)).length ≤ 281474976710656 := by
        rw [List.length_drop, HQ.out]
        have := Nat.pow_le_pow_right (n := 256) (show 0 < 256 by omega) (show wd - (j + 1) ≤ 6 by omega)
        simpa using this
      have hgb : getN (((l.drop at_).take wd).drop (j + 1)) ≤ 281474976710656 := by omega
      clear hgl hgp
      have hbt := UInt8.toNat_lt (l[at_ + j]'(by omega))
      go_wp2
      go_round
      case rel =>
        go_light
        refine ⟨j, by omega, rfl, ?_⟩
        rw [HD.out, HG.out]
        exact congrArg (Value.int .i64) (get_step _ _ hgb hbt)
      case measure => simp [intOf]
    · obtain rfl : k = 0 := by omega
      go_wp2
      go_ret2
      exact ⟨rfl, rfl⟩

end Go.Proofs.YtkjghoomdefbbaaGreatDoor
end
section
namespace Go.Proofs.YtkjghoomdefbbaaGreatDoor
open Go.RowKit
set_option linter.unusedVariables false

end Go.Proofs.YtkjghoomdefbbaaGreatDoor
end
section
namespace Go.Proofs.YtkjghoomdefbbaaGreatDoor
open Go.RowKit
set_option linter.unusedVariables false
set_option linter.unusedSimpArgs false

end Go.Proofs.YtkjghoomdefbbaaGreatDoor
end
section
namespace Go.Proofs.YtkjghoomdefbbaaGreatDoor
open Go.RowKit
set_option linter.unusedVariables false
set_option linter.unusedSimpArgs false

def OutI (N : Nat) (v : Value) (xs : List Int) (w : World) : Prop := w.ownsRow N 3 1 v xs.length (xs.map intC)
theorem OutI.keep {N : Nat} {v : Value} {xs : List Int} {w w' : World} (h : OutI N v xs w) (hb : Below w.heap.size w w') : OutI N v xs w' := own_grow h hb
theorem OutI.low {N N' : Nat} {v : Value} {xs : List Int} {w : World} (h : OutI N v xs w) (hN : N' ≤ N) : OutI N' v xs w := own_low h hN
theorem OutI.cells {N : Nat} {v : Value} {xs : List Int} {w : World} (h : OutI N v xs w) : isCells (xs.map intC) v w := by
  refine isOwn.cells (B := N) (e := 3) ?_
  unfold isOwn
  rw [List.length_map]
  exact h
theorem OutI.len {N : Nat} {v : Value} {xs : List Int} {w : World} (h : OutI N v xs w) : ∃ a c, v = .slice a xs.length c := by
  obtain ⟨_, ⟨rfl, h0⟩ | ⟨g, cap, cur, rfl, _⟩⟩ := h
  · exact ⟨_, _, by rw [h0]⟩
  · exact ⟨_, _, rfl⟩
def SrcI (u : Value) (ys : List Int) (w : World) : Prop := (u = .slice none 0 0 ∧ ys = []) ∨ ∃ (a : Addr) (c : Nat), u = .slice (some a) ys.length c ∧ ∀ (j : Nat) (x : Int), ys[j]? = some x → w.cell? (a.add j) = some (intC x)
section
variable {ops : Array Oper} {rest : List Oper} {o : Oper} {a : Act} {w : World} {Q : Exit → Act → World → Prop}
end
theorem SrcI.keep {u : Value} {ys : List Int} {w w' : World} (h : SrcI u ys w) (hb : Below w.heap.size w w') : SrcI u ys w' := by
  rcases h with h | ⟨a, c, e, hc⟩
  · exact .inl h
  · exact .inr ⟨a, c, e, fun j x hx => (hb.cell (World.block_lt_of_cell? w _ (hc j x hx))).trans (hc j x hx)⟩
end Go.Proofs.YtkjghoomdefbbaaGreatDoor
end
section
namespace Go.Proofs.YtkjghoomdefbbaaGreatDoor
open Go.RowKit
set_option linter.unusedVariables false
set_option linter.unusedSimpArgs false
attribute [local irreducible] setN

noncomputable def rix1Ops : Array Oper := regionOf Tryz.f64 6
noncomputable def rix2Ops : Array Oper := regionOf Tryz.f64 6
noncomputable def rsl1Ops : Array Oper := regionOf Tryz.f62 9
end Go.Proofs.YtkjghoomdefbbaaGreatDoor
end
section
namespace Go.Proofs.YtkjghoomdefbbaaGreatDoor
open Go.RowKit
set_option linter.unusedVariables false
set_option linter.unusedSimpArgs false
attribute [local irreducible] setN

def IdxPost (l : List En) (w : World) (e : Ending) (w' : World) : Prop := ∃ v', e = .returned v' ∧ OutI w.heap.size v' (idxM l) w' ∧ Below w.heap.size w w'
end Go.Proofs.YtkjghoomdefbbaaGreatDoor
end
section
namespace Go.Proofs.YtkjghoomdefbbaaGreatDoor
open Go.RowKit
set_option linter.unusedVariables false
set_option linter.unusedSimpArgs false
attribute [local irreducible] setN

end Go.Proofs.YtkjghoomdefbbaaGreatDoor
end
section
namespace Go.Proofs.YtkjghoomdefbbaaGreatDoor
open Go.RowKit
set_option linter.unusedVariables false
set_option linter.unusedSimpArgs false
attribute [local irreducible] setN

def eX : En := ⟨[98], ⟨3, 0, 0, false, [], [], [], 1⟩⟩
def eY : En := ⟨[97], ⟨3, 0, 0, false, [], [], [], 2⟩⟩
def eZ : En := ⟨[98], ⟨3, 0, 0, false, [], [], [], 3⟩⟩
def eW : En := ⟨[99], ⟨3, 0, 0, false, [], [], [], 1⟩⟩
def aA : Ar := ⟨2, [], []⟩
def aB : Ar := ⟨2, [eX], [0]⟩
def aC : Ar := ⟨2, [eX, eY], [1, 0]⟩
def aD : Ar := ⟨2, [eZ, eY], [1, 0]⟩
end Go.Proofs.YtkjghoomdefbbaaGreatDoor
end
section
namespace Go.Proofs.YtkjghoomdefbbaaGreatDoor
open Go.RowKit
set_option linter.unusedVariables false
set_option linter.unusedSimpArgs false
attribute [local irreducible] setN eX eY eZ eW zeroE aA aB aC aD

end Go.Proofs.YtkjghoomdefbbaaGreatDoor
end
section
namespace Go.Proofs.YtkjghoomdefbbaaGreatDoor
open Go.RowKit Go.ChangeShapes Go.WideShapes
set_option linter.unusedVariables false
set_option linter.unusedSimpArgs false

structure CameE (E : En) : Prop where
  key : E.key.length ≤ maxLen
  val : CameV E.val
/-- Few. -/
def fewE (E : En) : Bool := fewV E.val && decide ((E.key.length : Int) ≤ 100)
end Go.Proofs.YtkjghoomdefbbaaGreatDoor
end
section
namespace Go.Proofs.YtkjghoomdefbbaaGreatDoor
open Go.RowKit
set_option linter.unusedVariables false
set_option linter.unusedSimpArgs false

def fewL (l : List En) (m : Int) : Bool := decide ((l.length : Int) ≤ m) && l.all fewE
def fewA (A : Ar) : Bool := fewL A.slots 12 && decide ((A.index.length : Int) ≤ 40)
end Go.Proofs.YtkjghoomdefbbaaGreatDoor
end
section
namespace Go.Proofs.YtkjghoomdefbbaaGreatDoor
open Go.RowKit Go.ChangeShapes Go.WideShapes
set_option linter.unusedVariables false
set_option linter.unusedSimpArgs false

section
variable {W : World} {H : Type} {enc : TypeId × Value → H} {base : Nat} {spare : Nat → Bool} {held : Bool} {n : Nat}
end
structure CameA (A : Ar) : Prop where
  cap : (Lit.int .i64 A.cap).wf = true
  slots : A.slots.length ≤ maxLen
  ents : ∀ e ∈ A.slots, CameE e
  index : A.index.length ≤ maxLen
  idx : ∀ x ∈ A.index, (Lit.int .i64 x).wf = true
end Go.Proofs.YtkjghoomdefbbaaGreatDoor
end
section
namespace Go.Proofs.YtkjghoomdefbbaaGreatDoor
open Go.RowKit
set_option linter.unusedVariables false
set_option linter.unusedSimpArgs false

end Go.Proofs.YtkjghoomdefbbaaGreatDoor
end
section
namespace Go.Proofs.YtkjghoomdefbbaaGreatDoor
open Go.RowKit
set_option linter.unusedVariables false
set_option linter.unusedSimpArgs false
attribute [local irreducible] setN

noncomputable def rck0Ops : Array Oper := regionOf Tryz.f35 1
noncomputable def rck1Ops : Array Oper := regionOf Tryz.f35 1
noncomputable def rck2Ops : Array Oper := regionOf Tryz.f35 1
noncomputable def rck3Ops : Array Oper := regionOf Tryz.f35 1
noncomputable def rck4Ops : Array Oper := regionOf Tryz.f35 1
end Go.Proofs.YtkjghoomdefbbaaGreatDoor
end
section
namespace Go.Proofs.YtkjghoomdefbbaaGreatDoor
open Go.RowKit
set_option linter.unusedVariables false
set_option linter.unusedSimpArgs false
attribute [local irreducible] setN

end Go.Proofs.YtkjghoomdefbbaaGreatDoor
end
section
namespace Go.Proofs.YtkjghoomdefbbaaGreatDoor
open Go.RowKit
set_option linter.unusedVariables false
set_option linter.unusedSimpArgs false
attribute [local irreducible] setN

noncomputable def rd1Ops : Array Oper := regionOf Tryz.f68 2
noncomputable def rd2Ops : Array Oper := regionOf Tryz.f68 4
noncomputable def rd3Ops : Array Oper := regionOf Tryz.f68 5
noncomputable def rpuOps : Array Oper := regionOf Tryz.f36 3
end Go.Proofs.YtkjghoomdefbbaaGreatDoor
end
section
namespace Go.Proofs.YtkjghoomdefbbaaGreatDoor
open Go.RowKit
set_option linter.unusedVariables false
set_option linter.unusedSimpArgs false
attribute [local irreducible] setN

noncomputable def rsm8Ops : Array Oper := regionOf Tryz.f12 8
end Go.Proofs.YtkjghoomdefbbaaGreatDoor
end
section
namespace Go.Proofs.YtkjghoomdefbbaaGreatDoor
open Go.RowKit
set_option linter.unusedVariables false
set_option linter.unusedSimpArgs false
attribute [local irreducible] setN

end Go.Proofs.YtkjghoomdefbbaaGreatDoor
end
section
namespace Go.Proofs.YtkjghoomdefbbaaGreatDoor
open Go.RowKit
set_option linter.unusedVariables false
set_option linter.unusedSimpArgs false
attribute [local irreducible] setN

noncomputable def rin7Ops : Array Oper := regionOf Tryz.f16 7
end Go.Proofs.YtkjghoomdefbbaaGreatDoor
end
section
namespace Go.Proofs.YtkjghoomdefbbaaGreatDoor
open Go.RowKit
set_option linter.unusedVariables false
set_option linter.unusedSimpArgs false

set_option maxRecDepth 100000 in
set_option maxHeartbeats 2000000 in
theorem rdgput_any (a b c d : Int) (w : World) (h : ∀ x ∈ [a, b, c, d], x ≤ 9223372036854775807) : Calls Tryz.prog 21 #[(.agg #[.int .i64 a, .int .i64 b, .int .i64 c, .int .i64 d])] w fun e w' => e = .returned (.tuple #[.string ⟨(putQ [a, b, c, d]).toArray⟩, .int .i64 (putQE [a, b, c, d])]) ∧ Below w.heap.size w w' := by
  have hb0 : Below w.heap.size w (w.alloc (.cells #[.int .i64 a, .int .i64 b, .int .i64 c, .int .i64 d] 26)) := (Below.refl _ w).alloc (Nat.le_refl _) _
  have B := Lib.hid hb0
  have BX := Lib.hid (Blk.new w 26 [.int .i64 a, .int .i64 b, .int .i64 c, .int .i64 d] w.heap.size rfl)
  clear hb0
  go_enter Tryz.func21, Tryz.ntmps21
  go_wp2
  generalize (w.alloc (.cells #[.int .i64 a, .int .i64 b, .int .i64 c, .int .i64 d] 26)) = W0 at *
  go_loopw [4, 5] (fun s i wr => ∃ k : Nat, k ≤ 4 ∧ i = .int .i64 (k : Int) ∧ s = .string ⟨(putT ([a, b, c, d].take k)).toArray⟩ ∧ Hid (([a, b, c, d].take k).all (fun x => okPut x 4) = true) ∧ Hid (Blk wr w.heap.size [.int .i64 a, .int .i64 b, .int .i64 c, .int .i64 d]) ∧ Hid (Below w.heap.size w wr)) (fun _ i _ => 4 - (intOf i).toNat)
  case atStart => exact ⟨0, by omega, rfl, rfl, Lib.hid rfl, BX, B⟩
  case round =>
    clear B BX
    obtain ⟨k, hk, rfl, rfl, A, BX, B⟩ := hrel
    by_cases hlt : k < 4
    · have h4 : k = 0 ∨ k = 1 ∨ k = 2 ∨ k = 3 := by omega
      rcases h4 with rfl | rfl | rfl | rfl
      · have HT := Lib.hid (show putT ([a]) = putT ([]) ++ putS a 4 by simp [putT])
        have hx9 := h a (by simp)
        have hp := putS4_len a
        have hq := putT_len ([])
        rw [show (List.take 0 [a, b, c, d] : List Int) = [] from rfl] at A ⊢
        have hq2 : ([] : List Int).length = 0 := rfl
        generalize putT ([]) = q at *
        have hcat := fun W => run_string_add_lists (P := Tryz.prog) W q (putS a 4) (by omega) (by omega)
        have hix := BX.out.cells.2 0 _ rfl
        cases hx : okPut a 4 with
        | true =>
          have e1 : putE a 4 = 0 := by simp [putE, hx]
          go_wp2_with fail
          refine (refPut_any a 4 _ hx9).mono ?_
          rintro e w' ⟨rfl, hB⟩
          rw [e1]
          have HB2 := Lib.hid (B.out.trans (hB.mono B.out.size))
          have BX2 := Lib.hid (BX.out.keep hB)
          clear hB hix
          generalize putS a 4 = p at *
          go_wp2
          go_roundw
          case rel => exact ⟨1, by omega, rfl, congrArg (fun l : List UInt8 => Value.string ⟨l.toArray⟩) HT.out.symm, Lib.hid (by have := A.out; simp_all), BX2, HB2⟩
          case measure => simp [intOf]
        | false =>
          have e1 : putE a 4 = 1 := by simp [putE, hx]
          have hno : ([a, b, c, d].all fun x => okPut x 4) = false := by simp [hx]
          go_wp2_with fail
          refine (refPut_any a 4 _ hx9).mono ?_
          rintro e w' ⟨rfl, hB⟩
          rw [e1]
          have HB2 := Lib.hid (B.out.trans (hB.mono B.out.size))
          clear hB hcat hp hix
          generalize putS a 4 = p at *
          go_wp2
          go_ret2
          exact ⟨by unfold putQ putQE; rw [hno]; rfl, HB2.out⟩
      · have HT := Lib.hid (show putT ([a, b]) = putT ([a]) ++ putS b 4 by simp [putT])
        have hx9 := h b (by simp)
        have hp := putS4_len b
        have hq := putT_len ([a])
        rw [show (List.take 1 [a, b, c, d] : List Int) = [a] from rfl] at A ⊢
        have hq2 : ([a] : List Int).length = 1 := rfl
        generalize putT ([a]) = q at *
        have hcat := fun W => run_string_add_lists (P := Tryz.prog) W q (putS b 4) (by omega) (by omega)
        have hix := BX.out.cells.2 1 _ rfl
        cases hx : okPut b 4 with
        | true =>
          have e1 : putE b 4 = 0 := by simp [putE, hx]
          go_wp2_with fail
          refine (refPut_any b 4 _ hx9).mono ?_
          rintro e w' ⟨rfl, hB⟩
          rw [e1]
          have HB2 := Lib.hid (B.out.trans (hB.mono B.out.size))
          have BX2 := Lib.hid (BX.out.keep hB)
          clear hB hix
          generalize putS b 4 = p at *
          go_wp2
          go_roundw
          case rel => exact ⟨2, by omega, rfl, congrArg (fun l : List UInt8 => Value.string ⟨l.toArray⟩) HT.out.symm, Lib.hid (by have := A.out; simp_all), BX2, HB2⟩
          case measure => simp [intOf]
        | false =>
          have e1 : putE b 4 = 1 := by simp [putE, hx]
          have hno : ([a, b, c, d].all fun x => okPut x 4) = false := by simp [hx]
          go_wp2_with fail
          refine (refPut_any b 4 _ hx9).mono ?_
          rintro e w' ⟨rfl, hB⟩
          rw [e1]
          have HB2 := Lib.hid (B.out.trans (hB.mono B.out.size))
          clear hB hcat hp hix
          generalize putS b 4 = p at *
          go_wp2
          go_ret2
          exact ⟨by unfold putQ putQE; rw [hno]; rfl, HB2.out⟩
      · have HT := Lib.hid (show putT ([a, b, c]) = putT ([a, b]) ++ putS c 4 by simp [putT])
        have hx9 := h c (by simp)
        have hp := putS4_len c
        have hq := putT_len ([a, b])
        rw [show (List.take 2 [a, b, c, d] : List Int) = [a, b] from rfl] at A ⊢
        have hq2 : ([a, b] : List Int).length = 2 := rfl
        generalize putT ([a, b]) = q at *
        have hcat := fun W => run_string_add_lists (P := Tryz.prog) W q (putS c 4) (by omega) (by omega)
        have hix := BX.out.cells.2 2 _ rfl
        cases hx : okPut c 4 with
        | true =>
          have e1 : putE c 4 = 0 := by simp [putE, hx]
          go_wp2_with fail
          refine (refPut_any c 4 _ hx9).mono ?_
          rintro e w' ⟨rfl, hB⟩
          rw [e1]
          have HB2 := Lib.hid (B.out.trans (hB.mono B.out.size))
          have BX2 := Lib.hid (BX.out.keep hB)
          clear hB hix
          generalize putS c 4 = p at *
          go_wp2
          go_roundw
          case rel => exact ⟨3, by omega, rfl, congrArg (fun l : List UInt8 => Value.string ⟨l.toArray⟩) HT.out.symm, Lib.hid (by have := A.out; simp_all), BX2, HB2⟩
          case measure => simp [intOf]
        | false =>
          have e1 : putE c 4 = 1 := by simp [putE, hx]
          have hno : ([a, b, c, d].all fun x => okPut x 4) = false := by simp [hx]
          go_wp2_with fail
          refine (refPut_any c 4 _ hx9).mono ?_
          rintro e w' ⟨rfl, hB⟩
          rw [e1]
          have HB2 := Lib.hid (B.out.trans (hB.mono B.out.size))
          clear hB hcat hp hix
          generalize putS c 4 = p at *
          go_wp2
          go_ret2
          exact ⟨by unfold putQ putQE; rw [hno]; rfl, HB2.out⟩
      · have HT := Lib.hid (show putT ([a, b, c, d]) = putT ([a, b, c]) ++ putS d 4 by simp [putT])
        have hx9 := h d (by simp)
        have hp := putS4_len d
        have hq := putT_len ([a, b, c])
        rw [show (List.take 3 [a, b, c, d] : List Int) = [a, b, c] from rfl] at A ⊢
        have hq2 : ([a, b, c] : List Int).length = 3 := rfl
        generalize putT ([a, b, c]) = q at *
        have hcat := fun W => run_string_add_lists (P := Tryz.prog) W q (putS d 4) (by omega) (by omega)
        have hix := BX.out.cells.2 3 _ rfl
        cases hx : okPut d 4 with
        | true =>
          have e1 : putE d 4 = 0 := by simp [putE, hx]
          go_wp2_with fail
          refine (refPut_any d 4 _ hx9).mono ?_
          rintro e w' ⟨rfl, hB⟩
          rw [e1]
          have HB2 := Lib.hid (B.out.trans (hB.mono B.out.size))
          have BX2 := Lib.hid (BX.out.keep hB)
          clear hB hix
          generalize putS d 4 = p at *
          go_wp2
          go_roundw
          case rel => exact ⟨4, by omega, rfl, congrArg (fun l : List UInt8 => Value.string ⟨l.toArray⟩) HT.out.symm, Lib.hid (by have := A.out; simp_all), BX2, HB2⟩
          case measure => simp [intOf]
        | false =>
          have e1 : putE d 4 = 1 := by simp [putE, hx]
          have hno : ([a, b, c, d].all fun x => okPut x 4) = false := by simp [hx]
          go_wp2_with fail
          refine (refPut_any d 4 _ hx9).mono ?_
          rintro e w' ⟨rfl, hB⟩
          rw [e1]
          have HB2 := Lib.hid (B.out.trans (hB.mono B.out.size))
          clear hB hcat hp hix
          generalize putS d 4 = p at *
          go_wp2
          go_ret2
          exact ⟨by unfold putQ putQE; rw [hno]; rfl, HB2.out⟩
    · have hk4 : k = 4 := by omega
      subst hk4
      have hall := A.out
      rw [show [a, b, c, d].take 4 = [a, b, c, d] from rfl] at hall ⊢
      go_wp2
      go_ret2
      exact ⟨by unfold putQ putQE; rw [hall]; rfl, B.out⟩
end Go.Proofs.YtkjghoomdefbbaaGreatDoor
end
section
namespace Go.Proofs.YtkjghoomdefbbaaGreatDoor
open Go.RowKit
set_option linter.unusedVariables false
set_option linter.unusedSimpArgs false
attribute [local irreducible] setN

set_option maxRecDepth 100000 in
set_option maxHeartbeats 2000000 in
theorem rdgget_no (l : List UInt8) (w : World) (h : l.length ≠ 16) (hl : l.length ≤ 1000000000) : Calls Tryz.prog 23 #[.string ⟨l.toArray⟩] w fun e w' => e = .returned (.tuple #[.agg #[.int .i64 0, .int .i64 0, .int .i64 0, .int .i64 0], .int .i64 2]) ∧ Below w.heap.size w w' := by
  have B := Lib.hid (show Below w.heap.size w ((w.alloc (.cells #[.int .i64 0, .int .i64 0, .int .i64 0, .int .i64 0] 26)).alloc (.cells #[.int .i64 0, .int .i64 0, .int .i64 0, .int .i64 0] 26)) from ((Below.refl _ w).alloc (Nat.le_refl _) _).alloc (by simp) _)
  have BR := Lib.hid ((Blk.new w 26 [.int .i64 0, .int .i64 0, .int .i64 0, .int .i64 0] w.heap.size rfl).alloc (.cells #[.int .i64 0, .int .i64 0, .int .i64 0, .int .i64 0] 26))
  have BG := Lib.hid (Blk.new (w.alloc (.cells #[.int .i64 0, .int .i64 0, .int .i64 0, .int .i64 0] 26)) 26 [.int .i64 0, .int .i64 0, .int .i64 0, .int .i64 0] (w.heap.size + 1) (by simp))
  have hsz : (⟨l.toArray⟩ : ByteArray).size = l.length := size_mk l
  have hne : ((l.length : Int) != 16) = true := by simp; omega
  have hne2 : ¬ (l.length : Int) = 16 := by omega
  have k0 := BG.out.cells.2 0 _ rfl
  have k1 := BG.out.cells.2 1 _ rfl
  have k2 := BG.out.cells.2 2 _ rfl
  have k3 := BG.out.cells.2 3 _ rfl
  have KO : Hid (Ones [.int .i64 0, .int .i64 0, .int .i64 0, .int .i64 0]) := Lib.hid ⟨rfl, rfl, rfl, rfl, trivial⟩
  go_enter Tryz.func23, Tryz.ntmps23
  go_wp2_with (have hz0 := KO; refine wpList_storeN 26 rfl (.tmp 2) (.tmp 11) rfl w.heap.size [.int .i64 0, .int .i64 0, .int .i64 0, .int .i64 0] size_a4 rfl rfl BR.out.cells rfl BR.out.free KO.out ?_; clear hz0 KO k0 k1 k2 k3)
  exact bodyPost_ret (resultsN2 rfl _ _ w.heap.size [.int .i64 0, .int .i64 0, .int .i64 0, .int .i64 0] (.int .i64 2) size_a4 agg_a4 rfl rfl (BR.out.all_ (l := [.int .i64 0, .int .i64 0, .int .i64 0, .int .i64 0]) rfl).cells) rfl ⟨rfl, below_setN (Nat.le_refl _) _ 0 _ B.out⟩
set_option maxRecDepth 100000 in
set_option maxHeartbeats 2000000 in
theorem rdgget_yes (l : List UInt8) (w : World) (h : l.length = 16) : Calls Tryz.prog 23 #[.string ⟨l.toArray⟩] w fun e w' => e = .returned (.tuple #[.agg ((sums4 l).map (fun x => Value.int .i64 x)).toArray, .int .i64 0]) ∧ Below w.heap.size w w' := by
  have B := Lib.hid (show Below w.heap.size w ((w.alloc (.cells #[.int .i64 0, .int .i64 0, .int .i64 0, .int .i64 0] 26)).alloc (.cells #[.int .i64 0, .int .i64 0, .int .i64 0, .int .i64 0] 26)) from ((Below.refl _ w).alloc (Nat.le_refl _) _).alloc (by simp) _)
  have BR := Lib.hid ((Blk.new w 26 [.int .i64 0, .int .i64 0, .int .i64 0, .int .i64 0] w.heap.size rfl).alloc (.cells #[.int .i64 0, .int .i64 0, .int .i64 0, .int .i64 0] 26))
  have BG := Lib.hid (Blk.new (w.alloc (.cells #[.int .i64 0, .int .i64 0, .int .i64 0, .int .i64 0] 26)) 26 [.int .i64 0, .int .i64 0, .int .i64 0, .int .i64 0] (w.heap.size + 1) (by simp))
  have hsz : (⟨l.toArray⟩ : ByteArray).size = 16 := (size_mk l).trans h
  go_enter Tryz.func23, Tryz.ntmps23
  go_wp2
  generalize ((w.alloc (.cells #[.int .i64 0, .int .i64 0, .int .i64 0, .int .i64 0] 26)).alloc (.cells #[.int .i64 0, .int .i64 0, .int .i64 0, .int .i64 0] 26)) = W0 at *
  clear hsz
  go_loopw [5] (fun i wr => ∃ k : Nat, k ≤ 4 ∧ i = .int .i64 (k : Int) ∧ Hid (Blk wr (w.heap.size + 1) (stG l k)) ∧ Hid (Blk wr w.heap.size [.int .i64 0, .int .i64 0, .int .i64 0, .int .i64 0]) ∧ Hid (Below w.heap.size w wr)) (fun i _ => 4 - (intOf i).toNat)
  case atStart => exact ⟨0, by omega, rfl, BG, BR, B⟩
  case round =>
    clear B BR BG
    obtain ⟨k, hk, rfl, BG, BR, B⟩ := hrel
    by_cases hlt : k < 4
    · have h4 : k = 0 ∨ k = 1 ∨ k = 2 ∨ k = 3 := by omega
      rcases h4 with rfl | rfl | rfl | rfl
      · have K := BG.out
        have hg := refGet_ok l 0 4 wr (by omega) (by omega) (by omega) (by omega)
        go_wp2_with fail
        refine hg.mono ?_
        rintro e w' ⟨rfl, rfl⟩
        have hb := Below.refl wr.heap.size wr
        have BG2 := Lib.hid (((K : Blk wr _ [.int .i64 0, .int .i64 0, .int .i64 0, .int .i64 0]).keep hb).set 0 (iv l 0) (Nat.lt_of_lt_of_le (show 0 < 4 by decide) (Nat.le_refl 4)))
        have BR2 := Lib.hid (((BR.out : Blk wr _ [.int .i64 0, .int .i64 0, .int .i64 0, .int .i64 0]).keep hb).apart (show w.heap.size ≠ w.heap.size + 1 by omega) 0 (iv l 0))
        have B2 := Lib.hid ((B.out.trans (hb.mono B.out.size)).setCell (p := ⟨w.heap.size + 1, 0, none⟩) (show w.heap.size ≤ w.heap.size + 1 by omega) (iv l 0))
        have hf := (K.keep hb).free 0
        obtain ⟨x, hx⟩ : ∃ x, wr.cell? ⟨w.heap.size + 1, 0, none⟩ = some x := ⟨_, (K.keep hb).cells.2 0 _ rfl⟩
        clear hb K hg
        go_wp2
        go_roundw
        case rel => exact ⟨1, by omega, rfl, BG2, BR2, B2⟩
        case measure => simp [intOf]
      · have K := BG.out
        have hg := refGet_ok l 4 4 wr (by omega) (by omega) (by omega) (by omega)
        go_wp2_with fail
        refine hg.mono ?_
        rintro e w' ⟨rfl, rfl⟩
        have hb := Below.refl wr.heap.size wr
        have BG2 := Lib.hid (((K : Blk wr _ [iv l 0, .int .i64 0, .int .i64 0, .int .i64 0]).keep hb).set 1 (iv l 1) (Nat.lt_of_lt_of_le (show 1 < 4 by decide) (Nat.le_refl 4)))
        have BR2 := Lib.hid (((BR.out : Blk wr _ [.int .i64 0, .int .i64 0, .int .i64 0, .int .i64 0]).keep hb).apart (show w.heap.size ≠ w.heap.size + 1 by omega) 1 (iv l 1))
        have B2 := Lib.hid ((B.out.trans (hb.mono B.out.size)).setCell (p := ⟨w.heap.size + 1, 1, none⟩) (show w.heap.size ≤ w.heap.size + 1 by omega) (iv l 1))
        have hf := (K.keep hb).free 1
        obtain ⟨x, hx⟩ : ∃ x, wr.cell? ⟨w.heap.size + 1, 1, none⟩ = some x := ⟨_, (K.keep hb).cells.2 1 _ rfl⟩
        clear hb K hg
        go_wp2
        go_roundw
        case rel => exact ⟨2, by omega, rfl, BG2, BR2, B2⟩
        case measure => simp [intOf]
      · have K := BG.out
        have hg := refGet_ok l 8 4 wr (by omega) (by omega) (by omega) (by omega)
        go_wp2_with fail
        refine hg.mono ?_
        rintro e w' ⟨rfl, rfl⟩
        have hb := Below.refl wr.heap.size wr
        have BG2 := Lib.hid (((K : Blk wr _ [iv l 0, iv l 1, .int .i64 0, .int .i64 0]).keep hb).set 2 (iv l 2) (Nat.lt_of_lt_of_le (show 2 < 4 by decide) (Nat.le_refl 4)))
        have BR2 := Lib.hid (((BR.out : Blk wr _ [.int .i64 0, .int .i64 0, .int .i64 0, .int .i64 0]).keep hb).apart (show w.heap.size ≠ w.heap.size + 1 by omega) 2 (iv l 2))
        have B2 := Lib.hid ((B.out.trans (hb.mono B.out.size)).setCell (p := ⟨w.heap.size + 1, 2, none⟩) (show w.heap.size ≤ w.heap.size + 1 by omega) (iv l 2))
        have hf := (K.keep hb).free 2
        obtain ⟨x, hx⟩ : ∃ x, wr.cell? ⟨w.heap.size + 1, 2, none⟩ = some x := ⟨_, (K.keep hb).cells.2 2 _ rfl⟩
        clear hb K hg
        go_wp2
        go_roundw
        case rel => exact ⟨3, by omega, rfl, BG2, BR2, B2⟩
        case measure => simp [intOf]
      · have K := BG.out
        have hg := refGet_ok l 12 4 wr (by omega) (by omega) (by omega) (by omega)
        go_wp2_with fail
        refine hg.mono ?_
        rintro e w' ⟨rfl, rfl⟩
        have hb := Below.refl wr.heap.size wr
        have BG2 := Lib.hid (((K : Blk wr _ [iv l 0, iv l 1, iv l 2, .int .i64 0]).keep hb).set 3 (iv l 3) (Nat.lt_of_lt_of_le (show 3 < 4 by decide) (Nat.le_refl 4)))
        have BR2 := Lib.hid (((BR.out : Blk wr _ [.int .i64 0, .int .i64 0, .int .i64 0, .int .i64 0]).keep hb).apart (show w.heap.size ≠ w.heap.size + 1 by omega) 3 (iv l 3))
        have B2 := Lib.hid ((B.out.trans (hb.mono B.out.size)).setCell (p := ⟨w.heap.size + 1, 3, none⟩) (show w.heap.size ≤ w.heap.size + 1 by omega) (iv l 3))
        have hf := (K.keep hb).free 3
        obtain ⟨x, hx⟩ : ∃ x, wr.cell? ⟨w.heap.size + 1, 3, none⟩ = some x := ⟨_, (K.keep hb).cells.2 3 _ rfl⟩
        clear hb K hg
        go_wp2
        go_roundw
        case rel => exact ⟨4, by omega, rfl, BG2, BR2, B2⟩
        case measure => simp [intOf]
    · have hk4 : k = 4 := by omega
      subst hk4
      have k0 := BG.out.cells.2 0 _ rfl
      have k1 := BG.out.cells.2 1 _ rfl
      have k2 := BG.out.cells.2 2 _ rfl
      have k3 := BG.out.cells.2 3 _ rfl
      have KO : Hid (Ones [iv l 0, iv l 1, iv l 2, iv l 3]) := Lib.hid ⟨rfl, rfl, rfl, rfl, trivial⟩
      go_wp2_with (have hz0 := KO; refine wpList_storeN 26 rfl (.tmp 2) (.tmp 26) rfl w.heap.size [iv l 0, iv l 1, iv l 2, iv l 3] size_a4 rfl rfl BR.out.cells rfl BR.out.free KO.out ?_; clear hz0 KO k0 k1 k2 k3)
      exact bodyPost_ret (resultsN2 rfl _ _ w.heap.size [iv l 0, iv l 1, iv l 2, iv l 3] (.int .i64 0) size_a4 agg_a4 rfl rfl (BR.out.all_ (l := [iv l 0, iv l 1, iv l 2, iv l 3]) rfl).cells) rfl ⟨rfl, below_setN (Nat.le_refl _) _ 0 _ B.out⟩
end Go.Proofs.YtkjghoomdefbbaaGreatDoor
end
section
namespace Go.Proofs.YtkjghoomdefbbaaGreatDoor
open Go.RowKit
set_option linter.unusedVariables false
set_option linter.unusedSimpArgs false

theorem okPut4 {x : Int} (h : okPut x 4 = true) : 0 ≤ x ∧ x < 4294967296 := by
  unfold okPut at h
  simp only [Bool.and_eq_true, decide_eq_true_eq] at h
  exact ⟨h.1.2, h.2⟩
theorem okPut4_of {x : Int} (h0 : 0 ≤ x) (h1 : x < 4294967296) : okPut x 4 = true := by
  unfold okPut
  rw [decide_eq_true h0, decide_eq_true (show x < 256 ^ (4 : Int).toNat from h1)]
  rfl
theorem putS4 {x : Int} (h : okPut x 4 = true) : putS x 4 = putL x.toNat 4 := by unfold putS; rw [if_pos h]; rfl
def getQ (s : List UInt8) : List Int := if s.length = 16 then sums4 s else [0, 0, 0, 0]
def getQE (s : List UInt8) : Int := if s.length = 16 then 0 else 2
theorem getQ_four (s : List UInt8) : ∃ a b c d, getQ s = [a, b, c, d] := by
  unfold getQ
  split
  · exact ⟨_, _, _, _, rfl⟩
  · exact ⟨_, _, _, _, rfl⟩
theorem four_le {s : List UInt8} : ∀ x ∈ getQ s, 0 ≤ x ∧ x < 4294967296 := by
  have key : ∀ l : List UInt8, (getN (l.take 4) : Int) < 4294967296 := fun l => by
    have h := getN_lt (l.take 4)
    have h2 : (l.take 4).length ≤ 4 := by rw [List.length_take]; omega
    have h3 : 256 ^ (l.take 4).length ≤ 256 ^ 4 := Nat.pow_le_pow_right (by decide) h2
    have : (256 : Nat) ^ 4 = 4294967296 := by decide
    omega
  intro x hx
  unfold getQ at hx
  split at hx
  · simp only [sums4, List.mem_cons, List.not_mem_nil, or_false] at hx
    rcases hx with rfl | rfl | rfl | rfl <;> exact ⟨by omega, key _⟩
  · simp only [List.mem_cons, List.not_mem_nil, or_false, or_self] at hx
    subst hx; decide
/-- What is put is got again. -/
theorem put_back {a b c d : Int} (h : putQE [a, b, c, d] = 0) : getQE (putQ [a, b, c, d]) = 0 ∧ getQ (putQ [a, b, c, d]) = [a, b, c, d] := by
  have hall : ([a, b, c, d].all fun x => okPut x 4) = true := by
    unfold putQE at h
    split at h
    · assumption
    · cases h
  have e : putQ [a, b, c, d] = putT [a, b, c, d] := by unfold putQ; rw [if_pos hall]
  simp only [List.all_cons, List.all_nil, Bool.and_true, Bool.and_eq_true] at hall
  obtain ⟨ha, hb, hc, hd⟩ := hall
  have oa := okPut4 ha
  have ob := okPut4 hb
  have oc := okPut4 hc
  have od := okPut4 hd
  have e2 : putT [a, b, c, d] = putL a.toNat 4 ++ (putL b.toNat 4 ++ (putL c.toNat 4 ++ (putL d.toNat 4 ++ []))) := by
    simp only [putT, List.flatMap_cons, List.flatMap_nil]
    rw [putS4 ha, putS4 hb, putS4 hc, putS4 hd]
  rw [e, e2]
  have hl : (putL a.toNat 4 ++ (putL b.toNat 4 ++ (putL c.toNat 4 ++ (putL d.toNat 4 ++ [])))).length = 16 := by simp [length_putL]
  have p4 : (256 : Nat) ^ 4 = 4294967296 := by decide
  refine ⟨by unfold getQE; rw [if_pos hl], ?_⟩
  unfold getQ
  rw [if_pos hl]
  unfold sums4
  rw [show (12 : Nat) = 4 + (4 + 4) from rfl, show (8 : Nat) = 4 + 4 from rfl, ← List.drop_drop, ← List.drop_drop, ← List.drop_drop, List.drop_zero, drop_put, drop_put, drop_put, get_put _ _ _ (by omega), get_put _ _ _ (by omega), get_put _ _ _ (by omega), get_put _ _ _ (by omega)]
  rw [Int.toNat_of_nonneg oa.1, Int.toNat_of_nonneg ob.1, Int.toNat_of_nonneg oc.1, Int.toNat_of_nonneg od.1]
/-- And nothing else is. -/
theorem get_back {s : List UInt8} (h : getQE s = 0) : putQE (getQ s) = 0 ∧ putQ (getQ s) = s := by
  have h16 : s.length = 16 := by
    unfold getQE at h
    split at h
    · assumption
    · cases h
  have hall : ((getQ s).all fun x => okPut x 4) = true := by
    rw [List.all_eq_true]
    intro x hx
    have := four_le x hx
    exact okPut4_of this.1 this.2
  refine ⟨by unfold putQE; rw [if_pos hall], ?_⟩
  unfold putQ
  rw [if_pos hall]
  rw [List.all_eq_true] at hall
  unfold getQ at hall ⊢
  rw [if_pos h16] at hall ⊢
  have hs : ∀ k, okPut ((getN ((s.drop k).take 4) : Nat) : Int) 4 = true → k + 4 ≤ 16 → putS ((getN ((s.drop k).take 4) : Nat) : Int) 4 = (s.drop k).take 4 := fun k hk hle => by
    rw [putS4 hk, Int.toNat_natCast]
    have h1 := putL_getN ((s.drop k).take 4)
    rw [List.length_take, List.length_drop, h16, Nat.min_eq_left (by omega)] at h1
    exact h1
  have a0 := hs 0 (hall _ (by simp [sums4])) (by omega)
  have a1 := hs 4 (hall _ (by simp [sums4])) (by omega)
  have a2 := hs 8 (hall _ (by simp [sums4])) (by omega)
  have a3 := hs 12 (hall _ (by simp [sums4])) (by omega)
  unfold sums4
  simp only [putT, List.flatMap_cons, List.flatMap_nil]
  rw [a0, a1, a2, a3, List.append_nil, List.drop_zero]
  have c : ∀ (l : List UInt8), l.take 4 ++ l.drop 4 = l := fun l => List.take_append_drop 4 l
  have d3 : (s.drop 12).take 4 = s.drop 12 := List.take_of_length_le (by rw [List.length_drop, h16]; decide)
  rw [d3, show (12 : Nat) = 8 + 4 from rfl, ← List.drop_drop, c, show (8 : Nat) = 4 + 4 from rfl, ← List.drop_drop, c, c]
theorem putQ_len (a b c d : Int) : (putQ [a, b, c, d]).length ≤ 16 := by
  unfold putQ
  split
  · exact putT_len _
  · decide
theorem le_of_wf {a : Int} (h : (Lit.int .i64 a).wf = true) : a ≤ 9223372036854775807 := by
  unfold Lit.wf at h
  rw [Bool.and_eq_true] at h
  have := of_decide_eq_true h.2
  exact this
def eqI4 (W : World) : Prop := True
theorem eq_i4 (a b c d : Int) (W : World) : (binOp .eql 26 (.agg #[.int .i64 a, .int .i64 b, .int .i64 c, .int .i64 d]) (.agg #[.int .i64 a, .int .i64 b, .int .i64 c, .int .i64 d])).run Tryz.prog W = .ok (.bool true) W := eql_i4 26 3 a b c d a b c d true Tryz.underlying26 Tryz.underlying3 (by kernel_rfl) (by simp) W
theorem gd_put (a b c d : Int) (t : List UInt8) (e : Int) (w : World) (h : ∀ x ∈ [a, b, c, d], x ≤ 9223372036854775807) (ht : putQ [a, b, c, d] = t) (he : putQE [a, b, c, d] = e) : Calls Tryz.prog 20 #[.agg #[.int .i64 a, .int .i64 b, .int .i64 c, .int .i64 d]] w fun E w' => E = .returned (.tuple #[.string ⟨t.toArray⟩, .int .i64 e]) ∧ Below w.heap.size w w' := by
  subst ht he; exact dgput_any a b c d w h
theorem gd_rput (a b c d : Int) (t : List UInt8) (e : Int) (w : World) (h : ∀ x ∈ [a, b, c, d], x ≤ 9223372036854775807) (ht : putQ [a, b, c, d] = t) (he : putQE [a, b, c, d] = e) : Calls Tryz.prog 21 #[.agg #[.int .i64 a, .int .i64 b, .int .i64 c, .int .i64 d]] w fun E w' => E = .returned (.tuple #[.string ⟨t.toArray⟩, .int .i64 e]) ∧ Below w.heap.size w w' := by
  subst ht he; exact rdgput_any a b c d w h
theorem gd_get (s : List UInt8) (a b c d e : Int) (w : World) (hl : s.length ≤ 1000000000) (hq : getQ s = [a, b, c, d]) (he : getQE s = e) : Calls Tryz.prog 22 #[.string ⟨s.toArray⟩] w fun E w' => E = .returned (.tuple #[.agg #[.int .i64 a, .int .i64 b, .int .i64 c, .int .i64 d], .int .i64 e]) ∧ Below w.heap.size w w' := by
  by_cases h : s.length = 16
  · unfold getQ at hq
    unfold getQE at he
    rw [if_pos h] at hq he
    subst he
    have h2 := dgget_yes s w h
    rw [hq] at h2
    exact h2
  · unfold getQ at hq
    unfold getQE at he
    rw [if_neg h] at hq he
    subst he
    injection hq with h1 hq
    injection hq with h2 hq
    injection hq with h3 hq
    injection hq with h4 hq
    subst h1 h2 h3 h4
    exact dgget_no s w h hl
theorem gd_rget (s : List UInt8) (a b c d e : Int) (w : World) (hl : s.length ≤ 1000000000) (hq : getQ s = [a, b, c, d]) (he : getQE s = e) : Calls Tryz.prog 23 #[.string ⟨s.toArray⟩] w fun E w' => E = .returned (.tuple #[.agg #[.int .i64 a, .int .i64 b, .int .i64 c, .int .i64 d], .int .i64 e]) ∧ Below w.heap.size w w' := by
  by_cases h : s.length = 16
  · unfold getQ at hq
    unfold getQE at he
    rw [if_pos h] at hq he
    subst he
    have h2 := rdgget_yes s w h
    rw [hq] at h2
    exact h2
  · unfold getQ at hq
    unfold getQE at he
    rw [if_neg h] at hq he
    subst he
    injection hq with h1 hq
    injection hq with h2 hq
    injection hq with h3 hq
    injection hq with h4 hq
    subst h1 h2 h3 h4
    exact rdgget_no s w h hl
end Go.Proofs.YtkjghoomdefbbaaGreatDoor
end
section
namespace Go.Proofs.YtkjghoomdefbbaaGreatDoor
open Go.ChangeShapes Go.WideShapes Go.ChangeAt Go.RowKit

theorem list_i4 {α : Type} (l : List α) (h : (⟨l⟩ : Array α).size = 4) : ∃ a b c d, l = [a, b, c, d] := by
  match l, h with
  | [a, b, c, d], _ => exact ⟨a, b, c, d, rfl⟩

theorem open_i4 {P : Program} {W : World} {H : Type} {enc : TypeId × Value → H} {base b : Nat} {spare : Nat → Bool} {held : Bool} {t e : TypeId} {v : Value} {d : DataW H} {ps : List MemPlace}
    (ht : P.underlying t = some (.array 4 e)) (he : P.underlying e = some (.int .i64)) (ct : P.cellsOf t = 4) (ce : P.cellsOf e = 1)
    (hv : Value.okWide P W .any b t v) (hd : DataW.Trod enc P W base spare held t v d ps) :
    ∃ x0 x1 x2 x3 : Int, v = .agg #[.int .i64 x0, .int .i64 x1, .int .i64 x2, .int .i64 x3] ∧ d = .agg [.lit (.int .i64 x0), .lit (.int .i64 x1), .lit (.int .i64 x2), .lit (.int .i64 x3)] ∧ ps = [] ∧
      (Lit.int .i64 x0).wf = true ∧ (Lit.int .i64 x1).wf = true ∧ (Lit.int .i64 x2).wf = true ∧ (Lit.int .i64 x3).wf = true := by
  obtain ⟨cs, rfl, hsz, _⟩ : ∃ cs, v = .agg cs ∧ cs.size = P.cellsOf t ∧ Row.okWide P W .any b t cs := by
    simpa [Value.okWide, ht] using hv
  rw [ct] at hsz
  obtain ⟨l⟩ := cs
  obtain ⟨c0, c1, c2, c3, rfl⟩ := list_i4 l hsz
  obtain ⟨fuel, hf⟩ := hd
  obtain ⟨y0, y1, y2, y3, m, hx, hy0, hy1, hy2, hy3⟩ := trod_array4 ht ce hf
  obtain ⟨x0, e0, rfl, w0⟩ := DataW.trod_int he hy0
  obtain ⟨x1, e1, rfl, w1⟩ := DataW.trod_int he hy1
  obtain ⟨x2, e2, rfl, w2⟩ := DataW.trod_int he hy2
  obtain ⟨x3, e3, rfl, w3⟩ := DataW.trod_int he hy3
  simp at e0 e1 e2 e3
  subst e0 e1 e2 e3
  simp only [Prod.mk.injEq] at hx
  obtain ⟨rfl, rfl⟩ := hx
  exact ⟨x0, x1, x2, x3, rfl, rfl, rfl, w0, w1, w2, w3⟩

theorem shut_i4 {P : Program} {W : World} {H : Type} {enc : TypeId × Value → H} {base : Nat} {spare : Nat → Bool} {held : Bool} {t e : TypeId} {x0 x1 x2 x3 : Int}
    (ht : P.underlying t = some (.array 4 e)) (he : P.underlying e = some (.int .i64)) (ct : P.cellsOf t = 4) (ce : P.cellsOf e = 1)
    (w0 : (Lit.int .i64 x0).wf = true) (w1 : (Lit.int .i64 x1).wf = true) (w2 : (Lit.int .i64 x2).wf = true) (w3 : (Lit.int .i64 x3).wf = true) :
    DataW.Trod enc P W base spare held t (.agg #[.int .i64 x0, .int .i64 x1, .int .i64 x2, .int .i64 x3]) (.agg [.lit (.int .i64 x0), .lit (.int .i64 x1), .lit (.int .i64 x2), .lit (.int .i64 x3)]) [] :=
  ⟨2, by simp [DataW.trod, Value.cells, ht, he, ct, ce, w0, w1, w2, w3, show List.range 4 = [0, 1, 2, 3] from rfl]⟩

end Go.Proofs.YtkjghoomdefbbaaGreatDoor
end
