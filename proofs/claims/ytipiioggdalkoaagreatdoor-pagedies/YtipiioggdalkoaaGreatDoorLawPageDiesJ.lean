/- A machine that dies while a record is appended leaves the records that were there, or these and the new one, and no other (page.Append, Records, Next, Bad; flash.Wake, Same). -/
import Derived.Test.YtipiioggdalkoaaGreatDoorPartE
import Derived.Laws.AppendOwnNone
import Derived.Maps.AppendAt
import Derived.SizedLaws
import Derived.ProofKit
import Derived.OpenShut
import Derived.ShutString
import Derived.ChangeOld
import Derived.Below
namespace Go.Proofs.YtipiioggdalkoaaGreatDoor
open Go.ChangeShapes Go.WideShapes Go.ChangeAt Go.RowKit
open Go.ChangeMaps (open_string shut_string)
set_option linter.unusedVariables false
set_option linter.unusedSimpArgs false
attribute [local irreducible] set5
theorem own_start (W : World) (e : TypeId) : (W.alloc (.cells #[] e)).ownsRow W.heap.size e 1 (.slice (some ⟨W.heap.size, 0, none⟩) 0 0) 0 [] :=
  ⟨rfl, .inr ⟨W.heap.size, 0, #[], rfl, Nat.le_refl _, by show (W.heap.push _)[W.heap.size]? = _; simp, Nat.le_refl _, by unfold maxLen; omega, rfl, rfl⟩⟩
theorem below_own {B : Nat} {A W w1 : World} {e : TypeId} {size : Nat} {v : Value} {k : Nat} {xs : List Value} (h : W.ownsRow B e size v k xs) (hg : W.grownBy w1 v.ownBlock) (hb : Below B A W) (hB : B ≤ W.heap.size) : Below B A w1 :=
  hb.grown hg hB fun j ej => by
    rcases h.2 with ⟨rfl, _⟩ | ⟨g, cap, cur, rfl, hb, _, _⟩
    · simp [Value.ownBlock] at ej
    · obtain rfl : g = j := by simpa [Value.ownBlock] using ej
      exact hb
theorem cells_src {cs : List Value} {v : Value} {w : World} (h : isCells cs v w) : (v = .slice none 0 0 ∧ cs = []) ∨ ∃ ad cap, v = .slice (some ad) cs.length cap ∧ ∀ (j : Nat) (u : Value), cs[j]? = some u → w.cell? (ad.add j) = some u := by
  rcases h with h | ⟨a, cap, rfl, rfl⟩ | ⟨b, off, cap, rfl, _, hc⟩
  · exact .inl h
  · exact .inr ⟨a, cap, rfl, fun j u h => by simp at h⟩
  · exact .inr ⟨_, cap, rfl, fun j u h => by have h2 := hc j u h; cases j <;> simpa [Addr.add] using h2⟩
theorem plain {f : Nat} {xs : Array Value} {v : Value} (h : ∀ W : World, Calls Tryz.prog f xs W fun e W' => e = .returned v ∧ Below W.heap.size W W') (w : World) : Calls Tryz.prog f xs w fun e w' => ∃ x, e = .returned x ∧ isVal v x w' ∧ Below w.heap.size w w' :=
  (h w).mono (by rintro e w' ⟨rfl, hb⟩; exact ⟨_, rfl, rfl, hb⟩)
theorem quietly {f : Nat} {xs : Array Value} {v : Value} (h : ∀ W : World, Calls Tryz.prog f xs W fun e W' => e = .returned v ∧ W = W') (w : World) : Calls Tryz.prog f xs w fun e w' => ∃ x, e = .returned x ∧ isVal v x w' ∧ Below w.heap.size w w' :=
  (h w).mono (by rintro e w' ⟨rfl, rfl⟩; exact ⟨_, rfl, rfl, Below.refl _ _⟩)
theorem cell_one_at (w : World) (x : Value) (t : TypeId) (b : Nat) (hb : w.heap.size = b) : ∀ (j : Nat) (u : Value), [x][j]? = some u → (w.alloc (.cells #[x] t)).cell? ((⟨b, 0, none⟩ : Addr).add j) = some u := hb ▸ cell_one_new w x t
theorem wp_append_none {P : Program} {w : World} {o : Oper} {a : Act} {K : Act → World → Prop} {Q : Exit → Act → World → Prop} (s x : Operand) (t : TypeId)
    (ho : o.op = .call { callee := .builtin .append, args := #[s, x], argTypes := #[t, t] })
    (base : Nat) (e : TypeId) (i : TypeInfo) (size : Nat) (ht : P.underlying t = some (.slice e)) (hi : P.info? e = some i)
    (v : Value) (n : Nat) (xs : List Value) (hs : a.eval s = v) (hown : w.ownsRow base e size v n xs) (hx : a.eval x = .slice none 0 0)
    (h : K (a.put o.dst v) w) : o.wp P a w K Q := by
  have hrun := run_append_owned_none (P := P) (w := w) base t o.type e i size ht hi v n xs hown
  unfold Oper.wp
  simp [execOp, ho, resolve, invoke, builtin, hs, hx, hrun, Result.andThen]
  exact h
theorem strs_one (l : List (List UInt8)) : ∀ u ∈ l.map strC, u.oneCell' = true := by
  intro u hu
  obtain ⟨x, _, rfl⟩ := List.mem_map.1 hu
  rfl

theorem add_one (a : Nat) (h : a ≤ 1000000) (w : World) : (binOp .add 3 (.int .i64 (a : Int)) (.int .i64 1)).run Tryz.prog w = .ok (.int .i64 ((a + 1) : Int)) w := by
  have hw : IntKind.i64.wrap ((a : Int) + 1) = (a : Int) + 1 := IntWalk.i64_in _ (by omega)
  simp [binOp, hw, go_sem]
theorem leq_int {P : Program} (t : TypeId) (k : IntKind) (x y : Int) (b : Bool) (h : decide (x ≤ y) = b) (w : World) : (binOp .leq t (.int k x) (.int k y)).run P w = .ok (.bool b) w := by
  simp [go_sem, h]
theorem wpList_want {P : Program} {w : World} {ops : Array Oper} {rest : List Oper} {o : Oper} {a : Act} {Q : Exit → Act → World → Prop} (hw : Region.wanted o (yielded ops a.tmps) = true) (h : ∀ K : Act → World → Prop, (∀ a w, wpList P ops Q rest a w → K a w) → o.wp P a w K Q) : wpList P ops Q (o :: rest) a w :=
  wpList_step fun K hK => by rw [if_pos hw]; exact h K hK
noncomputable def dies19ops : Array Oper := regionOf Tryz.f6 19
noncomputable def dies20ops : Array Oper := regionOf Tryz.f6 20

theorem sub_0 (a b : Nat) (hab : a = b + 0) (h : b ≤ 1000000) (w : World) : (binOp .sub 3 (.int .i64 (a : Int)) (.int .i64 (b : Int))).run Tryz.prog w = .ok (.int .i64 0) w := by
  have hw : (a : Int) - (b : Int) = 0 := by omega
  have hi : IntKind.i64.wrap (0 : Int) = 0 := IntWalk.i64_in _ (by omega)
  simp [binOp, hw, hi, go_sem]
set_option maxRecDepth 100000 in
set_option maxHeartbeats 4000000 in
theorem dies19_0 (Q : Exit → Act → World → Prop) (a0 : Act) (w0 : World) (hsz : a0.tmps.size = 153) (gf gg bf of nf cf bg og cg k z : Nat) (p q : List UInt8) (nx n2 : Nat) (hn2 : n2 = nx + 0) (hnx : nx ≤ 1000000)
    (e13 : a0.tmps.getD 13 undef = .pointer (some ⟨gg, 0, none⟩)) (e4 : a0.tmps.getD 4 undef = .pointer (some ⟨gf, 0, none⟩)) (e1 : a0.tmps.getD 1 undef = .int .i64 (k : Int)) (e15 : a0.tmps.getD 15 undef = .int .i64 (z : Int))
    (cf0 : w0.cell? ⟨gf, 0, none⟩ = some (.slice (some ⟨bf, of, none⟩) nf cf)) (lgf : gf < w0.heap.size) (cg0 : w0.cell? ⟨gg, 0, none⟩ = some (.slice (some ⟨bg, og, none⟩) nf cg)) (cg4 : w0.cell? ⟨gg, 4, none⟩ = some (.bool true)) (lgg : gg < w0.heap.size) (hkf : k < nf)
    (pf : w0.cell? ⟨bf, of + k, none⟩ = some (.string ⟨p.toArray⟩)) (lbf : bf < w0.heap.size) (pg : w0.cell? ⟨bg, og + k, none⟩ = some (.string ⟨q.toArray⟩)) (lbg : bg < w0.heap.size)
    (HN1 : ∀ w : World, Calls Tryz.prog 20 #[.string ⟨p.toArray⟩, .int .i64 (z : Int)] w fun e w' => ∃ v, e = .returned v ∧ isVal (.int .i64 (nx : Int)) v w' ∧ Below w.heap.size w w') (HN2 : ∀ w : World, Calls Tryz.prog 20 #[.string ⟨q.toArray⟩, .int .i64 (z : Int)] w fun e w' => ∃ v, e = .returned v ∧ isVal (.int .i64 (n2 : Int)) v w' ∧ Below w.heap.size w w')
    (hQ : ∀ (a : Act) (w : World), a.defers = a0.defers → a.tmps.size = a0.tmps.size → (∀ t, (dies19ops.toList.all fun o => o.dst != some t) = true → a.tmps.getD t undef = a0.tmps.getD t undef) → a.tmps.getD 19 undef = .int .i64 0 → Below w0.heap.size w0 w → Q .normal a w) :
    (Code.region 19 dies19ops true).wp Tryz.prog Q a0 w0 := by
  refine wp_region_flow mixed (by rw [hsz]; kernel_rfl) ?_
  rw [show dies19ops.size = 16 by kernel_rfl]
  refine ⟨isVal (.pointer (some ⟨gg, 0, none⟩)), step_field 31 (.tmp 13) 0 ⟨gg, 0, none⟩ ⟨gg, 0, none⟩ (by kernel_rfl) (wanted_none (by kernel_rfl)) (knows_old 13 (.pointer (some ⟨gg, 0, none⟩)) (by kernel_rfl) e13) (field_fl gg 0 (by omega)), ?_⟩
  refine ⟨isVal (.slice (some ⟨bg, og, none⟩) nf cg), step_read 26 (.tmp 104) ⟨gg, 0, none⟩ (.slice (some ⟨bg, og, none⟩) nf cg) (by kernel_rfl) (wanted_none (by kernel_rfl)) (knows_new (V := isVal (.pointer (some ⟨gg, 0, none⟩))) 104 0 (by kernel_rfl) (by kernel_rfl) (by kernel_rfl)) cg0 lgg agg_strs, ?_⟩
  refine ⟨isVal (.int .i64 (k : Int)), step_move (.tmp 1) (by kernel_rfl) (wanted_none (by kernel_rfl)) (stable_val _) (knows_old 1 (.int .i64 (k : Int)) (by kernel_rfl) e1), ?_⟩
  refine ⟨isVal (.pointer (some ⟨bg, og + k, none⟩)), step_place 26 9 (.tmp 105) (.tmp 106) bg og nf cg k (by kernel_rfl) (wanted_none (by kernel_rfl)) (knows_new (V := isVal (.slice (some ⟨bg, og, none⟩) nf cg)) 105 1 (by kernel_rfl) (by kernel_rfl) (by kernel_rfl)) (knows_new (V := isVal (.int .i64 (k : Int))) 106 2 (by kernel_rfl) (by kernel_rfl) (by kernel_rfl)) Tryz.underlying26 (by kernel_rfl) hkf, ?_⟩
  refine ⟨isVal (.string ⟨q.toArray⟩), step_read 9 (.tmp 107) ⟨bg, og + k, none⟩ (.string ⟨q.toArray⟩) (by kernel_rfl) (wanted_none (by kernel_rfl)) (knows_new (V := isVal (.pointer (some ⟨bg, og + k, none⟩))) 107 3 (by kernel_rfl) (by kernel_rfl) (by kernel_rfl)) pg lbg agg_str, ?_⟩
  refine ⟨isVal (.int .i64 (z : Int)), step_move (.tmp 15) (by kernel_rfl) (wanted_none (by kernel_rfl)) (stable_val _) (knows_old 15 (.int .i64 (z : Int)) (by kernel_rfl) e15), ?_⟩
  refine ⟨isVal (.int .i64 (n2 : Int)), step_call 20 #[.tmp 108, .tmp 109] #[9, 3] #[.string ⟨q.toArray⟩, .int .i64 (z : Int)] (by kernel_rfl) (wanted_none (by kernel_rfl)) (stable_val _) (args2 (.tmp 108) (.tmp 109) (.string ⟨q.toArray⟩) (.int .i64 (z : Int)) (knows_new (V := isVal (.string ⟨q.toArray⟩)) 108 4 (by kernel_rfl) (by kernel_rfl) (by kernel_rfl)) (knows_new (V := isVal (.int .i64 (z : Int))) 109 5 (by kernel_rfl) (by kernel_rfl) (by kernel_rfl))) (enters_of Tryz.func20 (by kernel_rfl) rfl) (by intro w hb; exact HN2 w), ?_⟩
  refine ⟨isVal (.pointer (some ⟨gf, 0, none⟩)), step_field 31 (.tmp 4) 0 ⟨gf, 0, none⟩ ⟨gf, 0, none⟩ (by kernel_rfl) (wanted_none (by kernel_rfl)) (knows_old 4 (.pointer (some ⟨gf, 0, none⟩)) (by kernel_rfl) e4) (field_fl gf 0 (by omega)), ?_⟩
  refine ⟨isVal (.slice (some ⟨bf, of, none⟩) nf cf), step_read 26 (.tmp 111) ⟨gf, 0, none⟩ (.slice (some ⟨bf, of, none⟩) nf cf) (by kernel_rfl) (wanted_none (by kernel_rfl)) (knows_new (V := isVal (.pointer (some ⟨gf, 0, none⟩))) 111 7 (by kernel_rfl) (by kernel_rfl) (by kernel_rfl)) cf0 lgf agg_strs, ?_⟩
  refine ⟨isVal (.int .i64 (k : Int)), step_move (.tmp 1) (by kernel_rfl) (wanted_none (by kernel_rfl)) (stable_val _) (knows_old 1 (.int .i64 (k : Int)) (by kernel_rfl) e1), ?_⟩
  refine ⟨isVal (.pointer (some ⟨bf, of + k, none⟩)), step_place 26 9 (.tmp 112) (.tmp 113) bf of nf cf k (by kernel_rfl) (wanted_none (by kernel_rfl)) (knows_new (V := isVal (.slice (some ⟨bf, of, none⟩) nf cf)) 112 8 (by kernel_rfl) (by kernel_rfl) (by kernel_rfl)) (knows_new (V := isVal (.int .i64 (k : Int))) 113 9 (by kernel_rfl) (by kernel_rfl) (by kernel_rfl)) Tryz.underlying26 (by kernel_rfl) hkf, ?_⟩
  refine ⟨isVal (.string ⟨p.toArray⟩), step_read 9 (.tmp 114) ⟨bf, of + k, none⟩ (.string ⟨p.toArray⟩) (by kernel_rfl) (wanted_none (by kernel_rfl)) (knows_new (V := isVal (.pointer (some ⟨bf, of + k, none⟩))) 114 10 (by kernel_rfl) (by kernel_rfl) (by kernel_rfl)) pf lbf agg_str, ?_⟩
  refine ⟨isVal (.int .i64 (z : Int)), step_move (.tmp 15) (by kernel_rfl) (wanted_none (by kernel_rfl)) (stable_val _) (knows_old 15 (.int .i64 (z : Int)) (by kernel_rfl) e15), ?_⟩
  refine ⟨isVal (.int .i64 (nx : Int)), step_call 20 #[.tmp 115, .tmp 116] #[9, 3] #[.string ⟨p.toArray⟩, .int .i64 (z : Int)] (by kernel_rfl) (wanted_none (by kernel_rfl)) (stable_val _) (args2 (.tmp 115) (.tmp 116) (.string ⟨p.toArray⟩) (.int .i64 (z : Int)) (knows_new (V := isVal (.string ⟨p.toArray⟩)) 115 11 (by kernel_rfl) (by kernel_rfl) (by kernel_rfl)) (knows_new (V := isVal (.int .i64 (z : Int))) 116 12 (by kernel_rfl) (by kernel_rfl) (by kernel_rfl))) (enters_of Tryz.func20 (by kernel_rfl) rfl) (by intro w hb; exact HN1 w), ?_⟩
  refine ⟨isVal (.int .i64 0), step_bin .sub 3 3 (.tmp 110) (.tmp 117) (.int .i64 (n2 : Int)) (.int .i64 (nx : Int)) (.int .i64 0) (by kernel_rfl) (wanted_none (by kernel_rfl)) (knows_new (V := isVal (.int .i64 (n2 : Int))) 110 6 (by kernel_rfl) (by kernel_rfl) (by kernel_rfl)) (knows_new (V := isVal (.int .i64 (nx : Int))) 117 13 (by kernel_rfl) (by kernel_rfl) (by kernel_rfl)) (fun _ => rfl) (fun w => sub_0 n2 nx hn2 hnx w), ?_⟩
  refine ⟨isVal (.int .i64 0), step_assign (.tmp 118) (by kernel_rfl) (wanted_none (by kernel_rfl)) (stable_val _) (knows_new (V := isVal (.int .i64 0)) 118 14 (by kernel_rfl) (by kernel_rfl) (by kernel_rfl)), ?_⟩
  intro a w hkp hb hd
  exact hQ a w hkp.1 hkp.2.1 hkp.2.2 (fdone_of (hd 15 (by rw [show dies19ops.size = 16 by kernel_rfl]; decide)) (t := 19) (V := isVal (.int .i64 0)) (by kernel_rfl) (by kernel_rfl)) hb

theorem sub_1 (a b : Nat) (hab : a = b + 1) (h : b ≤ 1000000) (w : World) : (binOp .sub 3 (.int .i64 (a : Int)) (.int .i64 (b : Int))).run Tryz.prog w = .ok (.int .i64 1) w := by
  have hw : (a : Int) - (b : Int) = 1 := by omega
  have hi : IntKind.i64.wrap (1 : Int) = 1 := IntWalk.i64_in _ (by omega)
  simp [binOp, hw, hi, go_sem]
set_option maxRecDepth 100000 in
set_option maxHeartbeats 4000000 in
theorem dies19_1 (Q : Exit → Act → World → Prop) (a0 : Act) (w0 : World) (hsz : a0.tmps.size = 153) (gf gg bf of nf cf bg og cg k z : Nat) (p q : List UInt8) (nx n2 : Nat) (hn2 : n2 = nx + 1) (hnx : nx ≤ 1000000)
    (e13 : a0.tmps.getD 13 undef = .pointer (some ⟨gg, 0, none⟩)) (e4 : a0.tmps.getD 4 undef = .pointer (some ⟨gf, 0, none⟩)) (e1 : a0.tmps.getD 1 undef = .int .i64 (k : Int)) (e15 : a0.tmps.getD 15 undef = .int .i64 (z : Int))
    (cf0 : w0.cell? ⟨gf, 0, none⟩ = some (.slice (some ⟨bf, of, none⟩) nf cf)) (lgf : gf < w0.heap.size) (cg0 : w0.cell? ⟨gg, 0, none⟩ = some (.slice (some ⟨bg, og, none⟩) nf cg)) (cg4 : w0.cell? ⟨gg, 4, none⟩ = some (.bool true)) (lgg : gg < w0.heap.size) (hkf : k < nf)
    (pf : w0.cell? ⟨bf, of + k, none⟩ = some (.string ⟨p.toArray⟩)) (lbf : bf < w0.heap.size) (pg : w0.cell? ⟨bg, og + k, none⟩ = some (.string ⟨q.toArray⟩)) (lbg : bg < w0.heap.size)
    (HN1 : ∀ w : World, Calls Tryz.prog 20 #[.string ⟨p.toArray⟩, .int .i64 (z : Int)] w fun e w' => ∃ v, e = .returned v ∧ isVal (.int .i64 (nx : Int)) v w' ∧ Below w.heap.size w w') (HN2 : ∀ w : World, Calls Tryz.prog 20 #[.string ⟨q.toArray⟩, .int .i64 (z : Int)] w fun e w' => ∃ v, e = .returned v ∧ isVal (.int .i64 (n2 : Int)) v w' ∧ Below w.heap.size w w')
    (hQ : ∀ (a : Act) (w : World), a.defers = a0.defers → a.tmps.size = a0.tmps.size → (∀ t, (dies19ops.toList.all fun o => o.dst != some t) = true → a.tmps.getD t undef = a0.tmps.getD t undef) → a.tmps.getD 19 undef = .int .i64 1 → Below w0.heap.size w0 w → Q .normal a w) :
    (Code.region 19 dies19ops true).wp Tryz.prog Q a0 w0 := by
  refine wp_region_flow mixed (by rw [hsz]; kernel_rfl) ?_
  rw [show dies19ops.size = 16 by kernel_rfl]
  refine ⟨isVal (.pointer (some ⟨gg, 0, none⟩)), step_field 31 (.tmp 13) 0 ⟨gg, 0, none⟩ ⟨gg, 0, none⟩ (by kernel_rfl) (wanted_none (by kernel_rfl)) (knows_old 13 (.pointer (some ⟨gg, 0, none⟩)) (by kernel_rfl) e13) (field_fl gg 0 (by omega)), ?_⟩
  refine ⟨isVal (.slice (some ⟨bg, og, none⟩) nf cg), step_read 26 (.tmp 104) ⟨gg, 0, none⟩ (.slice (some ⟨bg, og, none⟩) nf cg) (by kernel_rfl) (wanted_none (by kernel_rfl)) (knows_new (V := isVal (.pointer (some ⟨gg, 0, none⟩))) 104 0 (by kernel_rfl) (by kernel_rfl) (by kernel_rfl)) cg0 lgg agg_strs, ?_⟩
  refine ⟨isVal (.int .i64 (k : Int)), step_move (.tmp 1) (by kernel_rfl) (wanted_none (by kernel_rfl)) (stable_val _) (knows_old 1 (.int .i64 (k : Int)) (by kernel_rfl) e1), ?_⟩
  refine ⟨isVal (.pointer (some ⟨bg, og + k, none⟩)), step_place 26 9 (.tmp 105) (.tmp 106) bg og nf cg k (by kernel_rfl) (wanted_none (by kernel_rfl)) (knows_new (V := isVal (.slice (some ⟨bg, og, none⟩) nf cg)) 105 1 (by kernel_rfl) (by kernel_rfl) (by kernel_rfl)) (knows_new (V := isVal (.int .i64 (k : Int))) 106 2 (by kernel_rfl) (by kernel_rfl) (by kernel_rfl)) Tryz.underlying26 (by kernel_rfl) hkf, ?_⟩
  refine ⟨isVal (.string ⟨q.toArray⟩), step_read 9 (.tmp 107) ⟨bg, og + k, none⟩ (.string ⟨q.toArray⟩) (by kernel_rfl) (wanted_none (by kernel_rfl)) (knows_new (V := isVal (.pointer (some ⟨bg, og + k, none⟩))) 107 3 (by kernel_rfl) (by kernel_rfl) (by kernel_rfl)) pg lbg agg_str, ?_⟩
  refine ⟨isVal (.int .i64 (z : Int)), step_move (.tmp 15) (by kernel_rfl) (wanted_none (by kernel_rfl)) (stable_val _) (knows_old 15 (.int .i64 (z : Int)) (by kernel_rfl) e15), ?_⟩
  refine ⟨isVal (.int .i64 (n2 : Int)), step_call 20 #[.tmp 108, .tmp 109] #[9, 3] #[.string ⟨q.toArray⟩, .int .i64 (z : Int)] (by kernel_rfl) (wanted_none (by kernel_rfl)) (stable_val _) (args2 (.tmp 108) (.tmp 109) (.string ⟨q.toArray⟩) (.int .i64 (z : Int)) (knows_new (V := isVal (.string ⟨q.toArray⟩)) 108 4 (by kernel_rfl) (by kernel_rfl) (by kernel_rfl)) (knows_new (V := isVal (.int .i64 (z : Int))) 109 5 (by kernel_rfl) (by kernel_rfl) (by kernel_rfl))) (enters_of Tryz.func20 (by kernel_rfl) rfl) (by intro w hb; exact HN2 w), ?_⟩
  refine ⟨isVal (.pointer (some ⟨gf, 0, none⟩)), step_field 31 (.tmp 4) 0 ⟨gf, 0, none⟩ ⟨gf, 0, none⟩ (by kernel_rfl) (wanted_none (by kernel_rfl)) (knows_old 4 (.pointer (some ⟨gf, 0, none⟩)) (by kernel_rfl) e4) (field_fl gf 0 (by omega)), ?_⟩
  refine ⟨isVal (.slice (some ⟨bf, of, none⟩) nf cf), step_read 26 (.tmp 111) ⟨gf, 0, none⟩ (.slice (some ⟨bf, of, none⟩) nf cf) (by kernel_rfl) (wanted_none (by kernel_rfl)) (knows_new (V := isVal (.pointer (some ⟨gf, 0, none⟩))) 111 7 (by kernel_rfl) (by kernel_rfl) (by kernel_rfl)) cf0 lgf agg_strs, ?_⟩
  refine ⟨isVal (.int .i64 (k : Int)), step_move (.tmp 1) (by kernel_rfl) (wanted_none (by kernel_rfl)) (stable_val _) (knows_old 1 (.int .i64 (k : Int)) (by kernel_rfl) e1), ?_⟩
  refine ⟨isVal (.pointer (some ⟨bf, of + k, none⟩)), step_place 26 9 (.tmp 112) (.tmp 113) bf of nf cf k (by kernel_rfl) (wanted_none (by kernel_rfl)) (knows_new (V := isVal (.slice (some ⟨bf, of, none⟩) nf cf)) 112 8 (by kernel_rfl) (by kernel_rfl) (by kernel_rfl)) (knows_new (V := isVal (.int .i64 (k : Int))) 113 9 (by kernel_rfl) (by kernel_rfl) (by kernel_rfl)) Tryz.underlying26 (by kernel_rfl) hkf, ?_⟩
  refine ⟨isVal (.string ⟨p.toArray⟩), step_read 9 (.tmp 114) ⟨bf, of + k, none⟩ (.string ⟨p.toArray⟩) (by kernel_rfl) (wanted_none (by kernel_rfl)) (knows_new (V := isVal (.pointer (some ⟨bf, of + k, none⟩))) 114 10 (by kernel_rfl) (by kernel_rfl) (by kernel_rfl)) pf lbf agg_str, ?_⟩
  refine ⟨isVal (.int .i64 (z : Int)), step_move (.tmp 15) (by kernel_rfl) (wanted_none (by kernel_rfl)) (stable_val _) (knows_old 15 (.int .i64 (z : Int)) (by kernel_rfl) e15), ?_⟩
  refine ⟨isVal (.int .i64 (nx : Int)), step_call 20 #[.tmp 115, .tmp 116] #[9, 3] #[.string ⟨p.toArray⟩, .int .i64 (z : Int)] (by kernel_rfl) (wanted_none (by kernel_rfl)) (stable_val _) (args2 (.tmp 115) (.tmp 116) (.string ⟨p.toArray⟩) (.int .i64 (z : Int)) (knows_new (V := isVal (.string ⟨p.toArray⟩)) 115 11 (by kernel_rfl) (by kernel_rfl) (by kernel_rfl)) (knows_new (V := isVal (.int .i64 (z : Int))) 116 12 (by kernel_rfl) (by kernel_rfl) (by kernel_rfl))) (enters_of Tryz.func20 (by kernel_rfl) rfl) (by intro w hb; exact HN1 w), ?_⟩
  refine ⟨isVal (.int .i64 1), step_bin .sub 3 3 (.tmp 110) (.tmp 117) (.int .i64 (n2 : Int)) (.int .i64 (nx : Int)) (.int .i64 1) (by kernel_rfl) (wanted_none (by kernel_rfl)) (knows_new (V := isVal (.int .i64 (n2 : Int))) 110 6 (by kernel_rfl) (by kernel_rfl) (by kernel_rfl)) (knows_new (V := isVal (.int .i64 (nx : Int))) 117 13 (by kernel_rfl) (by kernel_rfl) (by kernel_rfl)) (fun _ => rfl) (fun w => sub_1 n2 nx hn2 hnx w), ?_⟩
  refine ⟨isVal (.int .i64 1), step_assign (.tmp 118) (by kernel_rfl) (wanted_none (by kernel_rfl)) (stable_val _) (knows_new (V := isVal (.int .i64 1)) 118 14 (by kernel_rfl) (by kernel_rfl) (by kernel_rfl)), ?_⟩
  intro a w hkp hb hd
  exact hQ a w hkp.1 hkp.2.1 hkp.2.2 (fdone_of (hd 15 (by rw [show dies19ops.size = 16 by kernel_rfl]; decide)) (t := 19) (V := isVal (.int .i64 1)) (by kernel_rfl) (by kernel_rfl)) hb

set_option maxRecDepth 100000 in
set_option maxHeartbeats 4000000 in
theorem dies20_0 (Q : Exit → Act → World → Prop) (a0 : Act) (w0 : World) (hsz : a0.tmps.size = 153) (gf gg bf of nf cf bg og cg k z : Nat) (p q : List UInt8) (bd b2 : Nat) (hb2 : b2 ≤ bd + 1) (hbd : bd ≤ 1000000)
    (e9 : a0.tmps.getD 9 undef = .bool true) (e18 : a0.tmps.getD 18 undef = .bool true) (e13 : a0.tmps.getD 13 undef = .pointer (some ⟨gg, 0, none⟩)) (e4 : a0.tmps.getD 4 undef = .pointer (some ⟨gf, 0, none⟩)) (e1 : a0.tmps.getD 1 undef = .int .i64 (k : Int)) (e15 : a0.tmps.getD 15 undef = .int .i64 (z : Int)) (e19 : a0.tmps.getD 19 undef = .int .i64 0)
    (cf0 : w0.cell? ⟨gf, 0, none⟩ = some (.slice (some ⟨bf, of, none⟩) nf cf)) (lgf : gf < w0.heap.size) (cg0 : w0.cell? ⟨gg, 0, none⟩ = some (.slice (some ⟨bg, og, none⟩) nf cg)) (cg4 : w0.cell? ⟨gg, 4, none⟩ = some (.bool true)) (lgg : gg < w0.heap.size) (hkf : k < nf)
    (pf : w0.cell? ⟨bf, of + k, none⟩ = some (.string ⟨p.toArray⟩)) (lbf : bf < w0.heap.size) (pg : w0.cell? ⟨bg, og + k, none⟩ = some (.string ⟨q.toArray⟩)) (lbg : bg < w0.heap.size)
    (HB1 : ∀ w : World, Calls Tryz.prog 19 #[.string ⟨p.toArray⟩, .int .i64 (z : Int)] w fun e w' => ∃ v, e = .returned v ∧ isVal (.int .i64 (bd : Int)) v w' ∧ Below w.heap.size w w') (HB2 : ∀ w : World, Calls Tryz.prog 19 #[.string ⟨q.toArray⟩, .int .i64 (z : Int)] w fun e w' => ∃ v, e = .returned v ∧ isVal (.int .i64 (b2 : Int)) v w' ∧ Below w.heap.size w w')
    (hQ : ∀ (a : Act) (w : World), a.defers = a0.defers → a.tmps.getD 8 undef = .bool true → Below w0.heap.size w0 w → Q .normal a w) :
    (Code.region 20 dies20ops true).wp Tryz.prog Q a0 w0 := by
  refine wp_region_flow mixed (by rw [hsz]; kernel_rfl) ?_
  rw [show dies20ops.size = 35 by kernel_rfl]
  refine ⟨isVal (.bool true), step_move (.tmp 9) (by kernel_rfl) (wanted_none (by kernel_rfl)) (stable_val _) (knows_old 9 (.bool true) (by kernel_rfl) e9), ?_⟩
  refine ⟨isVal (.bool true), step_move (.tmp 119) (by kernel_rfl) (wanted_none (by kernel_rfl)) (stable_val _) (knows_new (V := isVal (.bool true)) 119 0 (by kernel_rfl) (by kernel_rfl) (by kernel_rfl)), ?_⟩
  refine ⟨isVal (.bool true), step_move (.tmp 18) (by kernel_rfl) (wanted_some 1 120 true (by kernel_rfl) (by kernel_rfl) (by kernel_rfl) (by kernel_rfl)) (stable_val _) (knows_old 18 (.bool true) (by kernel_rfl) e18), ?_⟩
  refine ⟨isVal (.bool true), step_pick (.tmp 120) (.tmp 121) (.const (.bool false)) true (by kernel_rfl) (wanted_none (by kernel_rfl)) (stable_val _) (knows_new (V := isVal (.bool true)) 120 1 (by kernel_rfl) (by kernel_rfl) (by kernel_rfl)) (knows_new (V := isVal (.bool true)) 121 2 (by kernel_rfl) (by kernel_rfl) (by kernel_rfl)), ?_⟩
  refine ⟨isVal (.bool true), step_move (.tmp 122) (by kernel_rfl) (wanted_none (by kernel_rfl)) (stable_val _) (knows_new (V := isVal (.bool true)) 122 3 (by kernel_rfl) (by kernel_rfl) (by kernel_rfl)), ?_⟩
  refine ⟨isVal (.pointer (some ⟨gg, 4, none⟩)), step_field 31 (.tmp 13) 4 ⟨gg, 0, none⟩ ⟨gg, 4, none⟩ (by kernel_rfl) (wanted_some 4 123 true (by kernel_rfl) (by kernel_rfl) (by kernel_rfl) (by kernel_rfl)) (knows_old 13 (.pointer (some ⟨gg, 0, none⟩)) (by kernel_rfl) e13) (field_fl gg 4 (by omega)), ?_⟩
  refine ⟨isVal (.bool true), step_read 4 (.tmp 124) ⟨gg, 4, none⟩ (.bool true) (by kernel_rfl) (wanted_some 4 123 true (by kernel_rfl) (by kernel_rfl) (by kernel_rfl) (by kernel_rfl)) (knows_new (V := isVal (.pointer (some ⟨gg, 4, none⟩))) 124 5 (by kernel_rfl) (by kernel_rfl) (by kernel_rfl)) cg4 lgg agg_bool, ?_⟩
  refine ⟨isVal (.bool true), step_pick (.tmp 123) (.tmp 125) (.const (.bool false)) true (by kernel_rfl) (wanted_none (by kernel_rfl)) (stable_val _) (knows_new (V := isVal (.bool true)) 123 4 (by kernel_rfl) (by kernel_rfl) (by kernel_rfl)) (knows_new (V := isVal (.bool true)) 125 6 (by kernel_rfl) (by kernel_rfl) (by kernel_rfl)), ?_⟩
  refine ⟨isVal (.bool true), step_move (.tmp 126) (by kernel_rfl) (wanted_none (by kernel_rfl)) (stable_val _) (knows_new (V := isVal (.bool true)) 126 7 (by kernel_rfl) (by kernel_rfl) (by kernel_rfl)), ?_⟩
  refine ⟨isVal (.int .i64 0), step_move (.tmp 19) (by kernel_rfl) (wanted_some 8 127 true (by kernel_rfl) (by kernel_rfl) (by kernel_rfl) (by kernel_rfl)) (stable_val _) (knows_old 19 (.int .i64 0) (by kernel_rfl) e19), ?_⟩
  refine ⟨isVal (.bool true), step_bin .eql 3 3 (.tmp 128) (.const (.int .i64 0)) (.int .i64 0) (.int .i64 0) (.bool true) (by kernel_rfl) (wanted_some 8 127 true (by kernel_rfl) (by kernel_rfl) (by kernel_rfl) (by kernel_rfl)) (knows_new (V := isVal (.int .i64 0)) 128 9 (by kernel_rfl) (by kernel_rfl) (by kernel_rfl)) (knows_const _) (fun _ => rfl) (eql_int _ _ _ _ _ (by decide)), ?_⟩
  refine ⟨isVal (.bool true), step_move (.tmp 129) (by kernel_rfl) (wanted_some 8 127 true (by kernel_rfl) (by kernel_rfl) (by kernel_rfl) (by kernel_rfl)) (stable_val _) (knows_new (V := isVal (.bool true)) 129 10 (by kernel_rfl) (by kernel_rfl) (by kernel_rfl)), ?_⟩
  refine ⟨_, step_skip 11 130 false true (by kernel_rfl) (by kernel_rfl) (by kernel_rfl) (by kernel_rfl) rfl, ?_⟩
  refine ⟨_, step_skip 11 130 false true (by kernel_rfl) (by kernel_rfl) (by kernel_rfl) (by kernel_rfl) rfl, ?_⟩
  refine ⟨isVal (.bool true), step_pick (.tmp 130) (.const (.bool true)) (.tmp 132) true (by kernel_rfl) (wanted_some 8 127 true (by kernel_rfl) (by kernel_rfl) (by kernel_rfl) (by kernel_rfl)) (stable_val _) (knows_new (V := isVal (.bool true)) 130 11 (by kernel_rfl) (by kernel_rfl) (by kernel_rfl)) (knows_const _), ?_⟩
  refine ⟨isVal (.bool true), step_pick (.tmp 127) (.tmp 133) (.const (.bool false)) true (by kernel_rfl) (wanted_none (by kernel_rfl)) (stable_val _) (knows_new (V := isVal (.bool true)) 127 8 (by kernel_rfl) (by kernel_rfl) (by kernel_rfl)) (knows_new (V := isVal (.bool true)) 133 14 (by kernel_rfl) (by kernel_rfl) (by kernel_rfl)), ?_⟩
  refine ⟨isVal (.bool true), step_move (.tmp 134) (by kernel_rfl) (wanted_none (by kernel_rfl)) (stable_val _) (knows_new (V := isVal (.bool true)) 134 15 (by kernel_rfl) (by kernel_rfl) (by kernel_rfl)), ?_⟩
  refine ⟨isVal (.pointer (some ⟨gg, 0, none⟩)), step_field 31 (.tmp 13) 0 ⟨gg, 0, none⟩ ⟨gg, 0, none⟩ (by kernel_rfl) (wanted_some 16 135 true (by kernel_rfl) (by kernel_rfl) (by kernel_rfl) (by kernel_rfl)) (knows_old 13 (.pointer (some ⟨gg, 0, none⟩)) (by kernel_rfl) e13) (field_fl gg 0 (by omega)), ?_⟩
  refine ⟨isVal (.slice (some ⟨bg, og, none⟩) nf cg), step_read 26 (.tmp 136) ⟨gg, 0, none⟩ (.slice (some ⟨bg, og, none⟩) nf cg) (by kernel_rfl) (wanted_some 16 135 true (by kernel_rfl) (by kernel_rfl) (by kernel_rfl) (by kernel_rfl)) (knows_new (V := isVal (.pointer (some ⟨gg, 0, none⟩))) 136 17 (by kernel_rfl) (by kernel_rfl) (by kernel_rfl)) cg0 lgg agg_strs, ?_⟩
  refine ⟨isVal (.int .i64 (k : Int)), step_move (.tmp 1) (by kernel_rfl) (wanted_some 16 135 true (by kernel_rfl) (by kernel_rfl) (by kernel_rfl) (by kernel_rfl)) (stable_val _) (knows_old 1 (.int .i64 (k : Int)) (by kernel_rfl) e1), ?_⟩
  refine ⟨isVal (.pointer (some ⟨bg, og + k, none⟩)), step_place 26 9 (.tmp 137) (.tmp 138) bg og nf cg k (by kernel_rfl) (wanted_some 16 135 true (by kernel_rfl) (by kernel_rfl) (by kernel_rfl) (by kernel_rfl)) (knows_new (V := isVal (.slice (some ⟨bg, og, none⟩) nf cg)) 137 18 (by kernel_rfl) (by kernel_rfl) (by kernel_rfl)) (knows_new (V := isVal (.int .i64 (k : Int))) 138 19 (by kernel_rfl) (by kernel_rfl) (by kernel_rfl)) Tryz.underlying26 (by kernel_rfl) hkf, ?_⟩
  refine ⟨isVal (.string ⟨q.toArray⟩), step_read 9 (.tmp 139) ⟨bg, og + k, none⟩ (.string ⟨q.toArray⟩) (by kernel_rfl) (wanted_some 16 135 true (by kernel_rfl) (by kernel_rfl) (by kernel_rfl) (by kernel_rfl)) (knows_new (V := isVal (.pointer (some ⟨bg, og + k, none⟩))) 139 20 (by kernel_rfl) (by kernel_rfl) (by kernel_rfl)) pg lbg agg_str, ?_⟩
  refine ⟨isVal (.int .i64 (z : Int)), step_move (.tmp 15) (by kernel_rfl) (wanted_some 16 135 true (by kernel_rfl) (by kernel_rfl) (by kernel_rfl) (by kernel_rfl)) (stable_val _) (knows_old 15 (.int .i64 (z : Int)) (by kernel_rfl) e15), ?_⟩
  refine ⟨isVal (.int .i64 (b2 : Int)), step_call 19 #[.tmp 140, .tmp 141] #[9, 3] #[.string ⟨q.toArray⟩, .int .i64 (z : Int)] (by kernel_rfl) (wanted_some 16 135 true (by kernel_rfl) (by kernel_rfl) (by kernel_rfl) (by kernel_rfl)) (stable_val _) (args2 (.tmp 140) (.tmp 141) (.string ⟨q.toArray⟩) (.int .i64 (z : Int)) (knows_new (V := isVal (.string ⟨q.toArray⟩)) 140 21 (by kernel_rfl) (by kernel_rfl) (by kernel_rfl)) (knows_new (V := isVal (.int .i64 (z : Int))) 141 22 (by kernel_rfl) (by kernel_rfl) (by kernel_rfl))) (enters_of Tryz.func19 (by kernel_rfl) rfl) (by intro w hb; exact HB2 w), ?_⟩
  refine ⟨isVal (.pointer (some ⟨gf, 0, none⟩)), step_field 31 (.tmp 4) 0 ⟨gf, 0, none⟩ ⟨gf, 0, none⟩ (by kernel_rfl) (wanted_some 16 135 true (by kernel_rfl) (by kernel_rfl) (by kernel_rfl) (by kernel_rfl)) (knows_old 4 (.pointer (some ⟨gf, 0, none⟩)) (by kernel_rfl) e4) (field_fl gf 0 (by omega)), ?_⟩
  refine ⟨isVal (.slice (some ⟨bf, of, none⟩) nf cf), step_read 26 (.tmp 143) ⟨gf, 0, none⟩ (.slice (some ⟨bf, of, none⟩) nf cf) (by kernel_rfl) (wanted_some 16 135 true (by kernel_rfl) (by kernel_rfl) (by kernel_rfl) (by kernel_rfl)) (knows_new (V := isVal (.pointer (some ⟨gf, 0, none⟩))) 143 24 (by kernel_rfl) (by kernel_rfl) (by kernel_rfl)) cf0 lgf agg_strs, ?_⟩
  refine ⟨isVal (.int .i64 (k : Int)), step_move (.tmp 1) (by kernel_rfl) (wanted_some 16 135 true (by kernel_rfl) (by kernel_rfl) (by kernel_rfl) (by kernel_rfl)) (stable_val _) (knows_old 1 (.int .i64 (k : Int)) (by kernel_rfl) e1), ?_⟩
  refine ⟨isVal (.pointer (some ⟨bf, of + k, none⟩)), step_place 26 9 (.tmp 144) (.tmp 145) bf of nf cf k (by kernel_rfl) (wanted_some 16 135 true (by kernel_rfl) (by kernel_rfl) (by kernel_rfl) (by kernel_rfl)) (knows_new (V := isVal (.slice (some ⟨bf, of, none⟩) nf cf)) 144 25 (by kernel_rfl) (by kernel_rfl) (by kernel_rfl)) (knows_new (V := isVal (.int .i64 (k : Int))) 145 26 (by kernel_rfl) (by kernel_rfl) (by kernel_rfl)) Tryz.underlying26 (by kernel_rfl) hkf, ?_⟩
  refine ⟨isVal (.string ⟨p.toArray⟩), step_read 9 (.tmp 146) ⟨bf, of + k, none⟩ (.string ⟨p.toArray⟩) (by kernel_rfl) (wanted_some 16 135 true (by kernel_rfl) (by kernel_rfl) (by kernel_rfl) (by kernel_rfl)) (knows_new (V := isVal (.pointer (some ⟨bf, of + k, none⟩))) 146 27 (by kernel_rfl) (by kernel_rfl) (by kernel_rfl)) pf lbf agg_str, ?_⟩
  refine ⟨isVal (.int .i64 (z : Int)), step_move (.tmp 15) (by kernel_rfl) (wanted_some 16 135 true (by kernel_rfl) (by kernel_rfl) (by kernel_rfl) (by kernel_rfl)) (stable_val _) (knows_old 15 (.int .i64 (z : Int)) (by kernel_rfl) e15), ?_⟩
  refine ⟨isVal (.int .i64 (bd : Int)), step_call 19 #[.tmp 147, .tmp 148] #[9, 3] #[.string ⟨p.toArray⟩, .int .i64 (z : Int)] (by kernel_rfl) (wanted_some 16 135 true (by kernel_rfl) (by kernel_rfl) (by kernel_rfl) (by kernel_rfl)) (stable_val _) (args2 (.tmp 147) (.tmp 148) (.string ⟨p.toArray⟩) (.int .i64 (z : Int)) (knows_new (V := isVal (.string ⟨p.toArray⟩)) 147 28 (by kernel_rfl) (by kernel_rfl) (by kernel_rfl)) (knows_new (V := isVal (.int .i64 (z : Int))) 148 29 (by kernel_rfl) (by kernel_rfl) (by kernel_rfl))) (enters_of Tryz.func19 (by kernel_rfl) rfl) (by intro w hb; exact HB1 w), ?_⟩
  refine ⟨isVal (.int .i64 ((bd + 1) : Int)), step_bin .add 3 3 (.tmp 149) (.const (.int .i64 1)) (.int .i64 (bd : Int)) (.int .i64 1) (.int .i64 ((bd + 1) : Int)) (by kernel_rfl) (wanted_some 16 135 true (by kernel_rfl) (by kernel_rfl) (by kernel_rfl) (by kernel_rfl)) (knows_new (V := isVal (.int .i64 (bd : Int))) 149 30 (by kernel_rfl) (by kernel_rfl) (by kernel_rfl)) (knows_const _) (fun _ => rfl) (fun w => add_one bd hbd w), ?_⟩
  refine ⟨isVal (.bool true), step_bin .leq 3 3 (.tmp 142) (.tmp 150) (.int .i64 (b2 : Int)) (.int .i64 ((bd + 1) : Int)) (.bool true) (by kernel_rfl) (wanted_some 16 135 true (by kernel_rfl) (by kernel_rfl) (by kernel_rfl) (by kernel_rfl)) (knows_new (V := isVal (.int .i64 (b2 : Int))) 142 23 (by kernel_rfl) (by kernel_rfl) (by kernel_rfl)) (knows_new (V := isVal (.int .i64 ((bd + 1) : Int))) 150 31 (by kernel_rfl) (by kernel_rfl) (by kernel_rfl)) (fun _ => rfl) (leq_int _ _ _ _ _ (by simp; omega)), ?_⟩
  refine ⟨isVal (.bool true), step_pick (.tmp 135) (.tmp 151) (.const (.bool false)) true (by kernel_rfl) (wanted_none (by kernel_rfl)) (stable_val _) (knows_new (V := isVal (.bool true)) 135 16 (by kernel_rfl) (by kernel_rfl) (by kernel_rfl)) (knows_new (V := isVal (.bool true)) 151 32 (by kernel_rfl) (by kernel_rfl) (by kernel_rfl)), ?_⟩
  refine ⟨isVal (.bool true), step_assign (.tmp 152) (by kernel_rfl) (wanted_none (by kernel_rfl)) (stable_val _) (knows_new (V := isVal (.bool true)) 152 33 (by kernel_rfl) (by kernel_rfl) (by kernel_rfl)), ?_⟩
  intro a w hkp hb hd
  exact hQ a w hkp.1 (fdone_of (hd 34 (by rw [show dies20ops.size = 35 by kernel_rfl]; decide)) (t := 8) (V := isVal (.bool true)) (by kernel_rfl) (by kernel_rfl)) hb

set_option maxRecDepth 100000 in
set_option maxHeartbeats 4000000 in
theorem dies20_1 (Q : Exit → Act → World → Prop) (a0 : Act) (w0 : World) (hsz : a0.tmps.size = 153) (gf gg bf of nf cf bg og cg k z : Nat) (p q : List UInt8) (bd b2 : Nat) (hb2 : b2 ≤ bd + 1) (hbd : bd ≤ 1000000)
    (e9 : a0.tmps.getD 9 undef = .bool true) (e18 : a0.tmps.getD 18 undef = .bool true) (e13 : a0.tmps.getD 13 undef = .pointer (some ⟨gg, 0, none⟩)) (e4 : a0.tmps.getD 4 undef = .pointer (some ⟨gf, 0, none⟩)) (e1 : a0.tmps.getD 1 undef = .int .i64 (k : Int)) (e15 : a0.tmps.getD 15 undef = .int .i64 (z : Int)) (e19 : a0.tmps.getD 19 undef = .int .i64 1)
    (cf0 : w0.cell? ⟨gf, 0, none⟩ = some (.slice (some ⟨bf, of, none⟩) nf cf)) (lgf : gf < w0.heap.size) (cg0 : w0.cell? ⟨gg, 0, none⟩ = some (.slice (some ⟨bg, og, none⟩) nf cg)) (cg4 : w0.cell? ⟨gg, 4, none⟩ = some (.bool true)) (lgg : gg < w0.heap.size) (hkf : k < nf)
    (pf : w0.cell? ⟨bf, of + k, none⟩ = some (.string ⟨p.toArray⟩)) (lbf : bf < w0.heap.size) (pg : w0.cell? ⟨bg, og + k, none⟩ = some (.string ⟨q.toArray⟩)) (lbg : bg < w0.heap.size)
    (HB1 : ∀ w : World, Calls Tryz.prog 19 #[.string ⟨p.toArray⟩, .int .i64 (z : Int)] w fun e w' => ∃ v, e = .returned v ∧ isVal (.int .i64 (bd : Int)) v w' ∧ Below w.heap.size w w') (HB2 : ∀ w : World, Calls Tryz.prog 19 #[.string ⟨q.toArray⟩, .int .i64 (z : Int)] w fun e w' => ∃ v, e = .returned v ∧ isVal (.int .i64 (b2 : Int)) v w' ∧ Below w.heap.size w w')
    (hQ : ∀ (a : Act) (w : World), a.defers = a0.defers → a.tmps.getD 8 undef = .bool true → Below w0.heap.size w0 w → Q .normal a w) :
    (Code.region 20 dies20ops true).wp Tryz.prog Q a0 w0 := by
  refine wp_region_flow mixed (by rw [hsz]; kernel_rfl) ?_
  rw [show dies20ops.size = 35 by kernel_rfl]
  refine ⟨isVal (.bool true), step_move (.tmp 9) (by kernel_rfl) (wanted_none (by kernel_rfl)) (stable_val _) (knows_old 9 (.bool true) (by kernel_rfl) e9), ?_⟩
  refine ⟨isVal (.bool true), step_move (.tmp 119) (by kernel_rfl) (wanted_none (by kernel_rfl)) (stable_val _) (knows_new (V := isVal (.bool true)) 119 0 (by kernel_rfl) (by kernel_rfl) (by kernel_rfl)), ?_⟩
  refine ⟨isVal (.bool true), step_move (.tmp 18) (by kernel_rfl) (wanted_some 1 120 true (by kernel_rfl) (by kernel_rfl) (by kernel_rfl) (by kernel_rfl)) (stable_val _) (knows_old 18 (.bool true) (by kernel_rfl) e18), ?_⟩
  refine ⟨isVal (.bool true), step_pick (.tmp 120) (.tmp 121) (.const (.bool false)) true (by kernel_rfl) (wanted_none (by kernel_rfl)) (stable_val _) (knows_new (V := isVal (.bool true)) 120 1 (by kernel_rfl) (by kernel_rfl) (by kernel_rfl)) (knows_new (V := isVal (.bool true)) 121 2 (by kernel_rfl) (by kernel_rfl) (by kernel_rfl)), ?_⟩
  refine ⟨isVal (.bool true), step_move (.tmp 122) (by kernel_rfl) (wanted_none (by kernel_rfl)) (stable_val _) (knows_new (V := isVal (.bool true)) 122 3 (by kernel_rfl) (by kernel_rfl) (by kernel_rfl)), ?_⟩
  refine ⟨isVal (.pointer (some ⟨gg, 4, none⟩)), step_field 31 (.tmp 13) 4 ⟨gg, 0, none⟩ ⟨gg, 4, none⟩ (by kernel_rfl) (wanted_some 4 123 true (by kernel_rfl) (by kernel_rfl) (by kernel_rfl) (by kernel_rfl)) (knows_old 13 (.pointer (some ⟨gg, 0, none⟩)) (by kernel_rfl) e13) (field_fl gg 4 (by omega)), ?_⟩
  refine ⟨isVal (.bool true), step_read 4 (.tmp 124) ⟨gg, 4, none⟩ (.bool true) (by kernel_rfl) (wanted_some 4 123 true (by kernel_rfl) (by kernel_rfl) (by kernel_rfl) (by kernel_rfl)) (knows_new (V := isVal (.pointer (some ⟨gg, 4, none⟩))) 124 5 (by kernel_rfl) (by kernel_rfl) (by kernel_rfl)) cg4 lgg agg_bool, ?_⟩
  refine ⟨isVal (.bool true), step_pick (.tmp 123) (.tmp 125) (.const (.bool false)) true (by kernel_rfl) (wanted_none (by kernel_rfl)) (stable_val _) (knows_new (V := isVal (.bool true)) 123 4 (by kernel_rfl) (by kernel_rfl) (by kernel_rfl)) (knows_new (V := isVal (.bool true)) 125 6 (by kernel_rfl) (by kernel_rfl) (by kernel_rfl)), ?_⟩
  refine ⟨isVal (.bool true), step_move (.tmp 126) (by kernel_rfl) (wanted_none (by kernel_rfl)) (stable_val _) (knows_new (V := isVal (.bool true)) 126 7 (by kernel_rfl) (by kernel_rfl) (by kernel_rfl)), ?_⟩
  refine ⟨isVal (.int .i64 1), step_move (.tmp 19) (by kernel_rfl) (wanted_some 8 127 true (by kernel_rfl) (by kernel_rfl) (by kernel_rfl) (by kernel_rfl)) (stable_val _) (knows_old 19 (.int .i64 1) (by kernel_rfl) e19), ?_⟩
  refine ⟨isVal (.bool false), step_bin .eql 3 3 (.tmp 128) (.const (.int .i64 0)) (.int .i64 1) (.int .i64 0) (.bool false) (by kernel_rfl) (wanted_some 8 127 true (by kernel_rfl) (by kernel_rfl) (by kernel_rfl) (by kernel_rfl)) (knows_new (V := isVal (.int .i64 1)) 128 9 (by kernel_rfl) (by kernel_rfl) (by kernel_rfl)) (knows_const _) (fun _ => rfl) (eql_int _ _ _ _ _ (by decide)), ?_⟩
  refine ⟨isVal (.bool false), step_move (.tmp 129) (by kernel_rfl) (wanted_some 8 127 true (by kernel_rfl) (by kernel_rfl) (by kernel_rfl) (by kernel_rfl)) (stable_val _) (knows_new (V := isVal (.bool false)) 129 10 (by kernel_rfl) (by kernel_rfl) (by kernel_rfl)), ?_⟩
  refine ⟨isVal (.int .i64 1), step_move (.tmp 19) (by kernel_rfl) (wanted_some 11 130 false (by kernel_rfl) (by kernel_rfl) (by kernel_rfl) (by kernel_rfl)) (stable_val _) (knows_old 19 (.int .i64 1) (by kernel_rfl) e19), ?_⟩
  refine ⟨isVal (.bool true), step_bin .eql 3 3 (.tmp 131) (.const (.int .i64 1)) (.int .i64 1) (.int .i64 1) (.bool true) (by kernel_rfl) (wanted_some 11 130 false (by kernel_rfl) (by kernel_rfl) (by kernel_rfl) (by kernel_rfl)) (knows_new (V := isVal (.int .i64 1)) 131 12 (by kernel_rfl) (by kernel_rfl) (by kernel_rfl)) (knows_const _) (fun _ => rfl) (eql_int _ _ _ _ _ (by decide)), ?_⟩
  refine ⟨isVal (.bool true), step_pick (.tmp 130) (.const (.bool true)) (.tmp 132) false (by kernel_rfl) (wanted_some 8 127 true (by kernel_rfl) (by kernel_rfl) (by kernel_rfl) (by kernel_rfl)) (stable_val _) (knows_new (V := isVal (.bool false)) 130 11 (by kernel_rfl) (by kernel_rfl) (by kernel_rfl)) (knows_new (V := isVal (.bool true)) 132 13 (by kernel_rfl) (by kernel_rfl) (by kernel_rfl)), ?_⟩
  refine ⟨isVal (.bool true), step_pick (.tmp 127) (.tmp 133) (.const (.bool false)) true (by kernel_rfl) (wanted_none (by kernel_rfl)) (stable_val _) (knows_new (V := isVal (.bool true)) 127 8 (by kernel_rfl) (by kernel_rfl) (by kernel_rfl)) (knows_new (V := isVal (.bool true)) 133 14 (by kernel_rfl) (by kernel_rfl) (by kernel_rfl)), ?_⟩
  refine ⟨isVal (.bool true), step_move (.tmp 134) (by kernel_rfl) (wanted_none (by kernel_rfl)) (stable_val _) (knows_new (V := isVal (.bool true)) 134 15 (by kernel_rfl) (by kernel_rfl) (by kernel_rfl)), ?_⟩
  refine ⟨isVal (.pointer (some ⟨gg, 0, none⟩)), step_field 31 (.tmp 13) 0 ⟨gg, 0, none⟩ ⟨gg, 0, none⟩ (by kernel_rfl) (wanted_some 16 135 true (by kernel_rfl) (by kernel_rfl) (by kernel_rfl) (by kernel_rfl)) (knows_old 13 (.pointer (some ⟨gg, 0, none⟩)) (by kernel_rfl) e13) (field_fl gg 0 (by omega)), ?_⟩
  refine ⟨isVal (.slice (some ⟨bg, og, none⟩) nf cg), step_read 26 (.tmp 136) ⟨gg, 0, none⟩ (.slice (some ⟨bg, og, none⟩) nf cg) (by kernel_rfl) (wanted_some 16 135 true (by kernel_rfl) (by kernel_rfl) (by kernel_rfl) (by kernel_rfl)) (knows_new (V := isVal (.pointer (some ⟨gg, 0, none⟩))) 136 17 (by kernel_rfl) (by kernel_rfl) (by kernel_rfl)) cg0 lgg agg_strs, ?_⟩
  refine ⟨isVal (.int .i64 (k : Int)), step_move (.tmp 1) (by kernel_rfl) (wanted_some 16 135 true (by kernel_rfl) (by kernel_rfl) (by kernel_rfl) (by kernel_rfl)) (stable_val _) (knows_old 1 (.int .i64 (k : Int)) (by kernel_rfl) e1), ?_⟩
  refine ⟨isVal (.pointer (some ⟨bg, og + k, none⟩)), step_place 26 9 (.tmp 137) (.tmp 138) bg og nf cg k (by kernel_rfl) (wanted_some 16 135 true (by kernel_rfl) (by kernel_rfl) (by kernel_rfl) (by kernel_rfl)) (knows_new (V := isVal (.slice (some ⟨bg, og, none⟩) nf cg)) 137 18 (by kernel_rfl) (by kernel_rfl) (by kernel_rfl)) (knows_new (V := isVal (.int .i64 (k : Int))) 138 19 (by kernel_rfl) (by kernel_rfl) (by kernel_rfl)) Tryz.underlying26 (by kernel_rfl) hkf, ?_⟩
  refine ⟨isVal (.string ⟨q.toArray⟩), step_read 9 (.tmp 139) ⟨bg, og + k, none⟩ (.string ⟨q.toArray⟩) (by kernel_rfl) (wanted_some 16 135 true (by kernel_rfl) (by kernel_rfl) (by kernel_rfl) (by kernel_rfl)) (knows_new (V := isVal (.pointer (some ⟨bg, og + k, none⟩))) 139 20 (by kernel_rfl) (by kernel_rfl) (by kernel_rfl)) pg lbg agg_str, ?_⟩
  refine ⟨isVal (.int .i64 (z : Int)), step_move (.tmp 15) (by kernel_rfl) (wanted_some 16 135 true (by kernel_rfl) (by kernel_rfl) (by kernel_rfl) (by kernel_rfl)) (stable_val _) (knows_old 15 (.int .i64 (z : Int)) (by kernel_rfl) e15), ?_⟩
  refine ⟨isVal (.int .i64 (b2 : Int)), step_call 19 #[.tmp 140, .tmp 141] #[9, 3] #[.string ⟨q.toArray⟩, .int .i64 (z : Int)] (by kernel_rfl) (wanted_some 16 135 true (by kernel_rfl) (by kernel_rfl) (by kernel_rfl) (by kernel_rfl)) (stable_val _) (args2 (.tmp 140) (.tmp 141) (.string ⟨q.toArray⟩) (.int .i64 (z : Int)) (knows_new (V := isVal (.string ⟨q.toArray⟩)) 140 21 (by kernel_rfl) (by kernel_rfl) (by kernel_rfl)) (knows_new (V := isVal (.int .i64 (z : Int))) 141 22 (by kernel_rfl) (by kernel_rfl) (by kernel_rfl))) (enters_of Tryz.func19 (by kernel_rfl) rfl) (by intro w hb; exact HB2 w), ?_⟩
  refine ⟨isVal (.pointer (some ⟨gf, 0, none⟩)), step_field 31 (.tmp 4) 0 ⟨gf, 0, none⟩ ⟨gf, 0, none⟩ (by kernel_rfl) (wanted_some 16 135 true (by kernel_rfl) (by kernel_rfl) (by kernel_rfl) (by kernel_rfl)) (knows_old 4 (.pointer (some ⟨gf, 0, none⟩)) (by kernel_rfl) e4) (field_fl gf 0 (by omega)), ?_⟩
  refine ⟨isVal (.slice (some ⟨bf, of, none⟩) nf cf), step_read 26 (.tmp 143) ⟨gf, 0, none⟩ (.slice (some ⟨bf, of, none⟩) nf cf) (by kernel_rfl) (wanted_some 16 135 true (by kernel_rfl) (by kernel_rfl) (by kernel_rfl) (by kernel_rfl)) (knows_new (V := isVal (.pointer (some ⟨gf, 0, none⟩))) 143 24 (by kernel_rfl) (by kernel_rfl) (by kernel_rfl)) cf0 lgf agg_strs, ?_⟩
  refine ⟨isVal (.int .i64 (k : Int)), step_move (.tmp 1) (by kernel_rfl) (wanted_some 16 135 true (by kernel_rfl) (by kernel_rfl) (by kernel_rfl) (by kernel_rfl)) (stable_val _) (knows_old 1 (.int .i64 (k : Int)) (by kernel_rfl) e1), ?_⟩
  refine ⟨isVal (.pointer (some ⟨bf, of + k, none⟩)), step_place 26 9 (.tmp 144) (.tmp 145) bf of nf cf k (by kernel_rfl) (wanted_some 16 135 true (by kernel_rfl) (by kernel_rfl) (by kernel_rfl) (by kernel_rfl)) (knows_new (V := isVal (.slice (some ⟨bf, of, none⟩) nf cf)) 144 25 (by kernel_rfl) (by kernel_rfl) (by kernel_rfl)) (knows_new (V := isVal (.int .i64 (k : Int))) 145 26 (by kernel_rfl) (by kernel_rfl) (by kernel_rfl)) Tryz.underlying26 (by kernel_rfl) hkf, ?_⟩
  refine ⟨isVal (.string ⟨p.toArray⟩), step_read 9 (.tmp 146) ⟨bf, of + k, none⟩ (.string ⟨p.toArray⟩) (by kernel_rfl) (wanted_some 16 135 true (by kernel_rfl) (by kernel_rfl) (by kernel_rfl) (by kernel_rfl)) (knows_new (V := isVal (.pointer (some ⟨bf, of + k, none⟩))) 146 27 (by kernel_rfl) (by kernel_rfl) (by kernel_rfl)) pf lbf agg_str, ?_⟩
  refine ⟨isVal (.int .i64 (z : Int)), step_move (.tmp 15) (by kernel_rfl) (wanted_some 16 135 true (by kernel_rfl) (by kernel_rfl) (by kernel_rfl) (by kernel_rfl)) (stable_val _) (knows_old 15 (.int .i64 (z : Int)) (by kernel_rfl) e15), ?_⟩
  refine ⟨isVal (.int .i64 (bd : Int)), step_call 19 #[.tmp 147, .tmp 148] #[9, 3] #[.string ⟨p.toArray⟩, .int .i64 (z : Int)] (by kernel_rfl) (wanted_some 16 135 true (by kernel_rfl) (by kernel_rfl) (by kernel_rfl) (by kernel_rfl)) (stable_val _) (args2 (.tmp 147) (.tmp 148) (.string ⟨p.toArray⟩) (.int .i64 (z : Int)) (knows_new (V := isVal (.string ⟨p.toArray⟩)) 147 28 (by kernel_rfl) (by kernel_rfl) (by kernel_rfl)) (knows_new (V := isVal (.int .i64 (z : Int))) 148 29 (by kernel_rfl) (by kernel_rfl) (by kernel_rfl))) (enters_of Tryz.func19 (by kernel_rfl) rfl) (by intro w hb; exact HB1 w), ?_⟩
  refine ⟨isVal (.int .i64 ((bd + 1) : Int)), step_bin .add 3 3 (.tmp 149) (.const (.int .i64 1)) (.int .i64 (bd : Int)) (.int .i64 1) (.int .i64 ((bd + 1) : Int)) (by kernel_rfl) (wanted_some 16 135 true (by kernel_rfl) (by kernel_rfl) (by kernel_rfl) (by kernel_rfl)) (knows_new (V := isVal (.int .i64 (bd : Int))) 149 30 (by kernel_rfl) (by kernel_rfl) (by kernel_rfl)) (knows_const _) (fun _ => rfl) (fun w => add_one bd hbd w), ?_⟩
  refine ⟨isVal (.bool true), step_bin .leq 3 3 (.tmp 142) (.tmp 150) (.int .i64 (b2 : Int)) (.int .i64 ((bd + 1) : Int)) (.bool true) (by kernel_rfl) (wanted_some 16 135 true (by kernel_rfl) (by kernel_rfl) (by kernel_rfl) (by kernel_rfl)) (knows_new (V := isVal (.int .i64 (b2 : Int))) 142 23 (by kernel_rfl) (by kernel_rfl) (by kernel_rfl)) (knows_new (V := isVal (.int .i64 ((bd + 1) : Int))) 150 31 (by kernel_rfl) (by kernel_rfl) (by kernel_rfl)) (fun _ => rfl) (leq_int _ _ _ _ _ (by simp; omega)), ?_⟩
  refine ⟨isVal (.bool true), step_pick (.tmp 135) (.tmp 151) (.const (.bool false)) true (by kernel_rfl) (wanted_none (by kernel_rfl)) (stable_val _) (knows_new (V := isVal (.bool true)) 135 16 (by kernel_rfl) (by kernel_rfl) (by kernel_rfl)) (knows_new (V := isVal (.bool true)) 151 32 (by kernel_rfl) (by kernel_rfl) (by kernel_rfl)), ?_⟩
  refine ⟨isVal (.bool true), step_assign (.tmp 152) (by kernel_rfl) (wanted_none (by kernel_rfl)) (stable_val _) (knows_new (V := isVal (.bool true)) 152 33 (by kernel_rfl) (by kernel_rfl) (by kernel_rfl)), ?_⟩
  intro a w hkp hb hd
  exact hQ a w hkp.1 (fdone_of (hd 34 (by rw [show dies20ops.size = 35 by kernel_rfl]; decide)) (t := 8) (V := isVal (.bool true)) (by kernel_rfl) (by kernel_rfl)) hb
set_option maxRecDepth 100000 in
set_option maxHeartbeats 8000000 in
theorem pageDies_1 (F : Fl) (v : Value) (page : Int) (pl torn : List UInt8) (w : World) (hv : isFl F v w) (hfew : fewB F = false) :
    Calls Tryz.prog 6 #[v, .int .i64 page, .string ⟨pl.toArray⟩, .string ⟨torn.toArray⟩] w fun e w' => e = .returned (.bool true) ∧ Below w.heap.size w w' := by
  obtain ⟨vp, vw, rfl, hp, hq⟩ := hv
  have hsz := size_mk pl
  have HF := Kept.mk hfew
  clear hfew
  obtain ⟨hB, Vf⟩ := var_box w F vp vw hp hq
  clear hp hq
  go_enter Tryz.func6, Tryz.ntmps6
  go_wp2_with fail
  ((with_reducible refine (works_any _).mono ?_); rintro e W1 ⟨rfl, hb1⟩)
  replace hB := Kept.mk (hB.out.trans ((hb1).mono hB.out.size))
  replace Vf := Kept.mk (Vf.out.keep (hb1))
  clear hb1
  obtain ⟨vpf, vwf, flf, kf0, kf1, kf2, kf3, kf4⟩ := Vf.out.open_
  go_wp2_with fail
  ((with_reducible refine (few_any F _ _ flf).mono ?_); rintro e W2 ⟨rfl, hb1⟩)
  clear kf0 kf1 kf2 kf3 kf4 flf
  replace hB := Kept.mk (hB.out.trans ((hb1).mono hB.out.size))
  replace Vf := Kept.mk (Vf.out.keep (hb1))
  clear hb1
  obtain ⟨vpf, vwf, flf, kf0, kf1, kf2, kf3, kf4⟩ := Vf.out.open_
  rw [HF.out]
  go_wp2_with fail
  go_wp2
  go_ret
  exact ⟨rfl, hB.out⟩
set_option maxRecDepth 100000 in
set_option maxHeartbeats 8000000 in
theorem pageDies_2 (F : Fl) (v : Value) (page : Int) (pl torn : List UInt8) (w : World) (hv : isFl F v w) (hfew : fewB F = true) (hpl : 100 < pl.length) :
    Calls Tryz.prog 6 #[v, .int .i64 page, .string ⟨pl.toArray⟩, .string ⟨torn.toArray⟩] w fun e w' => e = .returned (.bool true) ∧ Below w.heap.size w w' := by
  obtain ⟨vp, vw, rfl, hp, hq⟩ := hv
  have hsz := size_mk pl
  have HF := Kept.mk hfew
  clear hfew
  have dl : decide (100 < (pl.length : Int)) = true := by simp; omega
  have dl' : decide (100 < pl.length) = true := by simp; omega
  obtain ⟨hB, Vf⟩ := var_box w F vp vw hp hq
  clear hp hq
  go_enter Tryz.func6, Tryz.ntmps6
  go_wp2_with fail
  ((with_reducible refine (works_any _).mono ?_); rintro e W1 ⟨rfl, hb1⟩)
  replace hB := Kept.mk (hB.out.trans ((hb1).mono hB.out.size))
  replace Vf := Kept.mk (Vf.out.keep (hb1))
  clear hb1
  obtain ⟨vpf, vwf, flf, kf0, kf1, kf2, kf3, kf4⟩ := Vf.out.open_
  go_wp2_with fail
  ((with_reducible refine (few_any F _ _ flf).mono ?_); rintro e W2 ⟨rfl, hb1⟩)
  clear kf0 kf1 kf2 kf3 kf4 flf
  replace hB := Kept.mk (hB.out.trans ((hb1).mono hB.out.size))
  replace Vf := Kept.mk (Vf.out.keep (hb1))
  clear hb1
  obtain ⟨vpf, vwf, flf, kf0, kf1, kf2, kf3, kf4⟩ := Vf.out.open_
  rw [HF.out]
  go_wp2_with fail
  go_wp2
  go_ret
  exact ⟨rfl, hB.out⟩
set_option maxRecDepth 100000 in
set_option maxHeartbeats 8000000 in
theorem pageDies_3 (F : Fl) (v : Value) (page : Int) (pl torn : List UInt8) (w : World) (hv : isFl F v w) (W D : Fl) (ea : Int) (hfew : fewB F = true) (hpl : pl.length ≤ 100) (HW : Kept (∀ (v : Value) (w : World), isFl F v w → Calls Tryz.prog 25 #[v, .int .i64 0, .string ⟨torn.toArray⟩] w fun e w' => ∃ v', e = .returned (.tuple #[v', .int .i64 1]) ∧ isFlN w.heap.size W v' w' ∧ Below w.heap.size w w')) (HA : Kept (∀ (v : Value) (w : World), isFl W v w → Calls Tryz.prog 22 #[v, .int .i64 page, .string ⟨pl.toArray⟩] w fun e w' => ∃ v', e = .returned (.tuple #[v', .int .i64 ea]) ∧ isFlN w.heap.size D v' w' ∧ Below w.heap.size w w')) :
    Calls Tryz.prog 6 #[v, .int .i64 page, .string ⟨pl.toArray⟩, .string ⟨torn.toArray⟩] w fun e w' => e = .returned (.bool true) ∧ Below w.heap.size w w' := by
  obtain ⟨vp, vw, rfl, hp, hq⟩ := hv
  have hsz := size_mk pl
  have HF := Kept.mk hfew
  clear hfew
  have dl : decide (100 < (pl.length : Int)) = false := by simp; omega
  have dl' : decide (100 < pl.length) = false := by simp; omega
  obtain ⟨hB, Vf⟩ := var_box w F vp vw hp hq
  clear hp hq
  go_enter Tryz.func6, Tryz.ntmps6
  go_wp2_with fail
  ((with_reducible refine (works_any _).mono ?_); rintro e W1 ⟨rfl, hb1⟩)
  replace hB := Kept.mk (hB.out.trans ((hb1).mono hB.out.size))
  replace Vf := Kept.mk (Vf.out.keep (hb1))
  clear hb1
  obtain ⟨vpf, vwf, flf, kf0, kf1, kf2, kf3, kf4⟩ := Vf.out.open_
  go_wp2_with fail
  ((with_reducible refine (few_any F _ _ flf).mono ?_); rintro e W2 ⟨rfl, hb1⟩)
  clear kf0 kf1 kf2 kf3 kf4 flf
  replace hB := Kept.mk (hB.out.trans ((hb1).mono hB.out.size))
  replace Vf := Kept.mk (Vf.out.keep (hb1))
  clear hb1
  obtain ⟨vpf, vwf, flf, kf0, kf1, kf2, kf3, kf4⟩ := Vf.out.open_
  rw [HF.out]
  go_wp2_with fail
  ((with_reducible refine (HW.out _ _ flf).mono ?_); rintro e U ⟨v', rfl, hf', hb1⟩)
  obtain ⟨vp', vw', rfl, hp', hq'⟩ := hf'.fl
  have o1 := hp'.one
  have o2 := hq'.one
  obtain ⟨K1, K2, K3, K4⟩ := var_new U W vp' vw' hp' hq'
  clear hp' hq' hf'
  clear kf0 kf1 kf2 kf3 kf4 flf
  replace hB := Kept.mk (hB.out.trans ((hb1).mono hB.out.size))
  replace Vf := Kept.mk (Vf.out.keep (hb1))
  clear hb1
  go_wp2_with (refine wpList_store5 rfl (.tmp 11) (.tmp 37) rfl U.heap.size vp' vw' (.int .i64 W.fuse) (strC W.torn) (.bool W.dead) rfl rfl K1.out K2.out o1 o2 rfl rfl rfl ?_; replace hB := Kept.mk (hB.out.trans ((K3.out).mono hB.out.size)); replace Vf := Kept.mk (Vf.out.keep (K3.out)); have Vw := K4; clear K1 K2 K3 K4 o1 o2; generalize set5 (U.alloc (.cells #[.slice none 0 0, .slice none 0 0, .int .i64 0, .string ⟨#[]⟩, .bool false] 31)) U.heap.size vp' vw' (.int .i64 W.fuse) (strC W.torn) (.bool W.dead) = W3 at *; generalize U.heap.size = gw at *; obtain ⟨vpw, vww, flw, kw0, kw1, kw2, kw3, kw4⟩ := Vw.out.open_)
  ((with_reducible refine (HA.out _ _ flw).mono ?_); rintro e U ⟨v', rfl, hf', hb1⟩)
  obtain ⟨vp', vw', rfl, hp', hq'⟩ := hf'.fl
  have o1 := hp'.one
  have o2 := hq'.one
  obtain ⟨K1, K2, K3, K4⟩ := var_new U D vp' vw' hp' hq'
  clear hp' hq' hf'
  clear kw0 kw1 kw2 kw3 kw4 flw
  replace hB := Kept.mk (hB.out.trans ((hb1).mono hB.out.size))
  replace Vf := Kept.mk (Vf.out.keep (hb1))
  replace Vw := Kept.mk (Vw.out.keep (hb1))
  clear hb1
  go_wp2_with (refine wpList_store5 rfl (.tmp 13) (.tmp 44) rfl U.heap.size vp' vw' (.int .i64 D.fuse) (strC D.torn) (.bool D.dead) rfl rfl K1.out K2.out o1 o2 rfl rfl rfl ?_; replace hB := Kept.mk (hB.out.trans ((K3.out).mono hB.out.size)); replace Vf := Kept.mk (Vf.out.keep (K3.out)); replace Vw := Kept.mk (Vw.out.keep (K3.out)); have Vg := K4; clear K1 K2 K3 K4 o1 o2; generalize set5 (U.alloc (.cells #[.slice none 0 0, .slice none 0 0, .int .i64 0, .string ⟨#[]⟩, .bool false] 31)) U.heap.size vp' vw' (.int .i64 D.fuse) (strC D.torn) (.bool D.dead) = W4 at *; generalize U.heap.size = gg at *)
  go_wp2
  go_ret
  exact ⟨rfl, hB.out⟩
set_option maxRecDepth 100000 in
set_option maxHeartbeats 8000000 in
theorem pageDies_4 (F : Fl) (v : Value) (page : Int) (pl torn : List UInt8) (w : World) (hv : isFl F v w) (W : Fl) (hfew : fewB F = true) (hpl : pl.length ≤ 100) (HW : Kept (∀ (v : Value) (w : World), isFl F v w → Calls Tryz.prog 25 #[v, .int .i64 0, .string ⟨torn.toArray⟩] w fun e w' => ∃ v', e = .returned (.tuple #[v', .int .i64 0]) ∧ isFlN w.heap.size W v' w' ∧ Below w.heap.size w w')) (HA : Kept (∀ (v : Value) (w : World), isFl W v w → Calls Tryz.prog 22 #[v, .int .i64 page, .string ⟨pl.toArray⟩] w fun e w' => ∃ v', e = .returned (.tuple #[v', .int .i64 1]) ∧ isFlN w.heap.size W v' w' ∧ Below w.heap.size w w')) (HS : Kept (∀ (v u : Value) (w : World), isFl W v w → isFl W u w → Calls Tryz.prog 26 #[v, u] w fun e w' => e = .returned (.bool true) ∧ Below w.heap.size w w')) :
    Calls Tryz.prog 6 #[v, .int .i64 page, .string ⟨pl.toArray⟩, .string ⟨torn.toArray⟩] w fun e w' => e = .returned (.bool true) ∧ Below w.heap.size w w' := by
  obtain ⟨vp, vw, rfl, hp, hq⟩ := hv
  have hsz := size_mk pl
  have HF := Kept.mk hfew
  clear hfew
  have dl : decide (100 < (pl.length : Int)) = false := by simp; omega
  have dl' : decide (100 < pl.length) = false := by simp; omega
  obtain ⟨hB, Vf⟩ := var_box w F vp vw hp hq
  clear hp hq
  go_enter Tryz.func6, Tryz.ntmps6
  go_wp2_with fail
  ((with_reducible refine (works_any _).mono ?_); rintro e W1 ⟨rfl, hb1⟩)
  replace hB := Kept.mk (hB.out.trans ((hb1).mono hB.out.size))
  replace Vf := Kept.mk (Vf.out.keep (hb1))
  clear hb1
  obtain ⟨vpf, vwf, flf, kf0, kf1, kf2, kf3, kf4⟩ := Vf.out.open_
  go_wp2_with fail
  ((with_reducible refine (few_any F _ _ flf).mono ?_); rintro e W2 ⟨rfl, hb1⟩)
  clear kf0 kf1 kf2 kf3 kf4 flf
  replace hB := Kept.mk (hB.out.trans ((hb1).mono hB.out.size))
  replace Vf := Kept.mk (Vf.out.keep (hb1))
  clear hb1
  obtain ⟨vpf, vwf, flf, kf0, kf1, kf2, kf3, kf4⟩ := Vf.out.open_
  rw [HF.out]
  go_wp2_with fail
  ((with_reducible refine (HW.out _ _ flf).mono ?_); rintro e U ⟨v', rfl, hf', hb1⟩)
  obtain ⟨vp', vw', rfl, hp', hq'⟩ := hf'.fl
  have o1 := hp'.one
  have o2 := hq'.one
  obtain ⟨K1, K2, K3, K4⟩ := var_new U W vp' vw' hp' hq'
  clear hp' hq' hf'
  clear kf0 kf1 kf2 kf3 kf4 flf
  replace hB := Kept.mk (hB.out.trans ((hb1).mono hB.out.size))
  replace Vf := Kept.mk (Vf.out.keep (hb1))
  clear hb1
  go_wp2_with (refine wpList_store5 rfl (.tmp 11) (.tmp 37) rfl U.heap.size vp' vw' (.int .i64 W.fuse) (strC W.torn) (.bool W.dead) rfl rfl K1.out K2.out o1 o2 rfl rfl rfl ?_; replace hB := Kept.mk (hB.out.trans ((K3.out).mono hB.out.size)); replace Vf := Kept.mk (Vf.out.keep (K3.out)); have Vw := K4; clear K1 K2 K3 K4 o1 o2; generalize set5 (U.alloc (.cells #[.slice none 0 0, .slice none 0 0, .int .i64 0, .string ⟨#[]⟩, .bool false] 31)) U.heap.size vp' vw' (.int .i64 W.fuse) (strC W.torn) (.bool W.dead) = W3 at *; generalize U.heap.size = gw at *; obtain ⟨vpw, vww, flw, kw0, kw1, kw2, kw3, kw4⟩ := Vw.out.open_)
  ((with_reducible refine (HA.out _ _ flw).mono ?_); rintro e U ⟨v', rfl, hf', hb1⟩)
  obtain ⟨vp', vw', rfl, hp', hq'⟩ := hf'.fl
  have o1 := hp'.one
  have o2 := hq'.one
  obtain ⟨K1, K2, K3, K4⟩ := var_new U W vp' vw' hp' hq'
  clear hp' hq' hf'
  clear kw0 kw1 kw2 kw3 kw4 flw
  replace hB := Kept.mk (hB.out.trans ((hb1).mono hB.out.size))
  replace Vf := Kept.mk (Vf.out.keep (hb1))
  replace Vw := Kept.mk (Vw.out.keep (hb1))
  clear hb1
  go_wp2_with (refine wpList_store5 rfl (.tmp 13) (.tmp 44) rfl U.heap.size vp' vw' (.int .i64 W.fuse) (strC W.torn) (.bool W.dead) rfl rfl K1.out K2.out o1 o2 rfl rfl rfl ?_; replace hB := Kept.mk (hB.out.trans ((K3.out).mono hB.out.size)); replace Vf := Kept.mk (Vf.out.keep (K3.out)); replace Vw := Kept.mk (Vw.out.keep (K3.out)); have Vg := K4; clear K1 K2 K3 K4 o1 o2; generalize set5 (U.alloc (.cells #[.slice none 0 0, .slice none 0 0, .int .i64 0, .string ⟨#[]⟩, .bool false] 31)) U.heap.size vp' vw' (.int .i64 W.fuse) (strC W.torn) (.bool W.dead) = W4 at *; generalize U.heap.size = gg at *; obtain ⟨vpg, vwg, flg, kg0, kg1, kg2, kg3, kg4⟩ := Vg.out.open_; obtain ⟨vpw, vww, flw, kw0, kw1, kw2, kw3, kw4⟩ := Vw.out.open_)
  ((with_reducible refine (HS.out _ _ _ flg flw).mono ?_); rintro e W5 ⟨rfl, hb1⟩)
  clear kg0 kg1 kg2 kg3 kg4 flg
  clear kw0 kw1 kw2 kw3 kw4 flw
  replace hB := Kept.mk (hB.out.trans ((hb1).mono hB.out.size))
  replace Vf := Kept.mk (Vf.out.keep (hb1))
  replace Vw := Kept.mk (Vw.out.keep (hb1))
  replace Vg := Kept.mk (Vg.out.keep (hb1))
  clear hb1
  go_wp2
  go_ret
  exact ⟨rfl, hB.out⟩
set_option maxRecDepth 100000 in
set_option maxHeartbeats 8000000 in
theorem pageDies_5 (F : Fl) (v : Value) (page : Int) (pl torn : List UInt8) (w : World) (hv : isFl F v w) (W : Fl) (hfew : fewB F = true) (hpl : pl.length ≤ 100) (HW : Kept (∀ (v : Value) (w : World), isFl F v w → Calls Tryz.prog 25 #[v, .int .i64 0, .string ⟨torn.toArray⟩] w fun e w' => ∃ v', e = .returned (.tuple #[v', .int .i64 0]) ∧ isFlN w.heap.size W v' w' ∧ Below w.heap.size w w')) (HA : Kept (∀ (v : Value) (w : World), isFl W v w → Calls Tryz.prog 22 #[v, .int .i64 page, .string ⟨pl.toArray⟩] w fun e w' => ∃ v', e = .returned (.tuple #[v', .int .i64 4]) ∧ isFlN w.heap.size W v' w' ∧ Below w.heap.size w w')) (HS : Kept (∀ (v u : Value) (w : World), isFl W v w → isFl W u w → Calls Tryz.prog 26 #[v, u] w fun e w' => e = .returned (.bool true) ∧ Below w.heap.size w w')) :
    Calls Tryz.prog 6 #[v, .int .i64 page, .string ⟨pl.toArray⟩, .string ⟨torn.toArray⟩] w fun e w' => e = .returned (.bool true) ∧ Below w.heap.size w w' := by
  obtain ⟨vp, vw, rfl, hp, hq⟩ := hv
  have hsz := size_mk pl
  have HF := Kept.mk hfew
  clear hfew
  have dl : decide (100 < (pl.length : Int)) = false := by simp; omega
  have dl' : decide (100 < pl.length) = false := by simp; omega
  obtain ⟨hB, Vf⟩ := var_box w F vp vw hp hq
  clear hp hq
  go_enter Tryz.func6, Tryz.ntmps6
  go_wp2_with fail
  ((with_reducible refine (works_any _).mono ?_); rintro e W1 ⟨rfl, hb1⟩)
  replace hB := Kept.mk (hB.out.trans ((hb1).mono hB.out.size))
  replace Vf := Kept.mk (Vf.out.keep (hb1))
  clear hb1
  obtain ⟨vpf, vwf, flf, kf0, kf1, kf2, kf3, kf4⟩ := Vf.out.open_
  go_wp2_with fail
  ((with_reducible refine (few_any F _ _ flf).mono ?_); rintro e W2 ⟨rfl, hb1⟩)
  clear kf0 kf1 kf2 kf3 kf4 flf
  replace hB := Kept.mk (hB.out.trans ((hb1).mono hB.out.size))
  replace Vf := Kept.mk (Vf.out.keep (hb1))
  clear hb1
  obtain ⟨vpf, vwf, flf, kf0, kf1, kf2, kf3, kf4⟩ := Vf.out.open_
  rw [HF.out]
  go_wp2_with fail
  ((with_reducible refine (HW.out _ _ flf).mono ?_); rintro e U ⟨v', rfl, hf', hb1⟩)
  obtain ⟨vp', vw', rfl, hp', hq'⟩ := hf'.fl
  have o1 := hp'.one
  have o2 := hq'.one
  obtain ⟨K1, K2, K3, K4⟩ := var_new U W vp' vw' hp' hq'
  clear hp' hq' hf'
  clear kf0 kf1 kf2 kf3 kf4 flf
  replace hB := Kept.mk (hB.out.trans ((hb1).mono hB.out.size))
  replace Vf := Kept.mk (Vf.out.keep (hb1))
  clear hb1
  go_wp2_with (refine wpList_store5 rfl (.tmp 11) (.tmp 37) rfl U.heap.size vp' vw' (.int .i64 W.fuse) (strC W.torn) (.bool W.dead) rfl rfl K1.out K2.out o1 o2 rfl rfl rfl ?_; replace hB := Kept.mk (hB.out.trans ((K3.out).mono hB.out.size)); replace Vf := Kept.mk (Vf.out.keep (K3.out)); have Vw := K4; clear K1 K2 K3 K4 o1 o2; generalize set5 (U.alloc (.cells #[.slice none 0 0, .slice none 0 0, .int .i64 0, .string ⟨#[]⟩, .bool false] 31)) U.heap.size vp' vw' (.int .i64 W.fuse) (strC W.torn) (.bool W.dead) = W3 at *; generalize U.heap.size = gw at *; obtain ⟨vpw, vww, flw, kw0, kw1, kw2, kw3, kw4⟩ := Vw.out.open_)
  ((with_reducible refine (HA.out _ _ flw).mono ?_); rintro e U ⟨v', rfl, hf', hb1⟩)
  obtain ⟨vp', vw', rfl, hp', hq'⟩ := hf'.fl
  have o1 := hp'.one
  have o2 := hq'.one
  obtain ⟨K1, K2, K3, K4⟩ := var_new U W vp' vw' hp' hq'
  clear hp' hq' hf'
  clear kw0 kw1 kw2 kw3 kw4 flw
  replace hB := Kept.mk (hB.out.trans ((hb1).mono hB.out.size))
  replace Vf := Kept.mk (Vf.out.keep (hb1))
  replace Vw := Kept.mk (Vw.out.keep (hb1))
  clear hb1
  go_wp2_with (refine wpList_store5 rfl (.tmp 13) (.tmp 44) rfl U.heap.size vp' vw' (.int .i64 W.fuse) (strC W.torn) (.bool W.dead) rfl rfl K1.out K2.out o1 o2 rfl rfl rfl ?_; replace hB := Kept.mk (hB.out.trans ((K3.out).mono hB.out.size)); replace Vf := Kept.mk (Vf.out.keep (K3.out)); replace Vw := Kept.mk (Vw.out.keep (K3.out)); have Vg := K4; clear K1 K2 K3 K4 o1 o2; generalize set5 (U.alloc (.cells #[.slice none 0 0, .slice none 0 0, .int .i64 0, .string ⟨#[]⟩, .bool false] 31)) U.heap.size vp' vw' (.int .i64 W.fuse) (strC W.torn) (.bool W.dead) = W4 at *; generalize U.heap.size = gg at *; obtain ⟨vpg, vwg, flg, kg0, kg1, kg2, kg3, kg4⟩ := Vg.out.open_; obtain ⟨vpw, vww, flw, kw0, kw1, kw2, kw3, kw4⟩ := Vw.out.open_)
  ((with_reducible refine (HS.out _ _ _ flg flw).mono ?_); rintro e W5 ⟨rfl, hb1⟩)
  clear kg0 kg1 kg2 kg3 kg4 flg
  clear kw0 kw1 kw2 kw3 kw4 flw
  replace hB := Kept.mk (hB.out.trans ((hb1).mono hB.out.size))
  replace Vf := Kept.mk (Vf.out.keep (hb1))
  replace Vw := Kept.mk (Vw.out.keep (hb1))
  replace Vg := Kept.mk (Vg.out.keep (hb1))
  clear hb1
  go_wp2
  go_ret
  exact ⟨rfl, hB.out⟩
set_option maxRecDepth 100000 in
set_option maxHeartbeats 8000000 in
theorem pageDies_m00 (F : Fl) (v : Value) (k : Nat) (pl torn : List UInt8) (w : World) (hv : isFl F v w) (W D : Fl) (p q : List UInt8) (rl : List (List UInt8)) (nx n2 bd b2 : Nat) (hfew : fewB F = true) (hpl : pl.length ≤ 100) (hk : k < F.pages.length) (h6 : F.pages.length ≤ 6) (hmm : F.wear.length = F.pages.length) (HP : Kept (F.pages[k]? = some p ∧ D.pages[k]? = some q)) (HL : Kept (D.pages.length = F.pages.length ∧ D.wear.length = F.wear.length)) (HDD : Kept (D.dead = true)) (hrl : rl.length ≤ 8192) (hnx : nx ≤ 8192) (hbd : bd ≤ 8192) (hn2 : n2 = nx + 0) (hb2 : b2 ≤ bd + 1)
    (HR1 : Kept (∀ W : World, Calls Tryz.prog 13 #[.string ⟨p.toArray⟩, .int .i64 (pl.length : Int)] W fun e W' => ∃ v, e = .returned v ∧ isCells (rl.map strC) v W' ∧ Below W.heap.size W W'))
    (HR2 : Kept (∀ W : World, Calls Tryz.prog 13 #[.string ⟨q.toArray⟩, .int .i64 (pl.length : Int)] W fun e W' => ∃ v, e = .returned v ∧ isCells (rl.map strC) v W' ∧ Below W.heap.size W W'))
    (HN1 : Kept (∀ W : World, Calls Tryz.prog 20 #[.string ⟨p.toArray⟩, .int .i64 (pl.length : Int)] W fun e W' => e = .returned (.int .i64 (nx : Int)) ∧ Below W.heap.size W W'))
    (HN2 : Kept (∀ W : World, Calls Tryz.prog 20 #[.string ⟨q.toArray⟩, .int .i64 (pl.length : Int)] W fun e W' => e = .returned (.int .i64 (n2 : Int)) ∧ Below W.heap.size W W'))
    (HB1 : Kept (∀ W : World, Calls Tryz.prog 19 #[.string ⟨p.toArray⟩, .int .i64 (pl.length : Int)] W fun e W' => e = .returned (.int .i64 (bd : Int)) ∧ Below W.heap.size W W'))
    (HB2 : Kept (∀ W : World, Calls Tryz.prog 19 #[.string ⟨q.toArray⟩, .int .i64 (pl.length : Int)] W fun e W' => e = .returned (.int .i64 (b2 : Int)) ∧ Below W.heap.size W W'))
    (HW : Kept (∀ (v : Value) (w : World), isFl F v w → Calls Tryz.prog 25 #[v, .int .i64 0, .string ⟨torn.toArray⟩] w fun e w' => ∃ v', e = .returned (.tuple #[v', .int .i64 0]) ∧ isFlN w.heap.size W v' w' ∧ Below w.heap.size w w')) (HA : Kept (∀ (v : Value) (w : World), isFl W v w → Calls Tryz.prog 22 #[v, .int .i64 (k : Int), .string ⟨pl.toArray⟩] w fun e w' => ∃ v', e = .returned (.tuple #[v', .int .i64 8]) ∧ isFlN w.heap.size D v' w' ∧ Below w.heap.size w w')) :
    Calls Tryz.prog 6 #[v, .int .i64 (k : Int), .string ⟨pl.toArray⟩, .string ⟨torn.toArray⟩] w fun e w' => e = .returned (.bool true) ∧ Below w.heap.size w w' := by
  obtain ⟨vp, vw, rfl, hp, hq⟩ := hv
  have hsz := size_mk pl
  have HF := Kept.mk hfew
  clear hfew
  have dl : decide (100 < (pl.length : Int)) = false := by simp; omega
  have dl' : decide (100 < pl.length) = false := by simp; omega
  have hm1 := Nat.le_of_eq hmm
  have hm2 := Nat.le_of_eq hmm.symm
  clear hmm
  have d0 : decide ((k : Int) < 0) = false := by simp
  have d1 : decide ((F.pages.length : Int) ≤ (k : Int)) = false := by simp; omega
  have d1' : decide (F.pages.length ≤ k) = false := by simp; omega
  obtain ⟨hB, Vf⟩ := var_box w F vp vw hp hq
  clear hp hq
  go_enter Tryz.func6, Tryz.ntmps6
  go_wp2_with fail
  ((with_reducible refine (works_any _).mono ?_); rintro e W1 ⟨rfl, hb1⟩)
  replace hB := Kept.mk (hB.out.trans ((hb1).mono hB.out.size))
  replace Vf := Kept.mk (Vf.out.keep (hb1))
  clear hb1
  obtain ⟨vpf, vwf, flf, kf0, kf1, kf2, kf3, kf4⟩ := Vf.out.open_
  go_wp2_with fail
  ((with_reducible refine (few_any F _ _ flf).mono ?_); rintro e W2 ⟨rfl, hb1⟩)
  clear kf0 kf1 kf2 kf3 kf4 flf
  replace hB := Kept.mk (hB.out.trans ((hb1).mono hB.out.size))
  replace Vf := Kept.mk (Vf.out.keep (hb1))
  clear hb1
  obtain ⟨vpf, vwf, flf, kf0, kf1, kf2, kf3, kf4⟩ := Vf.out.open_
  rw [HF.out]
  go_wp2_with fail
  ((with_reducible refine (HW.out _ _ flf).mono ?_); rintro e U ⟨v', rfl, hf', hb1⟩)
  obtain ⟨vp', vw', rfl, hp', hq'⟩ := hf'.fl
  have o1 := hp'.one
  have o2 := hq'.one
  obtain ⟨K1, K2, K3, K4⟩ := var_new U W vp' vw' hp' hq'
  clear hp' hq' hf'
  clear kf0 kf1 kf2 kf3 kf4 flf
  replace hB := Kept.mk (hB.out.trans ((hb1).mono hB.out.size))
  replace Vf := Kept.mk (Vf.out.keep (hb1))
  clear hb1
  go_wp2_with (refine wpList_store5 rfl (.tmp 11) (.tmp 37) rfl U.heap.size vp' vw' (.int .i64 W.fuse) (strC W.torn) (.bool W.dead) rfl rfl K1.out K2.out o1 o2 rfl rfl rfl ?_; replace hB := Kept.mk (hB.out.trans ((K3.out).mono hB.out.size)); replace Vf := Kept.mk (Vf.out.keep (K3.out)); have Vw := K4; clear K1 K2 K3 K4 o1 o2; generalize set5 (U.alloc (.cells #[.slice none 0 0, .slice none 0 0, .int .i64 0, .string ⟨#[]⟩, .bool false] 31)) U.heap.size vp' vw' (.int .i64 W.fuse) (strC W.torn) (.bool W.dead) = W3 at *; generalize U.heap.size = gw at *; obtain ⟨vpw, vww, flw, kw0, kw1, kw2, kw3, kw4⟩ := Vw.out.open_)
  ((with_reducible refine (HA.out _ _ flw).mono ?_); rintro e U ⟨v', rfl, hf', hb1⟩)
  obtain ⟨vp', vw', rfl, hp', hq'⟩ := hf'.fl
  have o1 := hp'.one
  have o2 := hq'.one
  obtain ⟨K1, K2, K3, K4⟩ := var_new U D vp' vw' hp' hq'
  clear hp' hq' hf'
  clear kw0 kw1 kw2 kw3 kw4 flw
  replace hB := Kept.mk (hB.out.trans ((hb1).mono hB.out.size))
  replace Vf := Kept.mk (Vf.out.keep (hb1))
  replace Vw := Kept.mk (Vw.out.keep (hb1))
  clear hb1
  go_wp2_with (refine wpList_store5 rfl (.tmp 13) (.tmp 44) rfl U.heap.size vp' vw' (.int .i64 D.fuse) (strC D.torn) (.bool D.dead) rfl rfl K1.out K2.out o1 o2 rfl rfl rfl ?_; replace hB := Kept.mk (hB.out.trans ((K3.out).mono hB.out.size)); replace Vf := Kept.mk (Vf.out.keep (K3.out)); replace Vw := Kept.mk (Vw.out.keep (K3.out)); have Vg := K4; clear K1 K2 K3 K4 o1 o2; generalize set5 (U.alloc (.cells #[.slice none 0 0, .slice none 0 0, .int .i64 0, .string ⟨#[]⟩, .bool false] 31)) U.heap.size vp' vw' (.int .i64 D.fuse) (strC D.torn) (.bool D.dead) = W4 at *; generalize U.heap.size = gg at *; obtain ⟨bf, of, cf, df, qf, sf, Cf, Lf, lbf, ldf, Pf, Rf⟩ := Vf.out.rows (n := F.pages.length) (m := F.wear.length) rfl rfl (by omega) (by omega); have kf0 := Cf.2.1; have kfp := Pf k _ HP.out.1; clear Cf Lf Pf Rf lbf ldf; obtain ⟨bg, og, cg, dg, qg, sg, Cg, Lg, lbg, ldg, Pg, Rg⟩ := Vg.out.rows (n := F.pages.length) (m := F.wear.length) HL.out.1 HL.out.2 (by omega) (by omega); have kg0 := Cg.2.1; have kgp := Pg k _ HP.out.2; clear Cg Lg Pg Rg lbg ldg)
  ((with_reducible refine (HR1.out _).mono ?_); rintro e W8 ⟨v14, rfl, hv14, hb⟩)
  have H14 := Kept.mk hv14
  clear hv14 kf0 kfp kg0 kgp
  replace hB := Kept.mk (hB.out.trans (hb.mono hB.out.size))
  replace Vf := Kept.mk (Vf.out.keep hb)
  replace Vw := Kept.mk (Vw.out.keep hb)
  replace Vg := Kept.mk (Vg.out.keep hb)
  clear hb
  obtain ⟨bg, og, cg, dg, qg, sg, Cg, Lg, lbg, ldg, Pg, Rg⟩ := Vg.out.rows (n := F.pages.length) (m := F.wear.length) HL.out.1 HL.out.2 (by omega) (by omega)
  have kg0 := Cg.2.1
  have kgp := Pg k _ HP.out.2
  clear Cg Lg Pg Rg lbg ldg
  go_wp2_with fail
  ((with_reducible refine (HR2.out _).mono ?_); rintro e W9 ⟨v15, rfl, hv15, hb⟩)
  have H15 := Kept.mk hv15
  replace H14 := Kept.mk (stable_cells _ _ _ _ H14.out hb)
  clear hv15 kg0 kgp
  replace hB := Kept.mk (hB.out.trans (hb.mono hB.out.size))
  replace Vf := Kept.mk (Vf.out.keep hb)
  replace Vw := Kept.mk (Vw.out.keep hb)
  replace Vg := Kept.mk (Vg.out.keep hb)
  clear hb
  go_wp2_with fail
  ((with_reducible refine (refTexts_any rl rl v15 v14 _ H15.out H14.out (by omega) (by omega)).mono ?_); rintro e W10 ⟨rfl, hb⟩)
  clear H15 H14
  replace hB := Kept.mk (hB.out.trans (hb.mono hB.out.size))
  replace Vf := Kept.mk (Vf.out.keep hb)
  replace Vw := Kept.mk (Vw.out.keep hb)
  replace Vg := Kept.mk (Vg.out.keep hb)
  clear hb
  rw [show decide (rl = rl) = true from decide_eq_true rfl]
  go_wp2_with fail
  obtain ⟨bf, of, cf, df, qf, sf, Cf, Lf, lbf, ldf, Pf, Rf⟩ := Vf.out.rows (n := F.pages.length) (m := F.wear.length) rfl rfl (by omega) (by omega)
  obtain ⟨bg, og, cg, dg, qg, sg, Cg, Lg, lbg, ldg, Pg, Rg⟩ := Vg.out.rows (n := F.pages.length) (m := F.wear.length) HL.out.1 HL.out.2 (by omega) (by omega)
  refine dies19_0 _ _ _ rfl w.heap.size gg bf of F.pages.length cf bg og cg k pl.length p q nx n2 hn2 (by omega) rfl rfl rfl rfl Cf.2.1 Cf.1 Cg.2.1 (HDD.out ▸ Cg.2.2.2.2.2) Cg.1 hk (Pf k _ HP.out.1) lbf (Pg k _ HP.out.2) lbg (plain HN1.out) (plain HN2.out) ?_
  intro a19 W11 hd hs hkeep h19 hb
  clear Cf Lf Pf Rf lbf ldf Cg Lg Pg Rg lbg ldg
  replace hB := Kept.mk (hB.out.trans (hb.mono hB.out.size))
  replace Vf := Kept.mk (Vf.out.keep hb)
  replace Vw := Kept.mk (Vw.out.keep hb)
  replace Vg := Kept.mk (Vg.out.keep hb)
  clear hb
  go_wp2_with fail
  obtain ⟨bf, of, cf, df, qf, sf, Cf, Lf, lbf, ldf, Pf, Rf⟩ := Vf.out.rows (n := F.pages.length) (m := F.wear.length) rfl rfl (by omega) (by omega)
  obtain ⟨bg, og, cg, dg, qg, sg, Cg, Lg, lbg, ldg, Pg, Rg⟩ := Vg.out.rows (n := F.pages.length) (m := F.wear.length) HL.out.1 HL.out.2 (by omega) (by omega)
  refine dies20_0 _ a19 _ hs w.heap.size gg bf of F.pages.length cf bg og cg k pl.length p q bd b2 hb2 (by omega) (hkeep 9 (by kernel_rfl)) (hkeep 18 (by kernel_rfl)) (hkeep 13 (by kernel_rfl)) (hkeep 4 (by kernel_rfl)) (hkeep 1 (by kernel_rfl)) (hkeep 15 (by kernel_rfl)) h19 Cf.2.1 Cf.1 Cg.2.1 (HDD.out ▸ Cg.2.2.2.2.2) Cg.1 hk (Pf k _ HP.out.1) lbf (Pg k _ HP.out.2) lbg (plain HB1.out) (plain HB2.out) ?_
  intro a w5 hd2 h0 hb5
  have hB2 := hB.out.trans (hb5.mono hB.out.size)
  go_wp2
  refine bodyPost_ret (results_tmp rfl a.tmps Tryz.prog w5) (hd2.trans hd) ⟨?_, hB2⟩
  rw [h0]
set_option maxRecDepth 100000 in
set_option maxHeartbeats 8000000 in
theorem pageDies_m01 (F : Fl) (v : Value) (k : Nat) (pl torn : List UInt8) (w : World) (hv : isFl F v w) (W D : Fl) (p q : List UInt8) (rl : List (List UInt8)) (nx n2 bd b2 : Nat) (hfew : fewB F = true) (hpl : pl.length ≤ 100) (hk : k < F.pages.length) (h6 : F.pages.length ≤ 6) (hmm : F.wear.length = F.pages.length) (HP : Kept (F.pages[k]? = some p ∧ D.pages[k]? = some q)) (HL : Kept (D.pages.length = F.pages.length ∧ D.wear.length = F.wear.length)) (HDD : Kept (D.dead = true)) (hrl : rl.length ≤ 8192) (hnx : nx ≤ 8192) (hbd : bd ≤ 8192) (hn2 : n2 = nx + 1) (hb2 : b2 ≤ bd + 1)
    (HR1 : Kept (∀ W : World, Calls Tryz.prog 13 #[.string ⟨p.toArray⟩, .int .i64 (pl.length : Int)] W fun e W' => ∃ v, e = .returned v ∧ isCells (rl.map strC) v W' ∧ Below W.heap.size W W'))
    (HR2 : Kept (∀ W : World, Calls Tryz.prog 13 #[.string ⟨q.toArray⟩, .int .i64 (pl.length : Int)] W fun e W' => ∃ v, e = .returned v ∧ isCells (rl.map strC) v W' ∧ Below W.heap.size W W'))
    (HN1 : Kept (∀ W : World, Calls Tryz.prog 20 #[.string ⟨p.toArray⟩, .int .i64 (pl.length : Int)] W fun e W' => e = .returned (.int .i64 (nx : Int)) ∧ Below W.heap.size W W'))
    (HN2 : Kept (∀ W : World, Calls Tryz.prog 20 #[.string ⟨q.toArray⟩, .int .i64 (pl.length : Int)] W fun e W' => e = .returned (.int .i64 (n2 : Int)) ∧ Below W.heap.size W W'))
    (HB1 : Kept (∀ W : World, Calls Tryz.prog 19 #[.string ⟨p.toArray⟩, .int .i64 (pl.length : Int)] W fun e W' => e = .returned (.int .i64 (bd : Int)) ∧ Below W.heap.size W W'))
    (HB2 : Kept (∀ W : World, Calls Tryz.prog 19 #[.string ⟨q.toArray⟩, .int .i64 (pl.length : Int)] W fun e W' => e = .returned (.int .i64 (b2 : Int)) ∧ Below W.heap.size W W'))
    (HW : Kept (∀ (v : Value) (w : World), isFl F v w → Calls Tryz.prog 25 #[v, .int .i64 0, .string ⟨torn.toArray⟩] w fun e w' => ∃ v', e = .returned (.tuple #[v', .int .i64 0]) ∧ isFlN w.heap.size W v' w' ∧ Below w.heap.size w w')) (HA : Kept (∀ (v : Value) (w : World), isFl W v w → Calls Tryz.prog 22 #[v, .int .i64 (k : Int), .string ⟨pl.toArray⟩] w fun e w' => ∃ v', e = .returned (.tuple #[v', .int .i64 8]) ∧ isFlN w.heap.size D v' w' ∧ Below w.heap.size w w')) :
    Calls Tryz.prog 6 #[v, .int .i64 (k : Int), .string ⟨pl.toArray⟩, .string ⟨torn.toArray⟩] w fun e w' => e = .returned (.bool true) ∧ Below w.heap.size w w' := by
  obtain ⟨vp, vw, rfl, hp, hq⟩ := hv
  have hsz := size_mk pl
  have HF := Kept.mk hfew
  clear hfew
  have dl : decide (100 < (pl.length : Int)) = false := by simp; omega
  have dl' : decide (100 < pl.length) = false := by simp; omega
  have hm1 := Nat.le_of_eq hmm
  have hm2 := Nat.le_of_eq hmm.symm
  clear hmm
  have d0 : decide ((k : Int) < 0) = false := by simp
  have d1 : decide ((F.pages.length : Int) ≤ (k : Int)) = false := by simp; omega
  have d1' : decide (F.pages.length ≤ k) = false := by simp; omega
  obtain ⟨hB, Vf⟩ := var_box w F vp vw hp hq
  clear hp hq
  go_enter Tryz.func6, Tryz.ntmps6
  go_wp2_with fail
  ((with_reducible refine (works_any _).mono ?_); rintro e W1 ⟨rfl, hb1⟩)
  replace hB := Kept.mk (hB.out.trans ((hb1).mono hB.out.size))
  replace Vf := Kept.mk (Vf.out.keep (hb1))
  clear hb1
  obtain ⟨vpf, vwf, flf, kf0, kf1, kf2, kf3, kf4⟩ := Vf.out.open_
  go_wp2_with fail
  ((with_reducible refine (few_any F _ _ flf).mono ?_); rintro e W2 ⟨rfl, hb1⟩)
  clear kf0 kf1 kf2 kf3 kf4 flf
  replace hB := Kept.mk (hB.out.trans ((hb1).mono hB.out.size))
  replace Vf := Kept.mk (Vf.out.keep (hb1))
  clear hb1
  obtain ⟨vpf, vwf, flf, kf0, kf1, kf2, kf3, kf4⟩ := Vf.out.open_
  rw [HF.out]
  go_wp2_with fail
  ((with_reducible refine (HW.out _ _ flf).mono ?_); rintro e U ⟨v', rfl, hf', hb1⟩)
  obtain ⟨vp', vw', rfl, hp', hq'⟩ := hf'.fl
  have o1 := hp'.one
  have o2 := hq'.one
  obtain ⟨K1, K2, K3, K4⟩ := var_new U W vp' vw' hp' hq'
  clear hp' hq' hf'
  clear kf0 kf1 kf2 kf3 kf4 flf
  replace hB := Kept.mk (hB.out.trans ((hb1).mono hB.out.size))
  replace Vf := Kept.mk (Vf.out.keep (hb1))
  clear hb1
  go_wp2_with (refine wpList_store5 rfl (.tmp 11) (.tmp 37) rfl U.heap.size vp' vw' (.int .i64 W.fuse) (strC W.torn) (.bool W.dead) rfl rfl K1.out K2.out o1 o2 rfl rfl rfl ?_; replace hB := Kept.mk (hB.out.trans ((K3.out).mono hB.out.size)); replace Vf := Kept.mk (Vf.out.keep (K3.out)); have Vw := K4; clear K1 K2 K3 K4 o1 o2; generalize set5 (U.alloc (.cells #[.slice none 0 0, .slice none 0 0, .int .i64 0, .string ⟨#[]⟩, .bool false] 31)) U.heap.size vp' vw' (.int .i64 W.fuse) (strC W.torn) (.bool W.dead) = W3 at *; generalize U.heap.size = gw at *; obtain ⟨vpw, vww, flw, kw0, kw1, kw2, kw3, kw4⟩ := Vw.out.open_)
  ((with_reducible refine (HA.out _ _ flw).mono ?_); rintro e U ⟨v', rfl, hf', hb1⟩)
  obtain ⟨vp', vw', rfl, hp', hq'⟩ := hf'.fl
  have o1 := hp'.one
  have o2 := hq'.one
  obtain ⟨K1, K2, K3, K4⟩ := var_new U D vp' vw' hp' hq'
  clear hp' hq' hf'
  clear kw0 kw1 kw2 kw3 kw4 flw
  replace hB := Kept.mk (hB.out.trans ((hb1).mono hB.out.size))
  replace Vf := Kept.mk (Vf.out.keep (hb1))
  replace Vw := Kept.mk (Vw.out.keep (hb1))
  clear hb1
  go_wp2_with (refine wpList_store5 rfl (.tmp 13) (.tmp 44) rfl U.heap.size vp' vw' (.int .i64 D.fuse) (strC D.torn) (.bool D.dead) rfl rfl K1.out K2.out o1 o2 rfl rfl rfl ?_; replace hB := Kept.mk (hB.out.trans ((K3.out).mono hB.out.size)); replace Vf := Kept.mk (Vf.out.keep (K3.out)); replace Vw := Kept.mk (Vw.out.keep (K3.out)); have Vg := K4; clear K1 K2 K3 K4 o1 o2; generalize set5 (U.alloc (.cells #[.slice none 0 0, .slice none 0 0, .int .i64 0, .string ⟨#[]⟩, .bool false] 31)) U.heap.size vp' vw' (.int .i64 D.fuse) (strC D.torn) (.bool D.dead) = W4 at *; generalize U.heap.size = gg at *; obtain ⟨bf, of, cf, df, qf, sf, Cf, Lf, lbf, ldf, Pf, Rf⟩ := Vf.out.rows (n := F.pages.length) (m := F.wear.length) rfl rfl (by omega) (by omega); have kf0 := Cf.2.1; have kfp := Pf k _ HP.out.1; clear Cf Lf Pf Rf lbf ldf; obtain ⟨bg, og, cg, dg, qg, sg, Cg, Lg, lbg, ldg, Pg, Rg⟩ := Vg.out.rows (n := F.pages.length) (m := F.wear.length) HL.out.1 HL.out.2 (by omega) (by omega); have kg0 := Cg.2.1; have kgp := Pg k _ HP.out.2; clear Cg Lg Pg Rg lbg ldg)
  ((with_reducible refine (HR1.out _).mono ?_); rintro e W8 ⟨v14, rfl, hv14, hb⟩)
  have H14 := Kept.mk hv14
  clear hv14 kf0 kfp kg0 kgp
  replace hB := Kept.mk (hB.out.trans (hb.mono hB.out.size))
  replace Vf := Kept.mk (Vf.out.keep hb)
  replace Vw := Kept.mk (Vw.out.keep hb)
  replace Vg := Kept.mk (Vg.out.keep hb)
  clear hb
  obtain ⟨bg, og, cg, dg, qg, sg, Cg, Lg, lbg, ldg, Pg, Rg⟩ := Vg.out.rows (n := F.pages.length) (m := F.wear.length) HL.out.1 HL.out.2 (by omega) (by omega)
  have kg0 := Cg.2.1
  have kgp := Pg k _ HP.out.2
  clear Cg Lg Pg Rg lbg ldg
  go_wp2_with fail
  ((with_reducible refine (HR2.out _).mono ?_); rintro e W9 ⟨v15, rfl, hv15, hb⟩)
  have H15 := Kept.mk hv15
  replace H14 := Kept.mk (stable_cells _ _ _ _ H14.out hb)
  clear hv15 kg0 kgp
  replace hB := Kept.mk (hB.out.trans (hb.mono hB.out.size))
  replace Vf := Kept.mk (Vf.out.keep hb)
  replace Vw := Kept.mk (Vw.out.keep hb)
  replace Vg := Kept.mk (Vg.out.keep hb)
  clear hb
  go_wp2_with fail
  ((with_reducible refine (refTexts_any rl rl v15 v14 _ H15.out H14.out (by omega) (by omega)).mono ?_); rintro e W10 ⟨rfl, hb⟩)
  clear H15 H14
  replace hB := Kept.mk (hB.out.trans (hb.mono hB.out.size))
  replace Vf := Kept.mk (Vf.out.keep hb)
  replace Vw := Kept.mk (Vw.out.keep hb)
  replace Vg := Kept.mk (Vg.out.keep hb)
  clear hb
  rw [show decide (rl = rl) = true from decide_eq_true rfl]
  go_wp2_with fail
  obtain ⟨bf, of, cf, df, qf, sf, Cf, Lf, lbf, ldf, Pf, Rf⟩ := Vf.out.rows (n := F.pages.length) (m := F.wear.length) rfl rfl (by omega) (by omega)
  obtain ⟨bg, og, cg, dg, qg, sg, Cg, Lg, lbg, ldg, Pg, Rg⟩ := Vg.out.rows (n := F.pages.length) (m := F.wear.length) HL.out.1 HL.out.2 (by omega) (by omega)
  refine dies19_1 _ _ _ rfl w.heap.size gg bf of F.pages.length cf bg og cg k pl.length p q nx n2 hn2 (by omega) rfl rfl rfl rfl Cf.2.1 Cf.1 Cg.2.1 (HDD.out ▸ Cg.2.2.2.2.2) Cg.1 hk (Pf k _ HP.out.1) lbf (Pg k _ HP.out.2) lbg (plain HN1.out) (plain HN2.out) ?_
  intro a19 W11 hd hs hkeep h19 hb
  clear Cf Lf Pf Rf lbf ldf Cg Lg Pg Rg lbg ldg
  replace hB := Kept.mk (hB.out.trans (hb.mono hB.out.size))
  replace Vf := Kept.mk (Vf.out.keep hb)
  replace Vw := Kept.mk (Vw.out.keep hb)
  replace Vg := Kept.mk (Vg.out.keep hb)
  clear hb
  go_wp2_with fail
  obtain ⟨bf, of, cf, df, qf, sf, Cf, Lf, lbf, ldf, Pf, Rf⟩ := Vf.out.rows (n := F.pages.length) (m := F.wear.length) rfl rfl (by omega) (by omega)
  obtain ⟨bg, og, cg, dg, qg, sg, Cg, Lg, lbg, ldg, Pg, Rg⟩ := Vg.out.rows (n := F.pages.length) (m := F.wear.length) HL.out.1 HL.out.2 (by omega) (by omega)
  refine dies20_1 _ a19 _ hs w.heap.size gg bf of F.pages.length cf bg og cg k pl.length p q bd b2 hb2 (by omega) (hkeep 9 (by kernel_rfl)) (hkeep 18 (by kernel_rfl)) (hkeep 13 (by kernel_rfl)) (hkeep 4 (by kernel_rfl)) (hkeep 1 (by kernel_rfl)) (hkeep 15 (by kernel_rfl)) h19 Cf.2.1 Cf.1 Cg.2.1 (HDD.out ▸ Cg.2.2.2.2.2) Cg.1 hk (Pf k _ HP.out.1) lbf (Pg k _ HP.out.2) lbg (plain HB1.out) (plain HB2.out) ?_
  intro a w5 hd2 h0 hb5
  have hB2 := hB.out.trans (hb5.mono hB.out.size)
  go_wp2
  refine bodyPost_ret (results_tmp rfl a.tmps Tryz.prog w5) (hd2.trans hd) ⟨?_, hB2⟩
  rw [h0]
set_option maxRecDepth 100000 in
set_option maxHeartbeats 8000000 in
theorem pageDies_m10 (F : Fl) (v : Value) (k : Nat) (pl torn : List UInt8) (w : World) (hv : isFl F v w) (W D : Fl) (p q : List UInt8) (rl : List (List UInt8)) (nx n2 bd b2 : Nat) (hfew : fewB F = true) (hpl : pl.length ≤ 100) (hk : k < F.pages.length) (h6 : F.pages.length ≤ 6) (hmm : F.wear.length = F.pages.length) (HP : Kept (F.pages[k]? = some p ∧ D.pages[k]? = some q)) (HL : Kept (D.pages.length = F.pages.length ∧ D.wear.length = F.wear.length)) (HDD : Kept (D.dead = true)) (hrl : rl.length ≤ 8192) (hnx : nx ≤ 8192) (hbd : bd ≤ 8192) (hn2 : n2 = nx + 0) (hb2 : b2 ≤ bd + 1)
    (HR1 : Kept (∀ W : World, Calls Tryz.prog 13 #[.string ⟨p.toArray⟩, .int .i64 (pl.length : Int)] W fun e W' => ∃ v, e = .returned v ∧ isCells (rl.map strC) v W' ∧ Below W.heap.size W W'))
    (HR2 : Kept (∀ W : World, Calls Tryz.prog 13 #[.string ⟨q.toArray⟩, .int .i64 (pl.length : Int)] W fun e W' => ∃ v, e = .returned v ∧ isCells ((rl ++ [pl]).map strC) v W' ∧ Below W.heap.size W W'))
    (HN1 : Kept (∀ W : World, Calls Tryz.prog 20 #[.string ⟨p.toArray⟩, .int .i64 (pl.length : Int)] W fun e W' => e = .returned (.int .i64 (nx : Int)) ∧ Below W.heap.size W W'))
    (HN2 : Kept (∀ W : World, Calls Tryz.prog 20 #[.string ⟨q.toArray⟩, .int .i64 (pl.length : Int)] W fun e W' => e = .returned (.int .i64 (n2 : Int)) ∧ Below W.heap.size W W'))
    (HB1 : Kept (∀ W : World, Calls Tryz.prog 19 #[.string ⟨p.toArray⟩, .int .i64 (pl.length : Int)] W fun e W' => e = .returned (.int .i64 (bd : Int)) ∧ Below W.heap.size W W'))
    (HB2 : Kept (∀ W : World, Calls Tryz.prog 19 #[.string ⟨q.toArray⟩, .int .i64 (pl.length : Int)] W fun e W' => e = .returned (.int .i64 (b2 : Int)) ∧ Below W.heap.size W W'))
    (HW : Kept (∀ (v : Value) (w : World), isFl F v w → Calls Tryz.prog 25 #[v, .int .i64 0, .string ⟨torn.toArray⟩] w fun e w' => ∃ v', e = .returned (.tuple #[v', .int .i64 0]) ∧ isFlN w.heap.size W v' w' ∧ Below w.heap.size w w')) (HA : Kept (∀ (v : Value) (w : World), isFl W v w → Calls Tryz.prog 22 #[v, .int .i64 (k : Int), .string ⟨pl.toArray⟩] w fun e w' => ∃ v', e = .returned (.tuple #[v', .int .i64 8]) ∧ isFlN w.heap.size D v' w' ∧ Below w.heap.size w w')) :
    Calls Tryz.prog 6 #[v, .int .i64 (k : Int), .string ⟨pl.toArray⟩, .string ⟨torn.toArray⟩] w fun e w' => e = .returned (.bool true) ∧ Below w.heap.size w w' := by
  obtain ⟨vp, vw, rfl, hp, hq⟩ := hv
  have hsz := size_mk pl
  have HF := Kept.mk hfew
  clear hfew
  have dl : decide (100 < (pl.length : Int)) = false := by simp; omega
  have dl' : decide (100 < pl.length) = false := by simp; omega
  have hm1 := Nat.le_of_eq hmm
  have hm2 := Nat.le_of_eq hmm.symm
  clear hmm
  have d0 : decide ((k : Int) < 0) = false := by simp
  have d1 : decide ((F.pages.length : Int) ≤ (k : Int)) = false := by simp; omega
  have d1' : decide (F.pages.length ≤ k) = false := by simp; omega
  obtain ⟨hB, Vf⟩ := var_box w F vp vw hp hq
  clear hp hq
  go_enter Tryz.func6, Tryz.ntmps6
  go_wp2_with fail
  ((with_reducible refine (works_any _).mono ?_); rintro e W1 ⟨rfl, hb1⟩)
  replace hB := Kept.mk (hB.out.trans ((hb1).mono hB.out.size))
  replace Vf := Kept.mk (Vf.out.keep (hb1))
  clear hb1
  obtain ⟨vpf, vwf, flf, kf0, kf1, kf2, kf3, kf4⟩ := Vf.out.open_
  go_wp2_with fail
  ((with_reducible refine (few_any F _ _ flf).mono ?_); rintro e W2 ⟨rfl, hb1⟩)
  clear kf0 kf1 kf2 kf3 kf4 flf
  replace hB := Kept.mk (hB.out.trans ((hb1).mono hB.out.size))
  replace Vf := Kept.mk (Vf.out.keep (hb1))
  clear hb1
  obtain ⟨vpf, vwf, flf, kf0, kf1, kf2, kf3, kf4⟩ := Vf.out.open_
  rw [HF.out]
  go_wp2_with fail
  ((with_reducible refine (HW.out _ _ flf).mono ?_); rintro e U ⟨v', rfl, hf', hb1⟩)
  obtain ⟨vp', vw', rfl, hp', hq'⟩ := hf'.fl
  have o1 := hp'.one
  have o2 := hq'.one
  obtain ⟨K1, K2, K3, K4⟩ := var_new U W vp' vw' hp' hq'
  clear hp' hq' hf'
  clear kf0 kf1 kf2 kf3 kf4 flf
  replace hB := Kept.mk (hB.out.trans ((hb1).mono hB.out.size))
  replace Vf := Kept.mk (Vf.out.keep (hb1))
  clear hb1
  go_wp2_with (refine wpList_store5 rfl (.tmp 11) (.tmp 37) rfl U.heap.size vp' vw' (.int .i64 W.fuse) (strC W.torn) (.bool W.dead) rfl rfl K1.out K2.out o1 o2 rfl rfl rfl ?_; replace hB := Kept.mk (hB.out.trans ((K3.out).mono hB.out.size)); replace Vf := Kept.mk (Vf.out.keep (K3.out)); have Vw := K4; clear K1 K2 K3 K4 o1 o2; generalize set5 (U.alloc (.cells #[.slice none 0 0, .slice none 0 0, .int .i64 0, .string ⟨#[]⟩, .bool false] 31)) U.heap.size vp' vw' (.int .i64 W.fuse) (strC W.torn) (.bool W.dead) = W3 at *; generalize U.heap.size = gw at *; obtain ⟨vpw, vww, flw, kw0, kw1, kw2, kw3, kw4⟩ := Vw.out.open_)
  ((with_reducible refine (HA.out _ _ flw).mono ?_); rintro e U ⟨v', rfl, hf', hb1⟩)
  obtain ⟨vp', vw', rfl, hp', hq'⟩ := hf'.fl
  have o1 := hp'.one
  have o2 := hq'.one
  obtain ⟨K1, K2, K3, K4⟩ := var_new U D vp' vw' hp' hq'
  clear hp' hq' hf'
  clear kw0 kw1 kw2 kw3 kw4 flw
  replace hB := Kept.mk (hB.out.trans ((hb1).mono hB.out.size))
  replace Vf := Kept.mk (Vf.out.keep (hb1))
  replace Vw := Kept.mk (Vw.out.keep (hb1))
  clear hb1
  go_wp2_with (refine wpList_store5 rfl (.tmp 13) (.tmp 44) rfl U.heap.size vp' vw' (.int .i64 D.fuse) (strC D.torn) (.bool D.dead) rfl rfl K1.out K2.out o1 o2 rfl rfl rfl ?_; replace hB := Kept.mk (hB.out.trans ((K3.out).mono hB.out.size)); replace Vf := Kept.mk (Vf.out.keep (K3.out)); replace Vw := Kept.mk (Vw.out.keep (K3.out)); have Vg := K4; clear K1 K2 K3 K4 o1 o2; generalize set5 (U.alloc (.cells #[.slice none 0 0, .slice none 0 0, .int .i64 0, .string ⟨#[]⟩, .bool false] 31)) U.heap.size vp' vw' (.int .i64 D.fuse) (strC D.torn) (.bool D.dead) = W4 at *; generalize U.heap.size = gg at *; obtain ⟨bf, of, cf, df, qf, sf, Cf, Lf, lbf, ldf, Pf, Rf⟩ := Vf.out.rows (n := F.pages.length) (m := F.wear.length) rfl rfl (by omega) (by omega); have kf0 := Cf.2.1; have kfp := Pf k _ HP.out.1; clear Cf Lf Pf Rf lbf ldf; obtain ⟨bg, og, cg, dg, qg, sg, Cg, Lg, lbg, ldg, Pg, Rg⟩ := Vg.out.rows (n := F.pages.length) (m := F.wear.length) HL.out.1 HL.out.2 (by omega) (by omega); have kg0 := Cg.2.1; have kgp := Pg k _ HP.out.2; clear Cg Lg Pg Rg lbg ldg)
  ((with_reducible refine (HR1.out _).mono ?_); rintro e W8 ⟨v14, rfl, hv14, hb⟩)
  have H14 := Kept.mk hv14
  clear hv14 kf0 kfp kg0 kgp
  replace hB := Kept.mk (hB.out.trans (hb.mono hB.out.size))
  replace Vf := Kept.mk (Vf.out.keep hb)
  replace Vw := Kept.mk (Vw.out.keep hb)
  replace Vg := Kept.mk (Vg.out.keep hb)
  clear hb
  obtain ⟨bg, og, cg, dg, qg, sg, Cg, Lg, lbg, ldg, Pg, Rg⟩ := Vg.out.rows (n := F.pages.length) (m := F.wear.length) HL.out.1 HL.out.2 (by omega) (by omega)
  have kg0 := Cg.2.1
  have kgp := Pg k _ HP.out.2
  clear Cg Lg Pg Rg lbg ldg
  go_wp2_with fail
  ((with_reducible refine (HR2.out _).mono ?_); rintro e W9 ⟨v15, rfl, hv15, hb⟩)
  have H15 := Kept.mk hv15
  replace H14 := Kept.mk (stable_cells _ _ _ _ H14.out hb)
  clear hv15 kg0 kgp
  replace hB := Kept.mk (hB.out.trans (hb.mono hB.out.size))
  replace Vf := Kept.mk (Vf.out.keep hb)
  replace Vw := Kept.mk (Vw.out.keep hb)
  replace Vg := Kept.mk (Vg.out.keep hb)
  clear hb
  go_wp2_with fail
  ((with_reducible refine (refTexts_any (rl ++ [pl]) rl v15 v14 _ H15.out H14.out (by simp <;> omega) (by omega)).mono ?_); rintro e WX ⟨rfl, hb⟩)
  replace H14 := Kept.mk (stable_cells _ _ _ _ H14.out hb)
  replace H15 := Kept.mk (stable_cells _ _ _ _ H15.out hb)
  replace hB := Kept.mk (hB.out.trans (hb.mono hB.out.size))
  replace Vf := Kept.mk (Vf.out.keep hb)
  replace Vw := Kept.mk (Vw.out.keep hb)
  replace Vg := Kept.mk (Vg.out.keep hb)
  clear hb
  rw [show decide (rl ++ [pl] = rl) = false from decide_eq_false (by simp)]
  obtain ⟨i0, hi, hz0, hz1, hz2⟩ := info_parts Tryz.infoStr
  have hbA : Below WX.heap.size WX (WX.alloc (.cells #[] 9)) := (Below.refl _ _).alloc (Nat.le_refl _) _
  rcases cells_src (stable_cells _ _ _ _ H14.out hbA) with ⟨hn, hnil⟩ | ⟨ad, c14, hn, hcs⟩
  · obtain rfl : rl = [] := by simpa using hnil
    subst hn
    go_wp2_with (first | (at_builtin; refine wpList_want (by kernel_rfl) fun KK hKK => ?_; refine wp_append_none _ _ 26 rfl WX.heap.size 9 i0 1 Tryz.underlying26 hi _ _ _ rfl (own_start WX _) rfl ?_; refine hKK _ _ ?_) | (at_builtin; refine wpList_want (by kernel_rfl) fun KK hKK => ?_; refine wp_append_own _ _ _ 26 rfl WX.heap.size 9 i0 (.string ⟨#[]⟩) 1 16 Tryz.underlying26 hi hz0 hz1 hz2 rfl (by decide) _ _ _ rfl ((own_start WX _).alloc _) ⟨_, 0, none⟩ 1 1 [strC pl] rfl rfl (cell_one_at _ _ _ _ (by first | rfl | simp)) (by simp [Value.oneCell', strC]) (by unfold maxLen; simp <;> omega) (by simp <;> omega) (by simp <;> omega) ?_; intro v2 w2 hown2 hgrow2 _; refine hKK _ _ ?_))
    have HBB := below_own ((own_start WX 9).alloc _) hgrow2 (hbA.alloc (by simp) _) (by simp <;> omega)
    have hb : Below WX.heap.size WX w2 := HBB
    have hc2 : isCells ((([] : List (List UInt8)) ++ [pl]).map strC) v2 w2 := by
      have h := isCells_own hown2
      simpa using h
    have H16 := Kept.mk hc2
    have H15' := Kept.mk (stable_cells _ _ _ _ H15.out hb)
    clear hc2 hown2 hgrow2 HBB H15 H14
    replace hB := Kept.mk (hB.out.trans (hb.mono hB.out.size))
    replace Vf := Kept.mk (Vf.out.keep hb)
    replace Vw := Kept.mk (Vw.out.keep hb)
    replace Vg := Kept.mk (Vg.out.keep hb)
    clear hb
    ((with_reducible refine (refTexts_any (([] : List (List UInt8)) ++ [pl]) (([] : List (List UInt8)) ++ [pl]) v15 v2 _ H15'.out H16.out (by simp <;> omega) (by simp <;> omega)).mono ?_); rintro e W10 ⟨rfl, hb⟩)
    clear H15' H16
    replace hB := Kept.mk (hB.out.trans (hb.mono hB.out.size))
    replace Vf := Kept.mk (Vf.out.keep hb)
    replace Vw := Kept.mk (Vw.out.keep hb)
    replace Vg := Kept.mk (Vg.out.keep hb)
    clear hb
    rw [show decide ((([] : List (List UInt8)) ++ [pl]) = (([] : List (List UInt8)) ++ [pl])) = true from decide_eq_true rfl]
    go_wp2_with fail
    obtain ⟨bf, of, cf, df, qf, sf, Cf, Lf, lbf, ldf, Pf, Rf⟩ := Vf.out.rows (n := F.pages.length) (m := F.wear.length) rfl rfl (by omega) (by omega)
    obtain ⟨bg, og, cg, dg, qg, sg, Cg, Lg, lbg, ldg, Pg, Rg⟩ := Vg.out.rows (n := F.pages.length) (m := F.wear.length) HL.out.1 HL.out.2 (by omega) (by omega)
    refine dies19_0 _ _ _ rfl w.heap.size gg bf of F.pages.length cf bg og cg k pl.length p q nx n2 hn2 (by omega) rfl rfl rfl rfl Cf.2.1 Cf.1 Cg.2.1 (HDD.out ▸ Cg.2.2.2.2.2) Cg.1 hk (Pf k _ HP.out.1) lbf (Pg k _ HP.out.2) lbg (plain HN1.out) (plain HN2.out) ?_
    intro a19 W11 hd hs hkeep h19 hb
    clear Cf Lf Pf Rf lbf ldf Cg Lg Pg Rg lbg ldg
    replace hB := Kept.mk (hB.out.trans (hb.mono hB.out.size))
    replace Vf := Kept.mk (Vf.out.keep hb)
    replace Vw := Kept.mk (Vw.out.keep hb)
    replace Vg := Kept.mk (Vg.out.keep hb)
    clear hb
    go_wp2_with fail
    obtain ⟨bf, of, cf, df, qf, sf, Cf, Lf, lbf, ldf, Pf, Rf⟩ := Vf.out.rows (n := F.pages.length) (m := F.wear.length) rfl rfl (by omega) (by omega)
    obtain ⟨bg, og, cg, dg, qg, sg, Cg, Lg, lbg, ldg, Pg, Rg⟩ := Vg.out.rows (n := F.pages.length) (m := F.wear.length) HL.out.1 HL.out.2 (by omega) (by omega)
    refine dies20_0 _ a19 _ hs w.heap.size gg bf of F.pages.length cf bg og cg k pl.length p q bd b2 hb2 (by omega) (hkeep 9 (by kernel_rfl)) (hkeep 18 (by kernel_rfl)) (hkeep 13 (by kernel_rfl)) (hkeep 4 (by kernel_rfl)) (hkeep 1 (by kernel_rfl)) (hkeep 15 (by kernel_rfl)) h19 Cf.2.1 Cf.1 Cg.2.1 (HDD.out ▸ Cg.2.2.2.2.2) Cg.1 hk (Pf k _ HP.out.1) lbf (Pg k _ HP.out.2) lbg (plain HB1.out) (plain HB2.out) ?_
    intro a w5 hd2 h0 hb5
    have hB2 := hB.out.trans (hb5.mono hB.out.size)
    go_wp2
    refine bodyPost_ret (results_tmp rfl a.tmps Tryz.prog w5) (hd2.trans hd) ⟨?_, hB2⟩
    rw [h0]
  · subst hn
    go_wp2_with (first | (at_builtin; refine wpList_want (by kernel_rfl) fun KK hKK => ?_; refine wp_append_own _ _ _ 26 rfl WX.heap.size 9 i0 (.string ⟨#[]⟩) 1 16 Tryz.underlying26 hi hz0 hz1 hz2 rfl (by decide) _ _ _ rfl (own_start WX _) ad _ c14 (rl.map strC) rfl (by simp) hcs (strs_one rl) (by unfold maxLen; simp <;> omega) (by simp <;> omega) (by simp) ?_; intro v1 w1 hown1 hgrow1 _; have hbB := below_own (own_start WX 9) hgrow1 hbA (by simp); refine hKK _ _ ?_) | (at_builtin; refine wpList_want (by kernel_rfl) fun KK hKK => ?_; refine wp_append_own _ _ _ 26 rfl WX.heap.size 9 i0 (.string ⟨#[]⟩) 1 16 Tryz.underlying26 hi hz0 hz1 hz2 rfl (by decide) _ _ _ rfl (hown1.alloc _) ⟨_, 0, none⟩ 1 1 [strC pl] rfl rfl (cell_one_at _ _ _ _ (by first | rfl | simp)) (by simp [Value.oneCell', strC]) (by unfold maxLen; simp <;> omega) (by simp <;> omega) (by have hsz1 := hbB.size; simp <;> omega) ?_; intro v2 w2 hown2 hgrow2 _; refine hKK _ _ ?_))
    have HBB := below_own (hown1.alloc _) hgrow2 (hbB.alloc hbB.size _) (by have := hbB.size; simp <;> omega)
    have hb : Below WX.heap.size WX w2 := HBB
    have hc2 : isCells ((rl ++ [pl]).map strC) v2 w2 := by
      have h := isCells_own hown2
      simpa using h
    have H16 := Kept.mk hc2
    have H15' := Kept.mk (stable_cells _ _ _ _ H15.out hb)
    clear hc2 hown2 hgrow2 HBB H15 H14
    replace hB := Kept.mk (hB.out.trans (hb.mono hB.out.size))
    replace Vf := Kept.mk (Vf.out.keep hb)
    replace Vw := Kept.mk (Vw.out.keep hb)
    replace Vg := Kept.mk (Vg.out.keep hb)
    clear hb
    ((with_reducible refine (refTexts_any (rl ++ [pl]) (rl ++ [pl]) v15 v2 _ H15'.out H16.out (by simp <;> omega) (by simp <;> omega)).mono ?_); rintro e W10 ⟨rfl, hb⟩)
    clear H15' H16
    replace hB := Kept.mk (hB.out.trans (hb.mono hB.out.size))
    replace Vf := Kept.mk (Vf.out.keep hb)
    replace Vw := Kept.mk (Vw.out.keep hb)
    replace Vg := Kept.mk (Vg.out.keep hb)
    clear hb
    rw [show decide ((rl ++ [pl]) = (rl ++ [pl])) = true from decide_eq_true rfl]
    go_wp2_with fail
    obtain ⟨bf, of, cf, df, qf, sf, Cf, Lf, lbf, ldf, Pf, Rf⟩ := Vf.out.rows (n := F.pages.length) (m := F.wear.length) rfl rfl (by omega) (by omega)
    obtain ⟨bg, og, cg, dg, qg, sg, Cg, Lg, lbg, ldg, Pg, Rg⟩ := Vg.out.rows (n := F.pages.length) (m := F.wear.length) HL.out.1 HL.out.2 (by omega) (by omega)
    refine dies19_0 _ _ _ rfl w.heap.size gg bf of F.pages.length cf bg og cg k pl.length p q nx n2 hn2 (by omega) rfl rfl rfl rfl Cf.2.1 Cf.1 Cg.2.1 (HDD.out ▸ Cg.2.2.2.2.2) Cg.1 hk (Pf k _ HP.out.1) lbf (Pg k _ HP.out.2) lbg (plain HN1.out) (plain HN2.out) ?_
    intro a19 W11 hd hs hkeep h19 hb
    clear Cf Lf Pf Rf lbf ldf Cg Lg Pg Rg lbg ldg
    replace hB := Kept.mk (hB.out.trans (hb.mono hB.out.size))
    replace Vf := Kept.mk (Vf.out.keep hb)
    replace Vw := Kept.mk (Vw.out.keep hb)
    replace Vg := Kept.mk (Vg.out.keep hb)
    clear hb
    go_wp2_with fail
    obtain ⟨bf, of, cf, df, qf, sf, Cf, Lf, lbf, ldf, Pf, Rf⟩ := Vf.out.rows (n := F.pages.length) (m := F.wear.length) rfl rfl (by omega) (by omega)
    obtain ⟨bg, og, cg, dg, qg, sg, Cg, Lg, lbg, ldg, Pg, Rg⟩ := Vg.out.rows (n := F.pages.length) (m := F.wear.length) HL.out.1 HL.out.2 (by omega) (by omega)
    refine dies20_0 _ a19 _ hs w.heap.size gg bf of F.pages.length cf bg og cg k pl.length p q bd b2 hb2 (by omega) (hkeep 9 (by kernel_rfl)) (hkeep 18 (by kernel_rfl)) (hkeep 13 (by kernel_rfl)) (hkeep 4 (by kernel_rfl)) (hkeep 1 (by kernel_rfl)) (hkeep 15 (by kernel_rfl)) h19 Cf.2.1 Cf.1 Cg.2.1 (HDD.out ▸ Cg.2.2.2.2.2) Cg.1 hk (Pf k _ HP.out.1) lbf (Pg k _ HP.out.2) lbg (plain HB1.out) (plain HB2.out) ?_
    intro a w5 hd2 h0 hb5
    have hB2 := hB.out.trans (hb5.mono hB.out.size)
    go_wp2
    refine bodyPost_ret (results_tmp rfl a.tmps Tryz.prog w5) (hd2.trans hd) ⟨?_, hB2⟩
    rw [h0]
set_option maxRecDepth 100000 in
set_option maxHeartbeats 8000000 in
theorem pageDies_m11 (F : Fl) (v : Value) (k : Nat) (pl torn : List UInt8) (w : World) (hv : isFl F v w) (W D : Fl) (p q : List UInt8) (rl : List (List UInt8)) (nx n2 bd b2 : Nat) (hfew : fewB F = true) (hpl : pl.length ≤ 100) (hk : k < F.pages.length) (h6 : F.pages.length ≤ 6) (hmm : F.wear.length = F.pages.length) (HP : Kept (F.pages[k]? = some p ∧ D.pages[k]? = some q)) (HL : Kept (D.pages.length = F.pages.length ∧ D.wear.length = F.wear.length)) (HDD : Kept (D.dead = true)) (hrl : rl.length ≤ 8192) (hnx : nx ≤ 8192) (hbd : bd ≤ 8192) (hn2 : n2 = nx + 1) (hb2 : b2 ≤ bd + 1)
    (HR1 : Kept (∀ W : World, Calls Tryz.prog 13 #[.string ⟨p.toArray⟩, .int .i64 (pl.length : Int)] W fun e W' => ∃ v, e = .returned v ∧ isCells (rl.map strC) v W' ∧ Below W.heap.size W W'))
    (HR2 : Kept (∀ W : World, Calls Tryz.prog 13 #[.string ⟨q.toArray⟩, .int .i64 (pl.length : Int)] W fun e W' => ∃ v, e = .returned v ∧ isCells ((rl ++ [pl]).map strC) v W' ∧ Below W.heap.size W W'))
    (HN1 : Kept (∀ W : World, Calls Tryz.prog 20 #[.string ⟨p.toArray⟩, .int .i64 (pl.length : Int)] W fun e W' => e = .returned (.int .i64 (nx : Int)) ∧ Below W.heap.size W W'))
    (HN2 : Kept (∀ W : World, Calls Tryz.prog 20 #[.string ⟨q.toArray⟩, .int .i64 (pl.length : Int)] W fun e W' => e = .returned (.int .i64 (n2 : Int)) ∧ Below W.heap.size W W'))
    (HB1 : Kept (∀ W : World, Calls Tryz.prog 19 #[.string ⟨p.toArray⟩, .int .i64 (pl.length : Int)] W fun e W' => e = .returned (.int .i64 (bd : Int)) ∧ Below W.heap.size W W'))
    (HB2 : Kept (∀ W : World, Calls Tryz.prog 19 #[.string ⟨q.toArray⟩, .int .i64 (pl.length : Int)] W fun e W' => e = .returned (.int .i64 (b2 : Int)) ∧ Below W.heap.size W W'))
    (HW : Kept (∀ (v : Value) (w : World), isFl F v w → Calls Tryz.prog 25 #[v, .int .i64 0, .string ⟨torn.toArray⟩] w fun e w' => ∃ v', e = .returned (.tuple #[v', .int .i64 0]) ∧ isFlN w.heap.size W v' w' ∧ Below w.heap.size w w')) (HA : Kept (∀ (v : Value) (w : World), isFl W v w → Calls Tryz.prog 22 #[v, .int .i64 (k : Int), .string ⟨pl.toArray⟩] w fun e w' => ∃ v', e = .returned (.tuple #[v', .int .i64 8]) ∧ isFlN w.heap.size D v' w' ∧ Below w.heap.size w w')) :
    Calls Tryz.prog 6 #[v, .int .i64 (k : Int), .string ⟨pl.toArray⟩, .string ⟨torn.toArray⟩] w fun e w' => e = .returned (.bool true) ∧ Below w.heap.size w w' := by
  obtain ⟨vp, vw, rfl, hp, hq⟩ := hv
  have hsz := size_mk pl
  have HF := Kept.mk hfew
  clear hfew
  have dl : decide (100 < (pl.length : Int)) = false := by simp; omega
  have dl' : decide (100 < pl.length) = false := by simp; omega
  have hm1 := Nat.le_of_eq hmm
  have hm2 := Nat.le_of_eq hmm.symm
  clear hmm
  have d0 : decide ((k : Int) < 0) = false := by simp
  have d1 : decide ((F.pages.length : Int) ≤ (k : Int)) = false := by simp; omega
  have d1' : decide (F.pages.length ≤ k) = false := by simp; omega
  obtain ⟨hB, Vf⟩ := var_box w F vp vw hp hq
  clear hp hq
  go_enter Tryz.func6, Tryz.ntmps6
  go_wp2_with fail
  ((with_reducible refine (works_any _).mono ?_); rintro e W1 ⟨rfl, hb1⟩)
  replace hB := Kept.mk (hB.out.trans ((hb1).mono hB.out.size))
  replace Vf := Kept.mk (Vf.out.keep (hb1))
  clear hb1
  obtain ⟨vpf, vwf, flf, kf0, kf1, kf2, kf3, kf4⟩ := Vf.out.open_
  go_wp2_with fail
  ((with_reducible refine (few_any F _ _ flf).mono ?_); rintro e W2 ⟨rfl, hb1⟩)
  clear kf0 kf1 kf2 kf3 kf4 flf
  replace hB := Kept.mk (hB.out.trans ((hb1).mono hB.out.size))
  replace Vf := Kept.mk (Vf.out.keep (hb1))
  clear hb1
  obtain ⟨vpf, vwf, flf, kf0, kf1, kf2, kf3, kf4⟩ := Vf.out.open_
  rw [HF.out]
  go_wp2_with fail
  ((with_reducible refine (HW.out _ _ flf).mono ?_); rintro e U ⟨v', rfl, hf', hb1⟩)
  obtain ⟨vp', vw', rfl, hp', hq'⟩ := hf'.fl
  have o1 := hp'.one
  have o2 := hq'.one
  obtain ⟨K1, K2, K3, K4⟩ := var_new U W vp' vw' hp' hq'
  clear hp' hq' hf'
  clear kf0 kf1 kf2 kf3 kf4 flf
  replace hB := Kept.mk (hB.out.trans ((hb1).mono hB.out.size))
  replace Vf := Kept.mk (Vf.out.keep (hb1))
  clear hb1
  go_wp2_with (refine wpList_store5 rfl (.tmp 11) (.tmp 37) rfl U.heap.size vp' vw' (.int .i64 W.fuse) (strC W.torn) (.bool W.dead) rfl rfl K1.out K2.out o1 o2 rfl rfl rfl ?_; replace hB := Kept.mk (hB.out.trans ((K3.out).mono hB.out.size)); replace Vf := Kept.mk (Vf.out.keep (K3.out)); have Vw := K4; clear K1 K2 K3 K4 o1 o2; generalize set5 (U.alloc (.cells #[.slice none 0 0, .slice none 0 0, .int .i64 0, .string ⟨#[]⟩, .bool false] 31)) U.heap.size vp' vw' (.int .i64 W.fuse) (strC W.torn) (.bool W.dead) = W3 at *; generalize U.heap.size = gw at *; obtain ⟨vpw, vww, flw, kw0, kw1, kw2, kw3, kw4⟩ := Vw.out.open_)
  ((with_reducible refine (HA.out _ _ flw).mono ?_); rintro e U ⟨v', rfl, hf', hb1⟩)
  obtain ⟨vp', vw', rfl, hp', hq'⟩ := hf'.fl
  have o1 := hp'.one
  have o2 := hq'.one
  obtain ⟨K1, K2, K3, K4⟩ := var_new U D vp' vw' hp' hq'
  clear hp' hq' hf'
  clear kw0 kw1 kw2 kw3 kw4 flw
  replace hB := Kept.mk (hB.out.trans ((hb1).mono hB.out.size))
  replace Vf := Kept.mk (Vf.out.keep (hb1))
  replace Vw := Kept.mk (Vw.out.keep (hb1))
  clear hb1
  go_wp2_with (refine wpList_store5 rfl (.tmp 13) (.tmp 44) rfl U.heap.size vp' vw' (.int .i64 D.fuse) (strC D.torn) (.bool D.dead) rfl rfl K1.out K2.out o1 o2 rfl rfl rfl ?_; replace hB := Kept.mk (hB.out.trans ((K3.out).mono hB.out.size)); replace Vf := Kept.mk (Vf.out.keep (K3.out)); replace Vw := Kept.mk (Vw.out.keep (K3.out)); have Vg := K4; clear K1 K2 K3 K4 o1 o2; generalize set5 (U.alloc (.cells #[.slice none 0 0, .slice none 0 0, .int .i64 0, .string ⟨#[]⟩, .bool false] 31)) U.heap.size vp' vw' (.int .i64 D.fuse) (strC D.torn) (.bool D.dead) = W4 at *; generalize U.heap.size = gg at *; obtain ⟨bf, of, cf, df, qf, sf, Cf, Lf, lbf, ldf, Pf, Rf⟩ := Vf.out.rows (n := F.pages.length) (m := F.wear.length) rfl rfl (by omega) (by omega); have kf0 := Cf.2.1; have kfp := Pf k _ HP.out.1; clear Cf Lf Pf Rf lbf ldf; obtain ⟨bg, og, cg, dg, qg, sg, Cg, Lg, lbg, ldg, Pg, Rg⟩ := Vg.out.rows (n := F.pages.length) (m := F.wear.length) HL.out.1 HL.out.2 (by omega) (by omega); have kg0 := Cg.2.1; have kgp := Pg k _ HP.out.2; clear Cg Lg Pg Rg lbg ldg)
  ((with_reducible refine (HR1.out _).mono ?_); rintro e W8 ⟨v14, rfl, hv14, hb⟩)
  have H14 := Kept.mk hv14
  clear hv14 kf0 kfp kg0 kgp
  replace hB := Kept.mk (hB.out.trans (hb.mono hB.out.size))
  replace Vf := Kept.mk (Vf.out.keep hb)
  replace Vw := Kept.mk (Vw.out.keep hb)
  replace Vg := Kept.mk (Vg.out.keep hb)
  clear hb
  obtain ⟨bg, og, cg, dg, qg, sg, Cg, Lg, lbg, ldg, Pg, Rg⟩ := Vg.out.rows (n := F.pages.length) (m := F.wear.length) HL.out.1 HL.out.2 (by omega) (by omega)
  have kg0 := Cg.2.1
  have kgp := Pg k _ HP.out.2
  clear Cg Lg Pg Rg lbg ldg
  go_wp2_with fail
  ((with_reducible refine (HR2.out _).mono ?_); rintro e W9 ⟨v15, rfl, hv15, hb⟩)
  have H15 := Kept.mk hv15
  replace H14 := Kept.mk (stable_cells _ _ _ _ H14.out hb)
  clear hv15 kg0 kgp
  replace hB := Kept.mk (hB.out.trans (hb.mono hB.out.size))
  replace Vf := Kept.mk (Vf.out.keep hb)
  replace Vw := Kept.mk (Vw.out.keep hb)
  replace Vg := Kept.mk (Vg.out.keep hb)
  clear hb
  go_wp2_with fail
  ((with_reducible refine (refTexts_any (rl ++ [pl]) rl v15 v14 _ H15.out H14.out (by simp <;> omega) (by omega)).mono ?_); rintro e WX ⟨rfl, hb⟩)
  replace H14 := Kept.mk (stable_cells _ _ _ _ H14.out hb)
  replace H15 := Kept.mk (stable_cells _ _ _ _ H15.out hb)
  replace hB := Kept.mk (hB.out.trans (hb.mono hB.out.size))
  replace Vf := Kept.mk (Vf.out.keep hb)
  replace Vw := Kept.mk (Vw.out.keep hb)
  replace Vg := Kept.mk (Vg.out.keep hb)
  clear hb
  rw [show decide (rl ++ [pl] = rl) = false from decide_eq_false (by simp)]
  obtain ⟨i0, hi, hz0, hz1, hz2⟩ := info_parts Tryz.infoStr
  have hbA : Below WX.heap.size WX (WX.alloc (.cells #[] 9)) := (Below.refl _ _).alloc (Nat.le_refl _) _
  rcases cells_src (stable_cells _ _ _ _ H14.out hbA) with ⟨hn, hnil⟩ | ⟨ad, c14, hn, hcs⟩
  · obtain rfl : rl = [] := by simpa using hnil
    subst hn
    go_wp2_with (first | (at_builtin; refine wpList_want (by kernel_rfl) fun KK hKK => ?_; refine wp_append_none _ _ 26 rfl WX.heap.size 9 i0 1 Tryz.underlying26 hi _ _ _ rfl (own_start WX _) rfl ?_; refine hKK _ _ ?_) | (at_builtin; refine wpList_want (by kernel_rfl) fun KK hKK => ?_; refine wp_append_own _ _ _ 26 rfl WX.heap.size 9 i0 (.string ⟨#[]⟩) 1 16 Tryz.underlying26 hi hz0 hz1 hz2 rfl (by decide) _ _ _ rfl ((own_start WX _).alloc _) ⟨_, 0, none⟩ 1 1 [strC pl] rfl rfl (cell_one_at _ _ _ _ (by first | rfl | simp)) (by simp [Value.oneCell', strC]) (by unfold maxLen; simp <;> omega) (by simp <;> omega) (by simp <;> omega) ?_; intro v2 w2 hown2 hgrow2 _; refine hKK _ _ ?_))
    have HBB := below_own ((own_start WX 9).alloc _) hgrow2 (hbA.alloc (by simp) _) (by simp <;> omega)
    have hb : Below WX.heap.size WX w2 := HBB
    have hc2 : isCells ((([] : List (List UInt8)) ++ [pl]).map strC) v2 w2 := by
      have h := isCells_own hown2
      simpa using h
    have H16 := Kept.mk hc2
    have H15' := Kept.mk (stable_cells _ _ _ _ H15.out hb)
    clear hc2 hown2 hgrow2 HBB H15 H14
    replace hB := Kept.mk (hB.out.trans (hb.mono hB.out.size))
    replace Vf := Kept.mk (Vf.out.keep hb)
    replace Vw := Kept.mk (Vw.out.keep hb)
    replace Vg := Kept.mk (Vg.out.keep hb)
    clear hb
    ((with_reducible refine (refTexts_any (([] : List (List UInt8)) ++ [pl]) (([] : List (List UInt8)) ++ [pl]) v15 v2 _ H15'.out H16.out (by simp <;> omega) (by simp <;> omega)).mono ?_); rintro e W10 ⟨rfl, hb⟩)
    clear H15' H16
    replace hB := Kept.mk (hB.out.trans (hb.mono hB.out.size))
    replace Vf := Kept.mk (Vf.out.keep hb)
    replace Vw := Kept.mk (Vw.out.keep hb)
    replace Vg := Kept.mk (Vg.out.keep hb)
    clear hb
    rw [show decide ((([] : List (List UInt8)) ++ [pl]) = (([] : List (List UInt8)) ++ [pl])) = true from decide_eq_true rfl]
    go_wp2_with fail
    obtain ⟨bf, of, cf, df, qf, sf, Cf, Lf, lbf, ldf, Pf, Rf⟩ := Vf.out.rows (n := F.pages.length) (m := F.wear.length) rfl rfl (by omega) (by omega)
    obtain ⟨bg, og, cg, dg, qg, sg, Cg, Lg, lbg, ldg, Pg, Rg⟩ := Vg.out.rows (n := F.pages.length) (m := F.wear.length) HL.out.1 HL.out.2 (by omega) (by omega)
    refine dies19_1 _ _ _ rfl w.heap.size gg bf of F.pages.length cf bg og cg k pl.length p q nx n2 hn2 (by omega) rfl rfl rfl rfl Cf.2.1 Cf.1 Cg.2.1 (HDD.out ▸ Cg.2.2.2.2.2) Cg.1 hk (Pf k _ HP.out.1) lbf (Pg k _ HP.out.2) lbg (plain HN1.out) (plain HN2.out) ?_
    intro a19 W11 hd hs hkeep h19 hb
    clear Cf Lf Pf Rf lbf ldf Cg Lg Pg Rg lbg ldg
    replace hB := Kept.mk (hB.out.trans (hb.mono hB.out.size))
    replace Vf := Kept.mk (Vf.out.keep hb)
    replace Vw := Kept.mk (Vw.out.keep hb)
    replace Vg := Kept.mk (Vg.out.keep hb)
    clear hb
    go_wp2_with fail
    obtain ⟨bf, of, cf, df, qf, sf, Cf, Lf, lbf, ldf, Pf, Rf⟩ := Vf.out.rows (n := F.pages.length) (m := F.wear.length) rfl rfl (by omega) (by omega)
    obtain ⟨bg, og, cg, dg, qg, sg, Cg, Lg, lbg, ldg, Pg, Rg⟩ := Vg.out.rows (n := F.pages.length) (m := F.wear.length) HL.out.1 HL.out.2 (by omega) (by omega)
    refine dies20_1 _ a19 _ hs w.heap.size gg bf of F.pages.length cf bg og cg k pl.length p q bd b2 hb2 (by omega) (hkeep 9 (by kernel_rfl)) (hkeep 18 (by kernel_rfl)) (hkeep 13 (by kernel_rfl)) (hkeep 4 (by kernel_rfl)) (hkeep 1 (by kernel_rfl)) (hkeep 15 (by kernel_rfl)) h19 Cf.2.1 Cf.1 Cg.2.1 (HDD.out ▸ Cg.2.2.2.2.2) Cg.1 hk (Pf k _ HP.out.1) lbf (Pg k _ HP.out.2) lbg (plain HB1.out) (plain HB2.out) ?_
    intro a w5 hd2 h0 hb5
    have hB2 := hB.out.trans (hb5.mono hB.out.size)
    go_wp2
    refine bodyPost_ret (results_tmp rfl a.tmps Tryz.prog w5) (hd2.trans hd) ⟨?_, hB2⟩
    rw [h0]
  · subst hn
    go_wp2_with (first | (at_builtin; refine wpList_want (by kernel_rfl) fun KK hKK => ?_; refine wp_append_own _ _ _ 26 rfl WX.heap.size 9 i0 (.string ⟨#[]⟩) 1 16 Tryz.underlying26 hi hz0 hz1 hz2 rfl (by decide) _ _ _ rfl (own_start WX _) ad _ c14 (rl.map strC) rfl (by simp) hcs (strs_one rl) (by unfold maxLen; simp <;> omega) (by simp <;> omega) (by simp) ?_; intro v1 w1 hown1 hgrow1 _; have hbB := below_own (own_start WX 9) hgrow1 hbA (by simp); refine hKK _ _ ?_) | (at_builtin; refine wpList_want (by kernel_rfl) fun KK hKK => ?_; refine wp_append_own _ _ _ 26 rfl WX.heap.size 9 i0 (.string ⟨#[]⟩) 1 16 Tryz.underlying26 hi hz0 hz1 hz2 rfl (by decide) _ _ _ rfl (hown1.alloc _) ⟨_, 0, none⟩ 1 1 [strC pl] rfl rfl (cell_one_at _ _ _ _ (by first | rfl | simp)) (by simp [Value.oneCell', strC]) (by unfold maxLen; simp <;> omega) (by simp <;> omega) (by have hsz1 := hbB.size; simp <;> omega) ?_; intro v2 w2 hown2 hgrow2 _; refine hKK _ _ ?_))
    have HBB := below_own (hown1.alloc _) hgrow2 (hbB.alloc hbB.size _) (by have := hbB.size; simp <;> omega)
    have hb : Below WX.heap.size WX w2 := HBB
    have hc2 : isCells ((rl ++ [pl]).map strC) v2 w2 := by
      have h := isCells_own hown2
      simpa using h
    have H16 := Kept.mk hc2
    have H15' := Kept.mk (stable_cells _ _ _ _ H15.out hb)
    clear hc2 hown2 hgrow2 HBB H15 H14
    replace hB := Kept.mk (hB.out.trans (hb.mono hB.out.size))
    replace Vf := Kept.mk (Vf.out.keep hb)
    replace Vw := Kept.mk (Vw.out.keep hb)
    replace Vg := Kept.mk (Vg.out.keep hb)
    clear hb
    ((with_reducible refine (refTexts_any (rl ++ [pl]) (rl ++ [pl]) v15 v2 _ H15'.out H16.out (by simp <;> omega) (by simp <;> omega)).mono ?_); rintro e W10 ⟨rfl, hb⟩)
    clear H15' H16
    replace hB := Kept.mk (hB.out.trans (hb.mono hB.out.size))
    replace Vf := Kept.mk (Vf.out.keep hb)
    replace Vw := Kept.mk (Vw.out.keep hb)
    replace Vg := Kept.mk (Vg.out.keep hb)
    clear hb
    rw [show decide ((rl ++ [pl]) = (rl ++ [pl])) = true from decide_eq_true rfl]
    go_wp2_with fail
    obtain ⟨bf, of, cf, df, qf, sf, Cf, Lf, lbf, ldf, Pf, Rf⟩ := Vf.out.rows (n := F.pages.length) (m := F.wear.length) rfl rfl (by omega) (by omega)
    obtain ⟨bg, og, cg, dg, qg, sg, Cg, Lg, lbg, ldg, Pg, Rg⟩ := Vg.out.rows (n := F.pages.length) (m := F.wear.length) HL.out.1 HL.out.2 (by omega) (by omega)
    refine dies19_1 _ _ _ rfl w.heap.size gg bf of F.pages.length cf bg og cg k pl.length p q nx n2 hn2 (by omega) rfl rfl rfl rfl Cf.2.1 Cf.1 Cg.2.1 (HDD.out ▸ Cg.2.2.2.2.2) Cg.1 hk (Pf k _ HP.out.1) lbf (Pg k _ HP.out.2) lbg (plain HN1.out) (plain HN2.out) ?_
    intro a19 W11 hd hs hkeep h19 hb
    clear Cf Lf Pf Rf lbf ldf Cg Lg Pg Rg lbg ldg
    replace hB := Kept.mk (hB.out.trans (hb.mono hB.out.size))
    replace Vf := Kept.mk (Vf.out.keep hb)
    replace Vw := Kept.mk (Vw.out.keep hb)
    replace Vg := Kept.mk (Vg.out.keep hb)
    clear hb
    go_wp2_with fail
    obtain ⟨bf, of, cf, df, qf, sf, Cf, Lf, lbf, ldf, Pf, Rf⟩ := Vf.out.rows (n := F.pages.length) (m := F.wear.length) rfl rfl (by omega) (by omega)
    obtain ⟨bg, og, cg, dg, qg, sg, Cg, Lg, lbg, ldg, Pg, Rg⟩ := Vg.out.rows (n := F.pages.length) (m := F.wear.length) HL.out.1 HL.out.2 (by omega) (by omega)
    refine dies20_1 _ a19 _ hs w.heap.size gg bf of F.pages.length cf bg og cg k pl.length p q bd b2 hb2 (by omega) (hkeep 9 (by kernel_rfl)) (hkeep 18 (by kernel_rfl)) (hkeep 13 (by kernel_rfl)) (hkeep 4 (by kernel_rfl)) (hkeep 1 (by kernel_rfl)) (hkeep 15 (by kernel_rfl)) h19 Cf.2.1 Cf.1 Cg.2.1 (HDD.out ▸ Cg.2.2.2.2.2) Cg.1 hk (Pf k _ HP.out.1) lbf (Pg k _ HP.out.2) lbg (plain HB1.out) (plain HB2.out) ?_
    intro a w5 hd2 h0 hb5
    have hB2 := hB.out.trans (hb5.mono hB.out.size)
    go_wp2
    refine bodyPost_ret (results_tmp rfl a.tmps Tryz.prog w5) (hd2.trans hd) ⟨?_, hB2⟩
    rw [h0]

theorem same_self (D : Fl) (h1 : D.pages.length ≤ 1000000) (h2 : D.wear.length ≤ 1000000) (v u : Value) (w : World) (hv : isFl D v w) (hu : isFl D u w) : Calls Tryz.prog 26 #[v, u] w fun e w' => e = .returned (.bool true) ∧ Below w.heap.size w w' := by
  have h := same_any D D v u w hv hu h1 h2 h1 h2
  rwa [show sameB D D = true by simp [sameB]] at h
theorem pageDies_walk (F0 : Fl) (v0 : Value) (a1 : Int) (a2 a3 : ByteArray) (c0 : Came F0) (w1 : (Lit.int .i64 a1).wf = true) (w2 : a2.size ≤ maxLen) (w3 : a3.size ≤ maxLen) (w : World) (hv : isFl F0 v0 w) (z0 : F0.pages.length * 16 ≤ reachBytes ∧ F0.wear.length * 8 ≤ reachBytes) :
    Calls Tryz.prog 6 #[v0, .int .i64 a1, .string a2, .string a3] w fun e w' => e = .returned (.bool true) ∧ Below w.heap.size w w' := by
  rw [str_eta a2, str_eta a3]
  generalize a2.data.toList = t
  generalize a3.data.toList = tn
  cases hfew : fewB F0 with
  | false => exact pageDies_1 F0 v0 a1 t tn w hv hfew
  | true =>
  by_cases hpl : 100 < t.length
  · exact pageDies_2 F0 v0 a1 t tn w hv hfew hpl
  have hpl : t.length ≤ 100 := by omega
  have hf := hfew
  unfold fewB at hf
  simp only [Bool.and_eq_true, decide_eq_true_eq] at hf
  have hp8 : F0.pages.length ≤ 8 := by omega
  have hw20 : F0.wear.length ≤ 20 := by omega
  clear hf
  have hwk : ∀ (v : Value) (w : World), isFl F0 v w → Calls Tryz.prog 25 #[v, .int .i64 0, .string ⟨tn.toArray⟩] w fun e w' => ∃ v', e = .returned (.tuple #[v', .int .i64 (wakeE F0 tn)]) ∧ isFlN w.heap.size (wakeF F0 0 tn) v' w' ∧ Below w.heap.size w w' :=
    fun v w hv => wake_any F0 0 tn v w hv (by omega) (by omega)
  cases hwb : wakeB F0 tn with
  | false =>
    rw [show wakeE F0 tn = 1 by unfold wakeE; rw [hwb]; rfl, show wakeF F0 0 tn = F0 by unfold wakeF; rw [hwb]; rfl] at hwk
    exact pageDies_3 F0 v0 a1 t tn w hv F0 (appF F0 a1 t) (appE F0 a1 t) hfew hpl ⟨hwk⟩ ⟨fun v w hv => append_any F0 a1 t v w hv (by omega) (by omega) (by have h := c0.fuse; unfold Lit.wf at h; rw [Bool.and_eq_true] at h; exact of_decide_eq_true h.2) (.inl (by omega))⟩
  | true =>
  have hwb' := hwb
  unfold wakeB at hwb'
  simp only [Bool.and_eq_true, decide_eq_true_eq] at hwb'
  rw [show wakeE F0 tn = 0 by unfold wakeE; rw [hwb]; rfl, show wakeF F0 0 tn = { F0 with fuse := 0, torn := tn, dead := false } by unfold wakeF; rw [hwb]; rfl] at hwk
  obtain ⟨W, hW⟩ : ∃ W : Fl, W = { F0 with fuse := 0, torn := tn, dead := false } := ⟨_, rfl⟩
  rw [← hW] at hwk
  have hmW : mayB W = true := by rw [hW]; exact wake_mayP (by omega) hwb'.1
  have wp : W.pages = F0.pages := by rw [hW]
  have ww : W.wear = F0.wear := by rw [hW]
  have wf_ : W.fuse = 0 := by rw [hW]
  have wd : W.dead = false := by rw [hW]
  have wt : W.torn = tn := by rw [hW]
  clear hW
  have hap : ∀ (v : Value) (w : World), isFl W v w → Calls Tryz.prog 22 #[v, .int .i64 a1, .string ⟨t.toArray⟩] w fun e w' => ∃ v', e = .returned (.tuple #[v', .int .i64 (appE W a1 t)]) ∧ isFlN w.heap.size (appF W a1 t) v' w' ∧ Below w.heap.size w w' :=
    fun v w hv => append_any W a1 t v w hv (by rw [wp]; omega) (by rw [ww]; omega) (by rw [wf_]; decide) (.inl (by omega))
  have hss := same_self W (by rw [wp]; omega) (by rw [ww]; omega)
  cases hh : hasB W a1 with
  | false =>
    rw [show appE W a1 t = 1 by simp [appE, appOk, hh], show appF W a1 t = W by simp [appF, appOk, hh]] at hap
    exact pageDies_4 F0 v0 a1 t tn w hv W hfew hpl ⟨hwk⟩ ⟨hap⟩ ⟨hss⟩
  | true =>
  have hz := szN_rec t (by omega)
  have hz8 : szN (lenI t) = 2 * (t.length + 4) := by rw [← hz, length_recL]
  have hok : appOk W a1 t = true := by unfold appOk; rw [hh, hz8]; simp
  by_cases hfull : nextN (pageOf W a1) (lenI t) = roomN (pageOf W a1) (lenI t)
  · rw [show appE W a1 t = 4 by unfold appE; rw [hok, if_neg (by simp), if_pos hfull], show appF W a1 t = W by unfold appF; rw [hok, if_neg (by simp), if_pos hfull]] at hap
    exact pageDies_5 F0 v0 a1 t tn w hv W hfew hpl ⟨hwk⟩ ⟨hap⟩ ⟨hss⟩
  obtain ⟨k, rfl⟩ := has_nat hh
  have fW := has_facts W k hh
  have hk : k < F0.pages.length := by rw [← wp]; exact fW.1
  have hmm : F0.wear.length = F0.pages.length := by rw [← wp, ← ww]; exact fW.2.2.1
  have h6 : F0.pages.length ≤ 6 := by rw [← wp]; exact fW.2.1
  have hpg : pageOf W (k : Int) = F0.pages[k] := by unfold pageOf; rw [wp]; simp [List.getD_eq_getElem?_getD, hk]
  have hpg' : W.pages.getD k [] = F0.pages[k] := by rw [wp]; simp [List.getD_eq_getElem?_getD, hk]
  have hl8 : F0.pages[k].length ≤ 8192 := (fW.2.2.2.2.1 F0.pages[k] (by rw [wp]; exact List.getElem_mem hk)).2.1
  rw [hpg] at hfull
  have hlt : nextN F0.pages[k] (lenI t) < roomN F0.pages[k] (lenI t) := by have := nextN_le F0.pages[k] (lenI t); omega
  have hkk : nextN F0.pages[k] (lenI t) * szN (lenI t) + szN (lenI t) ≤ F0.pages[k].length := by
    have h1 := roomN_le F0.pages[k] (lenI t)
    have h2 := Nat.mul_le_mul_right (szN (lenI t)) (show nextN F0.pages[k] (lenI t) + 1 ≤ roomN F0.pages[k] (lenI t) from hlt)
    rw [Nat.add_mul, Nat.one_mul] at h2
    omega
  have hfit : fitsB W (k : Int) (nextN F0.pages[k] (lenI t) * szN (lenI t) : Nat) (recL t) = true := by
    unfold fitsB
    rw [Int.toNat_natCast, hpg', hz]
    simp only [Bool.and_eq_true, decide_eq_true_eq]
    omega
  rw [show appE W k t = 8 by unfold appE; rw [hok, if_neg (by simp), hpg, if_neg hfull]; unfold progE; rw [hh, hfit, wd, wf_]; rfl] at hap
  have hD : appF W k t = { W with pages := W.pages.set k (betweenL F0.pages[k] (progL F0.pages[k] (nextN F0.pages[k] (lenI t) * szN (lenI t)) (recL t)) tn), dead := true } := by
    unfold appF
    rw [hok, if_neg (by simp), hpg, if_neg hfull]
    unfold progF
    rw [hh, hfit, if_neg (by simp), if_neg (by simp), wd, if_neg (by simp), if_pos wf_, Int.toNat_natCast, Int.toNat_natCast, hpg', wt]
  have dm := dies_math F0.pages[k] t tn (by omega) hlt
  have hql : (betweenL F0.pages[k] (progL F0.pages[k] (nextN F0.pages[k] (lenI t) * szN (lenI t)) (recL t)) tn).length = F0.pages[k].length := length_between _ _ _
  generalize betweenL F0.pages[k] (progL F0.pages[k] (nextN F0.pages[k] (lenI t) * szN (lenI t)) (recL t)) tn = q at *
  have hz2 : szN (lenI t) ≤ 2056 := by omega
  have hnr := nextN_le F0.pages[k] (lenI t)
  have hrl := roomN_len F0.pages[k] (lenI t)
  have hrc : (recordsL F0.pages[k] (lenI t)).length ≤ 8192 := by
    have h := recsOf_len F0.pages[k] (lenI t) (List.range (roomN F0.pages[k] (lenI t)))
    rw [List.length_range] at h
    exact Nat.le_trans h (by omega)
  have hbd : badN F0.pages[k] (lenI t) ≤ 8192 := by
    have h := tcnt_le (fun i => badP (slotL F0.pages[k] (lenI t) i)) (List.range (roomN F0.pages[k] (lenI t)))
    rw [List.length_range] at h
    exact Nat.le_trans h (by omega)
  have hP : F0.pages[k]? = some F0.pages[k] ∧ (appF W k t).pages[k]? = some q := by rw [hD, wp]; simp [hk]
  have hLL : (appF W k t).pages.length = F0.pages.length ∧ (appF W k t).wear.length = F0.wear.length := by rw [hD]; simp [wp, ww]
  have hDD : (appF W k t).dead = true := by rw [hD]
  have hR := fun W : World => records_any q (lenI t) W (by omega) (.inl hz2)
  obtain ⟨m1, m2, m3⟩ := dm
  rcases m1 with m1 | m1 <;> rcases m3 with m3 | m3 <;> rw [m1] at hR
  · exact pageDies_m00 F0 v0 k t tn w hv W (appF W k t) F0.pages[k] q (recordsL F0.pages[k] (lenI t)) (nextN F0.pages[k] (lenI t)) (nextN q (lenI t)) (badN F0.pages[k] (lenI t)) (badN q (lenI t)) hfew hpl hk h6 hmm ⟨hP⟩ ⟨hLL⟩ ⟨hDD⟩ hrc (by omega) hbd (by omega) m2 ⟨fun W => records_any _ _ W (by omega) (.inl hz2)⟩ ⟨hR⟩ ⟨fun W => next_any _ _ W (by omega) (.inl hz2)⟩ ⟨fun W => next_any q _ W (by omega) (.inl hz2)⟩ ⟨fun W => bad_any _ _ W (by omega) (.inl hz2)⟩ ⟨fun W => bad_any q _ W (by omega) (.inl hz2)⟩ ⟨hwk⟩ ⟨hap⟩
  · exact pageDies_m01 F0 v0 k t tn w hv W (appF W k t) F0.pages[k] q (recordsL F0.pages[k] (lenI t)) (nextN F0.pages[k] (lenI t)) (nextN q (lenI t)) (badN F0.pages[k] (lenI t)) (badN q (lenI t)) hfew hpl hk h6 hmm ⟨hP⟩ ⟨hLL⟩ ⟨hDD⟩ hrc (by omega) hbd (by omega) m2 ⟨fun W => records_any _ _ W (by omega) (.inl hz2)⟩ ⟨hR⟩ ⟨fun W => next_any _ _ W (by omega) (.inl hz2)⟩ ⟨fun W => next_any q _ W (by omega) (.inl hz2)⟩ ⟨fun W => bad_any _ _ W (by omega) (.inl hz2)⟩ ⟨fun W => bad_any q _ W (by omega) (.inl hz2)⟩ ⟨hwk⟩ ⟨hap⟩
  · exact pageDies_m10 F0 v0 k t tn w hv W (appF W k t) F0.pages[k] q (recordsL F0.pages[k] (lenI t)) (nextN F0.pages[k] (lenI t)) (nextN q (lenI t)) (badN F0.pages[k] (lenI t)) (badN q (lenI t)) hfew hpl hk h6 hmm ⟨hP⟩ ⟨hLL⟩ ⟨hDD⟩ hrc (by omega) hbd (by omega) m2 ⟨fun W => records_any _ _ W (by omega) (.inl hz2)⟩ ⟨hR⟩ ⟨fun W => next_any _ _ W (by omega) (.inl hz2)⟩ ⟨fun W => next_any q _ W (by omega) (.inl hz2)⟩ ⟨fun W => bad_any _ _ W (by omega) (.inl hz2)⟩ ⟨fun W => bad_any q _ W (by omega) (.inl hz2)⟩ ⟨hwk⟩ ⟨hap⟩
  · exact pageDies_m11 F0 v0 k t tn w hv W (appF W k t) F0.pages[k] q (recordsL F0.pages[k] (lenI t)) (nextN F0.pages[k] (lenI t)) (nextN q (lenI t)) (badN F0.pages[k] (lenI t)) (badN q (lenI t)) hfew hpl hk h6 hmm ⟨hP⟩ ⟨hLL⟩ ⟨hDD⟩ hrc (by omega) hbd (by omega) m2 ⟨fun W => records_any _ _ W (by omega) (.inl hz2)⟩ ⟨hR⟩ ⟨fun W => next_any _ _ W (by omega) (.inl hz2)⟩ ⟨fun W => next_any q _ W (by omega) (.inl hz2)⟩ ⟨fun W => bad_any _ _ W (by omega) (.inl hz2)⟩ ⟨fun W => bad_any q _ W (by omega) (.inl hz2)⟩ ⟨hwk⟩ ⟨hap⟩

set_option maxRecDepth 100000 in
theorem pageDies_lifted (os : Os) (started : os.Started) (H : Type) (enc : TypeId × Value → H) :
    ReturnsInHanded {} Tryz.checked os 6 .any (Rows.pageDiesSpec.pre6 enc Tryz.prog Tryz.f6 Rows.pageDiesRow.domain false) (Rows.pageDiesSpec.post enc Tryz.prog Tryz.f6 false true false false) := by
  refine returnsInHanded_of_change_sized (C := Tryz.checked) (by kernel_rfl : ownKnob Tryz.prog.godebug = none) started (by kernel_rfl) Tryz.func6
    (ChangeSpec.witness6 (enc := enc) (C := Tryz.checked) false ⟨#[], #[.agg #[.slice none 0 0, .slice none 0 0, .int .i64 0, .string ByteArray.empty, .bool false], .int .i64 0, .string ByteArray.empty, .string ByteArray.empty], []⟩ 8 (by kernel_rfl) (by kernel_rfl) (by kernel_rfl) (by kernel_rfl)) ?_
  intro W base args ds gs before hval0 hW hcnd hsz0 _
  have hval : ∀ (j : Nat) t v, Tryz.f6.params[j]? = some t → args[j]? = some v → Value.okWide Tryz.prog W .any base t v := hval0
  have hW' := hW
  obtain ⟨p, q, hA0, hV, rfl, hfz, hnd⟩ := hW
  have hA : DataW.TrodAll enc Tryz.prog W 0 (fun _ => true) true Tryz.f6.params.toList args.toList ds p := hA0
  have hsz : (DataW.weightsEach Tryz.prog (Tryz.f6.params.toList ++ Rows.pageDiesSpec.plain.varTypes Tryz.prog) (ds ++ gs)).all (· ≤ reachBytes) = true := hsz0
  rw [Tryz.params6] at hA hval hsz
  obtain ⟨v0, vs0, d0, ds0, p0, q0, hargs, rfl, rfl, h0, r0⟩ := trodAll_cons hA
  obtain ⟨v1, vs1, d1, ds1, p1, q1, rfl, rfl, rfl, h1, r1⟩ := trodAll_cons r0
  obtain ⟨v2, vs2, d2, ds2, p2, q2, rfl, rfl, rfl, h2, r2⟩ := trodAll_cons r1
  obtain ⟨v3, vs3, d3, ds3, p3, q3, rfl, rfl, rfl, h3, r3⟩ := trodAll_cons r2
  obtain ⟨rfl, rfl, rfl⟩ := trodAll_nil r3
  obtain rfl : args = #[v0, v1, v2, v3] := by cases args; simp_all
  obtain ⟨rfl, rfl⟩ := trodVars_none hV
  obtain ⟨F0, fl0, w0, z0⟩ := open_flash (hval 0 31 v0 rfl rfl) h0
  have lt0 : ∀ x ∈ p0, x.block < W.heap.size := fun x hx => by obtain ⟨fuel, hf⟩ := h0; exact DataW.trod_lt fuel _ _ _ hf x hx
  obtain ⟨a1, rfl, rfl, rfl, w1⟩ := open_int Tryz.underlying3 (hval 1 3 v1 rfl rfl) h1
  obtain ⟨a2, rfl, rfl, rfl, w2⟩ := open_string Tryz.underlying9 (hval 2 9 v2 rfl rfl) h2
  obtain ⟨a3, rfl, rfl, rfl, w3⟩ := open_string Tryz.underlying9 (hval 3 9 v3 rfl rfl) h3
  clear hA0 hval0
  simp only [List.append_nil] at hW'
  replace z0 := z0 (fun m hm => by have := List.all_eq_true.1 hsz m (DataW.weights_mem_each (j := 0) rfl rfl m hm); simpa using this)
  refine (pageDies_walk F0 v0 a1 a2 a3 w0 w1 w2 w3 W fl0 z0).mono fun e W' ⟨he, bel⟩ => ?_
  subst he
  exact ⟨_, rfl, _, _, _, [], _, [], hW', trodAll_mk1 (shut_bool Tryz.underlying4 _), (trodAll_cons_mk (Below.trod (by kernel_rfl) (by kernel_rfl) (of_decide_eq_true (by kernel_rfl)) h0 bel lt0) (trodAll_cons_mk (shut_int Tryz.underlying3 w1) (trodAll_cons_mk (shut_string Tryz.underlying9 w2) (trodAll_cons_mk (shut_string Tryz.underlying9 w3) trodAll_mk0)))), rfl, bel.frame _, fun h => by cases h⟩
/-- THE STATEMENT. -/
theorem pageDies_proved : Rows.PageDiesSaid :=
  OpenClaim.holds_of_wide 6 Tryz.f6 rfl rfl rfl rfl rfl rfl rfl ⟨rfl, rfl, rfl, rfl, rfl⟩ rfl rfl rfl rfl rfl (by kernel_rfl) Tryz.func6 (by kernel_rfl)
    (of_decide_eq_true (by kernel_rfl)) (by unfold Func.isWrapper; first | (rw [if_pos (by decide +kernel)]; kernel_rfl) | (rw [if_neg (by decide +kernel)]; exact ⟨rfl, rfl⟩))
    (fun os started H enc _ => pageDies_lifted os started H enc)
#print axioms pageDies_proved
end Go.Proofs.YtipiioggdalkoaaGreatDoor
