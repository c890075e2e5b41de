/- Joined texts: contracts of the program's functions, and the mathematics that they lean on. -/
import Derived.Test.YtpjafjnokgeifaaPartD
import Derived.SizedLaws
import Derived.SliceStrings
import Derived.Carry
section
namespace Go.Proofs.Ytpjafjnokgeifaa
open Go.RowKit
set_option linter.unusedVariables false
set_option linter.unusedSimpArgs false
attribute [local irreducible] setN
section
variable {P : Program} {ops : Array Oper} {base : World} {a0 : Act} {Q : Exit → Act → World → Prop} {kn : Nat → VP} {i : Nat} {V : VP}
theorem step_str1 (t e : TypeId) (x : Operand) (s : List UInt8) (ie : TypeInfo) (hop : (ops[i]?).map (·.op) = some (.buildSlice t 1 #[(0, x)])) (hw : Wanted ops a0 kn i) (h0 : Knows ops a0 kn i x (isVal (.string ⟨s.toArray⟩)))
    (hu : P.underlying t = some (.slice e)) (hie : P.info? e = some ie) (hz : ie.zero = some (.string ⟨#[]⟩)) (hsz : ie.size = 1) : FStep P ops base a0 Q kn i (isCells [strC s]) :=
  step_mk (stable_cells _) hw fun o ho a w hk hb hd => by
    have e0 : a.eval x = strC s := h0 a w hk hd
    have hf : Instr.fill (fun i => some (i * ie.size, ie.size)) ((Array.range (1 * ie.size)).map ((Value.string ⟨#[]⟩).cells[· % (Value.string ⟨#[]⟩).cells.size]!)) ((#[(0, x)] : Array (Nat × Operand)).map fun (i, x) => (i, a.eval x)).toList = some #[strC s] := by
      have e1 : ((#[(0, x)] : Array (Nat × Operand)).map fun (i, x) => (i, a.eval x)).toList = (([strC s] : List Value).zipIdx 0).map fun x => (x.2, x.1) := by simp [e0]
      rw [e1, hsz, Great.fill_flat _ _ (fun v hv => by simp only [List.mem_cons, List.not_mem_nil, or_false] at hv; subst hv; rfl) (by simp)]
    refine wp_buildSlice t e 1 _ (op_of hop ho) _ ie (.string ⟨#[]⟩) hu hie hz (by rw [hsz]; omega) (by rw [hsz]; omega) hf ?_
    refine ⟨_, rfl, .inr (.inr ⟨w.heap.size, 0, 1, rfl, by simp, fun j v hv => ?_⟩), (Below.refl _ _).alloc (Nat.le_refl _) _⟩
    rw [World.cell?_alloc_new]
    simpa using hv
end
theorem own_up {W W' : World} {n₀ : Nat} {e : TypeId} {size : Nat} {v : Value} {k : Nat} {xs : List Value} (h : W.ownsRow n₀ e size v k xs) (hb : Below W.heap.size W W') : W'.ownsRow n₀ e size v k xs := by
  obtain ⟨hl, h | ⟨g, cap, cur, hv, hB, hg, rest⟩⟩ := h
  · exact ⟨hl, .inl h⟩
  · exact ⟨hl, .inr ⟨g, cap, cur, hv, hB, (hb.block g (Array.getElem?_eq_some_iff.1 hg).1).trans hg, rest⟩⟩
theorem own_ge {w : World} {base : Nat} {e : TypeId} {z : Nat} {v : Value} {k : Nat} {xs : List Value} (h : w.ownsRow base e z v k xs) : ∀ j, v.ownBlock = some j → base ≤ j := by
  intro j hj
  obtain ⟨_, ⟨rfl, _⟩ | ⟨g, cap, cur, rfl, hB, _⟩⟩ := h
  · simp [Value.ownBlock] at hj
  · simp [Value.ownBlock] at hj; omega
theorem own_set {w : World} {base : Nat} {e : TypeId} {z : Nat} {v : Value} {k : Nat} {xs : List Value} (h : w.ownsRow base e z v k xs) {g : Nat} (hg : g < base) (j : Nat) (x : Value) : (w.setCell ⟨g, j, none⟩ x).ownsRow base e z v k xs := by
  obtain ⟨hl, h | ⟨b, cap, cur, hv, hB, hgc, rest⟩⟩ := h
  · exact ⟨hl, .inl h⟩
  · exact ⟨hl, .inr ⟨b, cap, cur, hv, hB, (heap_setCell_other w ⟨g, j, none⟩ b x (by show b ≠ g; omega)).trans hgc, rest⟩⟩
theorem cells_low {cs : List Value} {v : Value} {w w' : World} {B : Nat} (h : isCells cs v w) (hb : Below B w w') (hl : ∀ b, blk v = some b → b < B) : isCells cs v w' := by
  rcases h with h | h | ⟨b, off, cap, e, hlt, hc⟩
  · exact .inl h
  · exact .inr (.inl h)
  · have hbB := hl b (by rw [e]; rfl)
    exact .inr (.inr ⟨b, off, cap, e, Nat.lt_of_lt_of_le hlt hb.size, fun j x hx => (hb.cell (p := ⟨b, off + j, none⟩) hbB).trans (hc j x hx)⟩)
theorem blk_low {cs : List Value} {b : Nat} {w w' : World} {B : Nat} (h : Blk w b cs) (hb : Below B w w') (hl : b < B) : Blk w' b cs := ⟨h.cells.keep hb hl, h.free.keep hb hl⟩
theorem own_sl {w : World} {base : Nat} {e : TypeId} {z : Nat} {v : Value} {k : Nat} {xs : List Value} (h : w.ownsRow base e z v k xs) : ∃ a n c, v = .slice a n c := by
  obtain ⟨_, ⟨rfl, _⟩ | ⟨g, cap, cur, rfl, _⟩⟩ := h
  · exact ⟨_, _, _, rfl⟩
  · exact ⟨_, _, _, rfl⟩
theorem own_cells {w : World} {base : Nat} {e : TypeId} {z : Nat} {v : Value} {k : Nat} {xs : List Value} (h : w.ownsRow base e z v k xs) : v.cells = #[v] := by obtain ⟨a, n, c, rfl⟩ := own_sl h; rfl
theorem own_one' {w : World} {base : Nat} {e : TypeId} {z : Nat} {v : Value} {k : Nat} {xs : List Value} (h : w.ownsRow base e z v k xs) : v.oneCell' = true := by obtain ⟨a, n, c, rfl⟩ := own_sl h; rfl
theorem put_ex {a : Act} {d : Tmp} {v : Value} {t : Array Value} {ds : List Deferred} (e : a = { tmps := t, defers := ds }) : a.put (some d) v = { tmps := t.setIfInBounds d v, defers := ds } := by subst e; rfl
theorem built_zf : Try.prog.built 25 [] = some #[.slice none 0 0, .slice none 0 0, .int .i64 0, .string ⟨#[]⟩, .bool false] := by kernel_rfl
theorem built_nf (g n c : Nat) : Try.prog.built 25 [(1, .slice (some ⟨g, 0, none⟩) n c), (2, .int .i64 (-1))] = some #[.slice none 0 0, .slice (some ⟨g, 0, none⟩) n c, .int .i64 (-1), .string ⟨#[]⟩, .bool false] := by kernel_rfl
noncomputable def nw7Ops : Array Oper := regionOf Try.f11 7
set_option maxRecDepth 100000 in
set_option maxHeartbeats 4000000 in
theorem nw7_region (Q : Exit → Act → World → Prop) (a0 : Act) (w0 : World) (hsz : a0.tmps.size = 39) (g B k m : Nat) (v ws : Value) (HX : Blk w0 g [v, ws, .int .i64 (-1), .string ⟨#[]⟩, .bool false]) (hown : w0.ownsRow B 9 1 v k (List.replicate k (strC (List.replicate m 255)))) (hgB : g < B) (hBs : B ≤ w0.heap.size) (hk6 : k ≤ 6) (hm8 : m ≤ 8192)
    (e1 : a0.tmps.getD 1 undef = .int .i64 (m : Int)) (e6 : a0.tmps.getD 6 undef = .pointer (some ⟨g, 0, none⟩))
    (hQ : ∀ (y : Nat → Value) (v' : Value) (w1 : World), w1.ownsRow B 9 1 v' (k + 1) (List.replicate (k + 1) (strC (List.replicate m 255))) → Below B w0 w1 → Q .normal { tmps := ((([31, 32, 33, 34, 35, 36, 37].foldl (fun t s => t.setIfInBounds s (y s)) a0.tmps).setIfInBounds 36 v').setIfInBounds 37 (.pointer (some ⟨g, 0, none⟩))), defers := a0.defers } (w1.setCell ⟨g, 0, none⟩ v')) :
    (Code.region 7 nw7Ops true).wp Try.prog Q a0 w0 := by
  obtain ⟨istr, histr, hzstr, hsstr, hbstr⟩ := info_parts Try.infoStr
  refine wp_region_cov 5 mixed (by rw [hsz]; kernel_rfl) (by kernel_rfl) ?_
  rw [show nw7Ops.size - 5 = 3 by kernel_rfl]
  refine ⟨isVal (.pointer (some ⟨g, 0, none⟩)), step_field 25 (.tmp 6) 0 ⟨g, 0, none⟩ ⟨g, 0, none⟩ (by kernel_rfl) (wanted_none (by kernel_rfl)) (knows_old 6 (.pointer (some ⟨g, 0, none⟩)) (by kernel_rfl) e6) (field_fl g 0 (by omega)), ?_⟩
  refine ⟨isVal v, step_read 22 (.tmp 31) ⟨g, 0, none⟩ v (by kernel_rfl) (wanted_none (by kernel_rfl)) (knows_new (V := isVal (.pointer (some ⟨g, 0, none⟩))) 31 0 (by kernel_rfl) (by kernel_rfl) (by kernel_rfl)) (HX.cells.2 0 _ rfl) HX.lt agg_strs, ?_⟩
  refine ⟨isVal (.int .i64 (m : Int)), step_move (.tmp 1) (by kernel_rfl) (wanted_none (by kernel_rfl)) (stable_val _) (knows_old 1 (.int .i64 (m : Int)) (by kernel_rfl) e1), ?_⟩
  refine ⟨isVal (.string ⟨(List.replicate m 255).toArray⟩), step_call 42 #[.tmp 33] #[3] #[.int .i64 (m : Int)] (by kernel_rfl) (wanted_none (by kernel_rfl)) (stable_val _) (args1 (.tmp 33) (.int .i64 (m : Int)) (knows_new (V := isVal (.int .i64 (m : Int))) 33 2 (by kernel_rfl) (by kernel_rfl) (by kernel_rfl))) (enters_of Try.func42 (by kernel_rfl) rfl) (by intro w hb; exact cones m (by omega) w), ?_⟩
  refine ⟨isCells [strC (List.replicate m 255)], step_str1 22 9 (.tmp 34) (List.replicate m 255) istr (by kernel_rfl) (wanted_none (by kernel_rfl)) (knows_new (V := isVal (.string ⟨(List.replicate m 255).toArray⟩)) 34 3 (by kernel_rfl) (by kernel_rfl) (by kernel_rfl)) Try.underlying22 histr hzstr hsstr, ?_⟩
  intro a w hk0 hb hd
  have d32 := fdone_of (hd 1 (by decide)) (t := 32) (V := isVal v) (by kernel_rfl) (by kernel_rfl)
  have d35 := fdone_of (hd 4 (by decide)) (t := 35) (V := isCells [strC (List.replicate m 255)]) (by kernel_rfl) (by kernel_rfl)
  obtain ⟨bb, off, cap, hs35, hlt, hc⟩ := d35.some_ (by simp)
  have hown2 := own_up hown hb
  have h6 : a.tmps.getD 6 undef = .pointer (some ⟨g, 0, none⟩) := (hk0.2.2 6 (by kernel_rfl)).trans e6
  have hz : a.tmps.size = 39 := hk0.2.1.trans hsz
  refine tail_op (fun _ _ => True) (OP := .call { callee := .builtin .append, args := #[.tmp 32, .tmp 35], argTypes := #[22, 22] }) (by kernel_rfl) (fun o ho e => ?_)
  have hdst : o.dst = some 36 := by have : (nw7Ops[5]?).map (·.dst) = some (some 36) := by kernel_rfl
                                    rw [ho] at this; simpa using this
  refine wp_append_own _ (.tmp 32) (.tmp 35) 22 e B 9 istr (.string ⟨#[]⟩) 1 16 Try.underlying22 histr hzstr hsstr hbstr rfl (by decide) v k (List.replicate k (strC (List.replicate m 255))) d32 hown2 ⟨bb, off, none⟩ 1 cap [strC (List.replicate m 255)] hs35 rfl (fun j u hu => ?_) (fun u hu => by simp at hu; subst hu; rfl) (by unfold maxLen; omega) (by omega) (Nat.le_trans hBs hb.size) (fun v' w1 ho1 hgr _ => ?_)
  · have := hc j u hu
    by_cases e0 : j = 0
    · subst e0; simpa [Addr.add] using this
    · simpa [Addr.add, e0] using this
  rw [hdst]
  have hB1 : Below B w0 w1 := (hb.mono hBs).trans ((Below.refl B w).grown hgr (Nat.le_trans hBs hb.size) (own_ge hown2))
  have hX1 := blk_low HX hB1 hgB
  refine tail_field 25 (.tmp 6) 0 ⟨g, 0, none⟩ ⟨g, 0, none⟩ 37 (by kernel_rfl) (by kernel_rfl) ((getD_put (by decide)).trans h6) (field_fl g 0 (by omega)) ?_
  refine tail_store 22 (.tmp 37) (.tmp 36) ⟨g, 0, none⟩ v' _ (by kernel_rfl) (by kernel_rfl) (getD_put_self (by rw [size_put, hz]; decide)) ((getD_put (by decide)).trans (getD_put_self (by rw [hz]; decide))) (by kernel_rfl) (own_cells ho1) (own_one' ho1) (hX1.cells.2 0 _ rfl) (hX1.free 0) ?_
  obtain ⟨y, ey⟩ := kept_ex hk0 [some 31, some 32, some 33, some 34, some 35, some 36, some 37, none] [31, 32, 33, 34, 35, 36, 37] (by kernel_rfl) (by decide)
  refine put_kept (put_ex ey) ?_
  refine hQ y v' w1 ?_ hB1
  rw [← List.replicate_append_replicate (n := k) (m := 1)] at *
  exact ho1
set_option maxRecDepth 100000 in
set_option maxHeartbeats 4000000 in
theorem rnew_no1 (n m : Int) (w : World) (h : n < 1) : Calls Try.prog 11 #[.int .i64 n, .int .i64 m] w fun e w' => ∃ v', e = .returned (.tuple #[v', .int .i64 1]) ∧ isFl ⟨[], [], 0, [], false⟩ v' w' ∧ Below w.heap.size w w' := by
  have HB := Kept.mk (lit_below w (.cells #[.slice none 0 0, .slice none 0 0, .int .i64 0, .string ⟨#[]⟩, .bool false] 25))
  have HR := Kept.mk (Blk.new w 25 [.slice none 0 0, .slice none 0 0, .int .i64 0, .string ⟨#[]⟩, .bool false] w.heap.size rfl)
  have d1 : decide (n < 1) = true := decide_eq_true (by omega)
  have K5 : Kept (Ones [.slice none 0 0, .slice none 0 0, .int .i64 0, .string ⟨#[]⟩, .bool false]) := ⟨⟨rfl, rfl, rfl, rfl, rfl, trivial⟩⟩
  have hbz := fun ws : World => run_build (P := Try.prog) ws 25 #[] _ built_zf
  go_enter Try.func11, Try.ntmps11
  go_wp2_with (have hz0 := K5; refine wpList_storeN 25 rfl (.tmp 4) (.tmp 22) rfl w.heap.size [.slice none 0 0, .slice none 0 0, .int .i64 0, .string ⟨#[]⟩, .bool false] size_fl rfl rfl HR.out.cells rfl HR.out.free K5.out ?_; clear hz0 K5)
  have B := below_setN (Nat.le_refl w.heap.size) [.slice none 0 0, .slice none 0 0, .int .i64 0, .string ⟨#[]⟩, .bool false] 0 _ HB.out
  exact bodyPost_ret (resultsN2 rfl _ _ w.heap.size _ (.int .i64 1) size_fl agg_fl rfl rfl (HR.out.all_ (l := [.slice none 0 0, .slice none 0 0, .int .i64 0, .string ⟨#[]⟩, .bool false]) rfl).cells) rfl ⟨_, rfl, ⟨_, _, rfl, .inl ⟨rfl, rfl⟩, .inl ⟨rfl, rfl⟩⟩, B⟩
set_option maxRecDepth 100000 in
set_option maxHeartbeats 4000000 in
theorem rnew_no2 (n m : Int) (w : World) (h0 : ¬ n < 1) (h : 6 < n) : Calls Try.prog 11 #[.int .i64 n, .int .i64 m] w fun e w' => ∃ v', e = .returned (.tuple #[v', .int .i64 1]) ∧ isFl ⟨[], [], 0, [], false⟩ v' w' ∧ Below w.heap.size w w' := by
  have HB := Kept.mk (lit_below w (.cells #[.slice none 0 0, .slice none 0 0, .int .i64 0, .string ⟨#[]⟩, .bool false] 25))
  have HR := Kept.mk (Blk.new w 25 [.slice none 0 0, .slice none 0 0, .int .i64 0, .string ⟨#[]⟩, .bool false] w.heap.size rfl)
  have d1 : decide (n < 1) = false := decide_eq_false (by omega)
  have d2 : decide (6 < n) = true := decide_eq_true (by omega)
  have K5 : Kept (Ones [.slice none 0 0, .slice none 0 0, .int .i64 0, .string ⟨#[]⟩, .bool false]) := ⟨⟨rfl, rfl, rfl, rfl, rfl, trivial⟩⟩
  have hbz := fun ws : World => run_build (P := Try.prog) ws 25 #[] _ built_zf
  go_enter Try.func11, Try.ntmps11
  go_wp2_with (have hz0 := K5; refine wpList_storeN 25 rfl (.tmp 4) (.tmp 22) rfl w.heap.size [.slice none 0 0, .slice none 0 0, .int .i64 0, .string ⟨#[]⟩, .bool false] size_fl rfl rfl HR.out.cells rfl HR.out.free K5.out ?_; clear hz0 K5)
  have B := below_setN (Nat.le_refl w.heap.size) [.slice none 0 0, .slice none 0 0, .int .i64 0, .string ⟨#[]⟩, .bool false] 0 _ HB.out
  exact bodyPost_ret (resultsN2 rfl _ _ w.heap.size _ (.int .i64 1) size_fl agg_fl rfl rfl (HR.out.all_ (l := [.slice none 0 0, .slice none 0 0, .int .i64 0, .string ⟨#[]⟩, .bool false]) rfl).cells) rfl ⟨_, rfl, ⟨_, _, rfl, .inl ⟨rfl, rfl⟩, .inl ⟨rfl, rfl⟩⟩, B⟩
set_option maxRecDepth 100000 in
set_option maxHeartbeats 4000000 in
theorem rnew_no3 (n m : Int) (w : World) (h0 : ¬ n < 1) (h1 : ¬ 6 < n) (h : m < 1) : Calls Try.prog 11 #[.int .i64 n, .int .i64 m] w fun e w' => ∃ v', e = .returned (.tuple #[v', .int .i64 1]) ∧ isFl ⟨[], [], 0, [], false⟩ v' w' ∧ Below w.heap.size w w' := by
  have HB := Kept.mk (lit_below w (.cells #[.slice none 0 0, .slice none 0 0, .int .i64 0, .string ⟨#[]⟩, .bool false] 25))
  have HR := Kept.mk (Blk.new w 25 [.slice none 0 0, .slice none 0 0, .int .i64 0, .string ⟨#[]⟩, .bool false] w.heap.size rfl)
  have d1 : decide (n < 1) = false := decide_eq_false (by omega)
  have d2 : decide (6 < n) = false := decide_eq_false (by omega)
  have d3 : decide (m < 1) = true := decide_eq_true (by omega)
  have K5 : Kept (Ones [.slice none 0 0, .slice none 0 0, .int .i64 0, .string ⟨#[]⟩, .bool false]) := ⟨⟨rfl, rfl, rfl, rfl, rfl, trivial⟩⟩
  have hbz := fun ws : World => run_build (P := Try.prog) ws 25 #[] _ built_zf
  go_enter Try.func11, Try.ntmps11
  go_wp2_with (have hz0 := K5; refine wpList_storeN 25 rfl (.tmp 4) (.tmp 22) rfl w.heap.size [.slice none 0 0, .slice none 0 0, .int .i64 0, .string ⟨#[]⟩, .bool false] size_fl rfl rfl HR.out.cells rfl HR.out.free K5.out ?_; clear hz0 K5)
  have B := below_setN (Nat.le_refl w.heap.size) [.slice none 0 0, .slice none 0 0, .int .i64 0, .string ⟨#[]⟩, .bool false] 0 _ HB.out
  exact bodyPost_ret (resultsN2 rfl _ _ w.heap.size _ (.int .i64 1) size_fl agg_fl rfl rfl (HR.out.all_ (l := [.slice none 0 0, .slice none 0 0, .int .i64 0, .string ⟨#[]⟩, .bool false]) rfl).cells) rfl ⟨_, rfl, ⟨_, _, rfl, .inl ⟨rfl, rfl⟩, .inl ⟨rfl, rfl⟩⟩, B⟩
set_option maxRecDepth 100000 in
set_option maxHeartbeats 4000000 in
theorem rnew_no4 (n m : Int) (w : World) (h0 : ¬ n < 1) (h1 : ¬ 6 < n) (h2 : ¬ m < 1) (h : 8192 < m) : Calls Try.prog 11 #[.int .i64 n, .int .i64 m] w fun e w' => ∃ v', e = .returned (.tuple #[v', .int .i64 1]) ∧ isFl ⟨[], [], 0, [], false⟩ v' w' ∧ Below w.heap.size w w' := by
  have HB := Kept.mk (lit_below w (.cells #[.slice none 0 0, .slice none 0 0, .int .i64 0, .string ⟨#[]⟩, .bool false] 25))
  have HR := Kept.mk (Blk.new w 25 [.slice none 0 0, .slice none 0 0, .int .i64 0, .string ⟨#[]⟩, .bool false] w.heap.size rfl)
  have d1 : decide (n < 1) = false := decide_eq_false (by omega)
  have d2 : decide (6 < n) = false := decide_eq_false (by omega)
  have d3 : decide (m < 1) = false := decide_eq_false (by omega)
  have d4 : decide (8192 < m) = true := decide_eq_true (by omega)
  have K5 : Kept (Ones [.slice none 0 0, .slice none 0 0, .int .i64 0, .string ⟨#[]⟩, .bool false]) := ⟨⟨rfl, rfl, rfl, rfl, rfl, trivial⟩⟩
  have hbz := fun ws : World => run_build (P := Try.prog) ws 25 #[] _ built_zf
  go_enter Try.func11, Try.ntmps11
  go_wp2_with (have hz0 := K5; refine wpList_storeN 25 rfl (.tmp 4) (.tmp 22) rfl w.heap.size [.slice none 0 0, .slice none 0 0, .int .i64 0, .string ⟨#[]⟩, .bool false] size_fl rfl rfl HR.out.cells rfl HR.out.free K5.out ?_; clear hz0 K5)
  have B := below_setN (Nat.le_refl w.heap.size) [.slice none 0 0, .slice none 0 0, .int .i64 0, .string ⟨#[]⟩, .bool false] 0 _ HB.out
  exact bodyPost_ret (resultsN2 rfl _ _ w.heap.size _ (.int .i64 1) size_fl agg_fl rfl rfl (HR.out.all_ (l := [.slice none 0 0, .slice none 0 0, .int .i64 0, .string ⟨#[]⟩, .bool false]) rfl).cells) rfl ⟨_, rfl, ⟨_, _, rfl, .inl ⟨rfl, rfl⟩, .inl ⟨rfl, rfl⟩⟩, B⟩
set_option maxRecDepth 100000 in
set_option maxHeartbeats 4000000 in
theorem rnew_yes (n m : Nat) (w : World) (h1 : 1 ≤ n) (h6 : n ≤ 6) (h2 : 1 ≤ m) (h3 : m ≤ 8192) : Calls Try.prog 11 #[.int .i64 (n : Int), .int .i64 (m : Int)] w fun e w' => ∃ v', e = .returned (.tuple #[v', .int .i64 0]) ∧ isFl ⟨List.replicate n (List.replicate m 255), List.replicate n 0, -1, [], false⟩ v' w' ∧ Below w.heap.size w w' := by
  have d1 : decide ((n : Int) < 1) = false := decide_eq_false (by omega)
  have d2 : decide (6 < (n : Int)) = false := decide_eq_false (by omega)
  have d3 : decide ((m : Int) < 1) = false := decide_eq_false (by omega)
  have d4 : decide (8192 < (m : Int)) = false := decide_eq_false (by omega)
  have hmk := fun W => run_make_row' (P := Try.prog) 23 3 (.int .i64 0) 8 Try.underlying23 Try.infoInt rfl .i64 .i64 n (by omega) (by omega) W
  have hbz := fun ws : World => run_build (P := Try.prog) ws 25 #[(1, .slice (some ⟨w.heap.size + 1, 0, none⟩) n n), (2, .int .i64 (-1))] _ (built_nf (w.heap.size + 1) n n)
  have hb0 := lit_below w (.cells #[.slice none 0 0, .slice none 0 0, .int .i64 0, .string ⟨#[]⟩, .bool false] 25)
  have hb1 := lit_below (w.alloc (.cells #[.slice none 0 0, .slice none 0 0, .int .i64 0, .string ⟨#[]⟩, .bool false] 25)) (.cells (madeCells #[Value.int .i64 0] n) 3)
  have hb2 := lit_below ((w.alloc (.cells #[.slice none 0 0, .slice none 0 0, .int .i64 0, .string ⟨#[]⟩, .bool false] 25)).alloc (.cells (madeCells #[Value.int .i64 0] n) 3)) (.cells #[.slice none 0 0, .slice (some ⟨w.heap.size + 1, 0, none⟩) n n, .int .i64 (-1), .string ⟨#[]⟩, .bool false] 25)
  have s0 : (w.alloc (.cells #[.slice none 0 0, .slice none 0 0, .int .i64 0, .string ⟨#[]⟩, .bool false] 25)).heap.size = w.heap.size + 1 := by simp
  have s1 : ((w.alloc (.cells #[.slice none 0 0, .slice none 0 0, .int .i64 0, .string ⟨#[]⟩, .bool false] 25)).alloc (.cells (madeCells #[Value.int .i64 0] n) 3)).heap.size = w.heap.size + 2 := by simp
  have s2 : (((w.alloc (.cells #[.slice none 0 0, .slice none 0 0, .int .i64 0, .string ⟨#[]⟩, .bool false] 25)).alloc (.cells (madeCells #[Value.int .i64 0] n) 3)).alloc (.cells #[.slice none 0 0, .slice (some ⟨w.heap.size + 1, 0, none⟩) n n, .int .i64 (-1), .string ⟨#[]⟩, .bool false] 25)).heap.size = w.heap.size + 3 := by simp
  have HRr := ((Blk.new w 25 [.slice none 0 0, .slice none 0 0, .int .i64 0, .string ⟨#[]⟩, .bool false] w.heap.size rfl).alloc (.cells (madeCells #[Value.int .i64 0] n) 3)).alloc (.cells #[.slice none 0 0, .slice (some ⟨w.heap.size + 1, 0, none⟩) n n, .int .i64 (-1), .string ⟨#[]⟩, .bool false] 25)
  have HG := Blk.new ((w.alloc (.cells #[.slice none 0 0, .slice none 0 0, .int .i64 0, .string ⟨#[]⟩, .bool false] 25)).alloc (.cells (madeCells #[Value.int .i64 0] n) 3)) 25 [.slice none 0 0, .slice (some ⟨w.heap.size + 1, 0, none⟩) n n, .int .i64 (-1), .string ⟨#[]⟩, .bool false] (w.heap.size + 2) s1.symm
  have hrow : ((w.alloc (.cells #[.slice none 0 0, .slice none 0 0, .int .i64 0, .string ⟨#[]⟩, .bool false] 25)).alloc (.cells (madeCells #[Value.int .i64 0] n) 3)).heap[w.heap.size + 1]? = some (.cells (madeCells #[Value.int .i64 0] n) 3 (0, 0)) := by
    have := heap_alloc_new (w.alloc (.cells #[.slice none 0 0, .slice none 0 0, .int .i64 0, .string ⟨#[]⟩, .bool false] 25)) (.cells (madeCells #[Value.int .i64 0] n) 3)
    rwa [s0] at this
  have hzr0 : isCells (List.replicate n (intC 0)) (.slice (some ⟨w.heap.size + 1, 0, none⟩) n n) ((w.alloc (.cells #[.slice none 0 0, .slice none 0 0, .int .i64 0, .string ⟨#[]⟩, .bool false] 25)).alloc (.cells (madeCells #[Value.int .i64 0] n) 3)) := .inr (.inr ⟨w.heap.size + 1, 0, n, by rw [List.length_replicate], by omega, fun j x hx => by
    have hj : j < n := by have := (List.getElem?_eq_some_iff.1 hx).1; rwa [List.length_replicate] at this
    have hx2 : x = intC 0 := by rw [List.getElem?_replicate, if_pos hj] at hx; exact (Option.some.inj hx).symm
    rw [Nat.zero_add, hx2]
    show ((w.alloc (.cells #[.slice none 0 0, .slice none 0 0, .int .i64 0, .string ⟨#[]⟩, .bool false] 25)).alloc (.cells (madeCells #[Value.int .i64 0] n) 3)).cell? ⟨w.heap.size + 1, j, none⟩ = _
    simp only [World.cell?, hrow]
    exact madeCells_get _ _ _ hj⟩)
  have hBW : Below w.heap.size w (((w.alloc (.cells #[.slice none 0 0, .slice none 0 0, .int .i64 0, .string ⟨#[]⟩, .bool false] 25)).alloc (.cells (madeCells #[Value.int .i64 0] n) 3)).alloc (.cells #[.slice none 0 0, .slice (some ⟨w.heap.size + 1, 0, none⟩) n n, .int .i64 (-1), .string ⟨#[]⟩, .bool false] 25)) := hb0.trans ((hb1.mono (by omega)).trans (hb2.mono (by omega)))
  have hzr := stable_cells _ _ _ _ hzr0 hb2
  have HB := Kept.mk hBW
  have HR := Kept.mk HRr
  have HX := Kept.mk HG
  have HZ := Kept.mk hzr
  have hs := s2
  clear hb0 hb1 hb2 s0 s1 HRr HG hrow hzr0 hBW hzr
  go_enter Try.func11, Try.ntmps11
  go_wp2_with fail
  generalize (((w.alloc (.cells #[.slice none 0 0, .slice none 0 0, .int .i64 0, .string ⟨#[]⟩, .bool false] 25)).alloc (.cells (madeCells #[Value.int .i64 0] n) 3)).alloc (.cells #[.slice none 0 0, .slice (some ⟨w.heap.size + 1, 0, none⟩) n n, .int .i64 (-1), .string ⟨#[]⟩, .bool false] 25)) = W0 at *
  have HS := Kept.mk hs
  go_loopw [7] (fun i wr => ∃ (k : Nat) (v : Value), k ≤ n ∧ i = .int .i64 (k : Int) ∧ Kept (Below w.heap.size w wr) ∧ Kept (Blk wr w.heap.size [.slice none 0 0, .slice none 0 0, .int .i64 0, .string ⟨#[]⟩, .bool false]) ∧ Kept (Blk wr (w.heap.size + 2) [v, .slice (some ⟨w.heap.size + 1, 0, none⟩) n n, .int .i64 (-1), .string ⟨#[]⟩, .bool false]) ∧ Kept (isCells (List.replicate n (intC 0)) (.slice (some ⟨w.heap.size + 1, 0, none⟩) n n) wr) ∧ Kept (wr.ownsRow (w.heap.size + 3) 9 1 v k (List.replicate k (strC (List.replicate m 255)))) ∧ Kept (w.heap.size + 3 ≤ wr.heap.size)) (fun i _ => n - (intOf i).toNat)
  case atStart => exact ⟨0, .slice none 0 0, Nat.zero_le _, rfl, HB, HR, HX, HZ, ⟨World.ownsRow_nil _ _ _ _⟩, ⟨by rw [hs]; exact Nat.le_refl _⟩⟩
  case round =>
    clear HB HR HX HZ HS hs
    obtain ⟨k, v, hk, rfl, HB, HR, HX, HZ, HO, HS⟩ := hrel
    by_cases hlt : k < n
    · have hlt' : (k : Int) < (n : Int) := by omega
      go_wp2_with fail
      refine nw7_region _ _ _ rfl (w.heap.size + 2) (w.heap.size + 3) k m v (.slice (some ⟨w.heap.size + 1, 0, none⟩) n n) HX.out HO.out (by omega) HS.out (by omega) h3 rfl rfl ?_
      intro y v' w1 ho1 hb1
      have hB1 := Kept.mk ((HB.out.trans (hb1.mono (by omega))).setCell (p := ⟨w.heap.size + 2, 0, none⟩) (by show w.heap.size ≤ w.heap.size + 2; omega) v')
      have hR1 := Kept.mk ((blk_low HR.out hb1 (by omega)).apart (b' := w.heap.size + 2) (by omega) 0 v')
      have hX1 := Kept.mk ((blk_low HX.out hb1 (by omega)).set 0 v' (by simp))
      have hZ1 := Kept.mk ((cells_low HZ.out hb1 (by intro b hb; cases hb; show w.heap.size + 1 < w.heap.size + 3; omega)).setCell_apart (w.heap.size + 2) 0 v' (by intro e; have e2 : w.heap.size + 1 = w.heap.size + 2 := Option.some.inj e; omega))
      have hO1 := Kept.mk (own_set ho1 (g := w.heap.size + 2) (by omega) 0 v')
      have hS1 := Kept.mk (show w.heap.size + 3 ≤ (w1.setCell ⟨w.heap.size + 2, 0, none⟩ v').heap.size by have := hb1.size; have := HS.out; simp; omega)
      clear ho1 hb1
      simp only [List.foldl_cons, List.foldl_nil]
      generalize w1.setCell ⟨w.heap.size + 2, 0, none⟩ v' = w2 at *
      generalize y 31 = z31
      generalize y 32 = z32
      generalize y 33 = z33
      generalize y 34 = z34
      generalize y 35 = z35
      generalize y 36 = z36
      generalize y 37 = z37
      simp only [List.setIfInBounds_toArray, List.set_cons_succ, List.set_cons_zero]
      clear y
      go_wp2
      go_roundw
      case rel => exact ⟨k + 1, v', by omega, by go_num, hB1, hR1, hX1, hZ1, hO1, hS1⟩
      case measure => simp [intOf]; omega
    · have hkn : n = k := by omega
      subst hkn
      have hlt' : ¬ (n : Int) < (n : Int) := by omega
      obtain ⟨va, vn, vc, rfl⟩ := own_sl HO.out
      have HP := Kept.mk (isCells_own HO.out)
      have kx0 := HX.out.cells.2 0 _ rfl
      have kx1 := HX.out.cells.2 1 _ rfl
      have kx2 := HX.out.cells.2 2 _ rfl
      have kx3 := HX.out.cells.2 3 _ rfl
      have kx4 := HX.out.cells.2 4 _ rfl
      have K5 : Kept (Ones [.slice va vn vc, .slice (some ⟨w.heap.size + 1, 0, none⟩) n n, .int .i64 (-1), .string ⟨#[]⟩, .bool false]) := ⟨⟨rfl, rfl, rfl, rfl, rfl, trivial⟩⟩
      have HE := Kept.mk (below_setN (Nat.le_refl w.heap.size) [.slice va vn vc, .slice (some ⟨w.heap.size + 1, 0, none⟩) n n, .int .i64 (-1), .string ⟨#[]⟩, .bool false] 0 _ HB.out)
      have HF := Kept.mk (HR.out.all_ (l := [.slice va vn vc, .slice (some ⟨w.heap.size + 1, 0, none⟩) n n, .int .i64 (-1), .string ⟨#[]⟩, .bool false]) rfl).cells
      have EP := Kept.mk (cells_apart HP.out (g := w.heap.size) (by rintro b off cap e hne rfl; have hge := own_ge HO.out w.heap.size (by rw [e]; rfl); omega) 0 [.slice va vn vc, .slice (some ⟨w.heap.size + 1, 0, none⟩) n n, .int .i64 (-1), .string ⟨#[]⟩, .bool false])
      have EQ := Kept.mk (cells_apart HZ.out (g := w.heap.size) (by rintro b off cap e hne rfl; injection e with e; injection e with e; injection e with e; omega) 0 [.slice va vn vc, .slice (some ⟨w.heap.size + 1, 0, none⟩) n n, .int .i64 (-1), .string ⟨#[]⟩, .bool false])
      clear HB HX HZ HO HP HS
      go_wp2_with (have hz0 := K5; refine wpList_storeN 25 rfl (.tmp 4) (.tmp 38) rfl w.heap.size [.slice va vn vc, .slice (some ⟨w.heap.size + 1, 0, none⟩) n n, .int .i64 (-1), .string ⟨#[]⟩, .bool false] size_fl rfl rfl HR.out.cells rfl HR.out.free K5.out ?_; clear hz0 K5 kx0 kx1 kx2 kx3 kx4)
      exact bodyPost_ret (resultsN2 rfl _ _ w.heap.size _ (.int .i64 0) size_fl agg_fl rfl rfl HF.out) rfl ⟨_, rfl, ⟨_, _, rfl, by rw [List.map_replicate]; exact EP.out, by rw [List.map_replicate]; exact EQ.out⟩, HE.out⟩
theorem rnew_any (n m : Int) (w : World) : Calls Try.prog 11 #[.int .i64 n, .int .i64 m] w fun e w' => ∃ v', e = .returned (.tuple #[v', .int .i64 (newE n m)]) ∧ isFl (newF n m) v' w' ∧ Below w.heap.size w w' := by
  by_cases h1 : n < 1
  · have hb : newB n m = false := by simp [newB]; omega
    rw [show newE n m = 1 by simp [newE, hb], show newF n m = ⟨[], [], 0, [], false⟩ by simp [newF, hb]]
    exact rnew_no1 n m w h1
  by_cases h2 : 6 < n
  · have hb : newB n m = false := by simp [newB]; omega
    rw [show newE n m = 1 by simp [newE, hb], show newF n m = ⟨[], [], 0, [], false⟩ by simp [newF, hb]]
    exact rnew_no2 n m w h1 h2
  by_cases h3 : m < 1
  · have hb : newB n m = false := by simp [newB]; omega
    rw [show newE n m = 1 by simp [newE, hb], show newF n m = ⟨[], [], 0, [], false⟩ by simp [newF, hb]]
    exact rnew_no3 n m w h1 h2 h3
  by_cases h4 : 8192 < m
  · have hb : newB n m = false := by simp [newB]; omega
    rw [show newE n m = 1 by simp [newE, hb], show newF n m = ⟨[], [], 0, [], false⟩ by simp [newF, hb]]
    exact rnew_no4 n m w h1 h2 h3 h4
  have hb : newB n m = true := by simp [newB]; omega
  obtain ⟨a, rfl⟩ := Int.eq_ofNat_of_zero_le (show 0 ≤ n by omega)
  obtain ⟨b, rfl⟩ := Int.eq_ofNat_of_zero_le (show 0 ≤ m by omega)
  rw [show newE a b = 0 by simp [newE, hb], show newF a b = ⟨List.replicate a (List.replicate b 255), List.replicate a 0, -1, [], false⟩ by simp [newF, hb]]
  exact rnew_yes a b w (by omega) (by omega) (by omega) (by omega)
end Go.Proofs.Ytpjafjnokgeifaa
end
section
namespace Go.Proofs.Ytpjafjnokgeifaa
open Go.RowKit
set_option linter.unusedVariables false
set_option linter.unusedSimpArgs false
attribute [local irreducible] setN
theorem cxor (s t : List UInt8) (w : World) (hs : s.length ≤ 1000000) (ht : t.length ≤ 1000000) : Calls Try.prog 50 #[.string ⟨s.toArray⟩, .string ⟨t.toArray⟩] w fun e w' => ∃ v, e = .returned v ∧ isVal (.string ⟨(pairL (· ^^^ ·) s t).toArray⟩) v w' ∧ Below w.heap.size w w' :=
  (refXor_any ⟨s.toArray⟩ ⟨t.toArray⟩ w (by rw [size_mk]; exact hs) (by rw [size_mk]; exact ht)).mono (by
    rintro e w' ⟨rfl, hb⟩
    exact ⟨_, rfl, rfl, hb⟩)
theorem xor_zeros : ∀ (m : Nat) (was turn : List UInt8), m ≤ was.length → pairL (· ^^^ ·) was (List.replicate m 0 ++ turn) = rotL was m turn
  | 0, was, turn, _ => by unfold rotL; simp
  | m + 1, [], turn, h => by simp at h
  | m + 1, b :: was, turn, h => by
    have ih := xor_zeros m was turn (by simpa using h)
    unfold rotL at ih ⊢
    rw [List.replicate_succ, List.cons_append, List.take_succ_cons, List.drop_succ_cons, List.cons_append, ← ih]
    show (b ^^^ 0) :: _ = _
    rw [show b ^^^ 0 = b by simp]
noncomputable def rt3Ops : Array Oper := regionOf Try.f15 3
set_option maxRecDepth 100000 in
set_option maxHeartbeats 4000000 in
theorem rt3_region (Qq : Exit → Act → World → Prop) (a0 : Act) (w0 : World) (hsz : a0.tmps.size = 61) (F : Fl) (k : Nat) (was : List UInt8) (b off np cap b2 r : Nat) (vw : Value) (HX : Blk w0 b2 [.slice (some ⟨b, off, none⟩) np cap, vw, .int .i64 F.fuse, .string ⟨F.torn.toArray⟩, .bool F.dead]) (HR : Blk w0 r [.slice none 0 0, .slice none 0 0, .int .i64 0, .string ⟨#[]⟩, .bool false]) (hp : isCells (F.pages.map strC) (.slice (some ⟨b, off, none⟩) np cap) w0) (hq : isCells (F.wear.map intC) vw w0) (hoq : Off r (F.wear.map intC) vw) (hk : k < F.pages.length) (hpl : F.pages.length ≤ 6) (hcell : w0.cell? ⟨b, off + k, none⟩ = some (.string ⟨was.toArray⟩)) (hblt : b < w0.heap.size) (hkn : k < np) (hwl : was.length ≤ 8192) (e1 : a0.tmps.getD 1 undef = .int .i64 (k : Int)) (e2 : a0.tmps.getD 4 undef = .pointer (some ⟨b2, 0, none⟩)) (er : a0.tmps.getD 8 undef = .pointer (some ⟨r, 0, none⟩)) (m : Nat) (turn : List UInt8) (hm8 : m ≤ 8192) (htl : turn.length ≤ 1000) (em : a0.tmps.getD 2 undef = .int .i64 (m : Int)) (et : a0.tmps.getD 3 undef = .string ⟨turn.toArray⟩)
    (hQ : ∀ (y : Nat → Value) (p q : Value) (w : World), isCells ((F.pages.set k (pairL (· ^^^ ·) was (List.replicate m 0 ++ turn))).map strC) p w → isCells (F.wear.map intC) q w → Off r ((F.pages.set k (pairL (· ^^^ ·) was (List.replicate m 0 ++ turn))).map strC) p → Off r (F.wear.map intC) q → Below w0.heap.size w0 w → Qq .normal { tmps := ([47, 48, 49, 50, 51, 52, 53, 54, 55, 56, 57, 58, 59, 60, 9].foldl (fun t s => t.setIfInBounds s (y s)) a0.tmps).setIfInBounds 9 (.int .i64 0), defers := a0.defers } (setN w r 0 [p, q, .int .i64 (F.fuse), .string ⟨F.torn.toArray⟩, .bool F.dead])) :
    (Code.region 3 rt3Ops true).wp Try.prog Qq a0 w0 := by
  refine wp_region_cov 14 mixed (by rw [hsz]; kernel_rfl) (by kernel_rfl) ?_
  rw [show rt3Ops.size - 14 = 2 by kernel_rfl]
  refine ⟨isVal (.agg #[.slice (some ⟨b, off, none⟩) np cap, vw, .int .i64 F.fuse, .string ⟨F.torn.toArray⟩, .bool F.dead]), step_loadN 25 (.tmp 4) (b2) [.slice (some ⟨b, off, none⟩) np cap, vw, .int .i64 F.fuse, .string ⟨F.torn.toArray⟩, .bool F.dead] (by kernel_rfl) (wanted_none (by kernel_rfl)) (knows_old 4 (.pointer (some ⟨b2, 0, none⟩)) (by kernel_rfl) e2) size_fl agg_fl HX.cells, ?_⟩
  refine ⟨isVal (.int .i64 (k : Int)), step_move (.tmp 1) (by kernel_rfl) (wanted_none (by kernel_rfl)) (stable_val _) (knows_old 1 (.int .i64 (k : Int)) (by kernel_rfl) e1), ?_⟩
  refine ⟨isVal (.pointer (some ⟨b2, 0, none⟩)), step_field 25 (.tmp 4) 0 ⟨b2, 0, none⟩ ⟨b2, 0, none⟩ (by kernel_rfl) (wanted_none (by kernel_rfl)) (knows_old 4 (.pointer (some ⟨b2, 0, none⟩)) (by kernel_rfl) e2) (field_fl b2 0 (by omega)), ?_⟩
  refine ⟨isVal (.slice (some ⟨b, off, none⟩) np cap), step_read 22 (.tmp 49) ⟨b2, 0, none⟩ (.slice (some ⟨b, off, none⟩) np cap) (by kernel_rfl) (wanted_none (by kernel_rfl)) (knows_new (V := isVal (.pointer (some ⟨b2, 0, none⟩))) 49 2 (by kernel_rfl) (by kernel_rfl) (by kernel_rfl)) (HX.cells.2 0 _ rfl) HX.lt agg_strs, ?_⟩
  refine ⟨isVal (.int .i64 (k : Int)), step_move (.tmp 1) (by kernel_rfl) (wanted_none (by kernel_rfl)) (stable_val _) (knows_old 1 (.int .i64 (k : Int)) (by kernel_rfl) e1), ?_⟩
  refine ⟨isVal (.pointer (some ⟨b, off + k, none⟩)), step_place 22 9 (.tmp 50) (.tmp 51) b off np cap k (by kernel_rfl) (wanted_none (by kernel_rfl)) (knows_new (V := isVal (.slice (some ⟨b, off, none⟩) np cap)) 50 3 (by kernel_rfl) (by kernel_rfl) (by kernel_rfl)) (knows_new (V := isVal (.int .i64 (k : Int))) 51 4 (by kernel_rfl) (by kernel_rfl) (by kernel_rfl)) Try.underlying22 (by kernel_rfl) hkn, ?_⟩
  refine ⟨isVal (.string ⟨was.toArray⟩), step_read 9 (.tmp 52) ⟨b, off + k, none⟩ (.string ⟨was.toArray⟩) (by kernel_rfl) (wanted_none (by kernel_rfl)) (knows_new (V := isVal (.pointer (some ⟨b, off + k, none⟩))) 52 5 (by kernel_rfl) (by kernel_rfl) (by kernel_rfl)) hcell hblt agg_str, ?_⟩
  refine ⟨isVal (.int .i64 (m : Int)), step_move (.tmp 2) (by kernel_rfl) (wanted_none (by kernel_rfl)) (stable_val _) (knows_old 2 (.int .i64 (m : Int)) (by kernel_rfl) em), ?_⟩
  refine ⟨isRow (List.replicate m 0), step_make 46 5 (.tmp 54) m (by kernel_rfl) (wanted_none (by kernel_rfl)) (knows_new (V := isVal (.int .i64 (m : Int))) 54 7 (by kernel_rfl) (by kernel_rfl) (by kernel_rfl)) Try.underlying46 Try.infoU8 (by omega), ?_⟩
  refine ⟨isVal (.string ⟨(List.replicate m 0).toArray⟩), step_convRow 46 9 5 (.tmp 55) (List.replicate m 0) (by kernel_rfl) (wanted_none (by kernel_rfl)) (knows_new (V := isRow (List.replicate m 0)) 55 8 (by kernel_rfl) (by kernel_rfl) (by kernel_rfl)) Try.underlying46 Try.underlying5 Try.underlying9, ?_⟩
  refine ⟨isVal (.string ⟨turn.toArray⟩), step_move (.tmp 3) (by kernel_rfl) (wanted_none (by kernel_rfl)) (stable_val _) (knows_old 3 (.string ⟨turn.toArray⟩) (by kernel_rfl) et), ?_⟩
  refine ⟨isVal (.string ⟨((List.replicate m 0) ++ turn).toArray⟩), step_bin .add 9 9 (.tmp 56) (.tmp 57) (.string ⟨(List.replicate m 0).toArray⟩) (.string ⟨turn.toArray⟩) (.string ⟨((List.replicate m 0) ++ turn).toArray⟩) (by kernel_rfl) (wanted_none (by kernel_rfl)) (knows_new (V := isVal (.string ⟨(List.replicate m 0).toArray⟩)) 56 9 (by kernel_rfl) (by kernel_rfl) (by kernel_rfl)) (knows_new (V := isVal (.string ⟨turn.toArray⟩)) 57 10 (by kernel_rfl) (by kernel_rfl) (by kernel_rfl)) (fun _ => rfl) (fun W => run_string_add_lists W (List.replicate m 0) turn (by first | (rw [List.length_replicate]; omega) | omega) (by first | (rw [List.length_replicate]; omega) | omega)), ?_⟩
  refine ⟨isVal (.string ⟨(pairL (· ^^^ ·) was (List.replicate m 0 ++ turn)).toArray⟩), step_call 50 #[.tmp 53, .tmp 58] #[9, 9] #[.string ⟨was.toArray⟩, .string ⟨((List.replicate m 0) ++ turn).toArray⟩] (by kernel_rfl) (wanted_none (by kernel_rfl)) (stable_val _) (args2 (.tmp 53) (.tmp 58) (.string ⟨was.toArray⟩) (.string ⟨((List.replicate m 0) ++ turn).toArray⟩) (knows_new (V := isVal (.string ⟨was.toArray⟩)) 53 6 (by kernel_rfl) (by kernel_rfl) (by kernel_rfl)) (knows_new (V := isVal (.string ⟨((List.replicate m 0) ++ turn).toArray⟩)) 58 11 (by kernel_rfl) (by kernel_rfl) (by kernel_rfl))) (enters_of Try.func50 (by kernel_rfl) rfl) (by intro w hb; exact cxor was (List.replicate m 0 ++ turn) w (by omega) (by rw [List.length_append, List.length_replicate]; omega)), ?_⟩
  refine ⟨(isW r ((F.pages.set k (pairL (· ^^^ ·) was (List.replicate m 0 ++ turn))).map strC) (F.wear.map intC) (F.fuse) F.torn F.dead), step_call 49 #[.tmp 47, .tmp 48, .tmp 59] #[25, 3, 9] #[.agg #[.slice (some ⟨b, off, none⟩) np cap, vw, .int .i64 F.fuse, .string ⟨F.torn.toArray⟩, .bool F.dead], .int .i64 (k : Int), .string ⟨(pairL (· ^^^ ·) was (List.replicate m 0 ++ turn)).toArray⟩] (by kernel_rfl) (wanted_none (by kernel_rfl)) (stable_W _ _ _ _ _ _) (args3 (.tmp 47) (.tmp 48) (.tmp 59) (.agg #[.slice (some ⟨b, off, none⟩) np cap, vw, .int .i64 F.fuse, .string ⟨F.torn.toArray⟩, .bool F.dead]) (.int .i64 (k : Int)) (.string ⟨(pairL (· ^^^ ·) was (List.replicate m 0 ++ turn)).toArray⟩) (knows_new (V := isVal (.agg #[.slice (some ⟨b, off, none⟩) np cap, vw, .int .i64 F.fuse, .string ⟨F.torn.toArray⟩, .bool F.dead])) 47 0 (by kernel_rfl) (by kernel_rfl) (by kernel_rfl)) (knows_new (V := isVal (.int .i64 (k : Int))) 48 1 (by kernel_rfl) (by kernel_rfl) (by kernel_rfl)) (knows_new (V := isVal (.string ⟨(pairL (· ^^^ ·) was (List.replicate m 0 ++ turn)).toArray⟩)) 59 12 (by kernel_rfl) (by kernel_rfl) (by kernel_rfl))) (enters_of Try.func49 (by kernel_rfl) rfl) (by intro w hb; exact cwith F k r (pairL (· ^^^ ·) was (List.replicate m 0 ++ turn)) (.slice (some ⟨b, off, none⟩) np cap) vw w (stable_cells _ _ _ _ hp hb) (stable_cells _ _ _ _ hq hb) hk hpl hoq (Nat.lt_of_lt_of_le HR.lt hb.size)), ?_⟩
  intro x w hkp hb hd
  obtain ⟨p, q, dv, hcp, hcq, ho1, ho2⟩ := fdone_of (hd 13 (by decide)) (t := 60) (V := (isW r ((F.pages.set k (pairL (· ^^^ ·) was (List.replicate m 0 ++ turn))).map strC) (F.wear.map intC) (F.fuse) F.torn F.dead)) (by kernel_rfl) (by kernel_rfl)
  replace dv : x.eval (.tmp 60) = _ := dv
  have dr : x.eval (.tmp 8) = .pointer (some ⟨r, 0, none⟩) := (hkp.2.2 8 (by kernel_rfl)).trans er
  have hr2 := HR.keep hb
  refine tail_storeN 25 (.tmp 8) (.tmp 60) r [p, q, .int .i64 (F.fuse), .string ⟨F.torn.toArray⟩, .bool F.dead] _ (by kernel_rfl) (by kernel_rfl) size_fl dr dv hr2.cells rfl hr2.free ⟨hcp.one, hcq.one, rfl, rfl, rfl, trivial⟩ ?_
  refine tail_assign (.const (.int .i64 0)) 9 _ (by kernel_rfl) (by kernel_rfl) rfl ?_
  obtain ⟨y, ey⟩ := kept_ex hkp [some 47, some 48, some 49, some 50, some 51, some 52, some 53, some 54, some 55, some 56, some 57, some 58, some 59, some 60, none, some 9] [47, 48, 49, 50, 51, 52, 53, 54, 55, 56, 57, 58, 59, 60, 9] (by kernel_rfl) (by decide)
  exact put_kept ey (hQ y p q w hcp hcq ho1 ho2 hb)
set_option maxRecDepth 100000 in
set_option maxHeartbeats 4000000 in
theorem rrot_no1 (F : Fl) (n : Int) (at_ : Int) (turn : List UInt8) (v : Value) (w : World) (hv : isFl F v w) (hf : FewF F) (hs : turn.length ≤ 1000000) (hm : hasB F n = false) :
    Calls Try.prog 15 #[v, .int .i64 n, .int .i64 at_, .string ⟨turn.toArray⟩] w fun e w' => ∃ v', e = .returned (.tuple #[v', .int .i64 1]) ∧ isFl F v' w' ∧ Below w.heap.size w w' := by
  obtain ⟨vp, vw, rfl, hpp, hqq⟩ := hv
  have o1 := hpp.one
  have o2 := hqq.one
  have HP := Kept.mk hpp
  have HQ := Kept.mk hqq
  have hb0 := (lit_below w (.cells #[vp, vw, .int .i64 F.fuse, .string ⟨F.torn.toArray⟩, .bool F.dead] 25)).trans ((lit_below (w.alloc (.cells #[vp, vw, .int .i64 F.fuse, .string ⟨F.torn.toArray⟩, .bool F.dead] 25)) (.cells #[.slice none 0 0, .slice none 0 0, .int .i64 0, .string ⟨#[]⟩, .bool false] 25)).mono (lit_below w (.cells #[vp, vw, .int .i64 F.fuse, .string ⟨F.torn.toArray⟩, .bool F.dead] 25)).size)
  have HB := Kept.mk hb0
  have HX := Kept.mk ((Blk.new w 25 [vp, vw, .int .i64 F.fuse, .string ⟨F.torn.toArray⟩, .bool F.dead] w.heap.size rfl).alloc (.cells #[.slice none 0 0, .slice none 0 0, .int .i64 0, .string ⟨#[]⟩, .bool false] 25))
  have HR := Kept.mk (Blk.new (w.alloc (.cells #[vp, vw, .int .i64 F.fuse, .string ⟨F.torn.toArray⟩, .bool F.dead] 25)) 25 [.slice none 0 0, .slice none 0 0, .int .i64 0, .string ⟨#[]⟩, .bool false] (w.heap.size + 1) (by simp))
  have HV := Kept.mk (show isFl F (.agg #[vp, vw, .int .i64 F.fuse, .string ⟨F.torn.toArray⟩, .bool F.dead]) ((w.alloc (.cells #[vp, vw, .int .i64 F.fuse, .string ⟨F.torn.toArray⟩, .bool F.dead] 25)).alloc (.cells #[.slice none 0 0, .slice none 0 0, .int .i64 0, .string ⟨#[]⟩, .bool false] 25)) from ⟨vp, vw, rfl, stable_cells _ _ _ _ hpp hb0, stable_cells _ _ _ _ hqq hb0⟩)
  have hs0 : ((w.alloc (.cells #[vp, vw, .int .i64 F.fuse, .string ⟨F.torn.toArray⟩, .bool F.dead] 25)).alloc (.cells #[.slice none 0 0, .slice none 0 0, .int .i64 0, .string ⟨#[]⟩, .bool false] 25)).heap.size = w.heap.size + 2 := by simp
  clear hb0 hpp hqq
  show Calls Try.prog 15 #[.agg #[vp, vw, .int .i64 F.fuse, .string ⟨F.torn.toArray⟩, .bool F.dead], .int .i64 n, .int .i64 at_, .string ⟨turn.toArray⟩] w _
  have HM := Kept.mk hm
  clear hm
  go_enter Try.func15, Try.ntmps15
  go_wp2_with fail
  generalize ((w.alloc (.cells #[vp, vw, .int .i64 F.fuse, .string ⟨F.torn.toArray⟩, .bool F.dead] 25)).alloc (.cells #[.slice none 0 0, .slice none 0 0, .int .i64 0, .string ⟨#[]⟩, .bool false] 25)) = W at *
  refine (rpage_any F n _ W HV.out hf).mono ?_
  rintro e W1 ⟨rfl, hb⟩
  rewrite [HM.out]
  have hs1 := hb.size
  replace HX := Kept.mk (HX.out.keep hb)
  replace HR := Kept.mk (HR.out.keep hb)
  replace HB := Kept.mk (HB.out.trans (hb.mono HB.out.size))
  clear hb
  have kx0 := HX.out.cells.2 0 _ rfl
  have kx1 := HX.out.cells.2 1 _ rfl
  have kx2 := HX.out.cells.2 2 _ rfl
  have kx3 := HX.out.cells.2 3 _ rfl
  have kx4 := HX.out.cells.2 4 _ rfl
  have fx0 := HX.out.free 0
  have fx1 := HX.out.free 1
  have fx2 := HX.out.free 2
  have fx3 := HX.out.free 3
  have fx4 := HX.out.free 4
  have HR2 := HR
  have HB2 := HB
  have K5 : Kept (Ones [vp, vw, .int .i64 F.fuse, .string ⟨F.torn.toArray⟩, .bool F.dead]) := ⟨⟨o1, o2, rfl, rfl, rfl, trivial⟩⟩
  go_wp2_with (have hz1 := K5; refine wpList_storeN 25 rfl (.tmp 8) (.tmp 46) rfl (w.heap.size + 1) [vp, vw, .int .i64 F.fuse, .string ⟨F.torn.toArray⟩, .bool F.dead] size_fl rfl rfl HR2.out.cells rfl HR2.out.free K5.out ?_; clear hz1 K5)
  have B := below_setN (show w.heap.size ≤ w.heap.size + 1 by omega) [vp, vw, .int .i64 F.fuse, .string ⟨F.torn.toArray⟩, .bool F.dead] 0 _ HB2.out
  exact bodyPost_ret (resultsN2 rfl _ _ (w.heap.size + 1) _ (.int .i64 1) size_fl agg_fl rfl rfl (HR2.out.all_ (l := [vp, vw, .int .i64 F.fuse, .string ⟨F.torn.toArray⟩, .bool F.dead]) rfl).cells) rfl ⟨_, rfl, ⟨vp, vw, rfl, stable_cells _ _ _ _ HP.out B, stable_cells _ _ _ _ HQ.out B⟩, B⟩
set_option maxRecDepth 100000 in
set_option maxHeartbeats 4000000 in
theorem rrot_no2 (F : Fl) (k : Nat) (at_ : Int) (turn : List UInt8) (v : Value) (w : World) (hv : isFl F v w) (hf : FewF F) (hs : turn.length ≤ 1000000) (hm : hasB F (k : Int) = true) (h4 : 4 < turn.length) :
    Calls Try.prog 15 #[v, .int .i64 (k : Int), .int .i64 at_, .string ⟨turn.toArray⟩] w fun e w' => ∃ v', e = .returned (.tuple #[v', .int .i64 1]) ∧ isFl F v' w' ∧ Below w.heap.size w w' := by
  obtain ⟨vp, vw, rfl, hpp, hqq⟩ := hv
  have o1 := hpp.one
  have o2 := hqq.one
  have HP := Kept.mk hpp
  have HQ := Kept.mk hqq
  have hb0 := (lit_below w (.cells #[vp, vw, .int .i64 F.fuse, .string ⟨F.torn.toArray⟩, .bool F.dead] 25)).trans ((lit_below (w.alloc (.cells #[vp, vw, .int .i64 F.fuse, .string ⟨F.torn.toArray⟩, .bool F.dead] 25)) (.cells #[.slice none 0 0, .slice none 0 0, .int .i64 0, .string ⟨#[]⟩, .bool false] 25)).mono (lit_below w (.cells #[vp, vw, .int .i64 F.fuse, .string ⟨F.torn.toArray⟩, .bool F.dead] 25)).size)
  have HB := Kept.mk hb0
  have HX := Kept.mk ((Blk.new w 25 [vp, vw, .int .i64 F.fuse, .string ⟨F.torn.toArray⟩, .bool F.dead] w.heap.size rfl).alloc (.cells #[.slice none 0 0, .slice none 0 0, .int .i64 0, .string ⟨#[]⟩, .bool false] 25))
  have HR := Kept.mk (Blk.new (w.alloc (.cells #[vp, vw, .int .i64 F.fuse, .string ⟨F.torn.toArray⟩, .bool F.dead] 25)) 25 [.slice none 0 0, .slice none 0 0, .int .i64 0, .string ⟨#[]⟩, .bool false] (w.heap.size + 1) (by simp))
  have HV := Kept.mk (show isFl F (.agg #[vp, vw, .int .i64 F.fuse, .string ⟨F.torn.toArray⟩, .bool F.dead]) ((w.alloc (.cells #[vp, vw, .int .i64 F.fuse, .string ⟨F.torn.toArray⟩, .bool F.dead] 25)).alloc (.cells #[.slice none 0 0, .slice none 0 0, .int .i64 0, .string ⟨#[]⟩, .bool false] 25)) from ⟨vp, vw, rfl, stable_cells _ _ _ _ hpp hb0, stable_cells _ _ _ _ hqq hb0⟩)
  have hs0 : ((w.alloc (.cells #[vp, vw, .int .i64 F.fuse, .string ⟨F.torn.toArray⟩, .bool F.dead] 25)).alloc (.cells #[.slice none 0 0, .slice none 0 0, .int .i64 0, .string ⟨#[]⟩, .bool false] 25)).heap.size = w.heap.size + 2 := by simp
  clear hb0 hpp hqq
  show Calls Try.prog 15 #[.agg #[vp, vw, .int .i64 F.fuse, .string ⟨F.torn.toArray⟩, .bool F.dead], .int .i64 (k : Int), .int .i64 at_, .string ⟨turn.toArray⟩] w _
  have HM := Kept.mk hm
  clear hm
  have hss : (⟨turn.toArray⟩ : ByteArray).size = turn.length := size_mk turn
  have d0 : decide ((4 : Int) < (turn.length : Int)) = true := decide_eq_true (by omega)
  go_enter Try.func15, Try.ntmps15
  go_wp2_with fail
  generalize ((w.alloc (.cells #[vp, vw, .int .i64 F.fuse, .string ⟨F.torn.toArray⟩, .bool F.dead] 25)).alloc (.cells #[.slice none 0 0, .slice none 0 0, .int .i64 0, .string ⟨#[]⟩, .bool false] 25)) = W at *
  refine (rpage_any F k _ W HV.out hf).mono ?_
  rintro e W1 ⟨rfl, hb⟩
  rewrite [HM.out]
  have hs1 := hb.size
  replace HX := Kept.mk (HX.out.keep hb)
  replace HR := Kept.mk (HR.out.keep hb)
  replace HB := Kept.mk (HB.out.trans (hb.mono HB.out.size))
  clear hb
  have kx0 := HX.out.cells.2 0 _ rfl
  have kx1 := HX.out.cells.2 1 _ rfl
  have kx2 := HX.out.cells.2 2 _ rfl
  have kx3 := HX.out.cells.2 3 _ rfl
  have kx4 := HX.out.cells.2 4 _ rfl
  have fx0 := HX.out.free 0
  have fx1 := HX.out.free 1
  have fx2 := HX.out.free 2
  have fx3 := HX.out.free 3
  have fx4 := HX.out.free 4
  have HR2 := HR
  have HB2 := HB
  have K5 : Kept (Ones [vp, vw, .int .i64 F.fuse, .string ⟨F.torn.toArray⟩, .bool F.dead]) := ⟨⟨o1, o2, rfl, rfl, rfl, trivial⟩⟩
  go_wp2_with (have hz1 := K5; refine wpList_storeN 25 rfl (.tmp 8) (.tmp 46) rfl (w.heap.size + 1) [vp, vw, .int .i64 F.fuse, .string ⟨F.torn.toArray⟩, .bool F.dead] size_fl rfl rfl HR2.out.cells rfl HR2.out.free K5.out ?_; clear hz1 K5)
  have B := below_setN (show w.heap.size ≤ w.heap.size + 1 by omega) [vp, vw, .int .i64 F.fuse, .string ⟨F.torn.toArray⟩, .bool F.dead] 0 _ HB2.out
  exact bodyPost_ret (resultsN2 rfl _ _ (w.heap.size + 1) _ (.int .i64 1) size_fl agg_fl rfl rfl (HR2.out.all_ (l := [vp, vw, .int .i64 F.fuse, .string ⟨F.torn.toArray⟩, .bool F.dead]) rfl).cells) rfl ⟨_, rfl, ⟨vp, vw, rfl, stable_cells _ _ _ _ HP.out B, stable_cells _ _ _ _ HQ.out B⟩, B⟩
set_option maxRecDepth 100000 in
set_option maxHeartbeats 4000000 in
theorem rrot_no3 (F : Fl) (k : Nat) (at_ : Int) (turn : List UInt8) (v : Value) (w : World) (hv : isFl F v w) (hf : FewF F) (hs : turn.length ≤ 1000000) (hm : hasB F (k : Int) = true) (h4 : turn.length ≤ 4) (h0 : at_ < 0) :
    Calls Try.prog 15 #[v, .int .i64 (k : Int), .int .i64 at_, .string ⟨turn.toArray⟩] w fun e w' => ∃ v', e = .returned (.tuple #[v', .int .i64 1]) ∧ isFl F v' w' ∧ Below w.heap.size w w' := by
  obtain ⟨vp, vw, rfl, hpp, hqq⟩ := hv
  have o1 := hpp.one
  have o2 := hqq.one
  have HP := Kept.mk hpp
  have HQ := Kept.mk hqq
  have hb0 := (lit_below w (.cells #[vp, vw, .int .i64 F.fuse, .string ⟨F.torn.toArray⟩, .bool F.dead] 25)).trans ((lit_below (w.alloc (.cells #[vp, vw, .int .i64 F.fuse, .string ⟨F.torn.toArray⟩, .bool F.dead] 25)) (.cells #[.slice none 0 0, .slice none 0 0, .int .i64 0, .string ⟨#[]⟩, .bool false] 25)).mono (lit_below w (.cells #[vp, vw, .int .i64 F.fuse, .string ⟨F.torn.toArray⟩, .bool F.dead] 25)).size)
  have HB := Kept.mk hb0
  have HX := Kept.mk ((Blk.new w 25 [vp, vw, .int .i64 F.fuse, .string ⟨F.torn.toArray⟩, .bool F.dead] w.heap.size rfl).alloc (.cells #[.slice none 0 0, .slice none 0 0, .int .i64 0, .string ⟨#[]⟩, .bool false] 25))
  have HR := Kept.mk (Blk.new (w.alloc (.cells #[vp, vw, .int .i64 F.fuse, .string ⟨F.torn.toArray⟩, .bool F.dead] 25)) 25 [.slice none 0 0, .slice none 0 0, .int .i64 0, .string ⟨#[]⟩, .bool false] (w.heap.size + 1) (by simp))
  have HV := Kept.mk (show isFl F (.agg #[vp, vw, .int .i64 F.fuse, .string ⟨F.torn.toArray⟩, .bool F.dead]) ((w.alloc (.cells #[vp, vw, .int .i64 F.fuse, .string ⟨F.torn.toArray⟩, .bool F.dead] 25)).alloc (.cells #[.slice none 0 0, .slice none 0 0, .int .i64 0, .string ⟨#[]⟩, .bool false] 25)) from ⟨vp, vw, rfl, stable_cells _ _ _ _ hpp hb0, stable_cells _ _ _ _ hqq hb0⟩)
  have hs0 : ((w.alloc (.cells #[vp, vw, .int .i64 F.fuse, .string ⟨F.torn.toArray⟩, .bool F.dead] 25)).alloc (.cells #[.slice none 0 0, .slice none 0 0, .int .i64 0, .string ⟨#[]⟩, .bool false] 25)).heap.size = w.heap.size + 2 := by simp
  clear hb0 hpp hqq
  show Calls Try.prog 15 #[.agg #[vp, vw, .int .i64 F.fuse, .string ⟨F.torn.toArray⟩, .bool F.dead], .int .i64 (k : Int), .int .i64 at_, .string ⟨turn.toArray⟩] w _
  have HM := Kept.mk hm
  clear hm
  have hss : (⟨turn.toArray⟩ : ByteArray).size = turn.length := size_mk turn
  have d0 : decide ((4 : Int) < (turn.length : Int)) = false := decide_eq_false (by omega)
  have d1 : decide (at_ < 0) = true := decide_eq_true h0
  go_enter Try.func15, Try.ntmps15
  go_wp2_with fail
  generalize ((w.alloc (.cells #[vp, vw, .int .i64 F.fuse, .string ⟨F.torn.toArray⟩, .bool F.dead] 25)).alloc (.cells #[.slice none 0 0, .slice none 0 0, .int .i64 0, .string ⟨#[]⟩, .bool false] 25)) = W at *
  refine (rpage_any F k _ W HV.out hf).mono ?_
  rintro e W1 ⟨rfl, hb⟩
  rewrite [HM.out]
  have hs1 := hb.size
  replace HX := Kept.mk (HX.out.keep hb)
  replace HR := Kept.mk (HR.out.keep hb)
  replace HB := Kept.mk (HB.out.trans (hb.mono HB.out.size))
  clear hb
  have kx0 := HX.out.cells.2 0 _ rfl
  have kx1 := HX.out.cells.2 1 _ rfl
  have kx2 := HX.out.cells.2 2 _ rfl
  have kx3 := HX.out.cells.2 3 _ rfl
  have kx4 := HX.out.cells.2 4 _ rfl
  have fx0 := HX.out.free 0
  have fx1 := HX.out.free 1
  have fx2 := HX.out.free 2
  have fx3 := HX.out.free 3
  have fx4 := HX.out.free 4
  have HR2 := HR
  have HB2 := HB
  have K5 : Kept (Ones [vp, vw, .int .i64 F.fuse, .string ⟨F.torn.toArray⟩, .bool F.dead]) := ⟨⟨o1, o2, rfl, rfl, rfl, trivial⟩⟩
  go_wp2_with (have hz1 := K5; refine wpList_storeN 25 rfl (.tmp 8) (.tmp 46) rfl (w.heap.size + 1) [vp, vw, .int .i64 F.fuse, .string ⟨F.torn.toArray⟩, .bool F.dead] size_fl rfl rfl HR2.out.cells rfl HR2.out.free K5.out ?_; clear hz1 K5)
  have B := below_setN (show w.heap.size ≤ w.heap.size + 1 by omega) [vp, vw, .int .i64 F.fuse, .string ⟨F.torn.toArray⟩, .bool F.dead] 0 _ HB2.out
  exact bodyPost_ret (resultsN2 rfl _ _ (w.heap.size + 1) _ (.int .i64 1) size_fl agg_fl rfl rfl (HR2.out.all_ (l := [vp, vw, .int .i64 F.fuse, .string ⟨F.torn.toArray⟩, .bool F.dead]) rfl).cells) rfl ⟨_, rfl, ⟨vp, vw, rfl, stable_cells _ _ _ _ HP.out B, stable_cells _ _ _ _ HQ.out B⟩, B⟩
set_option maxRecDepth 100000 in
set_option maxHeartbeats 4000000 in
theorem rrot_no4 (F : Fl) (k : Nat) (at_ : Int) (turn : List UInt8) (v : Value) (w : World) (hv : isFl F v w) (hf : FewF F) (hs : turn.length ≤ 1000000) (hm : hasB F (k : Int) = true) (h4 : turn.length ≤ 4) (h0 : ¬ at_ < 0) (h1 : ((F.pages.getD k []).length : Int) < at_) :
    Calls Try.prog 15 #[v, .int .i64 (k : Int), .int .i64 at_, .string ⟨turn.toArray⟩] w fun e w' => ∃ v', e = .returned (.tuple #[v', .int .i64 1]) ∧ isFl F v' w' ∧ Below w.heap.size w w' := by
  have HHF := Kept.mk (has_facts F k hm)
  obtain ⟨hk, h6, hwl, htl, hpg, hwr⟩ := HHF.out
  obtain ⟨was, hwas⟩ : ∃ was, F.pages[k]? = some was := ⟨_, List.getElem?_eq_getElem hk⟩
  have hwm : was.length ≤ 8192 := (hpg _ (List.mem_of_getElem? hwas)).2.1
  have hget1 : F.pages.getD k [] = was := by simp [List.getD_eq_getElem?_getD, hwas]
  have HW0 := Kept.mk (show was.length = (F.pages[0]'(by omega)).length by
    rw [(hpg _ (List.mem_of_getElem? hwas)).2.2, (hpg _ (List.getElem_mem (show 0 < F.pages.length by omega))).2.2])
  have HWAS := Kept.mk hwas
  rw [hget1] at h1
  have HWR := Kept.mk hwr
  have HM := Kept.mk hm
  clear hpg hwr hwas hget1 hm
  obtain ⟨vp, vw, rfl, hpp, hqq⟩ := hv
  have o1 := hpp.one
  have o2 := hqq.one
  obtain ⟨b, off, cap, hvp, hb, hc⟩ := hpp.some_ (by rw [List.length_map]; omega)
  rw [List.length_map] at hvp
  subst hvp
  have HC := Kept.mk (show w.cell? ⟨b, off + k, none⟩ = some (.string ⟨was.toArray⟩) from hc k _ (by simp [HWAS.out, strC]))
  clear hc
  have HP := Kept.mk hpp
  have HQ := Kept.mk hqq
  have hb0 := (lit_below w (.cells #[.slice (some ⟨b, off, none⟩) F.pages.length cap, vw, .int .i64 F.fuse, .string ⟨F.torn.toArray⟩, .bool F.dead] 25)).trans ((lit_below (w.alloc (.cells #[.slice (some ⟨b, off, none⟩) F.pages.length cap, vw, .int .i64 F.fuse, .string ⟨F.torn.toArray⟩, .bool F.dead] 25)) (.cells #[.slice none 0 0, .slice none 0 0, .int .i64 0, .string ⟨#[]⟩, .bool false] 25)).mono (lit_below w (.cells #[.slice (some ⟨b, off, none⟩) F.pages.length cap, vw, .int .i64 F.fuse, .string ⟨F.torn.toArray⟩, .bool F.dead] 25)).size)
  have HB := Kept.mk hb0
  have HX := Kept.mk ((Blk.new w 25 [.slice (some ⟨b, off, none⟩) F.pages.length cap, vw, .int .i64 F.fuse, .string ⟨F.torn.toArray⟩, .bool F.dead] w.heap.size rfl).alloc (.cells #[.slice none 0 0, .slice none 0 0, .int .i64 0, .string ⟨#[]⟩, .bool false] 25))
  have HR := Kept.mk (Blk.new (w.alloc (.cells #[.slice (some ⟨b, off, none⟩) F.pages.length cap, vw, .int .i64 F.fuse, .string ⟨F.torn.toArray⟩, .bool F.dead] 25)) 25 [.slice none 0 0, .slice none 0 0, .int .i64 0, .string ⟨#[]⟩, .bool false] (w.heap.size + 1) (by simp))
  have HV := Kept.mk (show isFl F (.agg #[.slice (some ⟨b, off, none⟩) F.pages.length cap, vw, .int .i64 F.fuse, .string ⟨F.torn.toArray⟩, .bool F.dead]) ((w.alloc (.cells #[.slice (some ⟨b, off, none⟩) F.pages.length cap, vw, .int .i64 F.fuse, .string ⟨F.torn.toArray⟩, .bool F.dead] 25)).alloc (.cells #[.slice none 0 0, .slice none 0 0, .int .i64 0, .string ⟨#[]⟩, .bool false] 25)) from ⟨.slice (some ⟨b, off, none⟩) F.pages.length cap, vw, rfl, stable_cells _ _ _ _ hpp hb0, stable_cells _ _ _ _ hqq hb0⟩)
  have hs0 : ((w.alloc (.cells #[.slice (some ⟨b, off, none⟩) F.pages.length cap, vw, .int .i64 F.fuse, .string ⟨F.torn.toArray⟩, .bool F.dead] 25)).alloc (.cells #[.slice none 0 0, .slice none 0 0, .int .i64 0, .string ⟨#[]⟩, .bool false] 25)).heap.size = w.heap.size + 2 := by simp
  clear hb0 hpp hqq
  show Calls Try.prog 15 #[.agg #[.slice (some ⟨b, off, none⟩) F.pages.length cap, vw, .int .i64 F.fuse, .string ⟨F.torn.toArray⟩, .bool F.dead], .int .i64 (k : Int), .int .i64 at_, .string ⟨turn.toArray⟩] w _
  have hsz : (⟨was.toArray⟩ : ByteArray).size = was.length := size_mk was
  have hss : (⟨turn.toArray⟩ : ByteArray).size = turn.length := size_mk turn
  have d0 : decide ((4 : Int) < (turn.length : Int)) = false := decide_eq_false (by omega)
  have d1 : decide (at_ < 0) = false := decide_eq_false h0
  have d2 : decide ((was.length : Int) < at_) = true := decide_eq_true h1
  go_enter Try.func15, Try.ntmps15
  go_wp2_with fail
  generalize ((w.alloc (.cells #[.slice (some ⟨b, off, none⟩) F.pages.length cap, vw, .int .i64 F.fuse, .string ⟨F.torn.toArray⟩, .bool F.dead] 25)).alloc (.cells #[.slice none 0 0, .slice none 0 0, .int .i64 0, .string ⟨#[]⟩, .bool false] 25)) = W at *
  refine (rpage_any F k _ W HV.out hf).mono ?_
  rintro e W1 ⟨rfl, hb⟩
  rewrite [HM.out]
  have hs1 := hb.size
  replace HX := Kept.mk (HX.out.keep hb)
  replace HR := Kept.mk (HR.out.keep hb)
  replace HB := Kept.mk (HB.out.trans (hb.mono HB.out.size))
  clear hb
  have kx0 := HX.out.cells.2 0 _ rfl
  have kx1 := HX.out.cells.2 1 _ rfl
  have kx2 := HX.out.cells.2 2 _ rfl
  have kx3 := HX.out.cells.2 3 _ rfl
  have kx4 := HX.out.cells.2 4 _ rfl
  have fx0 := HX.out.free 0
  have fx1 := HX.out.free 1
  have fx2 := HX.out.free 2
  have fx3 := HX.out.free 3
  have fx4 := HX.out.free 4
  have kc := (HB.out.cell (p := ⟨b, off + k, none⟩) hb).trans HC.out
  have HR2 := HR
  have HB2 := HB
  have K5 : Kept (Ones [.slice (some ⟨b, off, none⟩) F.pages.length cap, vw, .int .i64 F.fuse, .string ⟨F.torn.toArray⟩, .bool F.dead]) := ⟨⟨o1, o2, rfl, rfl, rfl, trivial⟩⟩
  go_wp2_with (have hz1 := K5; refine wpList_storeN 25 rfl (.tmp 8) (.tmp 46) rfl (w.heap.size + 1) [.slice (some ⟨b, off, none⟩) F.pages.length cap, vw, .int .i64 F.fuse, .string ⟨F.torn.toArray⟩, .bool F.dead] size_fl rfl rfl HR2.out.cells rfl HR2.out.free K5.out ?_; clear hz1 K5)
  have B := below_setN (show w.heap.size ≤ w.heap.size + 1 by omega) [.slice (some ⟨b, off, none⟩) F.pages.length cap, vw, .int .i64 F.fuse, .string ⟨F.torn.toArray⟩, .bool F.dead] 0 _ HB2.out
  exact bodyPost_ret (resultsN2 rfl _ _ (w.heap.size + 1) _ (.int .i64 1) size_fl agg_fl rfl rfl (HR2.out.all_ (l := [.slice (some ⟨b, off, none⟩) F.pages.length cap, vw, .int .i64 F.fuse, .string ⟨F.torn.toArray⟩, .bool F.dead]) rfl).cells) rfl ⟨_, rfl, ⟨.slice (some ⟨b, off, none⟩) F.pages.length cap, vw, rfl, stable_cells _ _ _ _ HP.out B, stable_cells _ _ _ _ HQ.out B⟩, B⟩
set_option maxRecDepth 100000 in
set_option maxHeartbeats 4000000 in
theorem rrot_no5 (F : Fl) (k : Nat) (at_ : Int) (turn : List UInt8) (v : Value) (w : World) (hv : isFl F v w) (hf : FewF F) (hs : turn.length ≤ 1000000) (hm : hasB F (k : Int) = true) (h4 : turn.length ≤ 4) (h0 : ¬ at_ < 0) (h1 : at_ ≤ ((F.pages.getD k []).length : Int)) (h2 : ((F.pages.getD k []).length : Int) - at_ < (turn.length : Int)) :
    Calls Try.prog 15 #[v, .int .i64 (k : Int), .int .i64 at_, .string ⟨turn.toArray⟩] w fun e w' => ∃ v', e = .returned (.tuple #[v', .int .i64 1]) ∧ isFl F v' w' ∧ Below w.heap.size w w' := by
  have HHF := Kept.mk (has_facts F k hm)
  obtain ⟨hk, h6, hwl, htl, hpg, hwr⟩ := HHF.out
  obtain ⟨was, hwas⟩ : ∃ was, F.pages[k]? = some was := ⟨_, List.getElem?_eq_getElem hk⟩
  have hwm : was.length ≤ 8192 := (hpg _ (List.mem_of_getElem? hwas)).2.1
  have hget1 : F.pages.getD k [] = was := by simp [List.getD_eq_getElem?_getD, hwas]
  have HW0 := Kept.mk (show was.length = (F.pages[0]'(by omega)).length by
    rw [(hpg _ (List.mem_of_getElem? hwas)).2.2, (hpg _ (List.getElem_mem (show 0 < F.pages.length by omega))).2.2])
  have HWAS := Kept.mk hwas
  rw [hget1] at h1 h2
  have HWR := Kept.mk hwr
  have HM := Kept.mk hm
  clear hpg hwr hwas hget1 hm
  obtain ⟨vp, vw, rfl, hpp, hqq⟩ := hv
  have o1 := hpp.one
  have o2 := hqq.one
  obtain ⟨b, off, cap, hvp, hb, hc⟩ := hpp.some_ (by rw [List.length_map]; omega)
  rw [List.length_map] at hvp
  subst hvp
  have HC := Kept.mk (show w.cell? ⟨b, off + k, none⟩ = some (.string ⟨was.toArray⟩) from hc k _ (by simp [HWAS.out, strC]))
  clear hc
  have HP := Kept.mk hpp
  have HQ := Kept.mk hqq
  have hb0 := (lit_below w (.cells #[.slice (some ⟨b, off, none⟩) F.pages.length cap, vw, .int .i64 F.fuse, .string ⟨F.torn.toArray⟩, .bool F.dead] 25)).trans ((lit_below (w.alloc (.cells #[.slice (some ⟨b, off, none⟩) F.pages.length cap, vw, .int .i64 F.fuse, .string ⟨F.torn.toArray⟩, .bool F.dead] 25)) (.cells #[.slice none 0 0, .slice none 0 0, .int .i64 0, .string ⟨#[]⟩, .bool false] 25)).mono (lit_below w (.cells #[.slice (some ⟨b, off, none⟩) F.pages.length cap, vw, .int .i64 F.fuse, .string ⟨F.torn.toArray⟩, .bool F.dead] 25)).size)
  have HB := Kept.mk hb0
  have HX := Kept.mk ((Blk.new w 25 [.slice (some ⟨b, off, none⟩) F.pages.length cap, vw, .int .i64 F.fuse, .string ⟨F.torn.toArray⟩, .bool F.dead] w.heap.size rfl).alloc (.cells #[.slice none 0 0, .slice none 0 0, .int .i64 0, .string ⟨#[]⟩, .bool false] 25))
  have HR := Kept.mk (Blk.new (w.alloc (.cells #[.slice (some ⟨b, off, none⟩) F.pages.length cap, vw, .int .i64 F.fuse, .string ⟨F.torn.toArray⟩, .bool F.dead] 25)) 25 [.slice none 0 0, .slice none 0 0, .int .i64 0, .string ⟨#[]⟩, .bool false] (w.heap.size + 1) (by simp))
  have HV := Kept.mk (show isFl F (.agg #[.slice (some ⟨b, off, none⟩) F.pages.length cap, vw, .int .i64 F.fuse, .string ⟨F.torn.toArray⟩, .bool F.dead]) ((w.alloc (.cells #[.slice (some ⟨b, off, none⟩) F.pages.length cap, vw, .int .i64 F.fuse, .string ⟨F.torn.toArray⟩, .bool F.dead] 25)).alloc (.cells #[.slice none 0 0, .slice none 0 0, .int .i64 0, .string ⟨#[]⟩, .bool false] 25)) from ⟨.slice (some ⟨b, off, none⟩) F.pages.length cap, vw, rfl, stable_cells _ _ _ _ hpp hb0, stable_cells _ _ _ _ hqq hb0⟩)
  have hs0 : ((w.alloc (.cells #[.slice (some ⟨b, off, none⟩) F.pages.length cap, vw, .int .i64 F.fuse, .string ⟨F.torn.toArray⟩, .bool F.dead] 25)).alloc (.cells #[.slice none 0 0, .slice none 0 0, .int .i64 0, .string ⟨#[]⟩, .bool false] 25)).heap.size = w.heap.size + 2 := by simp
  clear hb0 hpp hqq
  show Calls Try.prog 15 #[.agg #[.slice (some ⟨b, off, none⟩) F.pages.length cap, vw, .int .i64 F.fuse, .string ⟨F.torn.toArray⟩, .bool F.dead], .int .i64 (k : Int), .int .i64 at_, .string ⟨turn.toArray⟩] w _
  have hsz : (⟨was.toArray⟩ : ByteArray).size = was.length := size_mk was
  have hss : (⟨turn.toArray⟩ : ByteArray).size = turn.length := size_mk turn
  have d0 : decide ((4 : Int) < (turn.length : Int)) = false := decide_eq_false (by omega)
  have d1 : decide (at_ < 0) = false := decide_eq_false h0
  have d2 : decide ((was.length : Int) < at_) = false := decide_eq_false (by omega)
  have d3 : decide ((was.length : Int) - at_ < (turn.length : Int)) = true := decide_eq_true h2
  go_enter Try.func15, Try.ntmps15
  go_wp2_with fail
  generalize ((w.alloc (.cells #[.slice (some ⟨b, off, none⟩) F.pages.length cap, vw, .int .i64 F.fuse, .string ⟨F.torn.toArray⟩, .bool F.dead] 25)).alloc (.cells #[.slice none 0 0, .slice none 0 0, .int .i64 0, .string ⟨#[]⟩, .bool false] 25)) = W at *
  refine (rpage_any F k _ W HV.out hf).mono ?_
  rintro e W1 ⟨rfl, hb⟩
  rewrite [HM.out]
  have hs1 := hb.size
  replace HX := Kept.mk (HX.out.keep hb)
  replace HR := Kept.mk (HR.out.keep hb)
  replace HB := Kept.mk (HB.out.trans (hb.mono HB.out.size))
  clear hb
  have kx0 := HX.out.cells.2 0 _ rfl
  have kx1 := HX.out.cells.2 1 _ rfl
  have kx2 := HX.out.cells.2 2 _ rfl
  have kx3 := HX.out.cells.2 3 _ rfl
  have kx4 := HX.out.cells.2 4 _ rfl
  have fx0 := HX.out.free 0
  have fx1 := HX.out.free 1
  have fx2 := HX.out.free 2
  have fx3 := HX.out.free 3
  have fx4 := HX.out.free 4
  have kc := (HB.out.cell (p := ⟨b, off + k, none⟩) hb).trans HC.out
  have HR2 := HR
  have HB2 := HB
  have K5 : Kept (Ones [.slice (some ⟨b, off, none⟩) F.pages.length cap, vw, .int .i64 F.fuse, .string ⟨F.torn.toArray⟩, .bool F.dead]) := ⟨⟨o1, o2, rfl, rfl, rfl, trivial⟩⟩
  go_wp2_with (have hz1 := K5; refine wpList_storeN 25 rfl (.tmp 8) (.tmp 46) rfl (w.heap.size + 1) [.slice (some ⟨b, off, none⟩) F.pages.length cap, vw, .int .i64 F.fuse, .string ⟨F.torn.toArray⟩, .bool F.dead] size_fl rfl rfl HR2.out.cells rfl HR2.out.free K5.out ?_; clear hz1 K5)
  have B := below_setN (show w.heap.size ≤ w.heap.size + 1 by omega) [.slice (some ⟨b, off, none⟩) F.pages.length cap, vw, .int .i64 F.fuse, .string ⟨F.torn.toArray⟩, .bool F.dead] 0 _ HB2.out
  exact bodyPost_ret (resultsN2 rfl _ _ (w.heap.size + 1) _ (.int .i64 1) size_fl agg_fl rfl rfl (HR2.out.all_ (l := [.slice (some ⟨b, off, none⟩) F.pages.length cap, vw, .int .i64 F.fuse, .string ⟨F.torn.toArray⟩, .bool F.dead]) rfl).cells) rfl ⟨_, rfl, ⟨.slice (some ⟨b, off, none⟩) F.pages.length cap, vw, rfl, stable_cells _ _ _ _ HP.out B, stable_cells _ _ _ _ HQ.out B⟩, B⟩
set_option maxRecDepth 100000 in
set_option maxHeartbeats 4000000 in
theorem rrot_yes (F : Fl) (k : Nat) (m : Nat) (turn : List UInt8) (v : Value) (w : World) (hv : isFl F v w) (hf : FewF F) (hs : turn.length ≤ 1000000) (hm : hasB F (k : Int) = true) (h4 : turn.length ≤ 4) (h2 : m + turn.length ≤ (F.pages.getD k []).length) :
    Calls Try.prog 15 #[v, .int .i64 (k : Int), .int .i64 (m : Int), .string ⟨turn.toArray⟩] w fun e w' => ∃ v', e = .returned (.tuple #[v', .int .i64 0]) ∧ isFl { F with pages := F.pages.set k (rotL (F.pages.getD k []) m turn) } v' w' ∧ Below w.heap.size w w' := by
  have HHF := Kept.mk (has_facts F k hm)
  obtain ⟨hk, h6, hwl, htl, hpg, hwr⟩ := HHF.out
  obtain ⟨was, hwas⟩ : ∃ was, F.pages[k]? = some was := ⟨_, List.getElem?_eq_getElem hk⟩
  have hwm : was.length ≤ 8192 := (hpg _ (List.mem_of_getElem? hwas)).2.1
  have hget1 : F.pages.getD k [] = was := by simp [List.getD_eq_getElem?_getD, hwas]
  have HW0 := Kept.mk (show was.length = (F.pages[0]'(by omega)).length by
    rw [(hpg _ (List.mem_of_getElem? hwas)).2.2, (hpg _ (List.getElem_mem (show 0 < F.pages.length by omega))).2.2])
  have HWAS := Kept.mk hwas
  rw [hget1] at h2 ⊢
  have HWR := Kept.mk hwr
  have HM := Kept.mk hm
  clear hpg hwr hwas hget1 hm
  rw [← xor_zeros m was turn (by omega)]
  obtain ⟨vp, vw, rfl, hpp, hqq⟩ := hv
  have o1 := hpp.one
  have o2 := hqq.one
  obtain ⟨b, off, cap, hvp, hb, hc⟩ := hpp.some_ (by rw [List.length_map]; omega)
  rw [List.length_map] at hvp
  subst hvp
  have HC := Kept.mk (show w.cell? ⟨b, off + k, none⟩ = some (.string ⟨was.toArray⟩) from hc k _ (by simp [HWAS.out, strC]))
  clear hc
  have HP := Kept.mk hpp
  have HQ := Kept.mk hqq
  have hb0 := (lit_below w (.cells #[.slice (some ⟨b, off, none⟩) F.pages.length cap, vw, .int .i64 F.fuse, .string ⟨F.torn.toArray⟩, .bool F.dead] 25)).trans ((lit_below (w.alloc (.cells #[.slice (some ⟨b, off, none⟩) F.pages.length cap, vw, .int .i64 F.fuse, .string ⟨F.torn.toArray⟩, .bool F.dead] 25)) (.cells #[.slice none 0 0, .slice none 0 0, .int .i64 0, .string ⟨#[]⟩, .bool false] 25)).mono (lit_below w (.cells #[.slice (some ⟨b, off, none⟩) F.pages.length cap, vw, .int .i64 F.fuse, .string ⟨F.torn.toArray⟩, .bool F.dead] 25)).size)
  have HB := Kept.mk hb0
  have HX := Kept.mk ((Blk.new w 25 [.slice (some ⟨b, off, none⟩) F.pages.length cap, vw, .int .i64 F.fuse, .string ⟨F.torn.toArray⟩, .bool F.dead] w.heap.size rfl).alloc (.cells #[.slice none 0 0, .slice none 0 0, .int .i64 0, .string ⟨#[]⟩, .bool false] 25))
  have HR := Kept.mk (Blk.new (w.alloc (.cells #[.slice (some ⟨b, off, none⟩) F.pages.length cap, vw, .int .i64 F.fuse, .string ⟨F.torn.toArray⟩, .bool F.dead] 25)) 25 [.slice none 0 0, .slice none 0 0, .int .i64 0, .string ⟨#[]⟩, .bool false] (w.heap.size + 1) (by simp))
  have HV := Kept.mk (show isFl F (.agg #[.slice (some ⟨b, off, none⟩) F.pages.length cap, vw, .int .i64 F.fuse, .string ⟨F.torn.toArray⟩, .bool F.dead]) ((w.alloc (.cells #[.slice (some ⟨b, off, none⟩) F.pages.length cap, vw, .int .i64 F.fuse, .string ⟨F.torn.toArray⟩, .bool F.dead] 25)).alloc (.cells #[.slice none 0 0, .slice none 0 0, .int .i64 0, .string ⟨#[]⟩, .bool false] 25)) from ⟨.slice (some ⟨b, off, none⟩) F.pages.length cap, vw, rfl, stable_cells _ _ _ _ hpp hb0, stable_cells _ _ _ _ hqq hb0⟩)
  have hs0 : ((w.alloc (.cells #[.slice (some ⟨b, off, none⟩) F.pages.length cap, vw, .int .i64 F.fuse, .string ⟨F.torn.toArray⟩, .bool F.dead] 25)).alloc (.cells #[.slice none 0 0, .slice none 0 0, .int .i64 0, .string ⟨#[]⟩, .bool false] 25)).heap.size = w.heap.size + 2 := by simp
  clear hb0 hpp hqq
  show Calls Try.prog 15 #[.agg #[.slice (some ⟨b, off, none⟩) F.pages.length cap, vw, .int .i64 F.fuse, .string ⟨F.torn.toArray⟩, .bool F.dead], .int .i64 (k : Int), .int .i64 (m : Int), .string ⟨turn.toArray⟩] w _
  have hsz : (⟨was.toArray⟩ : ByteArray).size = was.length := size_mk was
  have hss : (⟨turn.toArray⟩ : ByteArray).size = turn.length := size_mk turn
  have d0 : decide ((4 : Int) < (turn.length : Int)) = false := decide_eq_false (by omega)
  have d1 : decide ((m : Int) < 0) = false := decide_eq_false (by omega)
  have d2 : decide ((was.length : Int) < (m : Int)) = false := decide_eq_false (by omega)
  have d3 : decide ((was.length : Int) - (m : Int) < (turn.length : Int)) = false := decide_eq_false (by omega)
  go_enter Try.func15, Try.ntmps15
  go_wp2_with fail
  generalize ((w.alloc (.cells #[.slice (some ⟨b, off, none⟩) F.pages.length cap, vw, .int .i64 F.fuse, .string ⟨F.torn.toArray⟩, .bool F.dead] 25)).alloc (.cells #[.slice none 0 0, .slice none 0 0, .int .i64 0, .string ⟨#[]⟩, .bool false] 25)) = W at *
  refine (rpage_any F k _ W HV.out hf).mono ?_
  rintro e W1 ⟨rfl, hb⟩
  rewrite [HM.out]
  have hs1 := hb.size
  replace HX := Kept.mk (HX.out.keep hb)
  replace HR := Kept.mk (HR.out.keep hb)
  replace HB := Kept.mk (HB.out.trans (hb.mono HB.out.size))
  clear hb
  have kx0 := HX.out.cells.2 0 _ rfl
  have kx1 := HX.out.cells.2 1 _ rfl
  have kx2 := HX.out.cells.2 2 _ rfl
  have kx3 := HX.out.cells.2 3 _ rfl
  have kx4 := HX.out.cells.2 4 _ rfl
  have fx0 := HX.out.free 0
  have fx1 := HX.out.free 1
  have fx2 := HX.out.free 2
  have fx3 := HX.out.free 3
  have fx4 := HX.out.free 4
  have kc := (HB.out.cell (p := ⟨b, off + k, none⟩) hb).trans HC.out
  go_wp2_with fail
  clear kx0 kx1 kx2 kx3 kx4 fx0 fx1 fx2 fx3 fx4 kc
  have hbl : b < W1.heap.size := by have := HB.out.size; omega
  have HP1 := Kept.mk (stable_cells _ _ _ _ HP.out HB.out)
  have HQ1 := Kept.mk (stable_cells _ _ _ _ HQ.out HB.out)
  have HC1 := Kept.mk ((HB.out.cell (p := ⟨b, off + k, none⟩) hb).trans HC.out)
  refine rt3_region _ _ _ rfl F k was b off F.pages.length cap w.heap.size (w.heap.size + 1) vw HX.out HR.out HP1.out HQ1.out (off_old HQ.out (by omega)) hk h6 HC1.out hbl hk hwm rfl rfl rfl m turn (by omega) (by omega) rfl rfl ?_
  intro y9 p q W9 hcp hcq hop hoq hb9
  have HE := Kept.mk (below_setN (show w.heap.size ≤ w.heap.size + 1 by omega) [p, q, .int .i64 (F.fuse), .string ⟨F.torn.toArray⟩, .bool F.dead] 0 _ (HB.out.trans (hb9.mono HB.out.size)))
  have HF := Kept.mk ((HR.out.keep hb9).all_ (l := [p, q, .int .i64 (F.fuse), .string ⟨F.torn.toArray⟩, .bool F.dead]) rfl).cells
  have EP := Kept.mk (cells_apart hcp hop 0 [p, q, .int .i64 (F.fuse), .string ⟨F.torn.toArray⟩, .bool F.dead])
  have EQ := Kept.mk (cells_apart hcq hoq 0 [p, q, .int .i64 (F.fuse), .string ⟨F.torn.toArray⟩, .bool F.dead])
  clear hb9 hcp hcq hop hoq HC1 HP1 HQ1
  simp only [List.foldl_cons, List.foldl_nil]
  generalize y9 47 = z47
  generalize y9 48 = z48
  generalize y9 49 = z49
  generalize y9 50 = z50
  generalize y9 51 = z51
  generalize y9 52 = z52
  generalize y9 53 = z53
  generalize y9 54 = z54
  generalize y9 55 = z55
  generalize y9 56 = z56
  generalize y9 57 = z57
  generalize y9 58 = z58
  generalize y9 59 = z59
  generalize y9 60 = z60
  generalize y9 9 = z9
  simp only [List.setIfInBounds_toArray, List.set_cons_succ, List.set_cons_zero]
  clear y9
  go_wp2
  exact bodyPost_ret (resultsN2 rfl _ _ (w.heap.size + 1) _ (.int .i64 0) size_fl agg_fl rfl rfl HF.out) rfl ⟨_, rfl, ⟨p, q, rfl, EP.out, EQ.out⟩, HE.out⟩
theorem rrot_any (F : Fl) (n at_ : Int) (turn : List UInt8) (v : Value) (w : World) (hv : isFl F v w) (hf : FewF F) (hs : turn.length ≤ 1000000) :
    Calls Try.prog 15 #[v, .int .i64 n, .int .i64 at_, .string ⟨turn.toArray⟩] w fun e w' => ∃ v', e = .returned (.tuple #[v', .int .i64 (rotE F n at_ turn)]) ∧ isFl (rotF F n at_ turn) v' w' ∧ Below w.heap.size w w' := by
  cases hm : hasB F n with
  | false =>
    have hb : rotB F n at_ turn = false := by simp [rotB, hm]
    rw [show rotE F n at_ turn = 1 by simp [rotE, hb], show rotF F n at_ turn = F by simp [rotF, hb]]
    exact rrot_no1 F n at_ turn v w hv hf hs hm
  | true =>
    obtain ⟨k, rfl⟩ := has_nat hm
    by_cases h4 : turn.length ≤ 4
    · cases hb : fitsB F k at_ turn with
      | false =>
        have hb2 : rotB F k at_ turn = false := by simp [rotB, hb]
        rw [show rotE F k at_ turn = 1 by simp [rotE, hb2], show rotF F k at_ turn = F by simp [rotF, hb2]]
        unfold fitsB at hb
        rw [Int.toNat_natCast] at hb
        by_cases h0 : at_ < 0
        · exact rrot_no3 F k at_ turn v w hv hf hs hm h4 h0
        · by_cases h1 : ((F.pages.getD k []).length : Int) < at_
          · exact rrot_no4 F k at_ turn v w hv hf hs hm h4 h0 h1
          · refine rrot_no5 F k at_ turn v w hv hf hs hm h4 h0 (by omega) ?_
            rw [decide_eq_true (show 0 ≤ at_ by omega), Bool.true_and] at hb
            have := of_decide_eq_false hb
            omega
      | true =>
        have hb2 : rotB F k at_ turn = true := by simp [rotB, hm, h4, hb]
        have hb' := hb
        unfold fitsB at hb'
        rw [Int.toNat_natCast] at hb'
        simp only [Bool.and_eq_true, decide_eq_true_eq] at hb'
        obtain ⟨m, rfl⟩ := Int.eq_ofNat_of_zero_le hb'.1
        rw [show rotE F k m turn = 0 by simp [rotE, hb2]]
        unfold rotF
        rw [if_pos hb2, Int.toNat_natCast, Int.toNat_natCast]
        exact rrot_yes F k m turn v w hv hf hs hm h4 (by omega)
    · have hb2 : rotB F (k : Int) at_ turn = false := by simp [rotB, h4]
      rw [show rotE F k at_ turn = 1 by simp [rotE, hb2], show rotF F k at_ turn = F by simp [rotF, hb2]]
      exact rrot_no2 F k at_ turn v w hv hf hs hm (by omega)
end Go.Proofs.Ytpjafjnokgeifaa
end
section
namespace Go.Proofs.Ytpjafjnokgeifaa
open Go.RowKit
set_option linter.unusedVariables false
set_option linter.unusedSimpArgs false
attribute [local irreducible] setN
theorem cpage (F : Fl) (n : Int) (z : Bool) (v : Value) (w : World) (hv : isFl F v w) (hf : FewF F) (h : hasB F n = z) : Calls Try.prog 48 #[v, .int .i64 n] w fun e w' => ∃ u, e = .returned u ∧ isVal (.bool z) u w' ∧ Below w.heap.size w w' := by
  subst h
  exact (rpage_any F n v w hv hf).mono (by rintro e w' ⟨rfl, hb⟩; exact ⟨_, rfl, rfl, hb⟩)
theorem full_eq : ∀ l : List UInt8, (l == List.replicate l.length 255) = l.all fun b => decide (b = 255)
  | [] => rfl
  | b :: l => by
    have ih := full_eq l
    rw [List.all_cons, ← ih, List.length_cons, List.replicate_succ, List.cons_beq_cons]
    congr 1
noncomputable def fr1Ops : Array Oper := regionOf Try.f18 1
set_option maxRecDepth 100000 in
set_option maxHeartbeats 2000000 in
theorem fr1_region (Q : Exit → Act → World → Prop) (a0 : Act) (w0 : World) (hsz : a0.tmps.size = 23) (F : Fl) (k : Nat) (was : List UInt8) (z : Bool) (b off np cap b2 : Nat) (vw : Value) (HX : Blk w0 b2 [.slice (some ⟨b, off, none⟩) np cap, vw, .int .i64 F.fuse, .string ⟨F.torn.toArray⟩, .bool F.dead]) (hp : isCells (F.pages.map strC) (.slice (some ⟨b, off, none⟩) np cap) w0) (hq : isCells (F.wear.map intC) vw w0) (hf : FewF F) (hh : hasB F (k : Int) = true) (hcell : w0.cell? ⟨b, off + k, none⟩ = some (.string ⟨was.toArray⟩)) (hblt : b < w0.heap.size) (hkn : k < np) (hwl : was.length ≤ 8192) (hz : (was == List.replicate was.length 255) = z) (e1 : a0.tmps.getD 1 undef = .int .i64 (k : Int)) (e2 : a0.tmps.getD 2 undef = .pointer (some ⟨b2, 0, none⟩))
    (hQ : ∀ (g : Nat → Value) (w : World), g 4 = .bool z → Below w0.heap.size w0 w → Q .normal { tmps := [5, 6, 7, 8, 9, 10, 11, 12, 13, 14, 15, 16, 17, 18, 19, 20, 21, 22, 4].foldl (fun t s => t.setIfInBounds s (g s)) a0.tmps, defers := a0.defers } w) :
    (Code.region 1 fr1Ops true).wp Try.prog Q a0 w0 := by
  refine wp_region_flow mixed (by rw [hsz]; kernel_rfl) ?_
  rw [show fr1Ops.size = 19 by kernel_rfl]
  refine ⟨isVal (.agg #[.slice (some ⟨b, off, none⟩) np cap, vw, .int .i64 F.fuse, .string ⟨F.torn.toArray⟩, .bool F.dead]), step_loadN 25 (.tmp 2) (b2) [.slice (some ⟨b, off, none⟩) np cap, vw, .int .i64 F.fuse, .string ⟨F.torn.toArray⟩, .bool F.dead] (by kernel_rfl) (wanted_none (by kernel_rfl)) (knows_old 2 (.pointer (some ⟨b2, 0, none⟩)) (by kernel_rfl) e2) size_fl agg_fl HX.cells, ?_⟩
  refine ⟨isVal (.int .i64 (k : Int)), step_move (.tmp 1) (by kernel_rfl) (wanted_none (by kernel_rfl)) (stable_val _) (knows_old 1 (.int .i64 (k : Int)) (by kernel_rfl) e1), ?_⟩
  refine ⟨isVal (.bool true), step_call 48 #[.tmp 5, .tmp 6] #[25, 3] #[.agg #[.slice (some ⟨b, off, none⟩) np cap, vw, .int .i64 F.fuse, .string ⟨F.torn.toArray⟩, .bool F.dead], .int .i64 (k : Int)] (by kernel_rfl) (wanted_none (by kernel_rfl)) (stable_val _) (args2 (.tmp 5) (.tmp 6) (.agg #[.slice (some ⟨b, off, none⟩) np cap, vw, .int .i64 F.fuse, .string ⟨F.torn.toArray⟩, .bool F.dead]) (.int .i64 (k : Int)) (knows_new (V := isVal (.agg #[.slice (some ⟨b, off, none⟩) np cap, vw, .int .i64 F.fuse, .string ⟨F.torn.toArray⟩, .bool F.dead])) 5 0 (by kernel_rfl) (by kernel_rfl) (by kernel_rfl)) (knows_new (V := isVal (.int .i64 (k : Int))) 6 1 (by kernel_rfl) (by kernel_rfl) (by kernel_rfl))) (enters_of Try.func48 (by kernel_rfl) rfl) (by intro w hb; exact cpage F (k : Int) true _ w ⟨(.slice (some ⟨b, off, none⟩) np cap), vw, rfl, stable_cells _ _ _ _ hp hb, stable_cells _ _ _ _ hq hb⟩ hf hh), ?_⟩
  refine ⟨isVal (.bool true), step_move (.tmp 7) (by kernel_rfl) (wanted_none (by kernel_rfl)) (stable_val _) (knows_new (V := isVal (.bool true)) 7 2 (by kernel_rfl) (by kernel_rfl) (by kernel_rfl)), ?_⟩
  refine ⟨isVal (.pointer (some ⟨b2, 0, none⟩)), step_field 25 (.tmp 2) 0 ⟨b2, 0, none⟩ ⟨b2, 0, none⟩ (by kernel_rfl) (wanted_some 3 8 true (by kernel_rfl) (by kernel_rfl) (by kernel_rfl) (by kernel_rfl)) (knows_old 2 (.pointer (some ⟨b2, 0, none⟩)) (by kernel_rfl) e2) (field_fl b2 0 (by omega)), ?_⟩
  refine ⟨isVal (.slice (some ⟨b, off, none⟩) np cap), step_read 22 (.tmp 9) ⟨b2, 0, none⟩ (.slice (some ⟨b, off, none⟩) np cap) (by kernel_rfl) (wanted_some 3 8 true (by kernel_rfl) (by kernel_rfl) (by kernel_rfl) (by kernel_rfl)) (knows_new (V := isVal (.pointer (some ⟨b2, 0, none⟩))) 9 4 (by kernel_rfl) (by kernel_rfl) (by kernel_rfl)) (HX.cells.2 0 _ rfl) HX.lt agg_strs, ?_⟩
  refine ⟨isVal (.int .i64 (k : Int)), step_move (.tmp 1) (by kernel_rfl) (wanted_some 3 8 true (by kernel_rfl) (by kernel_rfl) (by kernel_rfl) (by kernel_rfl)) (stable_val _) (knows_old 1 (.int .i64 (k : Int)) (by kernel_rfl) e1), ?_⟩
  refine ⟨isVal (.pointer (some ⟨b, off + k, none⟩)), step_place 22 9 (.tmp 10) (.tmp 11) b off np cap k (by kernel_rfl) (wanted_some 3 8 true (by kernel_rfl) (by kernel_rfl) (by kernel_rfl) (by kernel_rfl)) (knows_new (V := isVal (.slice (some ⟨b, off, none⟩) np cap)) 10 5 (by kernel_rfl) (by kernel_rfl) (by kernel_rfl)) (knows_new (V := isVal (.int .i64 (k : Int))) 11 6 (by kernel_rfl) (by kernel_rfl) (by kernel_rfl)) Try.underlying22 (by kernel_rfl) hkn, ?_⟩
  refine ⟨isVal (.string ⟨was.toArray⟩), step_read 9 (.tmp 12) ⟨b, off + k, none⟩ (.string ⟨was.toArray⟩) (by kernel_rfl) (wanted_some 3 8 true (by kernel_rfl) (by kernel_rfl) (by kernel_rfl) (by kernel_rfl)) (knows_new (V := isVal (.pointer (some ⟨b, off + k, none⟩))) 12 7 (by kernel_rfl) (by kernel_rfl) (by kernel_rfl)) hcell hblt agg_str, ?_⟩
  refine ⟨isVal (.pointer (some ⟨b2, 0, none⟩)), step_field 25 (.tmp 2) 0 ⟨b2, 0, none⟩ ⟨b2, 0, none⟩ (by kernel_rfl) (wanted_some 3 8 true (by kernel_rfl) (by kernel_rfl) (by kernel_rfl) (by kernel_rfl)) (knows_old 2 (.pointer (some ⟨b2, 0, none⟩)) (by kernel_rfl) e2) (field_fl b2 0 (by omega)), ?_⟩
  refine ⟨isVal (.slice (some ⟨b, off, none⟩) np cap), step_read 22 (.tmp 14) ⟨b2, 0, none⟩ (.slice (some ⟨b, off, none⟩) np cap) (by kernel_rfl) (wanted_some 3 8 true (by kernel_rfl) (by kernel_rfl) (by kernel_rfl) (by kernel_rfl)) (knows_new (V := isVal (.pointer (some ⟨b2, 0, none⟩))) 14 9 (by kernel_rfl) (by kernel_rfl) (by kernel_rfl)) (HX.cells.2 0 _ rfl) HX.lt agg_strs, ?_⟩
  refine ⟨isVal (.int .i64 (k : Int)), step_move (.tmp 1) (by kernel_rfl) (wanted_some 3 8 true (by kernel_rfl) (by kernel_rfl) (by kernel_rfl) (by kernel_rfl)) (stable_val _) (knows_old 1 (.int .i64 (k : Int)) (by kernel_rfl) e1), ?_⟩
  refine ⟨isVal (.pointer (some ⟨b, off + k, none⟩)), step_place 22 9 (.tmp 15) (.tmp 16) b off np cap k (by kernel_rfl) (wanted_some 3 8 true (by kernel_rfl) (by kernel_rfl) (by kernel_rfl) (by kernel_rfl)) (knows_new (V := isVal (.slice (some ⟨b, off, none⟩) np cap)) 15 10 (by kernel_rfl) (by kernel_rfl) (by kernel_rfl)) (knows_new (V := isVal (.int .i64 (k : Int))) 16 11 (by kernel_rfl) (by kernel_rfl) (by kernel_rfl)) Try.underlying22 (by kernel_rfl) hkn, ?_⟩
  refine ⟨isVal (.string ⟨was.toArray⟩), step_read 9 (.tmp 17) ⟨b, off + k, none⟩ (.string ⟨was.toArray⟩) (by kernel_rfl) (wanted_some 3 8 true (by kernel_rfl) (by kernel_rfl) (by kernel_rfl) (by kernel_rfl)) (knows_new (V := isVal (.pointer (some ⟨b, off + k, none⟩))) 17 12 (by kernel_rfl) (by kernel_rfl) (by kernel_rfl)) hcell hblt agg_str, ?_⟩
  refine ⟨isVal (.int .i64 (was.length : Int)), step_len 9 (.tmp 18) (.string ⟨was.toArray⟩) (.int .i64 (was.length : Int)) (by kernel_rfl) (wanted_some 3 8 true (by kernel_rfl) (by kernel_rfl) (by kernel_rfl) (by kernel_rfl)) (knows_new (V := isVal (.string ⟨was.toArray⟩)) 18 13 (by kernel_rfl) (by kernel_rfl) (by kernel_rfl)) (len_str was), ?_⟩
  refine ⟨isVal (.string ⟨(List.replicate was.length 255).toArray⟩), step_call 42 #[.tmp 19] #[3] #[.int .i64 (was.length : Int)] (by kernel_rfl) (wanted_some 3 8 true (by kernel_rfl) (by kernel_rfl) (by kernel_rfl) (by kernel_rfl)) (stable_val _) (args1 (.tmp 19) (.int .i64 (was.length : Int)) (knows_new (V := isVal (.int .i64 (was.length : Int))) 19 14 (by kernel_rfl) (by kernel_rfl) (by kernel_rfl))) (enters_of Try.func42 (by kernel_rfl) rfl) (by intro w hb; exact cones was.length (by omega) w), ?_⟩
  refine ⟨isVal (.bool z), step_bin .eql 9 9 (.tmp 13) (.tmp 20) (.string ⟨was.toArray⟩) (.string ⟨(List.replicate was.length 255).toArray⟩) (.bool z) (by kernel_rfl) (wanted_some 3 8 true (by kernel_rfl) (by kernel_rfl) (by kernel_rfl) (by kernel_rfl)) (knows_new (V := isVal (.string ⟨was.toArray⟩)) 13 8 (by kernel_rfl) (by kernel_rfl) (by kernel_rfl)) (knows_new (V := isVal (.string ⟨(List.replicate was.length 255).toArray⟩)) 20 15 (by kernel_rfl) (by kernel_rfl) (by kernel_rfl)) (fun _ => rfl) (eql_str _ _ _ _ hz), ?_⟩
  refine ⟨isVal (.bool z), step_pick (.tmp 8) (.tmp 21) (.const (.bool false)) true (by kernel_rfl) (wanted_none (by kernel_rfl)) (stable_val _) (knows_new (V := isVal (.bool true)) 8 3 (by kernel_rfl) (by kernel_rfl) (by kernel_rfl)) (knows_new (V := isVal (.bool z)) 21 16 (by kernel_rfl) (by kernel_rfl) (by kernel_rfl)), ?_⟩
  refine ⟨isVal (.bool z), step_assign (.tmp 22) (by kernel_rfl) (wanted_none (by kernel_rfl)) (stable_val _) (knows_new (V := isVal (.bool z)) 22 17 (by kernel_rfl) (by kernel_rfl) (by kernel_rfl)), ?_⟩
  intro a w hkp hb hd
  rw [kept_of hkp [some 5, some 6, some 7, some 8, some 9, some 10, some 11, some 12, some 13, some 14, some 15, some 16, some 17, some 18, some 19, some 20, some 21, some 22, some 4] [5, 6, 7, 8, 9, 10, 11, 12, 13, 14, 15, 16, 17, 18, 19, 20, 21, 22, 4] (by kernel_rfl) (by decide)]
  have d4 := fdone_of (hd 18 (by rw [show fr1Ops.size = 19 by kernel_rfl]; decide)) (t := 4) (V := isVal (.bool z)) (by kernel_rfl) (by kernel_rfl)
  exact hQ (fun s => a.tmps.getD s undef) w d4 hb
noncomputable def fr0Ops : Array Oper := regionOf Try.f18 1
set_option maxRecDepth 100000 in
set_option maxHeartbeats 2000000 in
theorem fr0_region (Q : Exit → Act → World → Prop) (a0 : Act) (w0 : World) (hsz : a0.tmps.size = 23) (F : Fl) (n : Int) (b2 : Nat) (vp vw : Value) (HX : Blk w0 b2 [vp, vw, .int .i64 F.fuse, .string ⟨F.torn.toArray⟩, .bool F.dead]) (hp : isCells (F.pages.map strC) vp w0) (hq : isCells (F.wear.map intC) vw w0) (hf : FewF F) (hh : hasB F n = false) (e1 : a0.tmps.getD 1 undef = .int .i64 n) (e2 : a0.tmps.getD 2 undef = .pointer (some ⟨b2, 0, none⟩))
    (hQ : ∀ (g : Nat → Value) (w : World), g 4 = .bool false → Below w0.heap.size w0 w → Q .normal { tmps := [5, 6, 7, 8, 9, 10, 11, 12, 13, 14, 15, 16, 17, 18, 19, 20, 21, 22, 4].foldl (fun t s => t.setIfInBounds s (g s)) a0.tmps, defers := a0.defers } w) :
    (Code.region 1 fr0Ops true).wp Try.prog Q a0 w0 := by
  refine wp_region_flow mixed (by rw [hsz]; kernel_rfl) ?_
  rw [show fr0Ops.size = 19 by kernel_rfl]
  refine ⟨isVal (.agg #[vp, vw, .int .i64 F.fuse, .string ⟨F.torn.toArray⟩, .bool F.dead]), step_loadN 25 (.tmp 2) (b2) [vp, vw, .int .i64 F.fuse, .string ⟨F.torn.toArray⟩, .bool F.dead] (by kernel_rfl) (wanted_none (by kernel_rfl)) (knows_old 2 (.pointer (some ⟨b2, 0, none⟩)) (by kernel_rfl) e2) size_fl agg_fl HX.cells, ?_⟩
  refine ⟨isVal (.int .i64 n), step_move (.tmp 1) (by kernel_rfl) (wanted_none (by kernel_rfl)) (stable_val _) (knows_old 1 (.int .i64 n) (by kernel_rfl) e1), ?_⟩
  refine ⟨isVal (.bool false), step_call 48 #[.tmp 5, .tmp 6] #[25, 3] #[.agg #[vp, vw, .int .i64 F.fuse, .string ⟨F.torn.toArray⟩, .bool F.dead], .int .i64 n] (by kernel_rfl) (wanted_none (by kernel_rfl)) (stable_val _) (args2 (.tmp 5) (.tmp 6) (.agg #[vp, vw, .int .i64 F.fuse, .string ⟨F.torn.toArray⟩, .bool F.dead]) (.int .i64 n) (knows_new (V := isVal (.agg #[vp, vw, .int .i64 F.fuse, .string ⟨F.torn.toArray⟩, .bool F.dead])) 5 0 (by kernel_rfl) (by kernel_rfl) (by kernel_rfl)) (knows_new (V := isVal (.int .i64 n)) 6 1 (by kernel_rfl) (by kernel_rfl) (by kernel_rfl))) (enters_of Try.func48 (by kernel_rfl) rfl) (by intro w hb; exact cpage F n false _ w ⟨vp, vw, rfl, stable_cells _ _ _ _ hp hb, stable_cells _ _ _ _ hq hb⟩ hf hh), ?_⟩
  refine ⟨isVal (.bool false), step_move (.tmp 7) (by kernel_rfl) (wanted_none (by kernel_rfl)) (stable_val _) (knows_new (V := isVal (.bool false)) 7 2 (by kernel_rfl) (by kernel_rfl) (by kernel_rfl)), ?_⟩
  refine ⟨_, step_skip 3 8 true false (by kernel_rfl) (by kernel_rfl) (by kernel_rfl) (by kernel_rfl) rfl, ?_⟩
  refine ⟨_, step_skip 3 8 true false (by kernel_rfl) (by kernel_rfl) (by kernel_rfl) (by kernel_rfl) rfl, ?_⟩
  refine ⟨_, step_skip 3 8 true false (by kernel_rfl) (by kernel_rfl) (by kernel_rfl) (by kernel_rfl) rfl, ?_⟩
  refine ⟨_, step_skip 3 8 true false (by kernel_rfl) (by kernel_rfl) (by kernel_rfl) (by kernel_rfl) rfl, ?_⟩
  refine ⟨_, step_skip 3 8 true false (by kernel_rfl) (by kernel_rfl) (by kernel_rfl) (by kernel_rfl) rfl, ?_⟩
  refine ⟨_, step_skip 3 8 true false (by kernel_rfl) (by kernel_rfl) (by kernel_rfl) (by kernel_rfl) rfl, ?_⟩
  refine ⟨_, step_skip 3 8 true false (by kernel_rfl) (by kernel_rfl) (by kernel_rfl) (by kernel_rfl) rfl, ?_⟩
  refine ⟨_, step_skip 3 8 true false (by kernel_rfl) (by kernel_rfl) (by kernel_rfl) (by kernel_rfl) rfl, ?_⟩
  refine ⟨_, step_skip 3 8 true false (by kernel_rfl) (by kernel_rfl) (by kernel_rfl) (by kernel_rfl) rfl, ?_⟩
  refine ⟨_, step_skip 3 8 true false (by kernel_rfl) (by kernel_rfl) (by kernel_rfl) (by kernel_rfl) rfl, ?_⟩
  refine ⟨_, step_skip 3 8 true false (by kernel_rfl) (by kernel_rfl) (by kernel_rfl) (by kernel_rfl) rfl, ?_⟩
  refine ⟨_, step_skip 3 8 true false (by kernel_rfl) (by kernel_rfl) (by kernel_rfl) (by kernel_rfl) rfl, ?_⟩
  refine ⟨_, step_skip 3 8 true false (by kernel_rfl) (by kernel_rfl) (by kernel_rfl) (by kernel_rfl) rfl, ?_⟩
  refine ⟨isVal (.bool false), step_pick (.tmp 8) (.tmp 21) (.const (.bool false)) false (by kernel_rfl) (wanted_none (by kernel_rfl)) (stable_val _) (knows_new (V := isVal (.bool false)) 8 3 (by kernel_rfl) (by kernel_rfl) (by kernel_rfl)) (knows_const _), ?_⟩
  refine ⟨isVal (.bool false), step_assign (.tmp 22) (by kernel_rfl) (wanted_none (by kernel_rfl)) (stable_val _) (knows_new (V := isVal (.bool false)) 22 17 (by kernel_rfl) (by kernel_rfl) (by kernel_rfl)), ?_⟩
  intro a w hkp hb hd
  rw [kept_of hkp [some 5, some 6, some 7, some 8, some 9, some 10, some 11, some 12, some 13, some 14, some 15, some 16, some 17, some 18, some 19, some 20, some 21, some 22, some 4] [5, 6, 7, 8, 9, 10, 11, 12, 13, 14, 15, 16, 17, 18, 19, 20, 21, 22, 4] (by kernel_rfl) (by decide)]
  have d4 := fdone_of (hd 18 (by rw [show fr0Ops.size = 19 by kernel_rfl]; decide)) (t := 4) (V := isVal (.bool false)) (by kernel_rfl) (by kernel_rfl)
  exact hQ (fun s => a.tmps.getD s undef) w d4 hb
set_option maxRecDepth 100000 in
set_option maxHeartbeats 4000000 in
theorem rfree_no (F : Fl) (n : Int) (v : Value) (w : World) (hv : isFl F v w) (hf : FewF F) (hm : hasB F n = false) : Calls Try.prog 18 #[v, .int .i64 n] w fun e w' => e = .returned (.bool false) ∧ Below w.heap.size w w' := by
  obtain ⟨vp, vw, rfl, hpp, hqq⟩ := hv
  have HP := Kept.mk hpp
  have HQ := Kept.mk hqq
  have HB := Kept.mk (lit_below w (.cells #[vp, vw, .int .i64 F.fuse, .string ⟨F.torn.toArray⟩, .bool F.dead] 25))
  have HX := Kept.mk (Blk.new w 25 [vp, vw, .int .i64 F.fuse, .string ⟨F.torn.toArray⟩, .bool F.dead] w.heap.size rfl)
  clear hpp hqq
  show Calls Try.prog 18 #[.agg #[vp, vw, .int .i64 F.fuse, .string ⟨F.torn.toArray⟩, .bool F.dead], .int .i64 n] w _
  go_enter Try.func18, Try.ntmps18
  go_wp2_with fail
  generalize w.alloc (.cells #[vp, vw, .int .i64 F.fuse, .string ⟨F.torn.toArray⟩, .bool F.dead] 25) = W0 at *
  have HP1 := Kept.mk (stable_cells _ _ _ _ HP.out HB.out)
  have HQ1 := Kept.mk (stable_cells _ _ _ _ HQ.out HB.out)
  refine fr0_region _ _ _ rfl F n w.heap.size vp vw HX.out HP1.out HQ1.out hf hm rfl rfl ?_
  intro f9 W9 d4 hb9
  simp only [List.foldl_cons, List.foldl_nil, d4]
  generalize f9 5 = y5
  generalize f9 6 = y6
  generalize f9 7 = y7
  generalize f9 8 = y8
  generalize f9 9 = y9
  generalize f9 10 = y10
  generalize f9 11 = y11
  generalize f9 12 = y12
  generalize f9 13 = y13
  generalize f9 14 = y14
  generalize f9 15 = y15
  generalize f9 16 = y16
  generalize f9 17 = y17
  generalize f9 18 = y18
  generalize f9 19 = y19
  generalize f9 20 = y20
  generalize f9 21 = y21
  generalize f9 22 = y22
  clear d4
  simp only [List.setIfInBounds_toArray, List.set_cons_succ, List.set_cons_zero]
  replace HB := Kept.mk (HB.out.trans (hb9.mono HB.out.size))
  clear hb9
  go_wp2
  go_ret
  exact ⟨rfl, HB.out⟩
set_option maxRecDepth 100000 in
set_option maxHeartbeats 4000000 in
theorem rfree_yes (F : Fl) (k : Nat) (v : Value) (w : World) (hv : isFl F v w) (hf : FewF F) (z : Bool) (hm : hasB F (k : Int) = true) (hz : ((F.pages.getD k []).all fun b => decide (b = 255)) = z) : Calls Try.prog 18 #[v, .int .i64 (k : Int)] w fun e w' => e = .returned (.bool z) ∧ Below w.heap.size w w' := by
  obtain ⟨vp, vw, rfl, hpp, hqq⟩ := hv
  have HP := Kept.mk hpp
  have HQ := Kept.mk hqq
  have HB := Kept.mk (lit_below w (.cells #[vp, vw, .int .i64 F.fuse, .string ⟨F.torn.toArray⟩, .bool F.dead] 25))
  have HX := Kept.mk (Blk.new w 25 [vp, vw, .int .i64 F.fuse, .string ⟨F.torn.toArray⟩, .bool F.dead] w.heap.size rfl)
  have HHF := Kept.mk (has_facts F k hm)
  obtain ⟨hk, h6, hwl, htl, hpg, hwr⟩ := HHF.out
  obtain ⟨was, hwas⟩ : ∃ was, F.pages[k]? = some was := ⟨_, List.getElem?_eq_getElem hk⟩
  have hwm : was.length ≤ 8192 := (hpg _ (List.mem_of_getElem? hwas)).2.1
  have hget1 : F.pages.getD k [] = was := by simp [List.getD_eq_getElem?_getD, hwas]
  have HW0 := Kept.mk (show was.length = (F.pages[0]'(by omega)).length by
    rw [(hpg _ (List.mem_of_getElem? hwas)).2.2, (hpg _ (List.getElem_mem (show 0 < F.pages.length by omega))).2.2])
  have HWAS := Kept.mk hwas
  have HWR := Kept.mk hwr
  have HM := Kept.mk hm
  clear hpg hwr hwas hget1 hm
  obtain ⟨b, off, cap, hvp, hb, hc⟩ := hpp.some_ (by rw [List.length_map]; omega)
  rw [List.length_map] at hvp
  subst hvp
  have hcw := hc k (strC was) (by simp [HWAS.out, strC])
  have HZ := Kept.mk (show (was == List.replicate was.length 255) = z by rw [full_eq]; rw [show F.pages.getD k [] = was by simp [List.getD_eq_getElem?_getD, HWAS.out]] at hz; exact hz)
  have HC := Kept.mk hcw
  clear hpp hqq hc hcw hz
  show Calls Try.prog 18 #[.agg #[.slice (some ⟨b, off, none⟩) F.pages.length cap, vw, .int .i64 F.fuse, .string ⟨F.torn.toArray⟩, .bool F.dead], .int .i64 (k : Int)] w _
  go_enter Try.func18, Try.ntmps18
  go_wp2_with fail
  generalize w.alloc (.cells #[.slice (some ⟨b, off, none⟩) F.pages.length cap, vw, .int .i64 F.fuse, .string ⟨F.torn.toArray⟩, .bool F.dead] 25) = W0 at *
  have HP1 := Kept.mk (stable_cells _ _ _ _ HP.out HB.out)
  have HQ1 := Kept.mk (stable_cells _ _ _ _ HQ.out HB.out)
  have HC1 := Kept.mk ((HB.out.cell (p := ⟨b, off + k, none⟩) hb).trans HC.out)
  refine fr1_region _ _ _ rfl F k was z b off F.pages.length cap w.heap.size vw HX.out HP1.out HQ1.out hf HM.out HC1.out (Nat.lt_of_lt_of_le hb HB.out.size) hk hwm HZ.out rfl rfl ?_
  intro f9 W9 d4 hb9
  simp only [List.foldl_cons, List.foldl_nil, d4]
  generalize f9 5 = y5
  generalize f9 6 = y6
  generalize f9 7 = y7
  generalize f9 8 = y8
  generalize f9 9 = y9
  generalize f9 10 = y10
  generalize f9 11 = y11
  generalize f9 12 = y12
  generalize f9 13 = y13
  generalize f9 14 = y14
  generalize f9 15 = y15
  generalize f9 16 = y16
  generalize f9 17 = y17
  generalize f9 18 = y18
  generalize f9 19 = y19
  generalize f9 20 = y20
  generalize f9 21 = y21
  generalize f9 22 = y22
  clear d4
  simp only [List.setIfInBounds_toArray, List.set_cons_succ, List.set_cons_zero]
  replace HB := Kept.mk (HB.out.trans (hb9.mono HB.out.size))
  clear hb9
  go_wp2
  go_ret
  exact ⟨rfl, HB.out⟩
theorem rfree_any (F : Fl) (n : Int) (v : Value) (w : World) (hv : isFl F v w) (hf : FewF F) : Calls Try.prog 18 #[v, .int .i64 n] w fun e w' => e = .returned (.bool (freeB F n)) ∧ Below w.heap.size w w' := by
  unfold freeB
  cases hm : hasB F n with
  | false => exact rfree_no F n v w hv hf hm
  | true =>
    obtain ⟨k, rfl⟩ := has_nat hm
    rw [Bool.true_and, Int.toNat_natCast]
    exact rfree_yes F k v w hv hf _ hm rfl
end Go.Proofs.Ytpjafjnokgeifaa
end
section
namespace Go.Proofs.Ytpjafjnokgeifaa
open Go.RowKit
set_option linter.unusedVariables false
set_option linter.unusedSimpArgs false

set_option maxRecDepth 20000 in
set_option maxHeartbeats 1000000 in
theorem rfsame_any (F G : Fl) (v u : Value) (w : World) (hv : isFl F v w) (hu : isFl G u w) (h1 : F.pages.length ≤ 1000000) (h2 : F.wear.length ≤ 1000000) (h3 : G.pages.length ≤ 1000000) (h4 : G.wear.length ≤ 1000000) :
    Calls Try.prog 16 #[v, u] w fun e w' => e = .returned (.bool (sameB F G)) ∧ Below w.heap.size w w' := by
  obtain ⟨vp, vw, rfl, hp, hq⟩ := hv
  obtain ⟨up, uw, rfl, gp, gq⟩ := hu
  have hb0 : Below w.heap.size w ((w.alloc (.cells #[vp, vw, .int .i64 F.fuse, strC F.torn, .bool F.dead] 25)).alloc (.cells #[up, uw, .int .i64 G.fuse, strC G.torn, .bool G.dead] 25)) := ((Below.refl _ _).alloc (Nat.le_refl _) _).alloc (by simp) _
  have hbn := (Below.refl (w.alloc (.cells #[vp, vw, .int .i64 F.fuse, strC F.torn, .bool F.dead] 25)).heap.size (w.alloc (.cells #[vp, vw, .int .i64 F.fuse, strC F.torn, .bool F.dead] 25))).alloc (Nat.le_refl _) (.cells #[up, uw, .int .i64 G.fuse, strC G.torn, .bool G.dead] 25)
  have c1 := (cells5_new w 25 vp vw (.int .i64 F.fuse) (strC F.torn) (.bool F.dead)).keep hbn (by simp)
  have c2 := cells5_at (w.alloc (.cells #[vp, vw, .int .i64 F.fuse, strC F.torn, .bool F.dead] 25)) 25 up uw (.int .i64 G.fuse) (strC G.torn) (.bool G.dead) (w.heap.size + 1) (by simp)
  have HB0 := Kept.mk hb0
  have C1 := Kept.mk c1
  have C2 := Kept.mk c2
  have HP := Kept.mk hp
  have HQ := Kept.mk hq
  have GP := Kept.mk gp
  have GQ := Kept.mk gq
  have HS := Kept.mk (show sameB F G = (decide (F.pages = G.pages) && decide (F.wear = G.wear) && (F.fuse == G.fuse) && (F.torn == G.torn) && (F.dead == G.dead)) from rfl)
  clear hp hq gp gq c1 c2 hb0 hbn
  unfold strC
  go_enter Try.func16, Try.ntmps16
  go_wp2_with fail
  refine (refTexts_any F.pages G.pages _ _ _ (stable_cells _ _ _ _ HP.out HB0.out) (stable_cells _ _ _ _ GP.out HB0.out) (by omega) (by omega)).mono ?_
  rintro e w1 ⟨rfl, hb1⟩
  obtain ⟨_, k0, k1, k2, k3, k4⟩ := C1.out.keep hb1 (by simp <;> omega)
  obtain ⟨_, j0, j1, j2, j3, j4⟩ := C2.out.keep hb1 (by simp <;> omega)
  unfold strC at k3 j3
  have hB := Kept.mk (HB0.out.trans (hb1.mono HB0.out.size))
  have hs1 := hb1.size
  have HB1 := Kept.mk hb1
  clear hb1
  cases d1 : decide (F.pages = G.pages) with
  | false =>
    go_wp2
    go_ret
    exact ⟨by rw [HS.out, d1]; rfl, hB.out⟩
  | true =>
    go_wp2_with fail
    refine (refInts_any F.wear G.wear _ _ _ (stable_cells _ _ _ _ HQ.out hB.out) (stable_cells _ _ _ _ GQ.out hB.out) (by omega) (by omega)).mono ?_
    rintro e w2 ⟨rfl, hb2⟩
    clear k0 k1 k2 k3 k4 j0 j1 j2 j3 j4
    obtain ⟨_, k0, k1, k2, k3, k4⟩ := (C1.out.keep HB1.out (by simp <;> omega)).keep hb2 (by simp at hs1 <;> omega)
    obtain ⟨_, j0, j1, j2, j3, j4⟩ := (C2.out.keep HB1.out (by simp <;> omega)).keep hb2 (by simp at hs1 <;> omega)
    unfold strC at k3 j3
    have hB2 := Kept.mk (hB.out.trans (hb2.mono hB.out.size))
    clear hb2
    cases d2 : decide (F.wear = G.wear) with
    | false =>
      go_wp2
      go_ret
      exact ⟨by rw [HS.out, d1, d2]; rfl, hB2.out⟩
    | true =>
      cases d3 : F.fuse == G.fuse with
      | false =>
        go_wp2
        go_ret
        exact ⟨by rw [HS.out, d1, d2, d3]; rfl, hB2.out⟩
      | true =>
        cases d4 : F.torn == G.torn with
        | false =>
          go_wp2
          go_ret
          exact ⟨by rw [HS.out, d1, d2, d3, d4]; rfl, hB2.out⟩
        | true =>
          go_wp2
          go_ret
          exact ⟨by rw [HS.out, d1, d2, d3, d4]; rfl, hB2.out⟩
end Go.Proofs.Ytpjafjnokgeifaa
end
section
namespace Go.Proofs.Ytpjafjnokgeifaa
open Go.RowKit Go.ChangeShapes Go.WideShapes
set_option linter.unusedVariables false
set_option linter.unusedSimpArgs false

theorem spot_none {w : World} {a : Addr} {v : Value} (h : w.cell? a = some v) : a = ⟨a.block, a.off, none⟩ := by
  obtain ⟨b, o, s⟩ := a
  cases s with
  | none => rfl
  | some s =>
    simp only [World.cell?] at h
    split at h <;> simp at h
theorem add_plain (b o i : Nat) : (⟨b, o, none⟩ : Addr).add i = ⟨b, o + i, none⟩ := by
  by_cases e : i = 0
  · subst e; simp [Addr.add]
  · simp [Addr.add, e]
/-- A row that came in. -/
theorem cells_came {w : World} {a : Addr} {len cap : Nat} (cs : List Value) (hl : cs.length = len) (hc : ∀ (i : Nat) (x : Value), cs[i]? = some x → w.cell? (a.add i) = some x) : isCells cs (.slice (some a) len cap) w := by
  cases cs with
  | nil => subst hl; exact .inr (.inl ⟨a, cap, rfl, rfl⟩)
  | cons x cs =>
    have h0 := hc 0 x rfl
    have e0 : a.add 0 = a := by simp [Addr.add]
    rw [e0] at h0
    have ha := spot_none h0
    rw [ha] at hc ⊢
    subst hl
    refine .inr (.inr ⟨a.block, a.off, cap, rfl, ?_, fun j y hy => ?_⟩)
    · simp only [World.cell?] at h0
      split at h0
      · rename_i h; exact (Array.getElem?_eq_some_iff.1 h).1
      · simp at h0
    · have := hc j y hy
      rwa [add_plain] at this

section
variable {W : World} {H : Type} {enc : TypeId × Value → H} {base : Nat} {spare : Nat → Bool} {held : Bool} {n : Nat}
theorem open_pages {v : Value} {y : DataW H × List MemPlace} (g : DataW.trod enc Try.prog W base spare held n 22 [v] = some y) :
    ∃ l : List (List UInt8), isCells (l.map strC) v W ∧ l.length ≤ maxLen ∧ (∀ s ∈ l, s.length ≤ maxLen) ∧ ((∀ m ∈ y.1.weights Try.prog 22, m ≤ reachBytes) → l.length * 16 ≤ reachBytes) := by
  have hby : Try.prog.bytesOf 9 = 16 := by kernel_rfl
  rcases open_strings Try.underlying22 Try.underlying9 (by kernel_rfl) g with ⟨hc, _⟩ | ⟨a, len, cap, ss, hc, _, hl, hm, hz, hx0, hcell, hs⟩
  · injection hc with hc _
    subst hc
    exact ⟨[], .inl ⟨rfl, rfl⟩, Nat.zero_le _, (fun s hs => by simp at hs), fun _ => Nat.zero_le _⟩
  · injection hc with hc _
    subst hc
    have hle : len ≤ ss.length := by rw [hz]; split <;> omega
    refine ⟨(ss.take len).map fun s => s.data.toList, cells_came _ (by simp; omega) (fun i x hx => ?_), by simp; omega, fun s h => ?_, fun hw => ?_⟩
    · have hi : i < len := by have := (List.getElem?_eq_some_iff.1 hx).1; simp at this; omega
      rw [hcell i (by omega)]
      rw [List.getElem?_map, List.getElem?_map, List.getElem?_take, if_pos hi, List.getElem?_eq_getElem (by omega : i < ss.length)] at hx
      simp only [Option.map_some, Option.some.injEq] at hx
      rw [← hx]
      have e : ss.getD i ByteArray.empty = ss[i]'(by omega) := by simp [List.getD_eq_getElem?_getD, show i < ss.length by omega]
      rw [e]
      show some (Value.string (ss[i]'(by omega))) = some (.string ⟨(ss[i]'(by omega)).data.toList.toArray⟩)
      rw [← str_eta]
    · obtain ⟨b, hb, rfl⟩ := List.mem_map.1 h
      have := hs b (List.mem_of_mem_take hb)
      simpa using this
    · subst hx0
      have := hw ((ss.take len).length * 16 + (ss.drop len).length * 16) (by simp only [DataW.weights, Try.underlying22, hby, strs, List.length_map]; rw [← Nat.add_mul]; exact List.mem_cons_self ..)
      simp only [List.length_map, List.length_take, List.length_drop] at this ⊢
      omega
theorem open_wear {v : Value} {y : DataW H × List MemPlace} (g : DataW.trod enc Try.prog W base spare held n 23 [v] = some y) :
    ∃ l : List Int, isCells (l.map intC) v W ∧ l.length ≤ maxLen ∧ (∀ x ∈ l, (Lit.int .i64 x).wf = true) ∧ ((∀ m ∈ y.1.weights Try.prog 23, m ≤ reachBytes) → l.length * 8 ≤ reachBytes) := by
  have hby : Try.prog.bytesOf 3 = 8 := by kernel_rfl
  rcases open_ints Try.underlying23 Try.underlying3 (by kernel_rfl) g with ⟨hc, _⟩ | ⟨a, len, cap, zs, hc, _, hl, hm, hz, hx0, hcell, hs⟩
  · injection hc with hc _
    subst hc
    exact ⟨[], .inl ⟨rfl, rfl⟩, Nat.zero_le _, (fun s hs => by simp at hs), fun _ => Nat.zero_le _⟩
  · injection hc with hc _
    subst hc
    have hle : len ≤ zs.length := by rw [hz]; split <;> omega
    refine ⟨zs.take len, cells_came _ (by simp; omega) (fun i x hx => ?_), by simp; omega, (fun s h => hs s (List.mem_of_mem_take h)), fun hw => ?_⟩
    case refine_2 =>
      subst hx0
      have := hw ((zs.take len).length * 8 + (zs.drop len).length * 8) (by simp only [DataW.weights, Try.underlying23, hby, lits, List.length_map]; rw [← Nat.add_mul]; exact List.mem_cons_self ..)
      simp only [List.length_take, List.length_drop] at this ⊢
      omega
    have hi : i < len := by have := (List.getElem?_eq_some_iff.1 hx).1; simp at this; omega
    rw [hcell i (by omega)]
    rw [List.getElem?_map, List.getElem?_take, if_pos hi, List.getElem?_eq_getElem (by omega : i < zs.length)] at hx
    simp only [Option.map_some, Option.some.injEq] at hx
    rw [← hx]
    simp [List.getD_eq_getElem?_getD, show i < zs.length by omega, intC]
end
theorem wf_i64 {x : Int} (h : (Lit.int .i64 x).wf = true) : -9223372036854775808 ≤ x ∧ x ≤ 9223372036854775807 := by
  unfold Lit.wf at h
  rw [Bool.and_eq_true] at h
  exact ⟨of_decide_eq_true h.1, of_decide_eq_true h.2⟩
/-- What a device that came in is. -/
structure Came (F : Fl) : Prop where
  fuse : (Lit.int .i64 F.fuse).wf = true
  torn : F.torn.length ≤ maxLen
  wear : ∀ x ∈ F.wear, (Lit.int .i64 x).wf = true
  pages : ∀ s ∈ F.pages, s.length ≤ maxLen
  nw : F.wear.length ≤ maxLen
  np : F.pages.length ≤ maxLen
set_option maxRecDepth 100000 in
theorem open_flash {W : World} {H : Type} {enc : TypeId × Value → H} {base b0 : Nat} {spare : Nat → Bool} {held : Bool} {v : Value} {d : DataW H} {p : List MemPlace} (hv : Value.okWide Try.prog W .any b0 25 v)
    (h : DataW.Trod enc Try.prog W base spare held 25 v d p) : ∃ F : Fl, isFl F v W ∧ Came F ∧ ((∀ m ∈ d.weights Try.prog 25, m ≤ reachBytes) → F.pages.length * 16 ≤ reachBytes ∧ F.wear.length * 8 ≤ reachBytes) := by
  obtain ⟨⟨l⟩, rfl, hsz⟩ := okWide_struct Try.underlying25 hv
  have hl : l.length = 5 := hsz.trans (by kernel_rfl)
  match l, hl with
  | [v0, v1, v2, v3, v4], _ =>
    obtain ⟨fuel, hf⟩ := h
    obtain ⟨xs, n, _, hxe, _, hxl, hg⟩ := DataW.trod_struct Try.underlying25 hf
    have at_ : ∀ i, i < 5 → ∃ y, xs[i]? = some y := fun i hi => ⟨_, List.getElem?_eq_getElem (by rw [hxl]; exact hi)⟩
    have c1 : Try.prog.cellsOf 22 = 1 := by kernel_rfl
    have c2 : Try.prog.cellsOf 23 = 1 := by kernel_rfl
    have c3 : Try.prog.cellsOf 3 = 1 := by kernel_rfl
    have c4 : Try.prog.cellsOf 9 = 1 := by kernel_rfl
    have c5 : Try.prog.cellsOf 4 = 1 := by kernel_rfl
    obtain ⟨y0, e0⟩ := at_ 0 (by decide)
    obtain ⟨y1, e1⟩ := at_ 1 (by decide)
    obtain ⟨y2, e2⟩ := at_ 2 (by decide)
    obtain ⟨y3, e3⟩ := at_ 3 (by decide)
    obtain ⟨y4, e4⟩ := at_ 4 (by decide)
    have g0 := hg 0 _ rfl
    have g1 := hg 1 _ rfl
    have g2 := hg 2 _ rfl
    have g3 := hg 3 _ rfl
    have g4 := hg 4 _ rfl
    simp only [Value.cells, c1, c2, c3, c4, c5, List.drop_zero, List.drop_succ_cons, List.take_succ_cons, List.take_zero] at g0 g1 g2 g3 g4
    rw [e0] at g0
    rw [e1] at g1
    rw [e2] at g2
    rw [e3] at g3
    rw [e4] at g4
    obtain ⟨pages, hp, hpn, hps, hpw⟩ := open_pages g0
    obtain ⟨wear, hw, hwn, hws, hww⟩ := open_wear g1
    obtain ⟨fuse, h2, _, hfu⟩ := DataW.trod_int Try.underlying3 g2
    obtain ⟨torn, h3, _, hto⟩ := DataW.trod_string Try.underlying9 g3
    obtain ⟨dead, h4, _⟩ := DataW.trod_bool Try.underlying4 g4
    injection h2 with h2 _
    injection h3 with h3 _
    injection h4 with h4 _
    subst h2 h3 h4
    refine ⟨⟨pages, wear, fuse, torn.data.toList, dead⟩, ⟨v0, v1, ?_, hp, hw⟩, ⟨hfu, by simpa using hto, hws, hps, hwn, hpn⟩, fun hall => ?_⟩
    case refine_2 =>
      injection hxe with hd _
      subst hd
      refine ⟨hpw fun m hm => hall m ?_, hww fun m hm => hall m ?_⟩
      · simp only [DataW.weights, Try.underlying25]
        exact DataW.weights_mem_each (j := 0) rfl (by rw [List.getElem?_map, e0]; rfl) m hm
      · simp only [DataW.weights, Try.underlying25]
        exact DataW.weights_mem_each (j := 1) rfl (by rw [List.getElem?_map, e1]; rfl) m hm
    show Value.agg #[v0, v1, .int .i64 fuse, .string torn, .bool dead] = .agg #[v0, v1, .int .i64 fuse, .string ⟨torn.data.toList.toArray⟩, .bool dead]
    rw [← str_eta]
end Go.Proofs.Ytpjafjnokgeifaa
end
