/- Joined texts: contracts of the program's functions, and the mathematics that they lean on. -/
import Derived.Test.YtbgconagkgfplaaGreatPartE
import Derived.Laws.AppendOwnNone
import Derived.Laws.IdiomCopy
section
namespace Go.Proofs.YtbgconagkgfplaaGreat
open Go.RowKit
set_option linter.unusedVariables false
set_option linter.unusedSimpArgs false
attribute [local irreducible] setN

theorem max_abs (n : Int) : maxI n (-n) = absI n := by unfold maxI absI; (repeat' split) <;> omega
theorem side_len {V : Va} (h : okV V = true) (hk : V.kind = 2) (n : Int) : (sideL V n).length = 8 ∧ ∀ x ∈ sideL V n, 0 ≤ x ∧ x ≤ 65535 := by
  obtain ⟨h1, _⟩ := ok_count h hk
  unfold inCount okRow okNum at h1
  simp only [Bool.and_eq_true, decide_eq_true_eq, List.all_eq_true] at h1
  unfold sideL
  split
  · exact h1.2
  · exact h1.1
theorem arg_zero {n : Int} (h : argE n = 0) : n ≠ 0 ∧ -65535 ≤ n ∧ n ≤ 65535 := by
  unfold argE at h; split at h
  · cases h
  · omega
theorem blk_row {w : World} {g : Nat} {c : Value} {t : TypeId} (h : w.rowIs g t 8 (fun _ => c)) : Blk w g (List.replicate 8 c) :=
  ⟨⟨h.lt, fun j x hx => by
    have hj : j < 8 := by have := (List.getElem?_eq_some_iff.1 hx).1; simpa using this
    rw [h.cell hj]
    rw [List.getElem?_replicate, if_pos hj] at hx
    exact hx⟩, fun j => h.frozen j⟩
theorem blk_cells8 {w : World} {g : Nat} {l : List Int} (h : Blk w g (l.map intC)) (hl : l.length = 8) : isCells (l.map intC) (.slice (some ⟨g, 0, none⟩) 8 8) w := by
  refine .inr (.inr ⟨g, 0, 8, by rw [List.length_map, hl], h.lt, fun j x hx => ?_⟩)
  rw [Nat.zero_add]; exact h.cells.2 j x hx
theorem rep_cells : (List.replicate 8 (0 : Int)).map intC = List.replicate 8 (intC 0) := by rw [List.map_replicate]
theorem only_cells (k : Nat) (x : Int) : (onlyI (k : Int) x).map intC = (List.replicate 8 (intC 0)).set k (intC x) := by
  unfold onlyI; rw [List.map_set, rep_cells]; rfl
set_option maxRecDepth 100000 in
set_option maxHeartbeats 2000000 in
theorem side_any (V : Va) (vp vm : Value) (n : Int) (w : World) (hp : isCells (V.plus.map intC) vp w) (hm : isCells (V.minus.map intC) vm w) : Calls Tryz.prog 69 #[.agg #[.int .i64 V.kind, .int .i64 V.time, .int .i64 V.node, .bool V.dead, .string ⟨V.text.toArray⟩, vp, vm, .int .u64 (V.flags.toNat : Int)], .int .i64 n] w fun e w' => e = .returned (if n < 0 then vm else vp) ∧ Below w.heap.size w w' := by
  obtain ⟨hB, V1⟩ := vbox w V vp vm hp hm w.heap.size rfl
  have KA := Kept.mk (Blk.new w 28 [.int .i64 V.kind, .int .i64 V.time, .int .i64 V.node, .bool V.dead, .string ⟨V.text.toArray⟩, vp, vm, .int .u64 (V.flags.toNat : Int)] w.heap.size rfl)
  have k5 := KA.out.cells.2 5 _ rfl
  have k6 := KA.out.cells.2 6 _ rfl
  obtain ⟨sp, sc, ep⟩ := hp.len
  obtain ⟨sm, sd, em⟩ := hm.len
  rw [List.length_map] at ep em
  clear hp hm V1
  subst ep em
  by_cases h0 : n < 0
  · rw [if_pos h0]
    go_enter Tryz.func69, Tryz.ntmps69
    go_wp2
    go_ret
    exact ⟨rfl, hB.out⟩
  · rw [if_neg h0]
    go_enter Tryz.func69, Tryz.ntmps69
    go_wp2
    go_ret
    exact ⟨rfl, hB.out⟩
theorem side_at (V : Va) (vp vm sv : Value) (n : Int) (w : World) (hp : isCells (V.plus.map intC) vp w) (hm : isCells (V.minus.map intC) vm w) (hs : (if n < 0 then vm else vp) = sv) : Calls Tryz.prog 69 #[.agg #[.int .i64 V.kind, .int .i64 V.time, .int .i64 V.node, .bool V.dead, .string ⟨V.text.toArray⟩, vp, vm, .int .u64 (V.flags.toNat : Int)], .int .i64 n] w fun e w' => e = .returned sv ∧ Below w.heap.size w w' := by subst hs; exact side_any V vp vm n w hp hm
theorem un_neg (n : Int) (h : -65535 ≤ n ∧ n ≤ 65535) (w : World) : (Op.unary .neg (.int .i64 n)).run Tryz.prog w = .ok (.int .i64 (-n)) w := by
  simp [Op.unary, go_sem]
  try rw [IntKind.wrap_i64]
  all_goals omega
theorem bin_add (x y : Int) (h : -1000000000 ≤ x + y ∧ x + y ≤ 1000000000) (w : World) : (binOp .add 3 (.int .i64 x) (.int .i64 y)).run Tryz.prog w = .ok (.int .i64 (x + y)) w := by
  simp [go_sem]
  rw [IntKind.wrap_i64]
  omega
noncomputable def add2Ops : Array Oper := regionOf Tryz.f68 1
set_option maxRecDepth 100000 in
set_option maxHeartbeats 2000000 in
theorem add2_region (Q : Exit → Act → World → Prop) (a0 : Act) (w0 : World) (hsz : a0.tmps.size = 19) (gv gn gd gt b off cap k : Nat) (V : Va) (vp vm : Value) (n x : Int) (HV : CellsN w0 gv [.int .i64 V.kind, .int .i64 V.time, .int .i64 V.node, .bool V.dead, .string ⟨V.text.toArray⟩, vp, vm, .int .u64 (V.flags.toNat : Int)]) (hp : isCells (V.plus.map intC) vp w0) (hm : isCells (V.minus.map intC) vm w0) (hsv : (if n < 0 then vm else vp) = .slice (some ⟨b, off, none⟩) 8 cap) (HN : w0.cell? ⟨gn, 0, none⟩ = some (.int .i64 n)) (hgn : gn < w0.heap.size) (HD : w0.cell? ⟨gd, 0, none⟩ = some (.int .i64 (k : Int))) (hgd : gd < w0.heap.size) (HX : w0.cell? ⟨b, off + k, none⟩ = some (.int .i64 x)) (hb0 : b < w0.heap.size) (hk : k < 8) (hn : -65535 ≤ n ∧ n ≤ 65535) (hx : 0 ≤ x ∧ x ≤ 65535) (old : Value) (HT : At w0 gt old) (e0 : a0.tmps.getD 0 undef = .pointer (some ⟨gv, 0, none⟩)) (e1 : a0.tmps.getD 1 undef = .pointer (some ⟨gn, 0, none⟩)) (e2 : a0.tmps.getD 2 undef = .pointer (some ⟨gd, 0, none⟩)) (e3 : a0.tmps.getD 3 undef = .pointer (some ⟨gt, 0, none⟩))
    (hQ : ∀ (g : Nat → Value) (w : World), Below w0.heap.size w0 w → Q .normal { tmps := [5, 6, 7, 8, 9, 10, 11, 12, 13, 14, 15].foldl (fun t s => t.setIfInBounds s (g s)) a0.tmps, defers := a0.defers } (w.setCell ⟨gt, 0, none⟩ (.int .i64 (x + maxI n (-n))))) :
    (Code.region 1 add2Ops true).wp Tryz.prog Q a0 w0 := by
  refine wp_region_cov 11 mixed (by rw [hsz]; kernel_rfl) (by kernel_rfl) ?_
  rw [show add2Ops.size - 11 = 1 by kernel_rfl]
  refine ⟨isVal (.agg #[.int .i64 V.kind, .int .i64 V.time, .int .i64 V.node, .bool V.dead, .string ⟨V.text.toArray⟩, vp, vm, .int .u64 (V.flags.toNat : Int)]), step_loadA 28 (.tmp 0) (gv) (0) [.int .i64 V.kind, .int .i64 V.time, .int .i64 V.node, .bool V.dead, .string ⟨V.text.toArray⟩, vp, vm, .int .u64 (V.flags.toNat : Int)] (by kernel_rfl) (wanted_none (by kernel_rfl)) (knows_old 0 (.pointer (some ⟨gv, 0, none⟩)) (by kernel_rfl) e0) size_va agg_va (⟨HV.1, fun j x hx => by rw [Nat.zero_add]; exact HV.2 j x hx⟩), ?_⟩
  refine ⟨isVal (.int .i64 n), step_read 3 (.tmp 1) ⟨gn, 0, none⟩ (.int .i64 n) (by kernel_rfl) (wanted_none (by kernel_rfl)) (knows_old 1 (.pointer (some ⟨gn, 0, none⟩)) (by kernel_rfl) e1) (HN) (hgn) (agg_noZ), ?_⟩
  refine ⟨isVal (.slice (some ⟨b, off, none⟩) 8 cap), step_call 69 #[.tmp 5, .tmp 6] #[28, 3] #[.agg #[.int .i64 V.kind, .int .i64 V.time, .int .i64 V.node, .bool V.dead, .string ⟨V.text.toArray⟩, vp, vm, .int .u64 (V.flags.toNat : Int)], .int .i64 n] (by kernel_rfl) (wanted_none (by kernel_rfl)) (stable_val _) (args2 (.tmp 5) (.tmp 6) (.agg #[.int .i64 V.kind, .int .i64 V.time, .int .i64 V.node, .bool V.dead, .string ⟨V.text.toArray⟩, vp, vm, .int .u64 (V.flags.toNat : Int)]) (.int .i64 n) (knows_new (V := isVal (.agg #[.int .i64 V.kind, .int .i64 V.time, .int .i64 V.node, .bool V.dead, .string ⟨V.text.toArray⟩, vp, vm, .int .u64 (V.flags.toNat : Int)])) 5 0 (by kernel_rfl) (by kernel_rfl) (by kernel_rfl)) (knows_new (V := isVal (.int .i64 n)) 6 1 (by kernel_rfl) (by kernel_rfl) (by kernel_rfl))) (enters_of Tryz.func69 (by kernel_rfl) rfl) (by intro w' hb; exact call_v1 (side_at V vp vm (.slice (some ⟨b, off, none⟩) 8 cap) n w' (stable_cells _ _ _ _ hp hb) (stable_cells _ _ _ _ hm hb) hsv)), ?_⟩
  refine ⟨isVal (.int .i64 (k : Int)), step_read 3 (.tmp 2) ⟨gd, 0, none⟩ (.int .i64 (k : Int)) (by kernel_rfl) (wanted_none (by kernel_rfl)) (knows_old 2 (.pointer (some ⟨gd, 0, none⟩)) (by kernel_rfl) e2) (HD) (hgd) (agg_noZ), ?_⟩
  refine ⟨isVal (.pointer (some ⟨b, off + k, none⟩)), step_place 23 3 (.tmp 7) (.tmp 8) b (off) (8) (cap) (k) (by kernel_rfl) (wanted_none (by kernel_rfl)) (knows_new (V := isVal (.slice (some ⟨b, off, none⟩) 8 cap)) 7 2 (by kernel_rfl) (by kernel_rfl) (by kernel_rfl)) (knows_new (V := isVal (.int .i64 (k : Int))) 8 3 (by kernel_rfl) (by kernel_rfl) (by kernel_rfl)) Tryz.underlying23 (by kernel_rfl) (hk), ?_⟩
  refine ⟨isVal (.int .i64 x), step_read 3 (.tmp 9) ⟨b, off + k, none⟩ (.int .i64 x) (by kernel_rfl) (wanted_none (by kernel_rfl)) (knows_new (V := isVal (.pointer (some ⟨b, off + k, none⟩))) 9 4 (by kernel_rfl) (by kernel_rfl) (by kernel_rfl)) (HX) (hb0) (agg_noZ), ?_⟩
  refine ⟨isVal (.int .i64 n), step_read 3 (.tmp 1) ⟨gn, 0, none⟩ (.int .i64 n) (by kernel_rfl) (wanted_none (by kernel_rfl)) (knows_old 1 (.pointer (some ⟨gn, 0, none⟩)) (by kernel_rfl) e1) (HN) (hgn) (agg_noZ), ?_⟩
  refine ⟨isVal (.int .i64 n), step_read 3 (.tmp 1) ⟨gn, 0, none⟩ (.int .i64 n) (by kernel_rfl) (wanted_none (by kernel_rfl)) (knows_old 1 (.pointer (some ⟨gn, 0, none⟩)) (by kernel_rfl) e1) (HN) (hgn) (agg_noZ), ?_⟩
  refine ⟨isVal (.int .i64 (-n)), step_un .neg 3 (.tmp 12) (.int .i64 n) (.int .i64 (-n)) (by kernel_rfl) (wanted_none (by kernel_rfl)) (knows_new (V := isVal (.int .i64 n)) 12 7 (by kernel_rfl) (by kernel_rfl) (by kernel_rfl)) (un_neg n hn), ?_⟩
  refine ⟨isVal (.int .i64 (maxI n (-n))), step_max .i64 3 3 (.tmp 11) (.tmp 13) n (-n) (maxI n (-n)) (by kernel_rfl) (wanted_none (by kernel_rfl)) (knows_new (V := isVal (.int .i64 n)) 11 6 (by kernel_rfl) (by kernel_rfl) (by kernel_rfl)) (knows_new (V := isVal (.int .i64 (-n))) 13 8 (by kernel_rfl) (by kernel_rfl) (by kernel_rfl)) rfl, ?_⟩
  refine ⟨isVal (.int .i64 (x + maxI n (-n))), step_bin .add 3 3 (.tmp 10) (.tmp 14) (.int .i64 x) (.int .i64 (maxI n (-n))) (.int .i64 (x + maxI n (-n))) (by kernel_rfl) (wanted_none (by kernel_rfl)) (knows_new (V := isVal (.int .i64 x)) 10 5 (by kernel_rfl) (by kernel_rfl) (by kernel_rfl)) (knows_new (V := isVal (.int .i64 (maxI n (-n)))) 14 9 (by kernel_rfl) (by kernel_rfl) (by kernel_rfl)) (fun _ => rfl) (bin_add x (maxI n (-n)) (by have := hx; have := hn; unfold maxI; split <;> omega)), ?_⟩
  intro a w hkp hb hd
  have dP : a.eval (.tmp 3) = .pointer (some ⟨gt, 0, none⟩) := (hkp.2.2 3 (by kernel_rfl)).trans e3
  have dV : a.eval (.tmp 15) = (.int .i64 (x + maxI n (-n))) := fdone_of (hd 10 (by decide)) (t := 15) (V := isVal (.int .i64 (x + maxI n (-n)))) (by kernel_rfl) (by kernel_rfl)
  obtain ⟨y, ey⟩ := kept_ex hkp [some 5, some 6, some 7, some 8, some 9, some 10, some 11, some 12, some 13, some 14, some 15, none] [5, 6, 7, 8, 9, 10, 11, 12, 13, 14, 15] (by kernel_rfl) (by decide)
  obtain ⟨old, hco⟩ := (show ∃ old, w.cell? ⟨gt, 0, none⟩ = some old from ⟨old, (HT.keep hb).cell⟩)
  refine tail_store 3 (.tmp 3) (.tmp 15) ⟨gt, 0, none⟩ (.int .i64 (x + maxI n (-n))) old (by kernel_rfl) (by kernel_rfl) dP dV (by kernel_rfl) rfl rfl hco (HT.keep hb).free ?_
  rw [ey]
  exact hQ y w hb
set_option maxRecDepth 100000 in
set_option maxHeartbeats 2000000 in
theorem add2_any (gv gn gd gt k : Nat) (V : Va) (vp vm old : Value) (n : Int) (w : World) (HV : CellsN w gv [.int .i64 V.kind, .int .i64 V.time, .int .i64 V.node, .bool V.dead, .string ⟨V.text.toArray⟩, vp, vm, .int .u64 (V.flags.toNat : Int)]) (hp : isCells (V.plus.map intC) vp w) (hm : isCells (V.minus.map intC) vm w) (HN : w.cell? ⟨gn, 0, none⟩ = some (.int .i64 n)) (hgn : gn < w.heap.size) (HD : w.cell? ⟨gd, 0, none⟩ = some (.int .i64 (k : Int))) (hgd : gd < w.heap.size) (HT : At w gt old) (hV : okV V = true) (hkd : V.kind = 2) (hk : k < 8) (hn : -65535 ≤ n ∧ n ≤ 65535) :
    Calls Tryz.prog 68 #[.pointer (some ⟨gv, 0, none⟩), .pointer (some ⟨gn, 0, none⟩), .pointer (some ⟨gd, 0, none⟩), .pointer (some ⟨gt, 0, none⟩)] w fun r w' => r = .returned (.int .i64 (overE V (k : Int) n)) ∧ Wr gt (.int .i64 (togI V (k : Int) n)) w w' := by
  obtain ⟨s8, sb⟩ := side_len hV hkd n
  have hsc : isCells ((sideL V n).map intC) (if n < 0 then vm else vp) w := by
    unfold sideL
    by_cases h : n < 0
    · rw [if_pos h, if_pos h]; exact hm
    · rw [if_neg h, if_neg h]; exact hp
  obtain ⟨x, hx⟩ : ∃ x, (sideL V n)[k]? = some x := ⟨_, List.getElem?_eq_getElem (by omega)⟩
  have hxr := sb x (List.mem_of_getElem? hx)
  have ht : togI V (k : Int) n = x + maxI n (-n) := by unfold togI; rw [max_abs, Int.toNat_natCast, hx]; rfl
  rcases hsc with ⟨_, h0⟩ | ⟨_, _, _, h0⟩ | ⟨b, off, cap, hsv, hb0, hcell⟩
  · rw [List.map_eq_nil_iff] at h0; rw [h0] at s8; cases s8
  · rw [List.map_eq_nil_iff] at h0; rw [h0] at s8; cases s8
  rw [List.length_map, s8] at hsv
  have HX := hcell k (intC x) (by rw [List.getElem?_map, hx]; rfl)
  unfold overE
  rw [ht]
  have hz0 : 0 ≤ x + maxI n (-n) ∧ x + maxI n (-n) ≤ 200000 := by unfold maxI; split <;> omega
  generalize hz : x + maxI n (-n) = z at hz0
  obtain ⟨er, her⟩ : ∃ er : Int, (if 65535 < z then (5 : Int) else 0) = er := ⟨_, rfl⟩
  rw [her]
  have HER := Kept.mk her
  have HZ := Kept.mk hz
  have HC := Kept.mk HV
  have HP := Kept.mk hp
  have HM := Kept.mk hm
  have HS := Kept.mk hsv
  have HNN := Kept.mk HN
  have HDD := Kept.mk HD
  have HXX := Kept.mk HX
  have HTT := Kept.mk HT
  clear her hz HV hp hm hsv HN HD HX HT hcell sb s8 hx ht
  go_enter Tryz.func68, Tryz.ntmps68
  go_wp2_with fail
  refine add2_region _ _ _ rfl gv gn gd gt b off cap k V vp vm n x HC.out HP.out HM.out HS.out HNN.out hgn HDD.out hgd HXX.out hb0 hk hn hxr old HTT.out rfl rfl rfl rfl ?_
  intro f9 W9 hb9
  simp only [List.foldl_cons, List.foldl_nil]
  generalize f9 5 = y5
  generalize f9 6 = y6
  generalize f9 7 = y7
  generalize f9 8 = y8
  generalize f9 9 = y9
  generalize f9 10 = y10
  generalize f9 11 = y11
  generalize f9 12 = y12
  generalize f9 13 = y13
  generalize f9 14 = y14
  generalize f9 15 = y15
  simp only [List.setIfInBounds_toArray, List.set_cons_succ, List.set_cons_zero]
  rw [HZ.out]
  have HW := Kept.mk (Wr.behind hb9 (Wr.set (HTT.out.keep hb9) (.int .i64 z)))
  generalize W9.setCell ⟨gt, 0, none⟩ (.int .i64 z) = WX at *
  have kt := HW.out.at_.cell
  clear hb9
  by_cases h : 65535 < z
  · obtain rfl : er = 5 := by rw [← HER.out, if_pos h]
    clear HER
    go_wp2_with fail
    refine (when_at true 5 5 _ rfl).mono ?_; rintro r w' ⟨rfl, rfl⟩
    go_wp2
    go_ret
    exact ⟨rfl, HW.out⟩
  · obtain rfl : er = 0 := by rw [← HER.out, if_neg h]
    clear HER
    go_wp2_with fail
    refine (when_at false 5 0 _ rfl).mono ?_; rintro r w' ⟨rfl, rfl⟩
    go_wp2
    go_ret
    exact ⟨rfl, HW.out⟩
/-- The last check: what it tells, if it is asked, and the cell that it writes. -/
def isChkL (Pre : Prop) (g : Nat) (x : Value) (e : Int) : VP := fun v w => ∃ (f : FuncId) (caps : Array Value), v = .func (.func f) #[] caps ∧ Enters Tryz.prog f ∧ (Pre → ∀ w', Below w.heap.size w w' → Calls Tryz.prog f caps w' fun r w'' => r = .returned (.int .i64 e) ∧ Wr g x w' w'')
theorem stable_chkL (Pre : Prop) (g : Nat) (x : Value) (e : Int) : Stable (isChkL Pre g x e) := fun v w w' ⟨f, caps, h1, h2, h3⟩ hb => ⟨f, caps, h1, h2, fun hP w'' hb' => h3 hP w'' (hb.trans (hb'.mono hb.size))⟩
def isChksL (es : List Int) (Pre : Prop) (g : Nat) (x : Value) (e : Int) : VP := fun v w => ∃ b cap, v = .slice (some ⟨b, 0, none⟩) (es.length + 1) cap ∧ b < w.heap.size ∧ (∀ j e', es[j]? = some e' → ∃ y, w.cell? ⟨b, j, none⟩ = some y ∧ isChk e' y w) ∧ ∃ y, w.cell? ⟨b, es.length, none⟩ = some y ∧ isChkL Pre g x e y w
theorem stable_chksL (es : List Int) (Pre : Prop) (g : Nat) (x : Value) (e : Int) : Stable (isChksL es Pre g x e) := fun v w w' ⟨b, cap, h1, h2, h3, y, hy, hc⟩ hb => ⟨b, cap, h1, Nat.lt_of_lt_of_le h2 hb.size, fun j e he => by
  obtain ⟨x, hx, hc⟩ := h3 j e he
  exact ⟨x, (hb.cell (p := ⟨b, j, none⟩) h2).trans hx, stable_chk e _ _ _ hc hb⟩, y, (hb.cell (p := ⟨b, es.length, none⟩) h2).trans hy, stable_chkL _ _ _ _ _ _ _ hc hb⟩
/-- What became of memory, when some were asked. -/
def LastW (es : List Int) (e : Int) (g : Nat) (x : Value) (w : World) (k : Nat) (wr : World) : Prop :=
  (k ≤ es.length ∧ Below w.heap.size w wr ∧ firstE (es.drop k) = firstE es) ∨ (k = es.length + 1 ∧ Wr g x w wr ∧ firstE es = 0 ∧ e = 0)
theorem first_snoc : ∀ (es : List Int) (e : Int), firstE (es ++ [e]) = if firstE es = 0 then e else firstE es
  | [], e => by
    show (if e = 0 then (0 : Int) else e) = if (0 : Int) = 0 then e else 0
    rw [if_pos rfl]; split <;> omega
  | x :: r, e => by
    show (if x = 0 then firstE (r ++ [e]) else x) = if (if x = 0 then firstE r else x) = 0 then e else (if x = 0 then firstE r else x)
    rw [first_snoc r e]
    by_cases hx : x = 0
    · rw [if_pos hx, if_pos hx]
    · rw [if_neg hx, if_neg hx, if_neg hx]
set_option maxRecDepth 100000 in
set_option maxHeartbeats 2000000 in
theorem refusalL_any (es : List Int) (Pre : Prop) (g : Nat) (x : Value) (e z : Int) (v : Value) (w : World) (hv : isChksL es Pre g x e v w) (hl : es.length ≤ 100) (hP : firstE es = 0 → Pre) (hz : firstE (es ++ [e]) = z) : Calls Tryz.prog 53 #[v] w fun r w' => r = .returned (.int .i64 z) ∧ ((firstE es ≠ 0 ∧ Below w.heap.size w w') ∨ (firstE es = 0 ∧ Wr g x w w')) := by
  obtain ⟨b, cap, rfl, hb0, hc, y, hy, f', caps', rfl, eg', hcall'⟩ := hv
  have HC := Kept.mk hc
  have HY := Kept.mk hy
  have HCL := Kept.mk hcall'
  have HP := Kept.mk hP
  have HZ := Kept.mk hz
  have egL : ∀ args w, (callFunc f' args).run Tryz.prog w = .ok (.enter f' args) w := eg'
  clear hc hy hcall' hP hz eg'
  generalize hn : es.length = n at *
  have HN := Kept.mk hn
  clear hn
  go_enter Tryz.func53, Tryz.ntmps53
  go_wp2
  go_loopw [8] (fun i wr => ∃ k : Nat, k ≤ n + 1 ∧ i = .int .i64 (k : Int) ∧ Kept (LastW es e g x w k wr)) (fun i _ => n + 1 - (intOf i).toNat)
  case atStart => exact ⟨0, Nat.zero_le _, rfl, ⟨.inl ⟨Nat.zero_le _, Below.refl _ _, by rw [List.drop_zero]⟩⟩⟩
  case round =>
    obtain ⟨k, hk, rfl, L⟩ := hrel
    by_cases hlt : k < n
    · have hlt' : (k : Int) < ((n + 1 : Nat) : Int) := by omega
      obtain ⟨B, A⟩ : Kept (Below w.heap.size w wr) ∧ Kept (firstE (es.drop k) = firstE es) := by
        rcases L.out with ⟨_, h1, h2⟩ | ⟨h1, _⟩
        · exact ⟨⟨h1⟩, ⟨h2⟩⟩
        · rw [HN.out] at h1; omega
      obtain ⟨e1, he⟩ : ∃ e1, es[k]? = some e1 := ⟨_, List.getElem?_eq_getElem (by rw [HN.out]; exact hlt)⟩
      obtain ⟨x1, hx, f, caps, rfl, eg, hcall⟩ := HC.out k e1 he
      have hx' := (B.out.cell (p := ⟨b, k, none⟩) hb0).trans hx
      have HF := Kept.mk (first_drop he)
      have CL := Kept.mk hcall
      clear hx hcall he
      have eg' : ∀ args w, (callFunc f args).run Tryz.prog w = .ok (.enter f args) w := eg
      clear eg L
      go_wp2_with fail
      refine (CL.out _ B.out).mono ?_
      rintro r W1 ⟨rfl, hb⟩
      replace B := Kept.mk (B.out.trans (hb.mono B.out.size))
      clear hb hx' CL eg'
      by_cases h0 : e1 = 0
      · have HA := Kept.mk (show firstE (es.drop (k + 1)) = firstE es by have := HF.out; rw [if_pos h0] at this; rw [← this]; exact A.out)
        subst h0
        clear HF A
        go_wp2
        go_roundw
        case rel => exact ⟨k + 1, by omega, by go_num, ⟨.inl ⟨by rw [HN.out]; omega, B.out, HA.out⟩⟩⟩
        case measure => simp [intOf]; omega
      · have HA := Kept.mk (show firstE es = e1 by have := HF.out; rw [if_neg h0] at this; rw [← this]; exact A.out.symm)
        clear HF A
        go_wp2
        go_ret
        refine ⟨?_, .inl ⟨by rw [HA.out]; exact h0, B.out⟩⟩
        rw [← HZ.out, first_snoc, HA.out, if_neg h0]; rfl
    · by_cases hkn : k = n
      · subst hkn
        have hlt' : (k : Int) < ((k + 1 : Nat) : Int) := by omega
        obtain ⟨B, A⟩ : Kept (Below w.heap.size w wr) ∧ Kept (firstE es = 0) := by
          rcases L.out with ⟨_, h1, h2⟩ | ⟨h1, _⟩
          · exact ⟨⟨h1⟩, ⟨by rw [← h2, List.drop_eq_nil_of_le (by rw [HN.out]; exact Nat.le_refl _)]; rfl⟩⟩
          · rw [HN.out] at h1; omega
        have hx' := (B.out.cell (p := ⟨b, k, none⟩) hb0).trans HY.out
        have HE := Kept.mk (show z = e by rw [← HZ.out, first_snoc, if_pos A.out])
        clear L
        go_wp2_with fail
        refine (HCL.out (HP.out A.out) _ B.out).mono ?_
        rintro r W1 ⟨rfl, hw⟩
        have W := Kept.mk (Wr.behind B.out hw)
        clear hw hx' B
        by_cases h0 : e = 0
        · subst h0
          go_wp2
          go_roundw
          case rel => exact ⟨k + 1, by omega, by go_num, ⟨.inr ⟨by rw [HN.out], W.out, A.out, rfl⟩⟩⟩
          case measure => simp [intOf] <;> omega
        · go_wp2
          go_ret
          exact ⟨by rw [HE.out]; rfl, .inr ⟨A.out, W.out⟩⟩
      · have hke : k = n + 1 := by omega
        subst hke
        have hlt' : ¬ ((n + 1 : Nat) : Int) < ((n + 1 : Nat) : Int) := by omega
        obtain ⟨W, A, E0⟩ : Kept (Wr g x w wr) ∧ Kept (firstE es = 0) ∧ Kept (e = 0) := by
          rcases L.out with ⟨h1, _⟩ | ⟨_, h1, h2, h3⟩
          · rw [HN.out] at h1; omega
          · exact ⟨⟨h1⟩, ⟨h2⟩, ⟨h3⟩⟩
        have HE := Kept.mk (show z = 0 by rw [← HZ.out, first_snoc, if_pos A.out, E0.out])
        clear L
        go_wp2
        go_ret
        exact ⟨by rw [HE.out]; rfl, .inr ⟨A.out, W.out⟩⟩
end Go.Proofs.YtbgconagkgfplaaGreat
end
section
namespace Go.Proofs.YtbgconagkgfplaaGreat
open Go.RowKit
set_option linter.unusedVariables false
set_option linter.unusedSimpArgs false
attribute [local irreducible] setN

theorem put_of {a : Act} {t : Array Value} {ds : List Deferred} {d : Tmp} {v : Value} (e : a = { tmps := t, defers := ds }) : a.put (some d) v = { tmps := t.setIfInBounds d v, defers := ds } := by subst e; rfl
section
variable {P : Program} {ops : Array Oper} {Q : Exit → Act → World → Prop} {i c : Nat} {a : Act} {w : World}
theorem tail_assign (x : Operand) (d : Tmp) (v : Value) (hop : (ops[i]?).map (fun o => (o.op, o.guard)) = some (.assign x, none)) (hd : (ops[i]?).bind (·.dst) = some d) (hx : a.eval x = v) (h : Tail P ops Q c (i + 1) (a.put (some d) v) w) : Tail P ops Q (c + 1) i a w :=
  tail_op (fun _ _ => True) hop fun o ho e => by
    rw [ho] at hd
    simp only [Option.bind_some] at hd
    unfold Oper.wp execOp
    rw [e]
    simp only [hx, Sem.run_bind, Result.andThen_ok, Sem.run_pure, Oper.upon, hd]
    exact h
end
section
variable {ops : Array Oper} {base : World} {a0 : Act} {Q : Exit → Act → World → Prop} {kn : Nat → VP} {i : Nat}
theorem step_closL4 (f : FuncId) (x0 x1 x2 x3 : Operand) (c0 c1 c2 c3 : Value) (Pre : Prop) (g : Nat) (xv : Value) (e : Int) (hop : (ops[i]?).map (·.op) = some (.makeFunc (.func f) #[] #[x0, x1, x2, x3])) (hw : Wanted ops a0 kn i) (h0 : Knows ops a0 kn i x0 (isVal c0)) (h1 : Knows ops a0 kn i x1 (isVal c1)) (h2 : Knows ops a0 kn i x2 (isVal c2)) (h3 : Knows ops a0 kn i x3 (isVal c3)) (he : isChkL Pre g xv e (.func (.func f) #[] #[c0, c1, c2, c3]) base) : FStep Tryz.prog ops base a0 Q kn i (isChkL Pre g xv e) :=
  step_mk (stable_chkL _ _ _ _) hw fun o ho a w hk hb hd => by
    have e0 : a.eval x0 = c0 := h0 a w hk hd
    have e1 : a.eval x1 = c1 := h1 a w hk hd
    have e2 : a.eval x2 = c2 := h2 a w hk hd
    have e3 : a.eval x3 = c3 := h3 a w hk hd
    unfold Oper.wp execOp
    rw [op_of hop ho]
    simp only [List.map_toArray, List.map_cons, List.map_nil, e0, e1, e2, e3, Instr.makeFunc, Sem.run_bind, Sem.run_pure, Result.andThen_ok, Oper.upon]
    exact ⟨_, rfl, stable_chkL _ _ _ _ _ _ _ he hb, Below.refl _ _⟩
theorem step_chksL6 (t e : TypeId) (x0 x1 x2 x3 x4 x5 : Operand) (e0 e1 e2 e3 e4 : Int) (Pre : Prop) (g : Nat) (xv : Value) (eL : Int) (ie : TypeInfo) (hop : (ops[i]?).map (·.op) = some (.buildSlice t 6 #[(0, x0), (1, x1), (2, x2), (3, x3), (4, x4), (5, x5)])) (hw : Wanted ops a0 kn i)
    (h0 : Knows ops a0 kn i x0 (isChk e0)) (h1 : Knows ops a0 kn i x1 (isChk e1)) (h2 : Knows ops a0 kn i x2 (isChk e2)) (h3 : Knows ops a0 kn i x3 (isChk e3)) (h4 : Knows ops a0 kn i x4 (isChk e4)) (h5 : Knows ops a0 kn i x5 (isChkL Pre g xv eL))
    (hu : Tryz.prog.underlying t = some (.slice e)) (hie : Tryz.prog.info? e = some ie) (hz : ie.zero = some .nilFunc) (hsz : ie.size = 1) : FStep Tryz.prog ops base a0 Q kn i (isChksL [e0, e1, e2, e3, e4] Pre g xv eL) :=
  step_mk (stable_chksL _ _ _ _ _) hw fun o ho a w hk hb hd => by
    have c0 := h0 a w hk hd
    obtain ⟨f0, p0, q0, r0⟩ := id c0
    have c1 := h1 a w hk hd
    obtain ⟨f1, p1, q1, r1⟩ := id c1
    have c2 := h2 a w hk hd
    obtain ⟨f2, p2, q2, r2⟩ := id c2
    have c3 := h3 a w hk hd
    obtain ⟨f3, p3, q3, r3⟩ := id c3
    have c4 := h4 a w hk hd
    obtain ⟨f4, p4, q4, r4⟩ := id c4
    have c5 := h5 a w hk hd
    obtain ⟨f5, p5, q5, r5⟩ := id c5
    have hf : Instr.fill (fun i => some (i * ie.size, ie.size)) ((Array.range (6 * ie.size)).map (Value.nilFunc.cells[· % Value.nilFunc.cells.size]!)) ((#[(0, x0), (1, x1), (2, x2), (3, x3), (4, x4), (5, x5)] : Array (Nat × Operand)).map fun (i, x) => (i, a.eval x)).toList = some #[a.eval x0, a.eval x1, a.eval x2, a.eval x3, a.eval x4, a.eval x5] := by
      have e1 : ((#[(0, x0), (1, x1), (2, x2), (3, x3), (4, x4), (5, x5)] : Array (Nat × Operand)).map fun (i, x) => (i, a.eval x)).toList = (([a.eval x0, a.eval x1, a.eval x2, a.eval x3, a.eval x4, a.eval x5] : List Value).zipIdx 0).map fun x => (x.2, x.1) := by simp
      rw [e1, hsz, Great.fill_flat _ _ (fun v hv => by simp only [List.mem_cons, List.not_mem_nil, or_false] at hv; rcases hv with rfl | rfl | rfl | rfl | rfl | rfl <;> first | (rw [q0]; rfl) | (rw [q1]; rfl) | (rw [q2]; rfl) | (rw [q3]; rfl) | (rw [q4]; rfl) | (rw [q5]; rfl)) (by simp)]
    refine wp_buildSlice t e 6 _ (op_of hop ho) _ ie .nilFunc hu hie hz (by rw [hsz]; omega) (by rw [hsz]; omega) hf ?_
    have hb' : Below w.heap.size w (w.alloc (.cells #[a.eval x0, a.eval x1, a.eval x2, a.eval x3, a.eval x4, a.eval x5] e)) := (Below.refl _ _).alloc (Nat.le_refl _) _
    refine ⟨_, rfl, ⟨w.heap.size, 6, rfl, by simp, fun j v hv => ?_, _, ?_, stable_chkL _ _ _ _ _ _ _ c5 hb'⟩, hb'⟩
    · rw [World.cell?_alloc_new]
      match j, hv with
      | 0, hv => obtain rfl : e0 = v := Option.some.inj hv; exact ⟨_, rfl, stable_chk _ _ _ _ c0 hb'⟩
      | 1, hv => obtain rfl : e1 = v := Option.some.inj hv; exact ⟨_, rfl, stable_chk _ _ _ _ c1 hb'⟩
      | 2, hv => obtain rfl : e2 = v := Option.some.inj hv; exact ⟨_, rfl, stable_chk _ _ _ _ c2 hb'⟩
      | 3, hv => obtain rfl : e3 = v := Option.some.inj hv; exact ⟨_, rfl, stable_chk _ _ _ _ c3 hb'⟩
      | 4, hv => obtain rfl : e4 = v := Option.some.inj hv; exact ⟨_, rfl, stable_chk _ _ _ _ c4 hb'⟩
      | m + 5, hv => simp at hv
    · rw [World.cell?_alloc_new]; rfl
end
noncomputable def dadd3Ops : Array Oper := regionOf Tryz.f24 3
set_option maxRecDepth 100000 in
set_option maxHeartbeats 2000000 in
theorem dadd3_region (Q : Exit → Act → World → Prop) (a0 : Act) (w0 : World) (hsz : a0.tmps.size = 48) (ga gd gn gv gt : Nat) (A : Ar) (V : Va) (vs vi vp vm old : Value) (z : Bool) (r node n : Int) (key : List UInt8) (HA : CellsN w0 ga [.int .i64 A.cap, vs, vi]) (XA : isAr A (.agg #[.int .i64 A.cap, vs, vi]) w0) (HV : CellsN w0 gv [.int .i64 V.kind, .int .i64 V.time, .int .i64 V.node, .bool V.dead, .string ⟨V.text.toArray⟩, vp, vm, .int .u64 (V.flags.toNat : Int)]) (XVp : isCells (V.plus.map intC) vp w0) (XVm : isCells (V.minus.map intC) vm w0) (hF : FitA A) (hk : key.length ≤ 1000) (hV : okV V = true) (hkd : V.kind = 2) (HN : w0.cell? ⟨gn, 0, none⟩ = some (.int .i64 n)) (hgn : gn < w0.heap.size) (HD : w0.cell? ⟨gd, 0, none⟩ = some (.int .i64 node)) (hgd : gd < w0.heap.size) (HT : At w0 gt old) (hr : firstE ([chkA A, nodeE node, keyE key, argE n, roomE A z] ++ [(overE V node n)]) = r) (e4 : a0.tmps.getD 4 undef = .pointer (some ⟨ga, 0, none⟩)) (e5 : a0.tmps.getD 5 undef = .pointer (some ⟨gd, 0, none⟩)) (e2 : a0.tmps.getD 2 undef = .string ⟨key.toArray⟩) (e7 : a0.tmps.getD 7 undef = .pointer (some ⟨gn, 0, none⟩)) (e11 : a0.tmps.getD 11 undef = .bool z) (e10 : a0.tmps.getD 10 undef = .pointer (some ⟨gv, 0, none⟩)) (e12 : a0.tmps.getD 12 undef = .pointer (some ⟨gt, 0, none⟩))
    (hQ : ∀ (y : Nat → Value) (w w' : World), Below w0.heap.size w0 w → ((firstE [chkA A, nodeE node, keyE key, argE n, roomE A z] ≠ 0 ∧ Below w.heap.size w w') ∨ (firstE [chkA A, nodeE node, keyE key, argE n, roomE A z] = 0 ∧ Wr gt (.int .i64 (togI V node n)) w w')) → Q .normal { tmps := (([21, 22, 23, 24, 25, 26, 27, 28, 29, 30, 31, 32, 33, 13].foldl (fun t s => t.setIfInBounds s (y s)) a0.tmps).setIfInBounds 33 (.int .i64 r)).setIfInBounds 13 (.int .i64 r), defers := a0.defers } w') :
    (Code.region 3 dadd3Ops true).wp Tryz.prog Q a0 w0 := by
  obtain ⟨ie, hie, hiz, his⟩ := infoChk'
  refine wp_region_cov 12 mixed (by rw [hsz]; kernel_rfl) (by kernel_rfl) ?_
  rw [show dadd3Ops.size - 12 = 2 by kernel_rfl]
  refine ⟨isVal (.agg #[.int .i64 A.cap, vs, vi]), step_loadA 25 (.tmp 4) (ga) (0) [.int .i64 A.cap, vs, vi] (by kernel_rfl) (wanted_none (by kernel_rfl)) (knows_old 4 (.pointer (some ⟨ga, 0, none⟩)) (by kernel_rfl) e4) size_ar agg_ar (⟨HA.1, fun j x hx => by rw [Nat.zero_add]; exact HA.2 j x hx⟩), ?_⟩
  refine ⟨(isChk (chkA A)), step_call 54 #[.tmp 21] #[25] #[.agg #[.int .i64 A.cap, vs, vi]] (by kernel_rfl) (wanted_none (by kernel_rfl)) (stable_chk _) (args1 (.tmp 21) (.agg #[.int .i64 A.cap, vs, vi]) (knows_new (V := isVal (.agg #[.int .i64 A.cap, vs, vi])) 21 0 (by kernel_rfl) (by kernel_rfl) (by kernel_rfl))) (enters_of Tryz.func54 (by kernel_rfl) rfl) (by intro w' hb; exact mayBe_any A _ w' (stable_ar _ _ _ _ XA hb) hF), ?_⟩
  refine ⟨isVal (.int .i64 node), step_read 3 (.tmp 5) ⟨gd, 0, none⟩ (.int .i64 node) (by kernel_rfl) (wanted_none (by kernel_rfl)) (knows_old 5 (.pointer (some ⟨gd, 0, none⟩)) (by kernel_rfl) e5) (HD) (hgd) (agg_noZ), ?_⟩
  refine ⟨(isChk (nodeE node)), step_call 55 #[.tmp 23] #[3] #[.int .i64 node] (by kernel_rfl) (wanted_none (by kernel_rfl)) (stable_chk _) (args1 (.tmp 23) (.int .i64 node) (knows_new (V := isVal (.int .i64 node)) 23 2 (by kernel_rfl) (by kernel_rfl) (by kernel_rfl))) (enters_of Tryz.func55 (by kernel_rfl) rfl) (by intro w' hb; exact isNode_any node w'), ?_⟩
  refine ⟨isVal (.string ⟨key.toArray⟩), step_move (.tmp 2) (by kernel_rfl) (wanted_none (by kernel_rfl)) (stable_val _) (knows_old 2 (.string ⟨key.toArray⟩) (by kernel_rfl) e2), ?_⟩
  refine ⟨(isChk (keyE key)), step_call 56 #[.tmp 25] #[9] #[.string ⟨key.toArray⟩] (by kernel_rfl) (wanted_none (by kernel_rfl)) (stable_chk _) (args1 (.tmp 25) (.string ⟨key.toArray⟩) (knows_new (V := isVal (.string ⟨key.toArray⟩)) 25 4 (by kernel_rfl) (by kernel_rfl) (by kernel_rfl))) (enters_of Tryz.func56 (by kernel_rfl) rfl) (by intro w' hb; exact isKey_any key w' hk), ?_⟩
  refine ⟨(isChk (argE n)), step_clos1 67 (.tmp 7) (.pointer (some ⟨gn, 0, none⟩)) (argE n) (by kernel_rfl) (wanted_none (by kernel_rfl)) (knows_old 7 (.pointer (some ⟨gn, 0, none⟩)) (by kernel_rfl) e7) (⟨67, #[.pointer (some ⟨gn, 0, none⟩)], rfl, enters_of Tryz.func67 (by kernel_rfl) rfl, fun w' hb => arg1_any gn n w' ((hb.cell (p := ⟨gn, 0, none⟩) hgn).trans HN)⟩), ?_⟩
  refine ⟨isVal (.agg #[.int .i64 A.cap, vs, vi]), step_loadA 25 (.tmp 4) (ga) (0) [.int .i64 A.cap, vs, vi] (by kernel_rfl) (wanted_none (by kernel_rfl)) (knows_old 4 (.pointer (some ⟨ga, 0, none⟩)) (by kernel_rfl) e4) size_ar agg_ar (⟨HA.1, fun j x hx => by rw [Nat.zero_add]; exact HA.2 j x hx⟩), ?_⟩
  refine ⟨isVal (.bool z), step_move (.tmp 11) (by kernel_rfl) (wanted_none (by kernel_rfl)) (stable_val _) (knows_old 11 (.bool z) (by kernel_rfl) e11), ?_⟩
  refine ⟨(isChk (roomE A z)), step_call 59 #[.tmp 28, .tmp 29] #[25, 4] #[.agg #[.int .i64 A.cap, vs, vi], .bool z] (by kernel_rfl) (wanted_none (by kernel_rfl)) (stable_chk _) (args2 (.tmp 28) (.tmp 29) (.agg #[.int .i64 A.cap, vs, vi]) (.bool z) (knows_new (V := isVal (.agg #[.int .i64 A.cap, vs, vi])) 28 7 (by kernel_rfl) (by kernel_rfl) (by kernel_rfl)) (knows_new (V := isVal (.bool z)) 29 8 (by kernel_rfl) (by kernel_rfl) (by kernel_rfl))) (enters_of Tryz.func59 (by kernel_rfl) rfl) (by intro w' hb; exact hasRoom_any A z _ w' (stable_ar _ _ _ _ XA hb) hF), ?_⟩
  refine ⟨(isChkL (0 ≤ node ∧ node < 8 ∧ -65535 ≤ n ∧ n ≤ 65535) gt (.int .i64 (togI V node n)) (overE V node n)), step_closL4 68 (.tmp 10) (.tmp 7) (.tmp 5) (.tmp 12) (.pointer (some ⟨gv, 0, none⟩)) (.pointer (some ⟨gn, 0, none⟩)) (.pointer (some ⟨gd, 0, none⟩)) (.pointer (some ⟨gt, 0, none⟩)) (0 ≤ node ∧ node < 8 ∧ -65535 ≤ n ∧ n ≤ 65535) gt (.int .i64 (togI V node n)) (overE V node n) (by kernel_rfl) (wanted_none (by kernel_rfl)) (knows_old 10 (.pointer (some ⟨gv, 0, none⟩)) (by kernel_rfl) e10) (knows_old 7 (.pointer (some ⟨gn, 0, none⟩)) (by kernel_rfl) e7) (knows_old 5 (.pointer (some ⟨gd, 0, none⟩)) (by kernel_rfl) e5) (knows_old 12 (.pointer (some ⟨gt, 0, none⟩)) (by kernel_rfl) e12) (⟨68, #[.pointer (some ⟨gv, 0, none⟩), .pointer (some ⟨gn, 0, none⟩), .pointer (some ⟨gd, 0, none⟩), .pointer (some ⟨gt, 0, none⟩)], rfl, enters_of Tryz.func68 (by kernel_rfl) rfl, fun hP w' hb => by obtain ⟨h1, h2, h3, h4⟩ := hP; obtain ⟨k, rfl⟩ := Int.eq_ofNat_of_zero_le h1; exact add2_any gv gn gd gt k V vp vm old n w' (HV.keep hb HV.1) (stable_cells _ _ _ _ XVp hb) (stable_cells _ _ _ _ XVm hb) ((hb.cell (p := ⟨gn, 0, none⟩) hgn).trans HN) (Nat.lt_of_lt_of_le hgn hb.size) ((hb.cell (p := ⟨gd, 0, none⟩) hgd).trans HD) (Nat.lt_of_lt_of_le hgd hb.size) (HT.keep hb) hV hkd (by omega) ⟨h3, h4⟩⟩), ?_⟩
  refine ⟨(isChksL [chkA A, nodeE node, keyE key, argE n, roomE A z] (0 ≤ node ∧ node < 8 ∧ -65535 ≤ n ∧ n ≤ 65535) gt (.int .i64 (togI V node n)) (overE V node n)), step_chksL6 124 81 (.tmp 22) (.tmp 24) (.tmp 26) (.tmp 27) (.tmp 30) (.tmp 31) (chkA A) (nodeE node) (keyE key) (argE n) (roomE A z) (0 ≤ node ∧ node < 8 ∧ -65535 ≤ n ∧ n ≤ 65535) gt (.int .i64 (togI V node n)) (overE V node n) ie (by kernel_rfl) (wanted_none (by kernel_rfl)) (knows_new (V := (isChk (chkA A))) 22 1 (by kernel_rfl) (by kernel_rfl) (by kernel_rfl)) (knows_new (V := (isChk (nodeE node))) 24 3 (by kernel_rfl) (by kernel_rfl) (by kernel_rfl)) (knows_new (V := (isChk (keyE key))) 26 5 (by kernel_rfl) (by kernel_rfl) (by kernel_rfl)) (knows_new (V := (isChk (argE n))) 27 6 (by kernel_rfl) (by kernel_rfl) (by kernel_rfl)) (knows_new (V := (isChk (roomE A z))) 30 9 (by kernel_rfl) (by kernel_rfl) (by kernel_rfl)) (knows_new (V := (isChkL (0 ≤ node ∧ node < 8 ∧ -65535 ≤ n ∧ n ≤ 65535) gt (.int .i64 (togI V node n)) (overE V node n))) 31 10 (by kernel_rfl) (by kernel_rfl) (by kernel_rfl)) Tryz.underlying124 hie hiz his, ?_⟩
  intro a w hkp hb hd
  have d32 : isChksL [chkA A, nodeE node, keyE key, argE n, roomE A z] (0 ≤ node ∧ node < 8 ∧ -65535 ≤ n ∧ n ≤ 65535) gt (.int .i64 (togI V node n)) (overE V node n) (a.eval (.tmp 32)) w := fdone_of (hd 11 (by decide)) (t := 32) (V := isChksL [chkA A, nodeE node, keyE key, argE n, roomE A z] (0 ≤ node ∧ node < 8 ∧ -65535 ≤ n ∧ n ≤ 65535) gt (.int .i64 (togI V node n)) (overE V node n)) (by kernel_rfl) (by kernel_rfl)
  obtain ⟨y, ey⟩ := kept_ex hkp [some 21, some 22, some 23, some 24, some 25, some 26, some 27, some 28, some 29, some 30, some 31, some 32, some 33, some 13] [21, 22, 23, 24, 25, 26, 27, 28, 29, 30, 31, 32, 33, 13] (by kernel_rfl) (by decide)
  have hs48 : a.tmps.size = 48 := hkp.2.1.trans hsz
  refine tail_call 53 #[.tmp 32] #[124] #[a.eval (.tmp 32)] 33 (by kernel_rfl) (by kernel_rfl) (by simp) (enters_of Tryz.func53 (by kernel_rfl) rfl) ?_
  refine (refusalL_any [chkA A, nodeE node, keyE key, argE n, roomE A z] (0 ≤ node ∧ node < 8 ∧ -65535 ≤ n ∧ n ≤ 65535) gt (.int .i64 (togI V node n)) (overE V node n) r _ w d32 (by simp) (fun h => ⟨(node_zero (first_zero h (nodeE node) (by simp))).1, (node_zero (first_zero h (nodeE node) (by simp))).2, (arg_zero (first_zero h (argE n) (by simp))).2⟩) hr).mono ?_
  rintro e1 w' ⟨rfl, hw⟩
  refine ⟨_, rfl, ?_⟩
  have ey2 : a.put (some 33) (.int .i64 r) = { tmps := ([21, 22, 23, 24, 25, 26, 27, 28, 29, 30, 31, 32, 33, 13].foldl (fun t s => t.setIfInBounds s (y s)) a0.tmps).setIfInBounds 33 (.int .i64 r), defers := a0.defers } := put_of ey
  refine tail_assign (.tmp 33) 13 (.int .i64 r) (by kernel_rfl) (by kernel_rfl) (by show (a.tmps.setIfInBounds 33 (.int .i64 r)).getD 33 undef = _; rw [Array.getD_eq_getD_getElem?, Array.getElem?_setIfInBounds_self_of_lt (by rw [hs48]; decide)]; rfl) ?_
  exact put_kept ey2 (hQ y w w' hb hw)
def cV : Va := ⟨2, 0, 0, false, [], List.replicate 8 0, List.replicate 8 0, 0⟩
theorem side_c8 (g1 g2 : Nat) (sv : Value) (n : Int) (w : World) (h1 : isCells (List.replicate 8 (intC 0)) (.slice (some ⟨g1, 0, none⟩) 8 8) w) (h2 : isCells (List.replicate 8 (intC 0)) (.slice (some ⟨g2, 0, none⟩) 8 8) w) (hs : (if n < 0 then (.slice (some ⟨g2, 0, none⟩) 8 8 : Value) else .slice (some ⟨g1, 0, none⟩) 8 8) = sv) : Calls Tryz.prog 69 #[.agg #[.int .i64 2, .int .i64 0, .int .i64 0, .bool false, .string ⟨#[]⟩, .slice (some ⟨g1, 0, none⟩) 8 8, .slice (some ⟨g2, 0, none⟩) 8 8, .int .u64 0], .int .i64 n] w fun e w' => e = .returned sv ∧ Below w.heap.size w w' :=
  side_at cV (.slice (some ⟨g1, 0, none⟩) 8 8) (.slice (some ⟨g2, 0, none⟩) 8 8) sv n w (by rw [← rep_cells] at h1; exact h1) (by rw [← rep_cells] at h2; exact h2) hs
set_option maxRecDepth 100000 in
set_option maxHeartbeats 2000000 in
theorem dleast2_any (w : World) : Calls Tryz.prog 70 #[.int .i64 2] w fun e w' => ∃ g1 g2, e = .returned (.agg #[.int .i64 2, .int .i64 0, .int .i64 0, .bool false, .string ⟨#[]⟩, .slice (some ⟨g1, 0, none⟩) 8 8, .slice (some ⟨g2, 0, none⟩) 8 8, .int .u64 0]) ∧ w.heap.size ≤ g1 ∧ g1 < g2 ∧ Blk w' g1 (List.replicate 8 (intC 0)) ∧ Blk w' g2 (List.replicate 8 (intC 0)) ∧ Below w.heap.size w w' := by
  have BR := Kept.mk (Blk.new w 28 [.int .i64 0, .int .i64 0, .int .i64 0, .bool false, .string ⟨#[]⟩, .slice none 0 0, .slice none 0 0, .int .u64 0] w.heap.size rfl)
  have HB := Kept.mk (lit_below w (.cells #[.int .i64 0, .int .i64 0, .int .i64 0, .bool false, .string ⟨#[]⟩, .slice none 0 0, .slice none 0 0, .int .u64 0] 28))
  have hsz : (w.alloc (.cells #[.int .i64 0, .int .i64 0, .int .i64 0, .bool false, .string ⟨#[]⟩, .slice none 0 0, .slice none 0 0, .int .u64 0] 28)).heap.size = w.heap.size + 1 := by simp
  go_enter Tryz.func70, Tryz.ntmps70
  go_wp2_with fail
  generalize w.alloc (.cells #[.int .i64 0, .int .i64 0, .int .i64 0, .bool false, .string ⟨#[]⟩, .slice none 0 0, .slice none 0 0, .int .u64 0] 28) = W0 at *
  refine (vleast_own W0).mono ?_
  rintro e U ⟨g1, g2, rfl, b1, b2, b3, r1, r2, hb⟩
  have KN := Kept.mk (Blk.new U 28 [.int .i64 0, .int .i64 0, .int .i64 0, .bool false, .string ⟨#[]⟩, .slice none 0 0, .slice none 0 0, .int .u64 0] U.heap.size rfl)
  have KO : Kept (Ones [.int .i64 2, .int .i64 0, .int .i64 0, .bool false, .string ⟨#[]⟩, .slice (some ⟨g1, 0, none⟩) 8 8, .slice (some ⟨g2, 0, none⟩) 8 8, .int .u64 0]) := ⟨⟨rfl, rfl, rfl, rfl, rfl, rfl, rfl, rfl, trivial⟩⟩
  have KC := Kept.mk (KN.out.all_ (l := [.int .i64 2, .int .i64 0, .int .i64 0, .bool false, .string ⟨#[]⟩, .slice (some ⟨g1, 0, none⟩) 8 8, .slice (some ⟨g2, 0, none⟩) 8 8, .int .u64 0]) rfl)
  have R1 := Kept.mk (((blk_row r1).alloc (.cells #[.int .i64 0, .int .i64 0, .int .i64 0, .bool false, .string ⟨#[]⟩, .slice none 0 0, .slice none 0 0, .int .u64 0] 28)).apartN (show g1 ≠ U.heap.size by omega) 0 [.int .i64 2, .int .i64 0, .int .i64 0, .bool false, .string ⟨#[]⟩, .slice (some ⟨g1, 0, none⟩) 8 8, .slice (some ⟨g2, 0, none⟩) 8 8, .int .u64 0])
  have R2 := Kept.mk (((blk_row r2).alloc (.cells #[.int .i64 0, .int .i64 0, .int .i64 0, .bool false, .string ⟨#[]⟩, .slice none 0 0, .slice none 0 0, .int .u64 0] 28)).apartN (show g2 ≠ U.heap.size by omega) 0 [.int .i64 2, .int .i64 0, .int .i64 0, .bool false, .string ⟨#[]⟩, .slice (some ⟨g1, 0, none⟩) 8 8, .slice (some ⟨g2, 0, none⟩) 8 8, .int .u64 0])
  have hlt := BR.out.lt
  have hus := hb.size
  replace BR := Kept.mk (((BR.out.keep hb).alloc (.cells #[.int .i64 0, .int .i64 0, .int .i64 0, .bool false, .string ⟨#[]⟩, .slice none 0 0, .slice none 0 0, .int .u64 0] 28)).apartN (show w.heap.size ≠ U.heap.size by omega) 0 [.int .i64 2, .int .i64 0, .int .i64 0, .bool false, .string ⟨#[]⟩, .slice (some ⟨g1, 0, none⟩) 8 8, .slice (some ⟨g2, 0, none⟩) 8 8, .int .u64 0])
  replace HB := Kept.mk (below_setN (show w.heap.size ≤ U.heap.size by omega) [.int .i64 2, .int .i64 0, .int .i64 0, .bool false, .string ⟨#[]⟩, .slice (some ⟨g1, 0, none⟩) 8 8, .slice (some ⟨g2, 0, none⟩) 8 8, .int .u64 0] 0 _ ((HB.out.trans (hb.mono HB.out.size)).trans ((lit_below U (.cells #[.int .i64 0, .int .i64 0, .int .i64 0, .bool false, .string ⟨#[]⟩, .slice none 0 0, .slice none 0 0, .int .u64 0] 28)).mono (show w.heap.size ≤ U.heap.size by omega))))
  have hg1 : w.heap.size ≤ g1 := by omega
  have hn1 : g1 ≠ w.heap.size := by omega
  have hn2 : g2 ≠ w.heap.size := by omega
  clear hb r1 r2
  go_wp2_with (first
    | (have hz0 := KN; refine wpList_storeN 28 rfl (.tmp 3) (.tmp 8) rfl U.heap.size [.int .i64 2, .int .i64 0, .int .i64 0, .bool false, .string ⟨#[]⟩, .slice (some ⟨g1, 0, none⟩) 8 8, .slice (some ⟨g2, 0, none⟩) 8 8, .int .u64 0] size_va rfl rfl KN.out.cells rfl KN.out.free KO.out ?_; clear hz0 KN; generalize setN (U.alloc (.cells #[.int .i64 0, .int .i64 0, .int .i64 0, .bool false, .string ⟨#[]⟩, .slice none 0 0, .slice none 0 0, .int .u64 0] 28)) U.heap.size 0 [.int .i64 2, .int .i64 0, .int .i64 0, .bool false, .string ⟨#[]⟩, .slice (some ⟨g1, 0, none⟩) 8 8, .slice (some ⟨g2, 0, none⟩) 8 8, .int .u64 0] = W2 at *; have k0 := KC.out.cells.2 0 _ rfl; have k1 := KC.out.cells.2 1 _ rfl; have k2 := KC.out.cells.2 2 _ rfl; have k3 := KC.out.cells.2 3 _ rfl; have k4 := KC.out.cells.2 4 _ rfl; have k5 := KC.out.cells.2 5 _ rfl; have k6 := KC.out.cells.2 6 _ rfl; have k7 := KC.out.cells.2 7 _ rfl)
    | (have hz1 := KO; refine wpList_storeN 28 rfl (.tmp 2) (.tmp 10) rfl w.heap.size [.int .i64 2, .int .i64 0, .int .i64 0, .bool false, .string ⟨#[]⟩, .slice (some ⟨g1, 0, none⟩) 8 8, .slice (some ⟨g2, 0, none⟩) 8 8, .int .u64 0] size_va rfl rfl BR.out.cells rfl BR.out.free KO.out ?_; clear hz1))
  exact bodyPost_ret (resultsN1 rfl _ _ w.heap.size [.int .i64 2, .int .i64 0, .int .i64 0, .bool false, .string ⟨#[]⟩, .slice (some ⟨g1, 0, none⟩) 8 8, .slice (some ⟨g2, 0, none⟩) 8 8, .int .u64 0] size_va agg_va rfl (BR.out.all_ (l := [.int .i64 2, .int .i64 0, .int .i64 0, .bool false, .string ⟨#[]⟩, .slice (some ⟨g1, 0, none⟩) 8 8, .slice (some ⟨g2, 0, none⟩) 8 8, .int .u64 0]) rfl).cells) rfl ⟨g1, g2, rfl, hg1, b2, R1.out.apartN hn1 0 _, R2.out.apartN hn2 0 _, below_setN (Nat.le_refl _) _ 0 _ HB.out⟩
noncomputable def dadd7Ops : Array Oper := regionOf Tryz.f24 7
set_option maxRecDepth 100000 in
set_option maxHeartbeats 2000000 in
theorem dadd7_region (Q : Exit → Act → World → Prop) (a0 : Act) (w0 : World) (hsz : a0.tmps.size = 48) (gc gn gd gt g1 g2 gs k : Nat) (n x : Int) (HC : CellsN w0 gc [.int .i64 2, .int .i64 0, .int .i64 0, .bool false, .string ⟨#[]⟩, .slice (some ⟨g1, 0, none⟩) 8 8, .slice (some ⟨g2, 0, none⟩) 8 8, .int .u64 0]) (hp : isCells (List.replicate 8 (intC 0)) (.slice (some ⟨g1, 0, none⟩) 8 8) w0) (hm : isCells (List.replicate 8 (intC 0)) (.slice (some ⟨g2, 0, none⟩) 8 8) w0) (hsv : (if n < 0 then (.slice (some ⟨g2, 0, none⟩) 8 8 : Value) else .slice (some ⟨g1, 0, none⟩) 8 8) = .slice (some ⟨gs, 0, none⟩) 8 8) (HN : w0.cell? ⟨gn, 0, none⟩ = some (.int .i64 n)) (hgn : gn < w0.heap.size) (HD : w0.cell? ⟨gd, 0, none⟩ = some (.int .i64 (k : Int))) (hgd : gd < w0.heap.size) (HT : w0.cell? ⟨gt, 0, none⟩ = some (.int .i64 x)) (hgt : gt < w0.heap.size) (hk : k < 8) (HS : Blk w0 gs (List.replicate 8 (intC 0))) (e14 : a0.tmps.getD 14 undef = .pointer (some ⟨gc, 0, none⟩)) (e7 : a0.tmps.getD 7 undef = .pointer (some ⟨gn, 0, none⟩)) (e5 : a0.tmps.getD 5 undef = .pointer (some ⟨gd, 0, none⟩)) (e12 : a0.tmps.getD 12 undef = .pointer (some ⟨gt, 0, none⟩))
    (hQ : ∀ (g : Nat → Value) (w : World), Below w0.heap.size w0 w → Q .normal { tmps := [39, 40, 41, 42, 43, 44].foldl (fun t s => t.setIfInBounds s (g s)) a0.tmps, defers := a0.defers } (w.setCell ⟨gs, 0 + k, none⟩ (.int .i64 x))) :
    (Code.region 7 dadd7Ops true).wp Tryz.prog Q a0 w0 := by
  refine wp_region_cov 6 mixed (by rw [hsz]; kernel_rfl) (by kernel_rfl) ?_
  rw [show dadd7Ops.size - 6 = 1 by kernel_rfl]
  refine ⟨isVal (.agg #[.int .i64 2, .int .i64 0, .int .i64 0, .bool false, .string ⟨#[]⟩, .slice (some ⟨g1, 0, none⟩) 8 8, .slice (some ⟨g2, 0, none⟩) 8 8, .int .u64 0]), step_loadA 28 (.tmp 14) (gc) (0) [.int .i64 2, .int .i64 0, .int .i64 0, .bool false, .string ⟨#[]⟩, .slice (some ⟨g1, 0, none⟩) 8 8, .slice (some ⟨g2, 0, none⟩) 8 8, .int .u64 0] (by kernel_rfl) (wanted_none (by kernel_rfl)) (knows_old 14 (.pointer (some ⟨gc, 0, none⟩)) (by kernel_rfl) e14) size_va agg_va (⟨HC.1, fun j x hx => by rw [Nat.zero_add]; exact HC.2 j x hx⟩), ?_⟩
  refine ⟨isVal (.int .i64 n), step_read 3 (.tmp 7) ⟨gn, 0, none⟩ (.int .i64 n) (by kernel_rfl) (wanted_none (by kernel_rfl)) (knows_old 7 (.pointer (some ⟨gn, 0, none⟩)) (by kernel_rfl) e7) (HN) (hgn) (agg_noZ), ?_⟩
  refine ⟨isVal (.slice (some ⟨gs, 0, none⟩) 8 8), step_call 69 #[.tmp 39, .tmp 40] #[28, 3] #[.agg #[.int .i64 2, .int .i64 0, .int .i64 0, .bool false, .string ⟨#[]⟩, .slice (some ⟨g1, 0, none⟩) 8 8, .slice (some ⟨g2, 0, none⟩) 8 8, .int .u64 0], .int .i64 n] (by kernel_rfl) (wanted_none (by kernel_rfl)) (stable_val _) (args2 (.tmp 39) (.tmp 40) (.agg #[.int .i64 2, .int .i64 0, .int .i64 0, .bool false, .string ⟨#[]⟩, .slice (some ⟨g1, 0, none⟩) 8 8, .slice (some ⟨g2, 0, none⟩) 8 8, .int .u64 0]) (.int .i64 n) (knows_new (V := isVal (.agg #[.int .i64 2, .int .i64 0, .int .i64 0, .bool false, .string ⟨#[]⟩, .slice (some ⟨g1, 0, none⟩) 8 8, .slice (some ⟨g2, 0, none⟩) 8 8, .int .u64 0])) 39 0 (by kernel_rfl) (by kernel_rfl) (by kernel_rfl)) (knows_new (V := isVal (.int .i64 n)) 40 1 (by kernel_rfl) (by kernel_rfl) (by kernel_rfl))) (enters_of Tryz.func69 (by kernel_rfl) rfl) (by intro w' hb; exact call_v1 (side_c8 g1 g2 (.slice (some ⟨gs, 0, none⟩) 8 8) n w' (stable_cells _ _ _ _ hp hb) (stable_cells _ _ _ _ hm hb) hsv)), ?_⟩
  refine ⟨isVal (.int .i64 (k : Int)), step_read 3 (.tmp 5) ⟨gd, 0, none⟩ (.int .i64 (k : Int)) (by kernel_rfl) (wanted_none (by kernel_rfl)) (knows_old 5 (.pointer (some ⟨gd, 0, none⟩)) (by kernel_rfl) e5) (HD) (hgd) (agg_noZ), ?_⟩
  refine ⟨isVal (.int .i64 x), step_read 3 (.tmp 12) ⟨gt, 0, none⟩ (.int .i64 x) (by kernel_rfl) (wanted_none (by kernel_rfl)) (knows_old 12 (.pointer (some ⟨gt, 0, none⟩)) (by kernel_rfl) e12) (HT) (hgt) (agg_noZ), ?_⟩
  refine ⟨isVal (.pointer (some ⟨gs, 0 + k, none⟩)), step_place 23 3 (.tmp 41) (.tmp 42) gs (0) (8) (8) (k) (by kernel_rfl) (wanted_none (by kernel_rfl)) (knows_new (V := isVal (.slice (some ⟨gs, 0, none⟩) 8 8)) 41 2 (by kernel_rfl) (by kernel_rfl) (by kernel_rfl)) (knows_new (V := isVal (.int .i64 (k : Int))) 42 3 (by kernel_rfl) (by kernel_rfl) (by kernel_rfl)) Tryz.underlying23 (by kernel_rfl) (hk), ?_⟩
  intro a w hkp hb hd
  have dP : a.eval (.tmp 44) = .pointer (some ⟨gs, 0 + k, none⟩) := fdone_of (hd 5 (by decide)) (t := 44) (V := isVal (.pointer (some ⟨gs, 0 + k, none⟩))) (by kernel_rfl) (by kernel_rfl)
  have dV : a.eval (.tmp 43) = (.int .i64 x) := fdone_of (hd 4 (by decide)) (t := 43) (V := isVal (.int .i64 x)) (by kernel_rfl) (by kernel_rfl)
  obtain ⟨y, ey⟩ := kept_ex hkp [some 39, some 40, some 41, some 42, some 43, some 44, none] [39, 40, 41, 42, 43, 44] (by kernel_rfl) (by decide)
  obtain ⟨old, hco⟩ := (show ∃ old, w.cell? ⟨gs, 0 + k, none⟩ = some old from ⟨_, (HS.keep hb).cells.2 (0 + k) (intC 0) (by rw [Nat.zero_add, List.getElem?_replicate, if_pos hk])⟩)
  refine tail_store 3 (.tmp 44) (.tmp 43) ⟨gs, 0 + k, none⟩ (.int .i64 x) old (by kernel_rfl) (by kernel_rfl) dP dV (by kernel_rfl) rfl rfl hco ((HS.keep hb).free (0 + k)) ?_
  rw [ey]
  exact hQ y w hb
end Go.Proofs.YtbgconagkgfplaaGreat
end
section
namespace Go.Proofs.YtbgconagkgfplaaGreat
open Go.RowKit
set_option linter.unusedVariables false
set_option linter.unusedSimpArgs false
attribute [local irreducible] setN

set_option maxRecDepth 100000 in
set_option maxHeartbeats 2000000 in
theorem dadd_any (A : Ar) (node : Int) (key : List UInt8) (n : Int) (v : Value) (w : World) (hv : isAr A v w) (hF : FitA A) (hk : key.length ≤ 1000) : Calls Tryz.prog 24 #[v, .int .i64 node, .string ⟨key.toArray⟩, .int .i64 n] w fun e w' => (∃ v', e = .returned (.tuple #[v', .int .i64 (addDE A node key n)]) ∧ isEn (addDF A node key n) v' w') ∧ Below w.heap.size w w' := by
  obtain ⟨vs, vi, rfl, hs, hi⟩ := hv
  obtain ⟨V, hV⟩ : ∃ V, heldV A 2 key = V := ⟨_, rfl⟩
  obtain ⟨z, hz⟩ : ∃ z, heldB A 2 key = z := ⟨_, rfl⟩
  obtain ⟨r, hr⟩ : ∃ r, addDE A node key n = r := ⟨_, rfl⟩
  have HR := Kept.mk hr
  have HV := Kept.mk hV
  have HZ := Kept.mk hz
  have HE := Kept.mk (show firstE ([chkA A, nodeE node, keyE key, argE n, roomE A z] ++ [(overE V node n)]) = r by subst hV; subst hz; subst hr; rfl)
  have hok := held_ok A (kind := 2) key (.inr (.inl rfl))
  rw [hV] at hok
  have HOK := Kept.mk hok
  have HB := Kept.mk (show Below w.heap.size w ((((w.alloc (.cells #[.int .i64 A.cap, vs, vi] 25)).alloc (.cells #[.int .i64 node] 3)).alloc (.cells #[.int .i64 n] 3)).alloc (.cells #[.string ⟨#[]⟩, .int .i64 0, .int .i64 0, .int .i64 0, .bool false, .string ⟨#[]⟩, .slice none 0 0, .slice none 0 0, .int .u64 0] 30)) from ((((Below.refl _ w).alloc (Nat.le_refl _) _).alloc (by simp) _).alloc (by simp; omega) _).alloc (by simp; omega) _)
  have XA := Kept.mk (show isAr A (.agg #[.int .i64 A.cap, vs, vi]) ((((w.alloc (.cells #[.int .i64 A.cap, vs, vi] 25)).alloc (.cells #[.int .i64 node] 3)).alloc (.cells #[.int .i64 n] 3)).alloc (.cells #[.string ⟨#[]⟩, .int .i64 0, .int .i64 0, .int .i64 0, .bool false, .string ⟨#[]⟩, .slice none 0 0, .slice none 0 0, .int .u64 0] 30)) from stable_ar A _ _ _ ⟨vs, vi, rfl, hs, hi⟩ HB.out)
  have BA := Kept.mk ((((Blk.new w 25 [.int .i64 A.cap, vs, vi] w.heap.size rfl).alloc (.cells #[.int .i64 node] 3)).alloc (.cells #[.int .i64 n] 3)).alloc (.cells #[.string ⟨#[]⟩, .int .i64 0, .int .i64 0, .int .i64 0, .bool false, .string ⟨#[]⟩, .slice none 0 0, .slice none 0 0, .int .u64 0] 30))
  have BD := Kept.mk (((Blk.new (w.alloc (.cells #[.int .i64 A.cap, vs, vi] 25)) 3 [.int .i64 node] (w.heap.size + 1) (by simp)).alloc (.cells #[.int .i64 n] 3)).alloc (.cells #[.string ⟨#[]⟩, .int .i64 0, .int .i64 0, .int .i64 0, .bool false, .string ⟨#[]⟩, .slice none 0 0, .slice none 0 0, .int .u64 0] 30))
  have BN := Kept.mk ((Blk.new ((w.alloc (.cells #[.int .i64 A.cap, vs, vi] 25)).alloc (.cells #[.int .i64 node] 3)) 3 [.int .i64 n] (w.heap.size + 2) (by simp)).alloc (.cells #[.string ⟨#[]⟩, .int .i64 0, .int .i64 0, .int .i64 0, .bool false, .string ⟨#[]⟩, .slice none 0 0, .slice none 0 0, .int .u64 0] 30))
  have BR := Kept.mk (Blk.new (((w.alloc (.cells #[.int .i64 A.cap, vs, vi] 25)).alloc (.cells #[.int .i64 node] 3)).alloc (.cells #[.int .i64 n] 3)) 30 [.string ⟨#[]⟩, .int .i64 0, .int .i64 0, .int .i64 0, .bool false, .string ⟨#[]⟩, .slice none 0 0, .slice none 0 0, .int .u64 0] (w.heap.size + 3) (by simp))
  have ka0 := BA.out.cells.2 0 _ rfl
  have ka1 := BA.out.cells.2 1 _ rfl
  have ka2 := BA.out.cells.2 2 _ rfl
  clear hs hi hr hz hV hok
  rw [HR.out]
  have HH := Kept.mk (fun v w hv => held_any A 2 key V z v w hv hF HV.out HZ.out)
  go_enter Tryz.func24, Tryz.ntmps24
  go_wp2_with fail
  generalize ((((w.alloc (.cells #[.int .i64 A.cap, vs, vi] 25)).alloc (.cells #[.int .i64 node] 3)).alloc (.cells #[.int .i64 n] 3)).alloc (.cells #[.string ⟨#[]⟩, .int .i64 0, .int .i64 0, .int .i64 0, .bool false, .string ⟨#[]⟩, .slice none 0 0, .slice none 0 0, .int .u64 0] 30)) = W0 at *
  refine (HH.out _ W0 XA.out).mono ?_
  rintro e U ⟨⟨v1, rfl, p', m', rfl, hp', hm'⟩, hb⟩
  replace HB := Kept.mk (HB.out.trans ((hb).mono HB.out.size))
  replace XA := Kept.mk (stable_ar _ _ _ _ XA.out (hb))
  replace BA := Kept.mk (BA.out.keep (hb))
  replace BD := Kept.mk (BD.out.keep (hb))
  replace BN := Kept.mk (BN.out.keep (hb))
  replace BR := Kept.mk (BR.out.keep (hb))
  clear ka0 ka1 ka2 hb
  obtain ⟨K1, K2, K3, K4, K5⟩ := vnew U V p' m' hp' hm' U.heap.size rfl
  clear hp' hm'
  go_wp2_with (have hz0 := K1; refine wpList_storeN 28 rfl (.tmp 10) (.tmp 19) rfl U.heap.size [.int .i64 V.kind, .int .i64 V.time, .int .i64 V.node, .bool V.dead, .string ⟨V.text.toArray⟩, p', m', .int .u64 (V.flags.toNat : Int)] size_va rfl rfl K1.out rfl K2.out K5.out ?_; replace HB := Kept.mk (HB.out.trans ((K3.out).mono HB.out.size)); replace XA := Kept.mk (stable_ar _ _ _ _ XA.out (K3.out)); replace BA := Kept.mk (BA.out.keep (K3.out)); replace BD := Kept.mk (BD.out.keep (K3.out)); replace BN := Kept.mk (BN.out.keep (K3.out)); replace BR := Kept.mk (BR.out.keep (K3.out)); have KV := Kept.mk K4.out; clear hz0 K1 K2 K3 K4 K5; generalize setN (U.alloc (.cells #[.int .i64 0, .int .i64 0, .int .i64 0, .bool false, .string ⟨#[]⟩, .slice none 0 0, .slice none 0 0, .int .u64 0] 28)) U.heap.size 0 [.int .i64 V.kind, .int .i64 V.time, .int .i64 V.node, .bool V.dead, .string ⟨V.text.toArray⟩, p', m', .int .u64 (V.flags.toNat : Int)] = W2 at *; generalize U.heap.size = gv at *)
  have KG := Kept.mk (Blk.new W2 3 [.int .i64 0] W2.heap.size rfl)
  have hlit := lit_below W2 (.cells #[.int .i64 0] 3)
  have hrl := BR.out.lt
  have hgv := KV.out.1.1
  replace HB := Kept.mk (HB.out.trans ((hlit).mono HB.out.size))
  replace XA := Kept.mk (stable_ar _ _ _ _ XA.out (hlit))
  replace BA := Kept.mk (BA.out.keep (hlit))
  replace BD := Kept.mk (BD.out.keep (hlit))
  replace BN := Kept.mk (BN.out.keep (hlit))
  replace BR := Kept.mk (BR.out.keep (hlit))
  have KV3 := Kept.mk (KV.out.1.keep hlit hgv)
  have KP3 := Kept.mk (stable_cells _ _ _ _ KV.out.2.1 hlit)
  have KM3 := Kept.mk (stable_cells _ _ _ _ KV.out.2.2 hlit)
  clear hlit KV
  generalize W2.alloc (.cells #[.int .i64 0] 3) = W3 at *
  generalize W2.heap.size = gt at *
  have HT := Kept.mk (show At W3 gt (.int .i64 0) from ⟨KG.out.cells.2 0 _ rfl, KG.out.free 0, KG.out.lt⟩)
  refine dadd3_region _ _ _ rfl w.heap.size (w.heap.size + 1) (w.heap.size + 2) gv gt A V vs vi p' m' (.int .i64 0) z r node n key BA.out.cells XA.out KV3.out KP3.out KM3.out hF hk HOK.out.1 HOK.out.2 (BN.out.cells.2 0 _ rfl) BN.out.lt (BD.out.cells.2 0 _ rfl) BD.out.lt HT.out HE.out rfl rfl rfl rfl rfl rfl rfl ?_
  intro y9 W4 W5 hb hw
  simp only [List.foldl_cons, List.foldl_nil]
  generalize y9 21 = z21
  generalize y9 22 = z22
  generalize y9 23 = z23
  generalize y9 24 = z24
  generalize y9 25 = z25
  generalize y9 26 = z26
  generalize y9 27 = z27
  generalize y9 28 = z28
  generalize y9 29 = z29
  generalize y9 30 = z30
  generalize y9 31 = z31
  generalize y9 32 = z32
  generalize y9 33 = z33
  generalize y9 13 = z13
  simp only [List.setIfInBounds_toArray, List.set_cons_succ, List.set_cons_zero]
  have hbt : Bt (fun b => b = gt) W4 W5 := by
    rcases hw with ⟨_, h⟩ | ⟨_, h⟩
    · exact Bt.grow h
    · exact ⟨h.os, h.tape, h.output, h.size, fun b hb hne => h.block b hb hne⟩
  clear KV3 KP3 KM3 BA XA
  replace BR := Kept.mk (hbt.blk (BR.out.keep hb) (by omega))
  replace BN := Kept.mk (hbt.blk (BN.out.keep hb) (by omega))
  replace BD := Kept.mk (hbt.blk (BD.out.keep hb) (by omega))
  replace HB := Kept.mk (HB.out.trans (hb.mono HB.out.size))
  replace HB := Kept.mk (HB.out.trans (hbt.below (fun b e => by omega) HB.out.size))
  have HW := Kept.mk hw
  clear hbt hb hw KG HT HH
  by_cases h0 : r = 0
  · skip
    subst h0
    have HL := Kept.mk (show firstE [chkA A, nodeE node, keyE key, argE n, roomE A z] = 0 by have h := HE.out; rw [first_snoc] at h; by_cases c : firstE [chkA A, nodeE node, keyE key, argE n, roomE A z] = 0; exact c; rw [if_neg c] at h; exact h)
    have hnd := node_zero (first_zero HL.out (nodeE node) (by simp))
    obtain ⟨x, hx⟩ : ∃ x, togI V node n = x := ⟨_, rfl⟩
    have HX := Kept.mk hx
    obtain ⟨k, rfl⟩ := Int.eq_ofNat_of_zero_le hnd.1
    have hk8 : k < 8 := by omega
    have KF := Kept.mk (show addDF A (k : Int) key n = cntE key (k : Int) n x by unfold addDF; rw [if_pos HR.out, HV.out, hx])
    have HT := Kept.mk (show At W5 gt (.int .i64 x) by rcases HW.out with ⟨c, _⟩ | ⟨_, h⟩; exact absurd HL.out c; rw [hx] at h; exact h.at_)
    clear hx hnd HW HL HE HX
    go_wp2_with fail
    refine (dleast2_any W5).mono ?_
    rintro e U2 ⟨g1, g2, rfl, b1, b2, r1, r2, hb2⟩
    have hbs := hb2.size
    have hrl5 := BR.out.lt
    have hgl5 := HT.out.lt
    have KN := Kept.mk (Blk.new U2 28 [.int .i64 0, .int .i64 0, .int .i64 0, .bool false, .string ⟨#[]⟩, .slice none 0 0, .slice none 0 0, .int .u64 0] U2.heap.size rfl)
    have KO : Kept (Ones [.int .i64 2, .int .i64 0, .int .i64 0, .bool false, .string ⟨#[]⟩, .slice (some ⟨g1, 0, none⟩) 8 8, .slice (some ⟨g2, 0, none⟩) 8 8, .int .u64 0]) := ⟨⟨rfl, rfl, rfl, rfl, rfl, rfl, rfl, rfl, trivial⟩⟩
    have BC := Kept.mk (KN.out.all_ (l := [.int .i64 2, .int .i64 0, .int .i64 0, .bool false, .string ⟨#[]⟩, .slice (some ⟨g1, 0, none⟩) 8 8, .slice (some ⟨g2, 0, none⟩) 8 8, .int .u64 0]) rfl)
    have h1l := r1.lt
    have h2l := r2.lt
    have B1 := Kept.mk ((r1.alloc (.cells #[.int .i64 0, .int .i64 0, .int .i64 0, .bool false, .string ⟨#[]⟩, .slice none 0 0, .slice none 0 0, .int .u64 0] 28)).apartN (show g1 ≠ U2.heap.size by omega) 0 [.int .i64 2, .int .i64 0, .int .i64 0, .bool false, .string ⟨#[]⟩, .slice (some ⟨g1, 0, none⟩) 8 8, .slice (some ⟨g2, 0, none⟩) 8 8, .int .u64 0])
    have B2 := Kept.mk ((r2.alloc (.cells #[.int .i64 0, .int .i64 0, .int .i64 0, .bool false, .string ⟨#[]⟩, .slice none 0 0, .slice none 0 0, .int .u64 0] 28)).apartN (show g2 ≠ U2.heap.size by omega) 0 [.int .i64 2, .int .i64 0, .int .i64 0, .bool false, .string ⟨#[]⟩, .slice (some ⟨g1, 0, none⟩) 8 8, .slice (some ⟨g2, 0, none⟩) 8 8, .int .u64 0])
    have hbz := hb2.trans ((below_setN (Nat.le_refl U2.heap.size) [.int .i64 2, .int .i64 0, .int .i64 0, .bool false, .string ⟨#[]⟩, .slice (some ⟨g1, 0, none⟩) 8 8, .slice (some ⟨g2, 0, none⟩) 8 8, .int .u64 0] 0 _ (lit_below U2 (.cells #[.int .i64 0, .int .i64 0, .int .i64 0, .bool false, .string ⟨#[]⟩, .slice none 0 0, .slice none 0 0, .int .u64 0] 28))).mono hbs)
    replace BR := Kept.mk (BR.out.keep hbz)
    replace BN := Kept.mk (BN.out.keep hbz)
    replace BD := Kept.mk (BD.out.keep hbz)
    replace HT := Kept.mk (HT.out.keep hbz)
    replace HB := Kept.mk (HB.out.trans (hbz.mono HB.out.size))
    have hgs1 : g1 < U2.heap.size := h1l
    clear hb2 hbz r1 r2
    go_wp2_with (have hz0 := KN; refine wpList_storeN 28 rfl (.tmp 14) (.tmp 38) rfl U2.heap.size [.int .i64 2, .int .i64 0, .int .i64 0, .bool false, .string ⟨#[]⟩, .slice (some ⟨g1, 0, none⟩) 8 8, .slice (some ⟨g2, 0, none⟩) 8 8, .int .u64 0] size_va rfl rfl KN.out.cells rfl KN.out.free KO.out ?_; clear hz0 KN KO; generalize setN (U2.alloc (.cells #[.int .i64 0, .int .i64 0, .int .i64 0, .bool false, .string ⟨#[]⟩, .slice none 0 0, .slice none 0 0, .int .u64 0] 28)) U2.heap.size 0 [.int .i64 2, .int .i64 0, .int .i64 0, .bool false, .string ⟨#[]⟩, .slice (some ⟨g1, 0, none⟩) 8 8, .slice (some ⟨g2, 0, none⟩) 8 8, .int .u64 0] = W6 at *; generalize U2.heap.size = gc at *)
    obtain ⟨gs, hsv, hga, hgb⟩ : ∃ gs, (if n < 0 then (.slice (some ⟨g2, 0, none⟩) 8 8 : Value) else .slice (some ⟨g1, 0, none⟩) 8 8) = (.slice (some ⟨gs, 0, none⟩) 8 8) ∧ (n < 0 → gs = g2) ∧ (¬ n < 0 → gs = g1) := by
      by_cases c : n < 0
      · exact ⟨g2, by rw [if_pos c], fun _ => rfl, fun h => absurd c h⟩
      · exact ⟨g1, by rw [if_neg c], fun h => absurd h c, fun _ => rfl⟩
    have BS := Kept.mk (show Blk W6 gs (List.replicate 8 (intC 0)) by by_cases c : n < 0; (rw [hga c]; exact B2.out); (rw [hgb c]; exact B1.out))
    have hgs : gs = g1 ∨ gs = g2 := by by_cases c : n < 0; exact .inr (hga c); exact .inl (hgb c)
    have HSV := Kept.mk hsv
    have HGA := Kept.mk hga
    have HGB := Kept.mk hgb
    clear hsv hga hgb
    have hlr : (List.replicate 8 (intC 0)).length = 8 := rfl
    have P1 := Kept.mk (show isCells (List.replicate 8 (intC 0)) (.slice (some ⟨g1, 0, none⟩) 8 8) W6 from .inr (.inr ⟨g1, 0, 8, rfl, B1.out.lt, fun j x hx => by rw [Nat.zero_add]; exact B1.out.cells.2 j x hx⟩))
    have P2 := Kept.mk (show isCells (List.replicate 8 (intC 0)) (.slice (some ⟨g2, 0, none⟩) 8 8) W6 from .inr (.inr ⟨g2, 0, 8, rfl, B2.out.lt, fun j x hx => by rw [Nat.zero_add]; exact B2.out.cells.2 j x hx⟩))
    rewrite [show ∀ (a : Act) (v : Value), a.put none v = a from fun _ _ => rfl]
    refine dadd7_region _ _ _ rfl gc (w.heap.size + 2) (w.heap.size + 1) gt g1 g2 gs k n x BC.out.cells P1.out P2.out HSV.out (BN.out.cells.2 0 _ rfl) BN.out.lt (BD.out.cells.2 0 _ rfl) BD.out.lt HT.out.cell HT.out.lt hk8 BS.out rfl rfl rfl rfl ?_
    intro y7 W7 hb7
    simp only [List.foldl_cons, List.foldl_nil]
    generalize y7 39 = v39
    generalize y7 40 = v40
    generalize y7 41 = v41
    generalize y7 42 = v42
    generalize y7 43 = v43
    generalize y7 44 = v44
    simp only [List.setIfInBounds_toArray, List.set_cons_succ, List.set_cons_zero]
    replace BC := Kept.mk ((BC.out.keep hb7).apart (show gc ≠ gs by omega) (0 + k) (.int .i64 x))
    replace BR := Kept.mk ((BR.out.keep hb7).apart (show (w.heap.size + 3) ≠ gs by omega) (0 + k) (.int .i64 x))
    have hbx := (bt_set (S := fun b => b = gs) gs (0 + k) (.int .i64 x) W7 rfl).below (B := w.heap.size) (fun b e => by omega) (Nat.le_trans HB.out.size hb7.size)
    replace HB := Kept.mk ((HB.out.trans (hb7.mono HB.out.size)).trans hbx)
    have E1 := B1.out.keep hb7
    have E2 := B2.out.keep hb7
    have Q1 := Kept.mk (show isCells ((if n < 0 then List.replicate 8 0 else onlyI (k : Int) x).map intC) (.slice (some ⟨g1, 0, none⟩) 8 8) (W7.setCell ⟨gs, 0 + k, none⟩ (.int .i64 x)) by
      by_cases c : n < 0
      · rw [if_pos c]; refine blk_cells8 ?_ rfl; rw [rep_cells]; exact E1.apart (by have := HGA.out c; omega) _ _
      · rw [if_neg c]; refine blk_cells8 ?_ (by unfold onlyI; simp); rw [only_cells]; have e := HGB.out c; subst e; have h := E1.set (0 + k) (.int .i64 x) (by rw [List.length_replicate]; omega); rw [Nat.zero_add] at h ⊢; exact h)
    have Q2 := Kept.mk (show isCells ((if n < 0 then onlyI (k : Int) x else List.replicate 8 0).map intC) (.slice (some ⟨g2, 0, none⟩) 8 8) (W7.setCell ⟨gs, 0 + k, none⟩ (.int .i64 x)) by
      by_cases c : n < 0
      · rw [if_pos c]; refine blk_cells8 ?_ (by unfold onlyI; simp); rw [only_cells]; have e := HGA.out c; subst e; have h := E2.set (0 + k) (.int .i64 x) (by rw [List.length_replicate]; omega); rw [Nat.zero_add] at h ⊢; exact h
      · rw [if_neg c]; refine blk_cells8 ?_ rfl; rw [rep_cells]; exact E2.apart (by have := HGB.out c; omega) _ _)
    clear hbx E1 E2 hb7
    generalize (W7.setCell ⟨gs, 0 + k, none⟩ (.int .i64 x)) = W8 at *
    have kc0 := BC.out.cells.2 0 _ rfl
    have kc1 := BC.out.cells.2 1 _ rfl
    have kc2 := BC.out.cells.2 2 _ rfl
    have kc3 := BC.out.cells.2 3 _ rfl
    have kc4 := BC.out.cells.2 4 _ rfl
    have kc5 := BC.out.cells.2 5 _ rfl
    have kc6 := BC.out.cells.2 6 _ rfl
    have kc7 := BC.out.cells.2 7 _ rfl
    have KZ : Kept (Ones [.string ⟨key.toArray⟩, .int .i64 2, .int .i64 0, .int .i64 0, .bool false, .string ⟨#[]⟩, .slice (some ⟨g1, 0, none⟩) 8 8, .slice (some ⟨g2, 0, none⟩) 8 8, .int .u64 0]) := ⟨⟨rfl, rfl, rfl, rfl, rfl, rfl, rfl, rfl, rfl, trivial⟩⟩
    have HBS := Kept.mk (bt_setN (S := fun b => b = (w.heap.size + 3)) rfl [.string ⟨key.toArray⟩, .int .i64 2, .int .i64 0, .int .i64 0, .bool false, .string ⟨#[]⟩, .slice (some ⟨g1, 0, none⟩) 8 8, .slice (some ⟨g2, 0, none⟩) 8 8, .int .u64 0] 0 W8)
    have hn1 : g1 ≠ (w.heap.size + 3) := by omega
    have hn2 : g2 ≠ (w.heap.size + 3) := by omega
    have Q1S := Kept.mk (HBS.out.cells Q1.out (.inr (fun b hb e => hn1 (by injection hb with hb; exact (show g1 = b from hb).trans e))))
    have Q2S := Kept.mk (HBS.out.cells Q2.out (.inr (fun b hb e => hn2 (by injection hb with hb; exact (show g2 = b from hb).trans e))))
    go_wp2_with (have hz0 := KZ; refine wpList_storeN 30 rfl (.tmp 8) (.tmp 47) rfl (w.heap.size + 3) [.string ⟨key.toArray⟩, .int .i64 2, .int .i64 0, .int .i64 0, .bool false, .string ⟨#[]⟩, .slice (some ⟨g1, 0, none⟩) 8 8, .slice (some ⟨g2, 0, none⟩) 8 8, .int .u64 0] size_en rfl rfl BR.out.cells rfl BR.out.free KZ.out ?_; clear hz0)
    rw [KF.out]
    exact bodyPost_ret (resultsN2 rfl _ _ (w.heap.size + 3) [.string ⟨key.toArray⟩, .int .i64 2, .int .i64 0, .int .i64 0, .bool false, .string ⟨#[]⟩, .slice (some ⟨g1, 0, none⟩) 8 8, .slice (some ⟨g2, 0, none⟩) 8 8, .int .u64 0] _ size_en agg_en rfl rfl (BR.out.all_ (l := [.string ⟨key.toArray⟩, .int .i64 2, .int .i64 0, .int .i64 0, .bool false, .string ⟨#[]⟩, .slice (some ⟨g1, 0, none⟩) 8 8, .slice (some ⟨g2, 0, none⟩) 8 8, .int .u64 0]) rfl).cells) rfl ⟨⟨_, rfl, ⟨.slice (some ⟨g1, 0, none⟩) 8 8, .slice (some ⟨g2, 0, none⟩) 8 8, rfl, Q1S.out, Q2S.out⟩⟩, below_setN (by omega) _ 0 _ HB.out⟩
  · skip
    have KF := Kept.mk (show addDF A node key n = zeroE by unfold addDF; rw [if_neg (by rw [HR.out]; exact h0)])
    have KZ : Kept (Ones [.string ⟨#[]⟩, .int .i64 0, .int .i64 0, .int .i64 0, .bool false, .string ⟨#[]⟩, .slice none 0 0, .slice none 0 0, .int .u64 0]) := ⟨⟨rfl, rfl, rfl, rfl, rfl, rfl, rfl, rfl, rfl, trivial⟩⟩
    go_wp2_with (have hz0 := KZ; refine wpList_storeN 30 rfl (.tmp 8) (.tmp 36) rfl (w.heap.size + 3) [.string ⟨#[]⟩, .int .i64 0, .int .i64 0, .int .i64 0, .bool false, .string ⟨#[]⟩, .slice none 0 0, .slice none 0 0, .int .u64 0] size_en rfl rfl BR.out.cells rfl BR.out.free KZ.out ?_; clear hz0)
    rw [KF.out]
    exact bodyPost_ret (resultsN2 rfl _ _ (w.heap.size + 3) [.string ⟨#[]⟩, .int .i64 0, .int .i64 0, .int .i64 0, .bool false, .string ⟨#[]⟩, .slice none 0 0, .slice none 0 0, .int .u64 0] _ size_en agg_en rfl rfl (BR.out.all_ (l := [.string ⟨#[]⟩, .int .i64 0, .int .i64 0, .int .i64 0, .bool false, .string ⟨#[]⟩, .slice none 0 0, .slice none 0 0, .int .u64 0]) rfl).cells) rfl ⟨⟨_, rfl, ⟨.slice none 0 0, .slice none 0 0, rfl, .inl ⟨rfl, rfl⟩, .inl ⟨rfl, rfl⟩⟩⟩, below_setN (by omega) _ 0 _ HB.out⟩
end Go.Proofs.YtbgconagkgfplaaGreat
end
section
namespace Go.Proofs.YtbgconagkgfplaaGreat
open Go.RowKit Go.Shelf
set_option linter.unusedVariables false
set_option linter.unusedSimpArgs false

abbrev RowE := List (En × Value × Value)
structure OutV (N : Nat) (v : Value) (ps : RowE) (W : World) : Prop where
  own : W.ownsRow N 30 9 v ps.length (flatE ps)
  rows : RowsOk ps W
  off : ∀ q ∈ ps, ∀ b, v.ownBlock = some b → OffQ b q
theorem outV_nil (N : Nat) (W : World) : OutV N (.slice none 0 0) [] W := ⟨World.ownsRow_nil _ _ _ _, (fun q hq => by cases hq), (fun q hq => by cases hq)⟩
theorem OutV.keep {N : Nat} {v : Value} {ps : RowE} {W W' : World} (h : OutV N v ps W) (hb : Below W.heap.size W W') : OutV N v ps W' :=
  ⟨own_grow h.own hb, fun q hq => ⟨stable_cells _ _ _ _ (h.rows q hq).1 hb, stable_cells _ _ _ _ (h.rows q hq).2 hb⟩, h.off⟩
theorem OutV.ens {N : Nat} {v : Value} {ps : RowE} {W : World} (h : OutV N v ps W) : isEns (ps.map (·.1)) v W := own_ens h.own h.rows
theorem OutV.low {N N' : Nat} {v : Value} {ps : RowE} {W : World} (h : OutV N v ps W) (hN : N' ≤ N) : OutV N' v ps W := ⟨own_low h.own hN, h.rows, h.off⟩
theorem OutV.len {N : Nat} {v : Value} {ps : RowE} {W : World} (h : OutV N v ps W) : ∃ a c, v = .slice a ps.length c := by
  obtain ⟨_, ⟨rfl, h0⟩ | ⟨g, cap, cur, rfl, _⟩⟩ := h.own
  · exact ⟨_, _, by rw [h0]⟩
  · exact ⟨_, _, rfl⟩
/-- A row of entries as append reads it. -/
def SrcE (u : Value) (ps : RowE) (w : World) : Prop := (u = .slice none 0 0 ∧ ps = []) ∨ ∃ (a : Addr) (c : Nat), u = .slice (some a) ps.length c ∧ ∀ (j : Nat) (x : Value), (flatE ps)[j]? = some x → w.cell? (a.add j) = some x
theorem add_at (b off j : Nat) : (⟨b, off, none⟩ : Addr).add j = ⟨b, off + j, none⟩ := by
  by_cases e : j = 0
  · subst e; simp [Addr.add]
  · simp [Addr.add, e]
/-- Rows of entries stand elsewhere. -/
theorem off_old {w0 : World} {ps : RowE} (h : RowsOk ps w0) {b : Nat} (hb : w0.heap.size ≤ b) : ∀ q ∈ ps, OffQ b q := fun q hq =>
  ⟨(cells_lt (h q hq).1).imp id (fun h3 e => by have := h3 b e; omega), (cells_lt (h q hq).2).imp id (fun h3 e => by have := h3 b e; omega)⟩
theorem ones_flat {ps : RowE} {w : World} (h : RowsOk ps w) : ∀ u ∈ flatE ps, u.oneCell' = true := by
  intro u hu
  unfold flatE at hu
  obtain ⟨q, hq, hu⟩ := List.mem_flatMap.1 hu
  exact ones_en (h q hq).1.one (h q hq).2.one u hu
theorem run_append_ens {N : Nat} {v : Value} {ps : RowE} {w : World} (h : OutV N v ps w) {u : Value} {ps2 : RowE} (hu : SrcE u ps2 w) (hr2 : RowsOk ps2 w) (hoff : ∀ q ∈ ps2, ∀ b, v.ownBlock = some b → OffQ b q) (hn : ps.length + ps2.length ≤ 1000) (hN : N ≤ w.heap.size) (ty : TypeId) :
    ∃ v' w', (Builtin.append_ #[22, 22] ty #[v, u]).run Tryz.prog w = .ok v' w' ∧ OutV N v' (ps ++ ps2) w' ∧ w.grownBy w' v.ownBlock := by
  obtain ⟨ie, hie, hz, hsz⟩ : ∃ ie, Tryz.prog.info? 30 = some ie ∧ ie.zero = some (.agg #[.string ⟨#[]⟩, .int .i64 0, .int .i64 0, .int .i64 0, .bool false, .string ⟨#[]⟩, .slice none 0 0, .slice none 0 0, .int .u64 0]) ∧ ie.size = 9 := by
    have := Tryz.infoEn
    obtain ⟨ie, h1, h2⟩ := Option.map_eq_some_iff.1 this
    simp only [Prod.mk.injEq] at h2
    exact ⟨ie, h1, h2.1, h2.2⟩
  have hbytes : ie.bytes ≤ 100000 := by
    have : (Tryz.prog.info? 30).all (fun i => decide (i.bytes ≤ 100000)) = true := by kernel_rfl
    rw [hie] at this
    simpa using this
  rcases hu with ⟨rfl, rfl⟩ | ⟨a, c, rfl, hcell⟩
  · refine ⟨v, w, run_append_owned_none (P := Tryz.prog) (w := w) N _ ty 30 ie 9 Tryz.underlying22 hie v _ _ h.own, ?_, ⟨rfl, rfl, rfl, Nat.le_refl _, fun _ _ _ => rfl⟩⟩
    rw [List.append_nil]; exact h
  · obtain ⟨v', w', hrun, how, hgr, _, hob⟩ := run_append_own_at (P := Tryz.prog) (w := w) N 22 ty 30 ie (.agg #[.string ⟨#[]⟩, .int .i64 0, .int .i64 0, .int .i64 0, .bool false, .string ⟨#[]⟩, .slice none 0 0, .slice none 0 0, .int .u64 0]) 9 ie.bytes Tryz.underlying22 hie hz hsz rfl rfl (by decide) v ps.length (flatE ps) h.own a ps2.length c (flatE ps2) (flatE_length _) hcell (ones_flat hr2) (by unfold maxLen; omega) (by have : (ps.length + ps2.length) * ie.bytes ≤ 1000 * 100000 := Nat.mul_le_mul hn hbytes; omega) hN
    refine ⟨v', w', hrun, ⟨?_, fun q hq => ?_, fun q hq b hb => ?_⟩, hgr⟩
    · rw [List.length_append]
      have e : flatE (ps ++ ps2) = flatE ps ++ flatE ps2 := by unfold flatE; simp
      rw [e]; exact how
    · have key : ∀ q, isCells (q.1.val.plus.map intC) q.2.1 w ∧ isCells (q.1.val.minus.map intC) q.2.2 w → (∀ b, v.ownBlock = some b → OffQ b q) → isCells (q.1.val.plus.map intC) q.2.1 w' ∧ isCells (q.1.val.minus.map intC) q.2.2 w' := by
        intro q hc ho
        refine ⟨hgr.cells hc.1 ?_, hgr.cells hc.2 ?_⟩
        · by_cases e : q.1.val.plus.map intC = []
          · exact .inl e
          · exact .inr (fun s hs => ((ho s hs).1.resolve_left e))
        · by_cases e : q.1.val.minus.map intC = []
          · exact .inl e
          · exact .inr (fun s hs => ((ho s hs).2.resolve_left e))
      rcases List.mem_append.1 hq with hq | hq
      · exact key q (h.rows q hq) (h.off q hq)
      · exact key q (hr2 q hq) (hoff q hq)
    · rcases hob with e | e
      · rw [e] at hb
        exact (List.mem_append.1 hq).elim (fun hq => h.off q hq b hb) (fun hq => hoff q hq b hb)
      · rw [e] at hb
        injection hb with hb
        subst hb
        exact (List.mem_append.1 hq).elim (fun hq => off_old h.rows (Nat.le_refl _) q hq) (fun hq => off_old hr2 (Nat.le_refl _) q hq)
theorem wpList_append_ens {ops : Array Oper} {rest : List Oper} {o : Oper} {a : Act} {w : World} {Q : Exit → Act → World → Prop} (hgd : o.guard = none) (s x : Operand) (ho : o.op = .call { callee := .builtin .append, args := #[s, x], argTypes := #[22, 22] })
    (N : Nat) (v : Value) (ps : RowE) (hs : a.eval s = v) (h : OutV N v ps w) (u : Value) (ps2 : RowE) (hx : a.eval x = u) (hu : SrcE u ps2 w) (hr2 : RowsOk ps2 w) (hoff : ∀ q ∈ ps2, ∀ b, v.ownBlock = some b → OffQ b q) (hn : ps.length + ps2.length ≤ 1000) (hN : N ≤ w.heap.size)
    (hr : ∀ v' w', OutV N v' (ps ++ ps2) w' → w.grownBy w' v.ownBlock → wpList Tryz.prog ops Q rest (a.put o.dst v') w') : wpList Tryz.prog ops Q (o :: rest) a w := by
  refine wpList_plain hgd fun K hK => ?_
  obtain ⟨v', w', hrun, h1, h2⟩ := run_append_ens h hu hr2 hoff hn hN o.type
  unfold Oper.wp execOp
  rw [ho]
  simp only [resolve, Sem.run_bind, Sem.run_pure, Result.andThen_ok, invoke, builtin, List.map_toArray, List.map_cons, List.map_nil, hs, hx, hrun, Oper.upon]
  exact hK _ _ (hr v' w' h1 h2)
/-- A row of entries that is new, with new rows. -/
def isEnsN (N : Nat) (l : List En) : VP := fun v w => ∃ ps : RowE, ps.map (·.1) = l ∧ OutV N v ps w ∧ ∀ q ∈ ps, NewB N q.2.1 ∧ NewB N q.2.2
theorem OutS.ensN {N N0 b1 : Nat} {v : Value} {ps : RowE} {W : World} (h : OutS N0 b1 v ps W) (hN : N ≤ N0) : isEnsN N (ps.map (·.1)) v W :=
  ⟨ps, rfl, ⟨own_low h.own hN, h.rows, h.off⟩, fun q hq => ⟨(h.nw q hq).1.low hN, (h.nw q hq).2.low hN⟩⟩
theorem isEnsN.ens {N : Nat} {l : List En} {v : Value} {w : World} (h : isEnsN N l v w) : isEns l v w := by
  obtain ⟨ps, rfl, h1, _⟩ := h
  exact h1.ens
/-- What is older than the row stays. -/
theorem grown_below {w0 w w' : World} {N : Nat} {v : Value} {ps : RowE} (h : OutV N v ps w) (hg : w.grownBy w' v.ownBlock) (hb : Below w0.heap.size w0 w) (hN : w0.heap.size ≤ N) : Below w0.heap.size w0 w' := by
  refine ⟨hg.os.trans hb.os, hg.tape.trans hb.tape, hg.output.trans hb.output, Nat.le_trans hb.size hg.size, fun b hlt => (hg.block b (Nat.lt_of_lt_of_le hlt hb.size) (fun e => ?_)).trans (hb.block b hlt)⟩
  have := (h.own.lt b e.symm).1
  omega
end Go.Proofs.YtbgconagkgfplaaGreat
end
section
namespace Go.Proofs.YtbgconagkgfplaaGreat
open Go.RowKit
set_option linter.unusedVariables false
set_option linter.unusedSimpArgs false

section
variable {P : Program} {ops : Array Oper} {base : World} {a0 : Act} {Q : Exit → Act → World → Prop} {s0 : Nat} {ups : List Nat} {kn0 kn1 : Nat → VP}

/-- What is known where: ahead of operation s0, and behind it. -/
def PhaseInv (ops : Array Oper) (base : World) (s0 : Nat) (kn0 kn1 : Nat → VP) (listed : Array Bool) (a : Act) (w : World) : Prop :=
  (listed.getD s0 false = false ∧ Below base.heap.size base w ∧ ∀ j, listed.getD j false = true → FDone ops kn0 a w j) ∨
  (listed.getD s0 false = true ∧ ∃ w1, Below base.heap.size base w1 ∧ Below w1.heap.size w1 w ∧ ∀ j, listed.getD j false = true → FDone ops kn1 a w j)

end
end Go.Proofs.YtbgconagkgfplaaGreat
end
section
namespace Go.Proofs.YtbgconagkgfplaaGreat
open Go.RowKit
set_option linter.unusedVariables false
set_option linter.unusedSimpArgs false

def anyV : VP := fun _ _ => True
/-- A new variable of type T, as it was laid down. -/
def isNewS (T : TypeId) (z : List Value) (B : Nat) : VP := fun v w => ∃ g, v = .pointer (some ⟨g, 0, none⟩) ∧ B ≤ g ∧ w.heap[g]? = some (.cells z.toArray T (0, 0))
def isTup2 (K : VP) (e : Value) : VP := fun v w => ∃ x, v = .tuple #[x, e] ∧ K x w
def isTup3 (K : VP) (e f : Value) : VP := fun v w => ∃ x, v = .tuple #[x, e, f] ∧ K x w
section
variable {P : Program} {ops : Array Oper} {base : World} {a0 : Act} {Q : Exit → Act → World → Prop} {kn : Nat → VP} {i : Nat} {K : VP}
end
section
variable {P : Program} {ops : Array Oper} {base : World} {a0 : Act} {Q : Exit → Act → World → Prop} {s0 : Nat} {kn0 kn1 : Nat → VP}
end
end Go.Proofs.YtbgconagkgfplaaGreat
end
section
namespace Go.Proofs.YtbgconagkgfplaaGreat
open Go.RowKit
set_option linter.unusedVariables false
set_option linter.unusedSimpArgs false

/-- An arena whose rows are of their types. -/
def isArT (N : Nat) (A : Ar) : VP := fun v w => ∃ vs vi ps, v = .agg #[.int .i64 A.cap, vs, vi] ∧ w.ownsRow N 30 9 vs ps.length (flatE ps) ∧ ps.map (·.1) = A.slots ∧ w.ownsRow N 3 1 vi A.index.length (A.index.map intC) ∧ RowsOk ps w
theorem isArT.ar {N : Nat} {A : Ar} {v : Value} {w : World} (h : isArT N A v w) : isAr A v w := by
  obtain ⟨vs, vi, ps, rfl, h1, h2, h3, h4⟩ := h
  refine ⟨vs, vi, rfl, by rw [← h2]; exact own_ens h1 h4, isOwn.cells (B := N) (e := 3) ?_⟩
  unfold isOwn
  rw [List.length_map]
  exact h3
end Go.Proofs.YtbgconagkgfplaaGreat
end
section
namespace Go.Proofs.YtbgconagkgfplaaGreat
open Go.RowKit
set_option linter.unusedVariables false
set_option linter.unusedSimpArgs false
attribute [local irreducible] setN

def noCountB (A : Va) : Bool := decide (A.plus.length + A.minus.length = 0)
def noRegB (A : Va) : Bool := (A.time == 0) && (A.node == 0) && !A.dead && A.text.isEmpty
set_option maxRecDepth 20000 in
set_option maxHeartbeats 1000000 in
theorem noCount_any (A : Va) (v : Value) (w : World) (hv : isVa A v w) (hF : Fit A) :
    Calls Tryz.prog 132 #[v] w fun e w' => e = .returned (.bool (noCountB A)) ∧ Below w.heap.size w w' := by
  obtain ⟨vp, vm, rfl, hp, hm⟩ := hv
  obtain ⟨hB, _⟩ := vbox w A vp vm hp hm w.heap.size rfl
  obtain ⟨a, cap, rfl⟩ := hp.len
  obtain ⟨a2, cap2, rfl⟩ := hm.len
  clear hp hm
  rw [List.length_map, List.length_map] at *
  have h1 := hF.plus
  have h2 := hF.minus
  have HS := Kept.mk (show noCountB A = ((A.plus.length : Int) + (A.minus.length : Int) == 0) by unfold noCountB; rw [Bool.eq_iff_iff, decide_eq_true_eq, beq_iff_eq]; omega)
  generalize A.plus.length = n1 at *
  generalize A.minus.length = n2 at *
  go_enter Tryz.func132, Tryz.ntmps132
  go_wp2
  go_ret
  exact ⟨by rw [HS.out]; rfl, hB.out⟩
set_option maxRecDepth 20000 in
set_option maxHeartbeats 1000000 in
theorem noReg_any (A : Va) (v : Value) (w : World) (hv : isVa A v w) :
    Calls Tryz.prog 134 #[v] w fun e w' => e = .returned (.bool (noRegB A)) ∧ Below w.heap.size w w' := by
  obtain ⟨vp, vm, rfl, hp, hm⟩ := hv
  obtain ⟨hB, _⟩ := vbox w A vp vm hp hm w.heap.size rfl
  clear hp hm
  have HS := Kept.mk (show noRegB A = ((A.time == 0) && (A.node == 0) && !A.dead && A.text.isEmpty) from rfl)
  cases d0 : (A.time == 0) with
  | false =>
    go_enter Tryz.func134, Tryz.ntmps134
    go_wp2
    go_ret
    exact ⟨by rw [HS.out, d0]; rfl, hB.out⟩
  | true =>
    cases d1 : (A.node == 0) with
    | false =>
      go_enter Tryz.func134, Tryz.ntmps134
      go_wp2
      go_ret
      exact ⟨by rw [HS.out, d0, d1]; rfl, hB.out⟩
    | true =>
      cases d2 : A.dead with
      | true =>
        rw [d2] at hB
        go_enter Tryz.func134, Tryz.ntmps134
        go_wp2
        go_ret
        exact ⟨by rw [HS.out, d0, d1, d2]; rfl, hB.out⟩
      | false =>
        rw [d2] at hB
        go_enter Tryz.func134, Tryz.ntmps134
        go_wp2
        go_ret
        exact ⟨by rw [HS.out, d0, d1, d2]; rfl, hB.out⟩
set_option maxRecDepth 20000 in
set_option maxHeartbeats 1000000 in
theorem counts_any (l : List Int) (v : Value) (w : World) (hv : isCells (l.map intC) v w) (hl : l.length ≤ 1000000) :
    Calls Tryz.prog 133 #[v] w fun e w' => e = .returned (.bool (okRow l)) ∧ w = w' := by
  obtain ⟨a, cap, hva⟩ := hv.len
  rw [List.length_map] at hva
  subst hva
  have HV := Kept.mk hv
  clear hv
  go_enter Tryz.func133, Tryz.ntmps133
  go_wp2
  go_loop [3] (fun i => ∃ k : Nat, k ≤ l.length ∧ i = .int .i64 (k : Int) ∧ Kept ((l.take k).all okNum = true)) (fun i => l.length - (intOf i).toNat)
  case atStart => exact ⟨0, Nat.zero_le _, rfl, ⟨rfl⟩⟩
  case round =>
    obtain ⟨k, hk, rfl, HB⟩ := hrel
    by_cases hlt : k < l.length
    · obtain ⟨b, off, cap', hs, hb, hc⟩ := HV.out.some_ (by rw [List.length_map]; omega)
      rw [List.length_map] at hs
      injection hs with h1 h2 h3
      subst h1 h3
      have hcell := hc k _ (get_map intC l k hlt)
      have HD := Kept.mk (show (l.take (k + 1)).all okNum = ((l.take k).all okNum && okNum l[k]) by rw [List.take_succ_eq_append_getElem hlt, List.all_append]; simp)
      have HM := Kept.mk (List.getElem_mem hlt)
      obtain ⟨x, hx⟩ : ∃ x, x = l[k] := ⟨_, rfl⟩
      rw [← hx] at hcell HD HM
      unfold intC at hcell
      clear hc hx
      have d0 : decide ((k : Int) < (l.length : Int)) = true := by simp; omega
      have bad : okNum x = false → okRow l = false := fun h => by
        unfold okRow
        rw [Bool.and_eq_false_iff]
        right
        rw [List.all_eq_false]
        exact ⟨x, HM.out, by rw [h]; simp⟩
      by_cases hz : x < 0
      · have d : decide (x < 0) = true := by simpa using hz
        have HR := Kept.mk (bad (by unfold okNum; simp; omega))
        clear hz bad
        go_wp2
        all_goals go_ret
        all_goals exact ⟨by rw [HR.out]; rfl, rfl⟩
      · have d : decide (x < 0) = false := by simpa using hz
        by_cases hy : 65535 < x
        · have d2 : decide (65535 < x) = true := by simpa using hy
          have HR := Kept.mk (bad (by unfold okNum; simp; omega))
          clear hz hy bad
          go_wp2
          all_goals go_ret
          all_goals exact ⟨by rw [HR.out]; rfl, rfl⟩
        · have d2 : decide (65535 < x) = false := by simpa using hy
          have HR := Kept.mk (show (l.take (k + 1)).all okNum = true by rw [HD.out, HB.out, Bool.true_and]; unfold okNum; simp; omega)
          clear hz hy bad
          go_wp2
          all_goals go_round
          case rel => exact ⟨k + 1, by omega, by go_num, HR⟩
          case measure => simp [intOf]; omega
    · have HR := Kept.mk (show okRow l = ((l.length : Int) == 8) by
        have := HB.out
        rw [List.take_of_length_le (by omega)] at this
        unfold okRow
        rw [this, Bool.and_true, Bool.eq_iff_iff]
        simp
        omega)
      have d0 : decide ((k : Int) < (l.length : Int)) = false := by simp; omega
      go_wp2
      go_ret
      exact ⟨by rw [HR.out]; rfl, rfl⟩
theorem flags_zero (fl : UInt64) : fl = 0 ↔ (fl.toNat : Int) = 0 := by
  rw [← UInt64.toNat_inj]
  simp
theorem beq_nil (l : List UInt8) : (l == []) = l.isEmpty := by cases l <;> rfl
theorem ok_regs (A : Va) (h : A.kind = 1) : okV A = (decide (0 ≤ A.time) && decide (A.time ≤ 2147483647) && decide (0 ≤ A.node) && decide (A.node ≤ 7) && decide ((A.text.length : Int) ≤ 8) && (!A.dead || A.text.isEmpty) && noCountB A && ((A.flags.toNat : Int) == 0)) := by
  rw [Bool.eq_iff_iff]
  constructor
  · intro ho
    obtain ⟨r1, r2⟩ := ok_reg ho h
    have e1 : A.plus = [] := congrArg Va.plus r2
    have e2 : A.minus = [] := congrArg Va.minus r2
    have e3 : A.flags = 0 := congrArg Va.flags r2
    unfold inReg at r1
    rw [beq_nil] at r1
    simp only [Bool.and_eq_true, decide_eq_true_eq] at r1
    obtain ⟨⟨⟨⟨c1, c2⟩, ⟨c3, c4⟩⟩, c5⟩, c6⟩ := r1
    simp only [Bool.and_eq_true, decide_eq_true_eq]
    exact ⟨⟨⟨⟨⟨⟨⟨c1, c2⟩, c3⟩, c4⟩, c5⟩, c6⟩, by unfold noCountB; rw [e1, e2]; rfl⟩, by rw [e3]; rfl⟩
  · intro hh
    simp only [Bool.and_eq_true, decide_eq_true_eq] at hh
    obtain ⟨⟨⟨⟨⟨⟨⟨c1, c2⟩, c3⟩, c4⟩, c5⟩, c6⟩, c7⟩, c8⟩ := hh
    unfold noCountB at c7
    simp only [decide_eq_true_eq] at c7
    have e1 : A.plus = [] := List.eq_nil_of_length_eq_zero (by omega)
    have e2 : A.minus = [] := List.eq_nil_of_length_eq_zero (by omega)
    have e3 : A.flags = 0 := (flags_zero _).2 (by simpa using c8)
    refine reg_ok h ?_ ?_
    · unfold inReg
      rw [beq_nil]
      simp only [Bool.and_eq_true, decide_eq_true_eq]
      exact ⟨⟨⟨⟨c1, c2⟩, ⟨c3, c4⟩⟩, c5⟩, c6⟩
    · unfold onlyReg
      obtain ⟨k, t, n, d, tx, p, mi, fl⟩ := A
      simp only at h e1 e2 e3
      subst h e1 e2 e3
      rfl
theorem ok_counts (A : Va) (h : A.kind = 2) : okV A = (okRow A.plus && okRow A.minus && noRegB A && ((A.flags.toNat : Int) == 0)) := by
  rw [Bool.eq_iff_iff]
  constructor
  · intro ho
    obtain ⟨r1, r2⟩ := ok_count ho h
    have e1 : A.time = 0 := congrArg Va.time r2
    have e2 : A.node = 0 := congrArg Va.node r2
    have e3 : A.flags = 0 := congrArg Va.flags r2
    have e4 : A.dead = false := congrArg Va.dead r2
    have e5 : A.text = [] := congrArg Va.text r2
    unfold inCount at r1
    rw [r1, e3]
    unfold noRegB
    rw [e1, e2, e4, e5]
    rfl
  · intro hh
    simp only [Bool.and_eq_true] at hh
    obtain ⟨⟨⟨c1, c2⟩, c3⟩, c8⟩ := hh
    unfold noRegB at c3
    simp only [Bool.and_eq_true, beq_iff_eq] at c3
    obtain ⟨⟨⟨e1, e2⟩, e4⟩, e5⟩ := c3
    have e3 : A.flags = 0 := (flags_zero _).2 (by simpa using c8)
    refine count_ok h (by unfold inCount; rw [c1, c2]; rfl) ?_
    unfold onlyCount
    obtain ⟨k, t, n, d, tx, p, mi, fl⟩ := A
    simp only at h e1 e2 e3 e4 e5
    have e4' : d = false := by simpa using e4
    have e5' : tx = [] := by simpa using e5
    subst h e1 e2 e3 e4' e5'
    rfl
theorem ok_flagss (A : Va) (h : A.kind = 3) : okV A = (noRegB A && noCountB A) := by
  rw [Bool.eq_iff_iff]
  constructor
  · intro ho
    have r2 := ok_flags ho h
    have e1 : A.time = 0 := congrArg Va.time r2
    have e2 : A.node = 0 := congrArg Va.node r2
    have e4 : A.dead = false := congrArg Va.dead r2
    have e5 : A.text = [] := congrArg Va.text r2
    have e6 : A.plus = [] := congrArg Va.plus r2
    have e7 : A.minus = [] := congrArg Va.minus r2
    unfold noRegB noCountB
    rw [e1, e2, e4, e5, e6, e7]
    rfl
  · intro hh
    simp only [Bool.and_eq_true] at hh
    obtain ⟨c3, c7⟩ := hh
    unfold noRegB at c3
    simp only [Bool.and_eq_true, beq_iff_eq] at c3
    obtain ⟨⟨⟨e1, e2⟩, e4⟩, e5⟩ := c3
    unfold noCountB at c7
    simp only [decide_eq_true_eq] at c7
    have e6 : A.plus = [] := List.eq_nil_of_length_eq_zero (by omega)
    have e7 : A.minus = [] := List.eq_nil_of_length_eq_zero (by omega)
    refine flags_ok h ?_
    unfold onlyFlags
    obtain ⟨k, t, n, d, tx, p, mi, fl⟩ := A
    simp only at h e1 e2 e4 e5 e6 e7
    have e4' : d = false := by simpa using e4
    have e5' : tx = [] := by simpa using e5
    subst h e1 e2 e4' e5' e6 e7
    rfl
set_option maxRecDepth 20000 in
set_option maxHeartbeats 1000000 in
theorem rcheck_reg (A : Va) (v : Value) (w : World) (hv : isVa A v w) (hF : Fit A) (hk : A.kind = 1) :
    Calls Tryz.prog 113 #[v] w fun e w' => e = .returned (.bool (okV A)) ∧ Below w.heap.size w w' := by
  obtain ⟨vp, vm, rfl, hp, hm⟩ := hv
  obtain ⟨hB, hV⟩ := vbox w A vp vm hp hm w.heap.size rfl
  have HP := Kept.mk (stable_cells _ _ _ _ hp hB.out)
  have HM := Kept.mk (stable_cells _ _ _ _ hm hB.out)
  have HXa := Kept.mk (show isVa A (.agg #[.int .i64 A.kind, .int .i64 A.time, .int .i64 A.node, .bool A.dead, .string ⟨A.text.toArray⟩, vp, vm, .int .u64 (A.flags.toNat : Int)]) (w.alloc (.cells #[.int .i64 A.kind, .int .i64 A.time, .int .i64 A.node, .bool A.dead, .string ⟨A.text.toArray⟩, vp, vm, .int .u64 (A.flags.toNat : Int)] 28)) from ⟨vp, vm, rfl, HP.out, HM.out⟩)
  clear hp hm
  have HS := Kept.mk (ok_regs A hk)
  have kk : (A.kind == 1) = true := by simpa using hk
  have hsz : (⟨A.text.toArray⟩ : ByteArray).size = A.text.length := size_mk _
  clear hk
  cases d0 : decide (0 ≤ A.time) with
  | false =>
    go_enter Tryz.func113, Tryz.ntmps113
    go_wp2
    all_goals go_ret
    all_goals exact ⟨by rw [HS.out, d0]; rfl, hB.out⟩
  | true =>
    cases d1 : decide (A.time ≤ 2147483647) with
    | false =>
      go_enter Tryz.func113, Tryz.ntmps113
      go_wp2
      all_goals go_ret
      all_goals exact ⟨by rw [HS.out, d0, d1]; rfl, hB.out⟩
    | true =>
      cases d2 : decide (0 ≤ A.node) with
      | false =>
        go_enter Tryz.func113, Tryz.ntmps113
        go_wp2
        all_goals go_ret
        all_goals exact ⟨by rw [HS.out, d0, d1, d2]; rfl, hB.out⟩
      | true =>
        cases d3 : decide (A.node ≤ 7) with
        | false =>
          go_enter Tryz.func113, Tryz.ntmps113
          go_wp2
          all_goals go_ret
          all_goals exact ⟨by rw [HS.out, d0, d1, d2, d3]; rfl, hB.out⟩
        | true =>
          cases d4 : decide ((A.text.length : Int) ≤ 8) with
          | false =>
            go_enter Tryz.func113, Tryz.ntmps113
            go_wp2
            all_goals go_ret
            all_goals exact ⟨by rw [HS.out, d0, d1, d2, d3, d4]; rfl, hB.out⟩
          | true =>
            cases dd : A.dead with
            | false =>
              rw [dd] at hB hV HXa HS
              have dd2 := Kept.mk dd
              clear dd
              go_enter Tryz.func113, Tryz.ntmps113
              go_wp2_with fail
              ((with_reducible refine (noCount_any A _ _ HXa.out hF).mono ?_); rintro e w1 ⟨rfl, hb1⟩)
              obtain ⟨q, r, -, -, -, k0, k1, k2, k3, k4, k5, k6, k7⟩ := (hV.out.keep hb1).open_
              replace hB := Kept.mk (hB.out.trans (hb1.mono hB.out.size))
              clear hb1
              cases dn : noCountB A with
              | false =>
                go_wp2
                all_goals go_ret
                all_goals exact ⟨by rw [HS.out, d0, d1, d2, d3, d4, dn]; rfl, hB.out⟩
              | true =>
                go_wp2
                all_goals go_ret
                all_goals exact ⟨by rw [HS.out, d0, d1, d2, d3, d4, dn]; rfl, hB.out⟩
            | true =>
              rw [dd] at hB hV HXa HS
              clear dd
              cases de : A.text.isEmpty with
              | false =>
                go_enter Tryz.func113, Tryz.ntmps113
                go_wp2
                all_goals go_ret
                all_goals exact ⟨by rw [HS.out, d0, d1, d2, d3, d4, de]; rfl, hB.out⟩
              | true =>
                go_enter Tryz.func113, Tryz.ntmps113
                go_wp2_with fail
                ((with_reducible refine (noCount_any A _ _ HXa.out hF).mono ?_); rintro e w1 ⟨rfl, hb1⟩)
                obtain ⟨q, r, -, -, -, k0, k1, k2, k3, k4, k5, k6, k7⟩ := (hV.out.keep hb1).open_
                replace hB := Kept.mk (hB.out.trans (hb1.mono hB.out.size))
                clear hb1
                cases dn : noCountB A with
                | false =>
                  go_wp2
                  all_goals go_ret
                  all_goals exact ⟨by rw [HS.out, d0, d1, d2, d3, d4, de, dn]; rfl, hB.out⟩
                | true =>
                  go_wp2
                  all_goals go_ret
                  all_goals exact ⟨by rw [HS.out, d0, d1, d2, d3, d4, de, dn]; rfl, hB.out⟩
set_option maxRecDepth 20000 in
set_option maxHeartbeats 1000000 in
theorem rcheck_count (A : Va) (v : Value) (w : World) (hv : isVa A v w) (hF : Fit A) (hk : A.kind = 2) :
    Calls Tryz.prog 113 #[v] w fun e w' => e = .returned (.bool (okV A)) ∧ Below w.heap.size w w' := by
  obtain ⟨vp, vm, rfl, hp, hm⟩ := hv
  obtain ⟨hB, hV⟩ := vbox w A vp vm hp hm w.heap.size rfl
  have HP := Kept.mk (stable_cells _ _ _ _ hp hB.out)
  have HM := Kept.mk (stable_cells _ _ _ _ hm hB.out)
  have HXa := Kept.mk (show isVa A (.agg #[.int .i64 A.kind, .int .i64 A.time, .int .i64 A.node, .bool A.dead, .string ⟨A.text.toArray⟩, vp, vm, .int .u64 (A.flags.toNat : Int)]) (w.alloc (.cells #[.int .i64 A.kind, .int .i64 A.time, .int .i64 A.node, .bool A.dead, .string ⟨A.text.toArray⟩, vp, vm, .int .u64 (A.flags.toNat : Int)] 28)) from ⟨vp, vm, rfl, HP.out, HM.out⟩)
  clear hp hm
  have HS := Kept.mk (ok_counts A hk)
  have kk : (A.kind == 1) = false := by rw [hk]; decide
  have kk2 : (A.kind == 2) = true := by rw [hk]; decide
  clear hk
  go_enter Tryz.func113, Tryz.ntmps113
  go_wp2_with fail
  ((with_reducible refine (counts_any A.plus _ _ HP.out hF.plus).mono ?_); rintro e w1 ⟨rfl, rfl⟩)
  cases d1 : okRow A.plus with
  | false =>
    go_wp2
    all_goals go_ret
    all_goals exact ⟨by rw [HS.out, d1]; rfl, hB.out⟩
  | true =>
    go_wp2_with fail
    ((with_reducible refine (counts_any A.minus _ _ HM.out hF.minus).mono ?_); rintro e w1 ⟨rfl, rfl⟩)
    cases d2 : okRow A.minus with
    | false =>
      go_wp2
      all_goals go_ret
      all_goals exact ⟨by rw [HS.out, d1, d2]; rfl, hB.out⟩
    | true =>
      go_wp2_with fail
      ((with_reducible refine (noReg_any A _ _ HXa.out).mono ?_); rintro e w1 ⟨rfl, hb1⟩)
      obtain ⟨q, r, -, -, -, k0, k1, k2, k3, k4, k5, k6, k7⟩ := (hV.out.keep hb1).open_
      replace hB := Kept.mk (hB.out.trans (hb1.mono hB.out.size))
      clear hb1
      cases dn : noRegB A with
      | false =>
        go_wp2
        all_goals go_ret
        all_goals exact ⟨by rw [HS.out, d1, d2, dn]; rfl, hB.out⟩
      | true =>
        go_wp2
        all_goals go_ret
        all_goals exact ⟨by rw [HS.out, d1, d2, dn]; rfl, hB.out⟩
set_option maxRecDepth 20000 in
set_option maxHeartbeats 1000000 in
theorem rcheck_flags (A : Va) (v : Value) (w : World) (hv : isVa A v w) (hF : Fit A) (hk : A.kind = 3) :
    Calls Tryz.prog 113 #[v] w fun e w' => e = .returned (.bool (okV A)) ∧ Below w.heap.size w w' := by
  obtain ⟨vp, vm, rfl, hp, hm⟩ := hv
  obtain ⟨hB, hV⟩ := vbox w A vp vm hp hm w.heap.size rfl
  have HP := Kept.mk (stable_cells _ _ _ _ hp hB.out)
  have HM := Kept.mk (stable_cells _ _ _ _ hm hB.out)
  have HXa := Kept.mk (show isVa A (.agg #[.int .i64 A.kind, .int .i64 A.time, .int .i64 A.node, .bool A.dead, .string ⟨A.text.toArray⟩, vp, vm, .int .u64 (A.flags.toNat : Int)]) (w.alloc (.cells #[.int .i64 A.kind, .int .i64 A.time, .int .i64 A.node, .bool A.dead, .string ⟨A.text.toArray⟩, vp, vm, .int .u64 (A.flags.toNat : Int)] 28)) from ⟨vp, vm, rfl, HP.out, HM.out⟩)
  clear hp hm
  have HS := Kept.mk (ok_flagss A hk)
  have kk : (A.kind == 1) = false := by rw [hk]; decide
  have kk2 : (A.kind == 2) = false := by rw [hk]; decide
  have kk3 : (A.kind == 3) = true := by rw [hk]; decide
  clear hk
  go_enter Tryz.func113, Tryz.ntmps113
  go_wp2_with fail
  ((with_reducible refine (noReg_any A _ _ HXa.out).mono ?_); rintro e w1 ⟨rfl, hb1⟩)
  obtain ⟨q, r, x1, -, -, k0, k1, k2, k3, k4, k5, k6, k7⟩ := (hV.out.keep hb1).open_
  have X1 := Kept.mk x1
  replace hB := Kept.mk (hB.out.trans (hb1.mono hB.out.size))
  clear hb1 x1
  cases dn : noRegB A with
  | false =>
    go_wp2
    all_goals go_ret
    all_goals exact ⟨by rw [HS.out, dn]; rfl, hB.out⟩
  | true =>
    go_wp2_with fail
    ((with_reducible refine (noCount_any A _ _ X1.out hF).mono ?_); rintro e w2 ⟨rfl, hb1⟩)
    replace hB := Kept.mk (hB.out.trans (hb1.mono hB.out.size))
    clear hb1 X1 k0 k1 k2 k3 k4 k5 k6 k7
    cases d2 : noCountB A with
    | false =>
      go_wp2
      all_goals go_ret
      all_goals exact ⟨by rw [HS.out, dn, d2]; rfl, hB.out⟩
    | true =>
      go_wp2
      all_goals go_ret
      all_goals exact ⟨by rw [HS.out, dn, d2]; rfl, hB.out⟩
set_option maxRecDepth 20000 in
set_option maxHeartbeats 1000000 in
theorem rcheck_none (A : Va) (v : Value) (w : World) (hv : isVa A v w) (hF : Fit A) (h1 : A.kind ≠ 1) (h2 : A.kind ≠ 2) (h3 : A.kind ≠ 3) :
    Calls Tryz.prog 113 #[v] w fun e w' => e = .returned (.bool (okV A)) ∧ Below w.heap.size w w' := by
  obtain ⟨vp, vm, rfl, hp, hm⟩ := hv
  obtain ⟨hB, hV⟩ := vbox w A vp vm hp hm w.heap.size rfl
  have HP := Kept.mk (stable_cells _ _ _ _ hp hB.out)
  have HM := Kept.mk (stable_cells _ _ _ _ hm hB.out)
  have HXa := Kept.mk (show isVa A (.agg #[.int .i64 A.kind, .int .i64 A.time, .int .i64 A.node, .bool A.dead, .string ⟨A.text.toArray⟩, vp, vm, .int .u64 (A.flags.toNat : Int)]) (w.alloc (.cells #[.int .i64 A.kind, .int .i64 A.time, .int .i64 A.node, .bool A.dead, .string ⟨A.text.toArray⟩, vp, vm, .int .u64 (A.flags.toNat : Int)] 28)) from ⟨vp, vm, rfl, HP.out, HM.out⟩)
  clear hp hm
  have HS := Kept.mk (show okV A = false by unfold okV kindN; rw [if_neg h1, if_neg h2, if_neg h3]; rfl)
  have kk : (A.kind == 1) = false := by simpa using h1
  have kk2 : (A.kind == 2) = false := by simpa using h2
  have kk3 : (A.kind == 3) = false := by simpa using h3
  clear h1 h2 h3
  go_enter Tryz.func113, Tryz.ntmps113
  go_wp2
  all_goals go_ret
  all_goals exact ⟨by rw [HS.out]; rfl, hB.out⟩
theorem rcheck_any (A : Va) (v : Value) (w : World) (hv : isVa A v w) (hF : Fit A) :
    Calls Tryz.prog 113 #[v] w fun e w' => e = .returned (.bool (okV A)) ∧ Below w.heap.size w w' := by
  by_cases h1 : A.kind = 1
  · exact rcheck_reg A v w hv hF h1
  · by_cases h2 : A.kind = 2
    · exact rcheck_count A v w hv hF h2
    · by_cases h3 : A.kind = 3
      · exact rcheck_flags A v w hv hF h3
      · exact rcheck_none A v w hv hF h1 h2 h3
end Go.Proofs.YtbgconagkgfplaaGreat
end
section
namespace Go.Proofs.YtbgconagkgfplaaGreat
open Go.RowKit
set_option linter.unusedVariables false
set_option linter.unusedSimpArgs false

noncomputable def refIntsops : Array Oper := regionOf Tryz.f51 6
set_option maxRecDepth 100000 in
theorem refInts_region (Q : Exit → Act → World → Prop) (a0 : Act) (w0 : World) (hsz : a0.tmps.size = 26) (b1 o1 c1 b2 o2 c2 n j : Nat) (x y : Int) (z : Bool)
    (e0 : a0.tmps.getD 0 undef = .slice (some ⟨b1, o1, none⟩) n c1) (e1 : a0.tmps.getD 1 undef = .slice (some ⟨b2, o2, none⟩) n c2) (e5 : a0.tmps.getD 5 undef = .int .i64 (j : Int)) (hj : j < n)
    (p1 : w0.cell? ⟨b1, o1 + j, none⟩ = some (.int .i64 x)) (l1 : b1 < w0.heap.size) (p2 : w0.cell? ⟨b2, o2 + j, none⟩ = some (.int .i64 y)) (l2 : b2 < w0.heap.size) (hz : (x != y) = z)
    (hQ : ∀ (f : Nat → Value) (w : World), f 25 = .bool z → Below w0.heap.size w0 w → Q .normal { tmps := [17, 18, 19, 20, 21, 22, 23, 24, 25].foldl (fun t s => t.setIfInBounds s (f s)) a0.tmps, defers := a0.defers } w) :
    (Code.region 6 refIntsops true).wp Tryz.prog Q a0 w0 := by
  refine wp_region_flow mixed (by rw [hsz]; kernel_rfl) ?_
  rw [show refIntsops.size = 9 by kernel_rfl]
  refine ⟨isVal (.slice (some ⟨b1, o1, none⟩) n c1), step_move (.tmp 0) (by kernel_rfl) (wanted_none (by kernel_rfl)) (stable_val _) (knows_old 0 (.slice (some ⟨b1, o1, none⟩) n c1) (by kernel_rfl) e0), ?_⟩
  refine ⟨isVal (.int .i64 (j : Int)), step_move (.tmp 5) (by kernel_rfl) (wanted_none (by kernel_rfl)) (stable_val _) (knows_old 5 (.int .i64 (j : Int)) (by kernel_rfl) e5), ?_⟩
  refine ⟨isVal (.pointer (some ⟨b1, o1 + j, none⟩)), step_place 23 3 (.tmp 17) (.tmp 18) b1 o1 n c1 j (by kernel_rfl) (wanted_none (by kernel_rfl)) (knows_new (V := isVal (.slice (some ⟨b1, o1, none⟩) n c1)) 17 0 (by kernel_rfl) (by kernel_rfl) (by kernel_rfl)) (knows_new (V := isVal (.int .i64 (j : Int))) 18 1 (by kernel_rfl) (by kernel_rfl) (by kernel_rfl)) Tryz.underlying23 (by kernel_rfl) hj, ?_⟩
  refine ⟨isVal (.int .i64 x), step_read 3 (.tmp 19) ⟨b1, o1 + j, none⟩ (.int .i64 x) (by kernel_rfl) (wanted_none (by kernel_rfl)) (knows_new (V := isVal (.pointer (some ⟨b1, o1 + j, none⟩))) 19 2 (by kernel_rfl) (by kernel_rfl) (by kernel_rfl)) p1 l1 agg_int, ?_⟩
  refine ⟨isVal (.slice (some ⟨b2, o2, none⟩) n c2), step_move (.tmp 1) (by kernel_rfl) (wanted_none (by kernel_rfl)) (stable_val _) (knows_old 1 (.slice (some ⟨b2, o2, none⟩) n c2) (by kernel_rfl) e1), ?_⟩
  refine ⟨isVal (.int .i64 (j : Int)), step_move (.tmp 5) (by kernel_rfl) (wanted_none (by kernel_rfl)) (stable_val _) (knows_old 5 (.int .i64 (j : Int)) (by kernel_rfl) e5), ?_⟩
  refine ⟨isVal (.pointer (some ⟨b2, o2 + j, none⟩)), step_place 23 3 (.tmp 21) (.tmp 22) b2 o2 n c2 j (by kernel_rfl) (wanted_none (by kernel_rfl)) (knows_new (V := isVal (.slice (some ⟨b2, o2, none⟩) n c2)) 21 4 (by kernel_rfl) (by kernel_rfl) (by kernel_rfl)) (knows_new (V := isVal (.int .i64 (j : Int))) 22 5 (by kernel_rfl) (by kernel_rfl) (by kernel_rfl)) Tryz.underlying23 (by kernel_rfl) hj, ?_⟩
  refine ⟨isVal (.int .i64 y), step_read 3 (.tmp 23) ⟨b2, o2 + j, none⟩ (.int .i64 y) (by kernel_rfl) (wanted_none (by kernel_rfl)) (knows_new (V := isVal (.pointer (some ⟨b2, o2 + j, none⟩))) 23 6 (by kernel_rfl) (by kernel_rfl) (by kernel_rfl)) p2 l2 agg_int, ?_⟩
  refine ⟨isVal (.bool z), step_bin .neq 3 3 (.tmp 20) (.tmp 24) (.int .i64 x) (.int .i64 y) (.bool z) (by kernel_rfl) (wanted_none (by kernel_rfl)) (knows_new (V := isVal (.int .i64 x)) 20 3 (by kernel_rfl) (by kernel_rfl) (by kernel_rfl)) (knows_new (V := isVal (.int .i64 y)) 24 7 (by kernel_rfl) (by kernel_rfl) (by kernel_rfl)) (fun _ => rfl) (neq_int _ _ _ _ _ hz), ?_⟩
  intro a w hkp hb hd
  rw [kept_of hkp ((List.range 9).map fun i => some (i + 17)) [17, 18, 19, 20, 21, 22, 23, 24, 25] (by kernel_rfl) (by decide)]
  exact hQ (fun s => a.tmps.getD s undef) w (fdone_of (hd 8 (by rw [show refIntsops.size = 9 by kernel_rfl]; decide)) (t := 25) (V := isVal (.bool z)) (by kernel_rfl) (by kernel_rfl)) hb
set_option maxRecDepth 20000 in
set_option maxHeartbeats 1000000 in
theorem refInts_any (l m : List (Int)) (v u : Value) (w : World) (hv : isCells (l.map intC) v w) (hu : isCells (m.map intC) u w) (h1 : l.length ≤ 1000000000) (h2 : m.length ≤ 1000000000) :
    Calls Tryz.prog 51 #[v, u] w fun e w' => e = .returned (.bool (decide (l = m))) ∧ Below w.heap.size w w' := by
  by_cases hlen : l.length = m.length
  case neg =>
    obtain ⟨a, cap, rfl⟩ := hv.len
    obtain ⟨b, cap2, rfl⟩ := hu.len
    rw [List.length_map, List.length_map]
    have HN := Kept.mk (show decide (l = m) = false by simp; rintro rfl; exact hlen rfl)
    have d1 : ((l.length : Int) != (m.length : Int)) = true := by simp [bne]; omega
    clear hv hu hlen
    go_enter Tryz.func51, Tryz.ntmps51
    go_wp2
    go_ret
    exact ⟨by rw [HN.out]; rfl, Below.refl _ _⟩
  by_cases h0 : l = []
  · subst h0
    obtain rfl : m = [] := List.eq_nil_of_length_eq_zero (by simpa using hlen.symm)
    obtain ⟨a, cap, rfl⟩ := hv.len
    obtain ⟨b, cap2, rfl⟩ := hu.len
    clear hv hu
    simp only [List.map_nil, List.length_nil]
    go_enter Tryz.func51, Tryz.ntmps51
    go_wp2
    go_loop [5] (fun i => i = .int .i64 0) (fun _ => 0)
    case atStart => rfl
    case round =>
      subst hrel
      go_wp2
      go_ret
      exact ⟨by simp, Below.refl _ _⟩
  · have hl0 : 0 < l.length := List.length_pos_iff.2 h0
    obtain ⟨b1, o1, c1, hv', l1, hc1⟩ := hv.some_ (by simpa using hl0)
    obtain ⟨b2, o2, c2, hu', l2, hc2⟩ := hu.some_ (by rw [List.length_map]; omega)
    rw [List.length_map] at hv' hu'
    subst hv' hu'
    have HM := Kept.mk hlen
    have hmn : m.length = l.length := hlen.symm
    rw [hmn]
    obtain ⟨n, hn⟩ : ∃ n, n = l.length := ⟨_, rfl⟩
    have HN := Kept.mk hn
    rw [← hn] at h1 hl0 ⊢
    have HC1 := Kept.mk hc1
    have HC2 := Kept.mk hc2
    have hB : Below w.heap.size w w := Below.refl _ _
    clear hv hu hlen hmn hn hc1 hc2 h0
    go_enter Tryz.func51, Tryz.ntmps51
    go_wp2
    go_loopw [5] (fun i wr => ∃ j : Nat, j ≤ n ∧ i = .int .i64 (j : Int) ∧ Kept (l.take j = m.take j) ∧ Below w.heap.size w wr) (fun i _ => n - (intOf i).toNat)
    case atStart => exact ⟨0, Nat.zero_le _, rfl, ⟨rfl⟩, hB⟩
    case round =>
      clear hB
      obtain ⟨j, hj, rfl, HT, hB⟩ := hrel
      by_cases hlt : j < n
      · have d1 : decide ((j : Int) < (n : Int)) = true := by simpa using hlt
        have HA := Kept.mk (show j < l.length by rw [← HN.out]; exact hlt)
        have HB := Kept.mk (show j < m.length by rw [← HM.out, ← HN.out]; exact hlt)
        have q1 := Kept.mk ((hB.cell (p := ⟨b1, o1 + j, none⟩) l1).trans (HC1.out j _ (get_map intC l j HA.out)))
        have q2 := Kept.mk ((hB.cell (p := ⟨b2, o2 + j, none⟩) l2).trans (HC2.out j _ (get_map intC m j HB.out)))
        cases hz : (l[j]'HA.out != m[j]'HB.out) with
        | true =>
          have HR := Kept.mk (show decide (l = m) = false by
            simp only [decide_eq_false_iff_not]
            rintro rfl
            simp at hz)
          have HZ := Kept.mk hz
          clear hz
          go_wp2_with fail
          refine refInts_region _ _ _ rfl b1 o1 c1 b2 o2 c2 n j _ _ true rfl rfl rfl hlt q1.out (Nat.lt_of_lt_of_le l1 hB.size) q2.out (Nat.lt_of_lt_of_le l2 hB.size) HZ.out ?_
          clear q1 q2 HZ
          intro f9 W9 hg hb9
          replace hB := hB.trans (hb9.mono hB.size)
          clear hb9
          simp only [List.foldl_cons, List.foldl_nil, hg]
          generalize f9 17 = y17
          generalize f9 18 = y18
          generalize f9 19 = y19
          generalize f9 20 = y20
          generalize f9 21 = y21
          generalize f9 22 = y22
          generalize f9 23 = y23
          generalize f9 24 = y24
          clear hg
          simp only [List.setIfInBounds_toArray, List.set_cons_succ, List.set_cons_zero]
          go_wp2
          go_ret
          exact ⟨by rw [HR.out]; rfl, hB⟩
        | false =>
          have HR := Kept.mk (show l.take (j + 1) = m.take (j + 1) by
            rw [List.take_succ_eq_append_getElem HA.out, List.take_succ_eq_append_getElem HB.out, HT.out]
            simp at hz
            rw [hz])
          have HZ := Kept.mk hz
          clear hz HT
          go_wp2_with fail
          refine refInts_region _ _ _ rfl b1 o1 c1 b2 o2 c2 n j _ _ false rfl rfl rfl hlt q1.out (Nat.lt_of_lt_of_le l1 hB.size) q2.out (Nat.lt_of_lt_of_le l2 hB.size) HZ.out ?_
          clear q1 q2 HZ
          intro f9 W9 hg hb9
          replace hB := hB.trans (hb9.mono hB.size)
          clear hb9
          simp only [List.foldl_cons, List.foldl_nil, hg]
          generalize f9 17 = y17
          generalize f9 18 = y18
          generalize f9 19 = y19
          generalize f9 20 = y20
          generalize f9 21 = y21
          generalize f9 22 = y22
          generalize f9 23 = y23
          generalize f9 24 = y24
          clear hg
          simp only [List.setIfInBounds_toArray, List.set_cons_succ, List.set_cons_zero]
          go_wp2
          go_roundw
          case rel => exact ⟨j + 1, by omega, by go_num, HR, hB⟩
          case measure => simp [intOf]; omega
      · have d1 : decide ((j : Int) < (n : Int)) = false := by simp; omega
        have HR := Kept.mk (show decide (l = m) = true by
          have h := HT.out
          rw [List.take_of_length_le (by rw [← HN.out]; omega), List.take_of_length_le (by rw [← HM.out, ← HN.out]; omega)] at h
          simpa using h)
        go_wp2
        go_ret
        exact ⟨by rw [HR.out]; rfl, hB⟩
end Go.Proofs.YtbgconagkgfplaaGreat
end
section
namespace Go.Proofs.YtbgconagkgfplaaGreat
open Go.RowKit
set_option linter.unusedVariables false
set_option linter.unusedSimpArgs false
attribute [local irreducible] setN

theorem same_split2 (A B : Va) : decide (A = B) = ((A.kind == B.kind) && (A.time == B.time) && (A.node == B.node) && (A.dead == B.dead) && (A.text == B.text) && ((A.flags.toNat : Int) == (B.flags.toNat : Int)) && decide (A.plus = B.plus) && decide (A.minus = B.minus)) := by
  rw [same_split]
  generalize (A.kind == B.kind) = a
  generalize (A.time == B.time) = b
  generalize (A.node == B.node) = c
  generalize (A.dead == B.dead) = d
  generalize (A.text == B.text) = e
  generalize decide (A.plus = B.plus) = f
  generalize decide (A.minus = B.minus) = g
  generalize ((A.flags.toNat : Int) == (B.flags.toNat : Int)) = h
  cases a <;> cases b <;> cases c <;> cases d <;> cases e <;> cases f <;> cases g <;> cases h <;> rfl
set_option maxRecDepth 20000 in
set_option maxHeartbeats 2000000 in
theorem rsame_any (A B : Va) (v u : Value) (w : World) (hv : isVa A v w) (hu : isVa B u w) (hA : Fit A) (hC : Fit B) :
    Calls Tryz.prog 72 #[v, u] w fun e w' => e = .returned (.bool (decide (A = B))) ∧ Below w.heap.size w w' := by
  have hv0 := hv
  have hu0 := hu
  obtain ⟨pa, ma, rfl, hpa, hma⟩ := hv
  obtain ⟨pb, mb, rfl, hpb, hmb⟩ := hu
  obtain ⟨hB, Va⟩ := vbox w A pa ma hpa hma (w.heap.size) (by simp)
  obtain ⟨hBn, Vb⟩ := vbox (w.alloc (.cells #[.int .i64 A.kind, .int .i64 A.time, .int .i64 A.node, .bool A.dead, .string ⟨A.text.toArray⟩, pa, ma, .int .u64 (A.flags.toNat : Int)] 28)) B pb mb (stable_cells _ _ _ _ hpb hB.out) (stable_cells _ _ _ _ hmb hB.out) (w.heap.size + 1) (by simp)
  replace Va := Kept.mk (Va.out.keep hBn.out)
  replace hB := Kept.mk (hB.out.trans (hBn.out.mono hB.out.size))
  clear hBn
  clear hpa hma hpb hmb
  have HS := Kept.mk (same_split2 A B)
  have HA0 := Kept.mk (va_grow hv0 hB.out)
  have HU0 := Kept.mk (va_grow hu0 hB.out)
  clear hv0 hu0
  cases d0 : (A.kind == B.kind) with
  | false =>
    go_enter Tryz.func72, Tryz.ntmps72
    go_wp2
    all_goals go_ret
    all_goals exact ⟨by rw [HS.out, d0]; rfl, hB.out⟩
  | true =>
    cases d1 : (A.time == B.time) with
    | false =>
      go_enter Tryz.func72, Tryz.ntmps72
      go_wp2
      all_goals go_ret
      all_goals exact ⟨by rw [HS.out, d0, d1]; rfl, hB.out⟩
    | true =>
      cases d2 : (A.node == B.node) with
      | false =>
        go_enter Tryz.func72, Tryz.ntmps72
        go_wp2
        all_goals go_ret
        all_goals exact ⟨by rw [HS.out, d0, d1, d2]; rfl, hB.out⟩
      | true =>
        cases d3 : (A.dead == B.dead) with
        | false =>
          go_enter Tryz.func72, Tryz.ntmps72
          go_wp2
          all_goals go_ret
          all_goals exact ⟨by rw [HS.out, d0, d1, d2, d3]; rfl, hB.out⟩
        | true =>
          cases d4 : (A.text == B.text) with
          | false =>
            go_enter Tryz.func72, Tryz.ntmps72
            go_wp2
            all_goals go_ret
            all_goals exact ⟨by rw [HS.out, d0, d1, d2, d3, d4]; rfl, hB.out⟩
          | true =>
            cases d5 : ((A.flags.toNat : Int) == (B.flags.toNat : Int)) with
            | false =>
              go_enter Tryz.func72, Tryz.ntmps72
              go_wp2
              all_goals go_ret
              all_goals exact ⟨by rw [HS.out, d0, d1, d2, d3, d4, d5]; rfl, hB.out⟩
            | true =>
              go_enter Tryz.func72, Tryz.ntmps72
              go_wp2_with fail
              generalize (w.alloc (.cells #[.int .i64 A.kind, .int .i64 A.time, .int .i64 A.node, .bool A.dead, .string ⟨A.text.toArray⟩, pa, ma, .int .u64 (A.flags.toNat : Int)] 28)).alloc (.cells #[.int .i64 B.kind, .int .i64 B.time, .int .i64 B.node, .bool B.dead, .string ⟨B.text.toArray⟩, pb, mb, .int .u64 (B.flags.toNat : Int)] 28) = W0 at *
              obtain ⟨_, _, e1, e2, e3⟩ := HA0.out
              obtain ⟨_, _, e4, e5, e6⟩ := HU0.out
              cases e1
              cases e4
              ((with_reducible refine (refInts_any A.plus B.plus _ _ _ e2 e5 (by have := hA.plus; omega) (by have := hC.plus; omega)).mono ?_); rintro e W1 ⟨rfl, hb1⟩)
              replace hB := Kept.mk (hB.out.trans ((hb1).mono hB.out.size))
              replace Va := Kept.mk (Va.out.keep (hb1))
              replace Vb := Kept.mk (Vb.out.keep (hb1))
              clear hb1 e2 e3 e5 e6 HA0 HU0
              cases d6 : decide (A.plus = B.plus) with
              | false =>
                go_wp2
                all_goals go_ret
                all_goals exact ⟨by rw [HS.out, d0, d1, d2, d3, d4, d5, d6]; rfl, hB.out⟩
              | true =>
                obtain ⟨qa, ra, -, -, ma2, ka0, ka1, ka2, ka3, ka4, ka5, ka6, ka7⟩ := Va.out.open_
                obtain ⟨qb, rb, -, -, mb2, kb0, kb1, kb2, kb3, kb4, kb5, kb6, kb7⟩ := Vb.out.open_
                go_wp2_with fail
                ((with_reducible refine (refInts_any A.minus B.minus _ _ _ ma2.out mb2.out (by have := hA.minus; omega) (by have := hC.minus; omega)).mono ?_); rintro e W2 ⟨rfl, hb1⟩)
                clear ma2 mb2 ka0 ka1 ka2 ka3 ka4 ka5 ka6 ka7 kb0 kb1 kb2 kb3 kb4 kb5 kb6 kb7
                replace hB := Kept.mk (hB.out.trans ((hb1).mono hB.out.size))
                replace Va := Kept.mk (Va.out.keep (hb1))
                replace Vb := Kept.mk (Vb.out.keep (hb1))
                clear hb1
                obtain ⟨z, hz⟩ : ∃ z, z = decide (A.minus = B.minus) := ⟨_, rfl⟩
                rw [← hz] at HS ⊢
                clear hz
                go_wp2
                all_goals go_ret
                all_goals exact ⟨by rw [HS.out, d0, d1, d2, d3, d4, d5, d6]; rfl, hB.out⟩
end Go.Proofs.YtbgconagkgfplaaGreat
end
section
namespace Go.Proofs.YtbgconagkgfplaaGreat
open Go.RowKit
set_option linter.unusedVariables false
set_option linter.unusedSimpArgs false

section
variable {P : Program} {ops : Array Oper} {base : World} {a0 : Act} {Q : Exit → Act → World → Prop} {kn : Nat → VP} {i : Nat} {V : VP}
end
noncomputable def mostOps : Array Oper := regionOf Tryz.f138 5
end Go.Proofs.YtbgconagkgfplaaGreat
end
section
namespace Go.Proofs.YtbgconagkgfplaaGreat
open Go.RowKit
set_option linter.unusedVariables false
set_option linter.unusedSimpArgs false

end Go.Proofs.YtbgconagkgfplaaGreat
end
section
namespace Go.Proofs.YtbgconagkgfplaaGreat
open Go.RowKit
set_option linter.unusedVariables false
set_option linter.unusedSimpArgs false
attribute [local irreducible] setN

/-- A value whose rows, if it has any, are new. -/
def isVaR (B : Nat) (A : Va) : VP := fun v w => ∃ vp vm, v = .agg #[.int .i64 A.kind, .int .i64 A.time, .int .i64 A.node, .bool A.dead, .string ⟨A.text.toArray⟩, vp, vm, .int .u64 (A.flags.toNat : Int)] ∧ isCells (A.plus.map intC) vp w ∧ isCells (A.minus.map intC) vm w ∧ (A.plus ≠ [] → NewB B vp) ∧ (A.minus ≠ [] → NewB B vm)
theorem va_mk {A : Va} {vp vm : Value} {w : World} (hp : isCells (A.plus.map intC) vp w) (hm : isCells (A.minus.map intC) vm w) : isVa A (.agg #[.int .i64 A.kind, .int .i64 A.time, .int .i64 A.node, .bool A.dead, .string ⟨A.text.toArray⟩, vp, vm, .int .u64 (A.flags.toNat : Int)]) w := ⟨vp, vm, rfl, hp, hm⟩
theorem cells_up {cs : List Value} {v : Value} {w w' : World} (h : isCells cs v w) (hb : Below w.heap.size w w') : isCells cs v w' := stable_cells _ _ _ _ h hb
def mergeV (A B : Va) : Va := ⟨A.kind, A.time, A.node, A.dead, A.text, List.zipWith maxI A.plus B.plus, List.zipWith maxI A.minus B.minus, A.flags ||| B.flags⟩
end Go.Proofs.YtbgconagkgfplaaGreat
end
section
namespace Go.Proofs.YtbgconagkgfplaaGreat
open Go.RowKit
set_option linter.unusedVariables false
set_option linter.unusedSimpArgs false
attribute [local irreducible] setN

set_option maxRecDepth 100000 in
set_option maxHeartbeats 2000000 in
theorem rless_any (A B : En) (v u : Value) (w : World) (hv : isEn A v w) (hu : isEn B u w) : Calls Tryz.prog 129 #[v, u] w fun e w' => e = .returned (.bool (lessE A B)) ∧ Below w.heap.size w w' := by
  obtain ⟨pa, ma, rfl, hpa, hma⟩ := hv
  obtain ⟨pb, mb, rfl, hpb, hmb⟩ := hu
  obtain ⟨hB, Va⟩ := ebox w A pa ma hpa hma (w.heap.size) (by simp)
  obtain ⟨hBn, Vb⟩ := ebox (w.alloc (.cells #[.string ⟨A.key.toArray⟩, .int .i64 A.val.kind, .int .i64 A.val.time, .int .i64 A.val.node, .bool A.val.dead, .string ⟨A.val.text.toArray⟩, pa, ma, .int .u64 (A.val.flags.toNat : Int)] 30)) B pb mb (stable_cells _ _ _ _ hpb hB.out) (stable_cells _ _ _ _ hmb hB.out) (w.heap.size + 1) (by simp)
  replace Va := Kept.mk (Va.out.keep hBn.out)
  replace hB := Kept.mk (hB.out.trans (hBn.out.mono hB.out.size))
  clear hBn
  clear hpa hma hpb hmb
  obtain ⟨qa, ra, xa, ya, ka0, ka1, ka2, ka3, ka4, ka5, ka6, ka7, ka8⟩ := Va.out.open_
  have Xa := Kept.mk xa
  have Ya := Kept.mk ya
  clear xa ya
  obtain ⟨qb, rb, xb, yb, kb0, kb1, kb2, kb3, kb4, kb5, kb6, kb7, kb8⟩ := Vb.out.open_
  have Xb := Kept.mk xb
  have Yb := Kept.mk yb
  clear xb yb
  cases hk : (A.val.kind == B.val.kind) with
  | true =>
    have HC := Kept.mk (show lessE A B = Op.bytesLess A.key B.key by unfold lessE; rw [if_pos (by simpa using hk)])
    go_enter Tryz.func129, Tryz.ntmps129
    go_wp2
    go_ret
    exact ⟨by rw [HC.out]; rfl, hB.out⟩
  | false =>
    have HC := Kept.mk (show lessE A B = decide (A.val.kind < B.val.kind) by unfold lessE; rw [if_neg (by simpa using hk)])
    go_enter Tryz.func129, Tryz.ntmps129
    go_wp2
    go_ret
    exact ⟨by rw [HC.out]; rfl, hB.out⟩
set_option maxRecDepth 100000 in
set_option maxHeartbeats 2000000 in
theorem resame_any (A B : En) (v u : Value) (w : World) (hv : isEn A v w) (hu : isEn B u w) (hA : Fit A.val) (hF : Fit B.val) : Calls Tryz.prog 28 #[v, u] w fun e w' => e = .returned (.bool (decide (A = B))) ∧ Below w.heap.size w w' := by
  have HS := Kept.mk (same_en A B)
  obtain ⟨pa, ma, rfl, hpa, hma⟩ := hv
  obtain ⟨pb, mb, rfl, hpb, hmb⟩ := hu
  obtain ⟨hB, Va⟩ := ebox w A pa ma hpa hma (w.heap.size) (by simp)
  obtain ⟨hBn, Vb⟩ := ebox (w.alloc (.cells #[.string ⟨A.key.toArray⟩, .int .i64 A.val.kind, .int .i64 A.val.time, .int .i64 A.val.node, .bool A.val.dead, .string ⟨A.val.text.toArray⟩, pa, ma, .int .u64 (A.val.flags.toNat : Int)] 30)) B pb mb (stable_cells _ _ _ _ hpb hB.out) (stable_cells _ _ _ _ hmb hB.out) (w.heap.size + 1) (by simp)
  replace Va := Kept.mk (Va.out.keep hBn.out)
  replace hB := Kept.mk (hB.out.trans (hBn.out.mono hB.out.size))
  clear hBn
  clear hpa hma hpb hmb
  obtain ⟨qa, ra, xa, ya, ka0, ka1, ka2, ka3, ka4, ka5, ka6, ka7, ka8⟩ := Va.out.open_
  have Xa := Kept.mk xa
  have Ya := Kept.mk ya
  clear xa ya
  obtain ⟨qb, rb, xb, yb, kb0, kb1, kb2, kb3, kb4, kb5, kb6, kb7, kb8⟩ := Vb.out.open_
  have Xb := Kept.mk xb
  have Yb := Kept.mk yb
  clear xb yb
  cases hk : (A.key == B.key) with
  | false =>
    go_enter Tryz.func28, Tryz.ntmps28
    go_wp2
    go_ret
    exact ⟨by rw [HS.out, hk]; rfl, hB.out⟩
  | true =>
    have HK := Kept.mk hk
    go_enter Tryz.func28, Tryz.ntmps28
    go_wp2_with fail
    refine (rsame_any A.val B.val _ _ _ Ya.out Yb.out hA hF).mono ?_
    rintro e W1 ⟨rfl, hb1⟩
    replace hB := Kept.mk (hB.out.trans (hb1.mono hB.out.size))
    clear hb1 Xa Xb Ya Yb Va Vb ka0 ka1 ka2 ka3 ka4 ka5 ka6 ka7 ka8 kb0 kb1 kb2 kb3 kb4 kb5 kb6 kb7 kb8
    generalize hz : decide (A.val = B.val) = z
    have HV := Kept.mk hz
    clear hz
    go_wp2
    go_ret
    exact ⟨by rw [HS.out, HK.out, HV.out]; rfl, hB.out⟩
set_option maxRecDepth 100000 in
set_option maxHeartbeats 2000000 in
theorem rechk_any (E : En) (v : Value) (w : World) (hv : isEn E v w) (hF : FitE E) : Calls Tryz.prog 101 #[v] w fun e w' => e = .returned (.bool (okE E)) ∧ Below w.heap.size w w' := by
  have hk := hF.key
  have hs : (⟨E.key.toArray⟩ : ByteArray).size = E.key.length := by simp [ByteArray.size]
  obtain ⟨pe, me, rfl, hpe, hme⟩ := hv
  obtain ⟨hB, Ve⟩ := ebox w E pe me hpe hme (w.heap.size) (by simp)
  clear hpe hme
  obtain ⟨qe, re, xe, ye, ke0, ke1, ke2, ke3, ke4, ke5, ke6, ke7, ke8⟩ := Ve.out.open_
  have Xe := Kept.mk xe
  have Ye := Kept.mk ye
  clear xe ye
  by_cases h1 : (1 : Int) ≤ E.key.length
  · have d1 : decide ((1 : Int) ≤ E.key.length) = true := by simpa using h1
    by_cases h8 : (E.key.length : Int) ≤ 8
    · have d8 : decide ((E.key.length : Int) ≤ 8) = true := by simpa using h8
      have HC := Kept.mk (show okE E = okV E.val by unfold okE; rw [show decide (1 ≤ E.key.length) = true by rw [decide_eq_true_eq]; omega, show decide (E.key.length ≤ 8) = true by simp; omega]; rfl)
      go_enter Tryz.func101, Tryz.ntmps101
      go_wp2_with fail
      refine (rcheck_any E.val _ _ Ye.out hF.val).mono ?_
      rintro e W1 ⟨rfl, hb1⟩
      replace hB := Kept.mk (hB.out.trans (hb1.mono hB.out.size))
      clear hb1 Xe Ye ke0 ke1 ke2 ke3 ke4 ke5 ke6 ke7 ke8 Ve
      generalize hcv : okV E.val = cv
      have HV := Kept.mk hcv
      clear hcv
      go_wp2
      go_ret
      exact ⟨by rw [HC.out, HV.out]; rfl, hB.out⟩
    · have d8 : decide ((E.key.length : Int) ≤ 8) = false := by simpa using h8
      have HC := Kept.mk (show okE E = false by unfold okE; rw [show decide (E.key.length ≤ 8) = false by simp; omega]; simp)
      go_enter Tryz.func101, Tryz.ntmps101
      go_wp2
      go_ret
      exact ⟨by rw [HC.out]; rfl, hB.out⟩
  · have d1 : decide ((1 : Int) ≤ E.key.length) = false := by simpa using h1
    have HC := Kept.mk (show okE E = false by unfold okE; rw [show decide (1 ≤ E.key.length) = false by rw [decide_eq_false_iff_not]; omega]; simp)
    go_enter Tryz.func101, Tryz.ntmps101
    go_wp2
    go_ret
    exact ⟨by rw [HC.out]; rfl, hB.out⟩
set_option maxRecDepth 100000 in
set_option maxHeartbeats 2000000 in
theorem rname_any (A B : En) (v u : Value) (w : World) (hv : isEn A v w) (hu : isEn B u w) : Calls Tryz.prog 130 #[v, u] w fun e w' => e = .returned (.bool (nameB A B)) ∧ Below w.heap.size w w' := by
  obtain ⟨pa, ma, rfl, hpa, hma⟩ := hv
  obtain ⟨pb, mb, rfl, hpb, hmb⟩ := hu
  obtain ⟨hB, Va⟩ := ebox w A pa ma hpa hma (w.heap.size) (by simp)
  obtain ⟨hBn, Vb⟩ := ebox (w.alloc (.cells #[.string ⟨A.key.toArray⟩, .int .i64 A.val.kind, .int .i64 A.val.time, .int .i64 A.val.node, .bool A.val.dead, .string ⟨A.val.text.toArray⟩, pa, ma, .int .u64 (A.val.flags.toNat : Int)] 30)) B pb mb (stable_cells _ _ _ _ hpb hB.out) (stable_cells _ _ _ _ hmb hB.out) (w.heap.size + 1) (by simp)
  replace Va := Kept.mk (Va.out.keep hBn.out)
  replace hB := Kept.mk (hB.out.trans (hBn.out.mono hB.out.size))
  clear hBn
  clear hpa hma hpb hmb
  obtain ⟨qa, ra, xa, ya, ka0, ka1, ka2, ka3, ka4, ka5, ka6, ka7, ka8⟩ := Va.out.open_
  have Xa := Kept.mk xa
  have Ya := Kept.mk ya
  clear xa ya
  obtain ⟨qb, rb, xb, yb, kb0, kb1, kb2, kb3, kb4, kb5, kb6, kb7, kb8⟩ := Vb.out.open_
  have Xb := Kept.mk xb
  have Yb := Kept.mk yb
  clear xb yb
  cases hk : (A.val.kind == B.val.kind) with
  | false =>
    have HC := Kept.mk (show nameB A B = false by unfold nameB; rw [show decide (A.val.kind = B.val.kind) = false by simpa using hk]; rfl)
    go_enter Tryz.func130, Tryz.ntmps130
    go_wp2
    go_ret
    exact ⟨by rw [HC.out]; rfl, hB.out⟩
  | true =>
    have HC := Kept.mk (show nameB A B = (A.key == B.key) by unfold nameB; rw [show decide (A.val.kind = B.val.kind) = true by simpa using hk, Bool.true_and]; by_cases h : A.key = B.key <;> simp [h])
    go_enter Tryz.func130, Tryz.ntmps130
    go_wp2
    go_ret
    exact ⟨by rw [HC.out]; rfl, hB.out⟩
end Go.Proofs.YtbgconagkgfplaaGreat
end
section
namespace Go.Proofs.YtbgconagkgfplaaGreat
open Go.RowKit
set_option linter.unusedVariables false
set_option linter.unusedSimpArgs false
attribute [local irreducible] setN

/-- An entry whose rows, if it has any, are new. -/
def isEnR (B : Nat) (E : En) : VP := fun v w => ∃ vp vm, v = .agg #[.string ⟨E.key.toArray⟩, .int .i64 E.val.kind, .int .i64 E.val.time, .int .i64 E.val.node, .bool E.val.dead, .string ⟨E.val.text.toArray⟩, vp, vm, .int .u64 (E.val.flags.toNat : Int)] ∧ isCells (E.val.plus.map intC) vp w ∧ isCells (E.val.minus.map intC) vm w ∧ (E.val.plus ≠ [] → NewB B vp) ∧ (E.val.minus ≠ [] → NewB B vm)
theorem isEnR.en {B : Nat} {E : En} {v : Value} {w : World} (h : isEnR B E v w) : isEn E v w := let ⟨p, m, e, h1, h2, _, _⟩ := h; ⟨p, m, e, h1, h2⟩
theorem isEnR.low {B B' : Nat} {E : En} {v : Value} {w : World} (h : isEnR B E v w) (hB : B' ≤ B) : isEnR B' E v w := let ⟨p, m, e, h1, h2, h3, h4⟩ := h; ⟨p, m, e, h1, h2, fun x => (h3 x).low hB, fun x => (h4 x).low hB⟩
structure JS3 (w W : World) (A B : En) (pa ma pb mb : Value) : Prop where
  hb : Below w.heap.size w W
  a : Blk W w.heap.size [.string ⟨A.key.toArray⟩, .int .i64 A.val.kind, .int .i64 A.val.time, .int .i64 A.val.node, .bool A.val.dead, .string ⟨A.val.text.toArray⟩, pa, ma, .int .u64 (A.val.flags.toNat : Int)]
  b : Blk W (w.heap.size + 1) [.string ⟨B.key.toArray⟩, .int .i64 B.val.kind, .int .i64 B.val.time, .int .i64 B.val.node, .bool B.val.dead, .string ⟨B.val.text.toArray⟩, pb, mb, .int .u64 (B.val.flags.toNat : Int)]
  r : Blk W (w.heap.size + 1 + 1) [.string ⟨#[]⟩, .int .i64 0, .int .i64 0, .int .i64 0, .bool false, .string ⟨#[]⟩, .slice none 0 0, .slice none 0 0, .int .u64 0]
theorem JS3.keep {w W W' : World} {A B : En} {pa ma pb mb : Value} (h : JS3 w W A B pa ma pb mb) (k : Below W.heap.size W W') : JS3 w W' A B pa ma pb mb :=
  ⟨h.hb.trans (k.mono h.hb.size), h.a.keep k, h.b.keep k, h.r.keep k⟩
end Go.Proofs.YtbgconagkgfplaaGreat
end
section
namespace Go.Proofs.YtbgconagkgfplaaGreat
open Go.RowKit
set_option linter.unusedVariables false
set_option linter.unusedSimpArgs false
attribute [local irreducible] setN

def VarR (B : Nat) (w : World) (g : Nat) (J : En) : Prop := ∃ vp vm, CellsN w g [.string ⟨J.key.toArray⟩, .int .i64 J.val.kind, .int .i64 J.val.time, .int .i64 J.val.node, .bool J.val.dead, .string ⟨J.val.text.toArray⟩, vp, vm, .int .u64 (J.val.flags.toNat : Int)] ∧ isCells (J.val.plus.map intC) vp w ∧ isCells (J.val.minus.map intC) vm w ∧ (J.val.plus ≠ [] → NewB B vp) ∧ (J.val.minus ≠ [] → NewB B vm)
theorem VarR.keep {B : Nat} {w w' : World} {g : Nat} {J : En} (h : VarR B w g J) (hb : Below w.heap.size w w') : VarR B w' g J :=
  let ⟨vp, vm, hc, hp, hm, np, nm⟩ := h; ⟨vp, vm, hc.keep hb hc.1, stable_cells _ _ _ _ hp hb, stable_cells _ _ _ _ hm hb, np, nm⟩
theorem OutV.slot {N : Nat} {v : Value} {ps : RowE} {w : World} (h : OutV N v ps w) {q : Nat} (hq : q < ps.length) : ∃ s cap cur, v = .slice (some ⟨s, 0, none⟩) ps.length cap ∧ w.heap[s]? = some (.cells cur 30 (0, 0)) ∧ cur.size = cap * 9 ∧ ps.length ≤ cap ∧ cap ≤ maxLen ∧ cur.toList.take (ps.length * 9) = flatE ps ∧ N ≤ s ∧ s < w.heap.size := by
  obtain ⟨_, ⟨_, h0⟩ | ⟨s, cap, cur, hv, hB, hg, hn, hc, hcs, ht⟩⟩ := h.own
  · omega
  · exact ⟨s, cap, cur, hv, hg, hcs, hn, hc, ht, hB, (Array.getElem?_eq_some_iff.1 hg).1⟩
set_option maxHeartbeats 1000000 in
theorem OutV.set {N : Nat} {w : World} {ps : RowE} {s cap q : Nat} {cur : Array Value} (J : En) (jp jm : Value) (h : OutV N (.slice (some ⟨s, 0, none⟩) ps.length cap) ps w) (hg : w.heap[s]? = some (.cells cur 30 (0, 0))) (hcs : cur.size = cap * 9) (hn : ps.length ≤ cap) (hc : cap ≤ maxLen) (ht : cur.toList.take (ps.length * 9) = flatE ps) (hB : N ≤ s) (hq : q < ps.length)
    (hp : isCells (J.val.plus.map intC) jp w) (hm : isCells (J.val.minus.map intC) jm w) (o : OffQ s (J, jp, jm)) : OutV N (.slice (some ⟨s, 0, none⟩) ps.length cap) (ps.set q (J, jp, jm)) (setN w s (q * 9) (enL J jp jm)) := by
  have bt := bt_setN (S := fun b => b = s) rfl (enL J jp jm) (q * 9) w
  have offs : ∀ p ∈ ps, OffQ s p := fun p hp => h.off p hp s rfl
  have hcur := heap_setCells (enL J jp jm) (q * 9) w cur hg
  rw [← setN_cells] at hcur
  refine ⟨⟨by rw [flatE_length, List.length_set], .inr ⟨s, cap, _, by rw [List.length_set], hB, hcur, by rw [List.length_set]; exact hn, hc, by rw [setL_size, hcs], ?_⟩⟩, ?_, ?_⟩
  · rw [List.length_set]
    apply List.ext_getElem?
    intro t
    by_cases htl : t < ps.length * 9
    · rw [List.getElem?_take_of_lt htl, Array.getElem?_toList, setL_get, flatE_set ps q _ hq]
      have h9 : (enL J jp jm).length = 9 := rfl
      have hm9 : ps.length * 9 ≤ cap * 9 := Nat.mul_le_mul_right _ hn
      by_cases h2 : q * 9 ≤ t ∧ t < q * 9 + 9
      · rw [if_pos (by omega), if_pos h2]
      · rw [if_neg (by omega), if_neg h2, ← ht, List.getElem?_take_of_lt htl, Array.getElem?_toList]
    · rw [List.getElem?_eq_none (by simp; omega), List.getElem?_eq_none (by rw [flatE_length, List.length_set]; omega)]
  · intro p hp'
    rcases List.mem_or_eq_of_mem_set hp' with hp' | rfl
    · obtain ⟨r1, r2⟩ := h.rows p hp'
      obtain ⟨o1, o2⟩ := offs p hp'
      exact ⟨bt.cells r1 (o1.imp id (fun h b hb e => h (by rw [hb, e]))), bt.cells r2 (o2.imp id (fun h b hb e => h (by rw [hb, e])))⟩
    · obtain ⟨o1, o2⟩ := o
      exact ⟨bt.cells hp (o1.imp id (fun h b hb e => h (by rw [hb, e]))), bt.cells hm (o2.imp id (fun h b hb e => h (by rw [hb, e])))⟩
  · intro p hp' b hb
    have e : some s = some b := hb
    injection e with e
    subst e
    rcases List.mem_or_eq_of_mem_set hp' with hp' | rfl
    · exact offs p hp'
    · exact o
theorem wpList_storeO {P : Program} {ops : Array Oper} {rest : List Oper} {o : Oper} {a : Act} {w : World} {Q : Exit → Act → World → Prop} (t : TypeId) (hgd : o.guard = none) (x y : Operand) (ho : o.op = .store t x y)
    (g off : Nat) (l : List Value) (hs : (P.info? t).map (·.size) = some l.length) (hx : a.eval x = .pointer (some ⟨g, off, none⟩)) (hy : a.eval y = .agg l.toArray) (h1 : Ones l) (hc : ∀ j, j < l.length → ∃ x, w.cell? ⟨g, off + j, none⟩ = some x) (hf : Free5 w g)
    (hr : wpList P ops Q rest (a.put o.dst undef) (setN w g off l)) : wpList P ops Q (o :: rest) a w :=
  wpList_plain hgd fun K hK => by
    obtain ⟨ie, hie, hz⟩ := Option.map_eq_some_iff.1 hs
    have hsz : (sizeOf t).run P w = .ok l.length w := by simp [sizeOf, typeInfo, hie, hz]
    have hst := storeCellsO (P := P) g off l 0 w h1 (by simpa using hc) hf
    unfold Oper.wp execOp
    rw [ho]
    simp only [hx, hy, Instr.storeAt, Instr.sureAddr, Sem.run_bind, Sem.run_pure, Result.andThen_ok, storeVar, hsz]
    rw [if_neg (show ¬ ((Value.agg l.toArray).cells.size ≠ l.length) by show ¬ (l.toArray.size ≠ l.length); simp)]
    have hst2 : (storeCells ⟨g, off, none⟩ (Value.agg l.toArray).cells.toList 0).run P w = .ok () (setN w g off l) := hst
    rw [hst2]
    simp only [Result.andThen_ok, Oper.upon]
    exact hK _ _ hr
end Go.Proofs.YtbgconagkgfplaaGreat
end
section
namespace Go.Proofs.YtbgconagkgfplaaGreat
open Go.RowKit Go.Shelf
set_option linter.unusedVariables false
set_option linter.unusedSimpArgs false
attribute [local irreducible] setN
section
attribute [local go_sem] Oper.semAt_some
set_option maxRecDepth 100000 in
set_option maxHeartbeats 2000000 in
theorem all_new (A : Ar) (v : Value) (w : World) (hv : isAr A v w) (hF : FitA A) : Calls Tryz.prog 42 #[v] w fun e W' => ∃ v', e = .returned v' ∧ isEnsN w.heap.size (allA A) v' W' ∧ Below w.heap.size w W' := by
  obtain ⟨vs, vi, rfl, hs, hi⟩ := hv
  refine (callsIn_wide (n := 5)).1 ?_
  refine callsIn_of_wp_marks Tryz.func42 rfl trivial ?_ rfl
  simp only [Tryz.ntmps42, List.size_toArray, List.length_cons, List.length_nil, Nat.reduceAdd, Nat.reduceSub, Array.replicate_succ, Array.replicate_zero, List.push_toArray, List.append_toArray, List.nil_append, List.cons_append]
  gi_wp2_with (refine ⟨trivial, (namec_call _ A vs vi _).mono ?_⟩; rintro e w' ⟨rfl, rfl⟩)
  have f1 := hF.slots
  have hB0 : Below w.heap.size w (((w.alloc (.cells #[.int .i64 A.cap, vs, vi] 25)).alloc (.cells #[.slice none 0 0] 22)).alloc (.cells #[.int .i64 A.cap, vs, vi] 25)) := (((Below.refl _ w).alloc (Nat.le_refl _) _).alloc (by simp) _).alloc (by simp; omega) _
  have hIt : ItA A vs vi w w.heap.size (w.heap.size + 1 + 1) (((w.alloc (.cells #[.int .i64 A.cap, vs, vi] 25)).alloc (.cells #[.slice none 0 0] 22)).alloc (.cells #[.int .i64 A.cap, vs, vi] 25)) := ⟨by simp; omega, by simp, fun b hb => hB0.block b hb, by
    have := heap_alloc_new ((w.alloc (.cells #[.int .i64 A.cap, vs, vi] 25)).alloc (.cells #[.slice none 0 0] 22)) (.cells #[.int .i64 A.cap, vs, vi] 25)
    simpa using this⟩
  have hst : Blk (((w.alloc (.cells #[.int .i64 A.cap, vs, vi] 25)).alloc (.cells #[.slice none 0 0] 22)).alloc (.cells #[.int .i64 A.cap, vs, vi] 25)) (w.heap.size + 1) [.slice none 0 0] := (Blk.new (w.alloc (.cells #[.int .i64 A.cap, vs, vi] 25)) 22 [.slice none 0 0] (w.heap.size + 1) (by simp)).alloc _
  have hI0 : IAll A w [] (((w.alloc (.cells #[.int .i64 A.cap, vs, vi] 25)).alloc (.cells #[.slice none 0 0] 22)).alloc (.cells #[.int .i64 A.cap, vs, vi] 25)) := ⟨.slice none 0 0, [], ⟨hst, World.ownsRow_nil _ _ _ _, (fun q hq => by cases hq), (fun q hq => by cases hq), (fun q hq => by cases hq)⟩, rfl, hB0, by simp⟩
  have hsz : (((w.alloc (.cells #[.int .i64 A.cap, vs, vi] 25)).alloc (.cells #[.slice none 0 0] 22)).alloc (.cells #[.int .i64 A.cap, vs, vi] 25)).heap.size = w.heap.size + 3 := by simp
  try simp only [World.size_alloc] at hIt
  try simp only [World.size_alloc]
  generalize (((w.alloc (.cells #[.int .i64 A.cap, vs, vi] 25)).alloc (.cells #[.slice none 0 0] 22)).alloc (.cells #[.int .i64 A.cap, vs, vi] 25)) = W0 at *
  refine wpIn_rangeFunc_ownH rfl (by decide) (gf := 123) (lb := #[.pointer (some ⟨w.heap.size + 1 + 1, 0, none⟩)]) rfl trivial (enters_of Tryz.func123 (by kernel_rfl) rfl)
    (namec_stops 4 (by omega) (w.heap.size + 1 + 1) A vs vi w W0 hs hi hF hIt) (kpA_t _ _) (kpA_put _ _ _ (by omega) (by omega)) (Below.refl _ _) (fun _ => rfl)
    (IAll A w) (fun _ _ _ => False) (iall_own A w _ (by omega)) (fun _ _ _ _ _ hs _ _ => hs) hI0 (AxAll A vs vi w)
    (fun x a' _ W W' row ⟨h, e, hb, hh, hu⟩ hg hr => ⟨h, e, blk_own (by simp) hb hg hr, hh, fun u hc => hu u (by rw [← hc]; exact (World.cell?_of_block (a := ⟨w.heap.size + 1, 0, none⟩) (iall_b1 (b := w.heap.size + 1) hg hr hb (by have := hb.lt; omega))).symm)⟩) ?assign ?body ?done ?stop
  case assign =>
    intro l pre x W K hIp hK
    have hp := x.2.2.1
    have hm := x.2.2.2
    obtain ⟨v0, ps0, hO0, _, hBw, hNw⟩ := id hIp
    obtain ⟨K1, K2, K3, K4, K5⟩ := enew W x.1.2.1 x.1.2.2.1 x.1.2.2.2 (stable_cells _ _ _ _ hp hBw) (stable_cells _ _ _ _ hm hBw) W.heap.size rfl
    have HH := Kept.mk ((Blk.new W 30 [.string ⟨#[]⟩, .int .i64 0, .int .i64 0, .int .i64 0, .bool false, .string ⟨#[]⟩, .slice none 0 0, .slice none 0 0, .int .u64 0] W.heap.size rfl).all_ (l := [.string ⟨x.1.2.1.key.toArray⟩, .int .i64 x.1.2.1.val.kind, .int .i64 x.1.2.1.val.time, .int .i64 x.1.2.1.val.node, .bool x.1.2.1.val.dead, .string ⟨x.1.2.1.val.text.toArray⟩, x.1.2.2.1, x.1.2.2.2, .int .u64 (x.1.2.1.val.flags.toNat : Int)]) rfl)
    have hun : ∀ u, (setN (W.alloc (.cells #[.string ⟨#[]⟩, .int .i64 0, .int .i64 0, .int .i64 0, .bool false, .string ⟨#[]⟩, .slice none 0 0, .slice none 0 0, .int .u64 0] 30)) W.heap.size 0 [.string ⟨x.1.2.1.key.toArray⟩, .int .i64 x.1.2.1.val.kind, .int .i64 x.1.2.1.val.time, .int .i64 x.1.2.1.val.node, .bool x.1.2.1.val.dead, .string ⟨x.1.2.1.val.text.toArray⟩, x.1.2.2.1, x.1.2.2.2, .int .u64 (x.1.2.1.val.flags.toNat : Int)]).cell? ⟨w.heap.size + 1, 0, none⟩ = some u → u.ownBlock ≠ some W.heap.size := fun u hc e => by
      have h1 := (K3.out.cell (p := ⟨w.heap.size + 1, 0, none⟩) (show w.heap.size + 1 < W.heap.size by omega)).symm.trans hc
      rw [hO0.st.cells.2 0 _ rfl] at h1
      injection h1 with h1
      subst h1
      have := (hO0.own.lt _ e).2
      omega
    have hK2 := hK _ _ (keeps_below K3.out) (kpA_below K3.out (by omega) (by omega)) (iall_keep hIp K3.out) ⟨W.heap.size, rfl, HH.out, hNw, hun⟩
    have HK := Kept.mk hK2
    clear hK2 hK hp hm
    simp only [encE]
    gi_wp2_with (have hz0 := K1; refine wpListIn_storeN (fun _ => trivial) 30 rfl (.tmp 5) (.tmp 9) rfl W.heap.size [.string ⟨x.1.2.1.key.toArray⟩, .int .i64 x.1.2.1.val.kind, .int .i64 x.1.2.1.val.time, .int .i64 x.1.2.1.val.node, .bool x.1.2.1.val.dead, .string ⟨x.1.2.1.val.text.toArray⟩, x.1.2.2.1, x.1.2.2.2, .int .u64 (x.1.2.1.val.flags.toNat : Int)] size_en rfl rfl K1.out rfl K2.out K5.out ?_; clear hz0 K1 K2 K5)
    exact HK.out
  case body =>
    rintro l pre x a' W hl _ hIp ⟨h, rfl, hbl, hh, hu⟩ hlt
    obtain ⟨v, ps, hO, hpm, hBw, hNw⟩ := hIp
    obtain ⟨hx1, hx2, hx3⟩ := x.2
    have hps : ps.length ≤ 1000 := by
      have := congrArg List.length hpm
      rw [List.length_map, List.length_map] at this
      omega
    have FE := hF.ents _ (List.mem_of_getElem? hx1)
    have hp := stable_cells _ _ _ _ hx2 hBw
    have hm := stable_cells _ _ _ _ hx3 hBw
    have op := cells_lt hx2
    have om := cells_lt hx3
    have hvs : ∀ s, v.ownBlock = some s → w.heap.size + 3 ≤ s ∧ s < W.heap.size := hO.own.lt
    have hob : ∀ s, v.ownBlock = some s → ∀ o : Obj, W.heap[s]? = some o → o.isCells = true := by
      intro s hs o ho
      obtain ⟨_, ⟨rfl, _⟩ | ⟨g, cap, cur, rfl, _, hg', _⟩⟩ := hO.own
      · cases hs
      · have : g = s := by injection hs
        subst this
        rw [hg'] at ho
        injection ho with ho
        subst ho
        rfl
    gi_wp2_with fail
    refine alapp_region _ _ _ ?hout rfl (w.heap.size + 1) h (w.heap.size + 3) ps.length [v] x.1.2.1 v x.1.2.2.1 x.1.2.2.2 (flatE ps) rfl rfl hO.st rfl hbl hp hm FE hO.own hps hNw (fun s hs => ⟨by have := (hvs s hs).1; omega, fun e => ?hne, op.imp id (fun h2 e => by have := h2 s e; have := (hvs s hs).1; omega), om.imp id (fun h2 e => by have := h2 s e; have := (hvs s hs).1; omega)⟩) ?hfin
    case hout => rintro ⟨a2, w2, hh2⟩; first | exact hh2 | exact hh2.elim | (simp [ownPostG] at hh2) | exact True.intro
    case hne => exact hu v (hO.st.cells.2 0 _ rfl) (by rw [hs, e])
    case hfin =>
      intro y v2 vp vm W2 h1 h2 h3 h4 h5 h6 h7 h8 h9
      have hO2 := hO.push (by omega) hNw x.1.2.1 v2 vp vm h1 h2 h3 h4 h5 h6 h7 h8 h9
      have hB2 := hBw.trans (h9.below (fun b hb => by rcases hb with rfl | hb; (· omega); (· have := (hvs b hb).1; omega)) (by omega))
      have hpost : KeepsFrom W0.heap.size W W2 ∧ KpA w.heap.size (w.heap.size + 1 + 1) W W2 ∧ IAll A w (pre ++ [x]) W2 := by
        refine ⟨⟨h9.size, fun k o hB hk ho => (h9.block k (Array.getElem?_eq_some_iff.1 hk).1 (fun e => ?_)).trans hk⟩, ⟨h9.size, fun b hb => h9.block b (by omega) (fun e => ?_)⟩, ⟨v2, _, hO2, by rw [List.map_append, hpm, List.map_append]; rfl, hB2, Nat.le_trans hNw h9.size⟩⟩
        · rcases e with rfl | e
          · omega
          · rw [hob k e o hk] at ho; cases ho
        · rcases e with e | e
          · omega
          · have := (hvs b e).1; omega
      first | exact hpost | (gi_wp2; exact hpost) | exact True.intro
  case done =>
    rintro D ys W hD hys ⟨v, ps, hO, hpm, hBw, hNw⟩ hK
    have hc := hO.st.cells.2 0 _ rfl
    have hen := Kept.mk (show isEnsN w.heap.size (allA A) v (W.putObj D (.deferred none)) by
      have h2 := (out_own (B := W0.heap.size) (by omega) hO (grownBy_putObj' W D (.deferred none)) (fun r e => by cases e; exact ⟨hD, _, hK, rfl⟩)).ensN (N := w.heap.size) (by omega)
      rw [hpm, hys] at h2
      exact h2)
    have hbl := Kept.mk (hBw.trans (belowK_b (w := w) (Nat.le_refl _) W D _ (.deferred none) (by omega) hK rfl rfl))
    gi_wp2
    refine ⟨by simp, .inl ⟨_, _, rfl, run_takeDeferred hK, ?_⟩⟩
    exact ⟨_, results_tmp rfl _ _ _, v, rfl, hen.out, hbl.out⟩
  case stop =>
    rintro D c pre W _ _ h _
    exact h.elim
end
theorem free_of_heap {w : World} {s : Nat} {cur : Array Value} {T : TypeId} (h : w.heap[s]? = some (.cells cur T (0, 0))) : Free5 w s := fun j => by simp [World.frozen?, h]
theorem all_len {A : Ar} (hF : FitA A) : (allA A).length ≤ 1000 := by
  unfold allA
  by_cases h : okA A = true
  · rw [if_pos h, ord_length (okA_iff.1 h)]; exact hF.slots
  · rw [if_neg h]; decide
def deadB (E : En) : Bool := E.val.dead
set_option maxRecDepth 100000 in
set_option maxHeartbeats 2000000 in
theorem scan1_any (E : En) (z : Bool) (v : Value) (w : World) (hv : isEn E v w) (hz : deadB E = z) : Calls Tryz.prog 82 #[v] w fun e w' => e = .returned (.bool z) ∧ Below w.heap.size w w' := by
  obtain ⟨vp, vm, rfl, hp, hm⟩ := hv
  obtain ⟨hB, V⟩ := ebox w E vp vm hp hm w.heap.size rfl
  clear hp hm
  obtain ⟨q, r, x, y, k0, k1, k2, k3, k4, k5, k6, k7, k8⟩ := V.out.open_
  unfold deadB at hz
  have HZ := Kept.mk hz
  clear x y hz
  go_enter Tryz.func82, Tryz.ntmps82
  go_wp2
  go_ret
  exact ⟨by rw [← HZ.out]; rfl, hB.out⟩
set_option maxRecDepth 100000 in
set_option maxHeartbeats 2000000 in
theorem index_dead (l : List En) (v : Value) (w : World) (hv : isEns l v w) (hl : l.length ≤ 1000) : Calls Tryz.prog 114 #[v, .func (.func 82) #[] #[]] w fun e w' => (∃ r : Int, e = .returned (.int .i64 r) ∧ ((r = -1 ∧ ∀ E ∈ l, deadB E = false) ∨ ∃ k : Nat, r = (k : Int) ∧ k < l.length ∧ ∀ j E, j ≤ k → l[j]? = some E → deadB E = decide (j = k))) ∧ Below w.heap.size w w' := by
  have eg : ∀ args w, (callFunc 82 args).run Tryz.prog w = .ok (.enter 82 args) w := enters_of Tryz.func82 (by kernel_rfl) rfl
  rcases hv.cases_ with ⟨a, cap, rfl, rfl⟩ | ⟨b, off, cap, rfl, hb0, hc⟩
  · go_enter Tryz.func114, Tryz.ntmps114
    go_wp2
    go_loopw [5, 8] (fun _ i wr => i = .int .i64 0 ∧ Kept (Below w.heap.size w wr)) (fun _ i _ => 0)
    case atStart => exact ⟨rfl, ⟨Below.refl _ _⟩⟩
    case round =>
      obtain ⟨rfl, B⟩ := hrel
      go_wp2
      go_ret
      exact ⟨⟨-1, rfl, .inl ⟨rfl, fun E h => by cases h⟩⟩, B.out⟩
  · have HC := Kept.mk hc
    clear hc hv
    generalize hn : l.length = n at hl
    go_enter Tryz.func114, Tryz.ntmps114
    go_wp2
    go_loopw [5, 8] (fun _ i wr => ∃ k : Nat, k ≤ n ∧ i = .int .i64 (k : Int) ∧ Kept (Below w.heap.size w wr) ∧ Kept (∀ j E, j < k → l[j]? = some E → deadB E = false)) (fun _ i _ => n - (intOf i).toNat)
    case atStart => exact ⟨0, Nat.zero_le _, rfl, ⟨Below.refl _ _⟩, ⟨fun j E h => absurd h (Nat.not_lt_zero _)⟩⟩
    case round =>
      obtain ⟨k, hk, rfl, B, A⟩ := hrel
      by_cases hlt : k < n
      · have hlt' : (k : Int) < (n : Int) := by omega
        obtain ⟨E, hE⟩ : ∃ E, l[k]? = some E := ⟨_, List.getElem?_eq_getElem (by omega)⟩
        obtain ⟨vp, vm, x0, y0, kc0, kc1, kc2, kc3, kc4, kc5, kc6, kc7, kc8⟩ := (HC.out k E hE).keep B.out hb0 |>.open_
        have X := Kept.mk x0
        have HE := Kept.mk hE
        obtain ⟨z, hz⟩ : ∃ z, deadB E = z := ⟨_, rfl⟩
        have HZ := Kept.mk hz
        clear x0 y0 hE hz
        go_wp2_with fail
        refine (scan1_any E z _ _ X.out HZ.out).mono ?_
        rintro e W1 ⟨rfl, hb⟩
        replace B := Kept.mk (B.out.trans (hb.mono B.out.size))
        clear hb X kc0 kc1 kc2 kc3 kc4 kc5 kc6 kc7 kc8
        cases z with
        | false =>
          go_wp2
          go_roundw
          case rel =>
            refine ⟨k + 1, by omega, by go_num, B, ⟨fun j E' hj h => ?_⟩⟩
            by_cases e : j = k
            · subst e; rw [HE.out] at h; injection h with h; rw [← h]; exact HZ.out
            · exact A.out j E' (by omega) h
          case measure => simp [intOf]; omega
        | true =>
          go_wp2
          go_ret
          refine ⟨⟨k, rfl, .inr ⟨k, rfl, hlt, fun j E' hj h => ?_⟩⟩, B.out⟩
          by_cases e : j = k
          · subst e; rw [HE.out] at h; injection h with h; rw [← h, HZ.out]; simp
          · rw [A.out j E' (by omega) h]; simp [e]
      · have hlt' : ¬ (k : Int) < (n : Int) := by omega
        go_wp2
        go_ret
        refine ⟨⟨-1, rfl, .inl ⟨rfl, fun E h => ?_⟩⟩, B.out⟩
        obtain ⟨j, hj⟩ := List.getElem?_of_mem h
        have := (List.getElem?_eq_some_iff.1 hj).1
        exact A.out j E (by omega) hj
/-- What is kept, up to a place. -/
def liveB (q : En × Value × Value) : Bool := !deadB q.1
structure DelI (ps cur : RowE) (i j : Nat) : Prop where
  lt : i < j
  len : cur.length = ps.length
  head : cur.take i = (ps.take j).filter liveB
  tail : cur.drop j = ps.drop j
theorem DelI.at_ {ps cur : RowE} {i j : Nat} (h : DelI ps cur i j) (hj : j < ps.length) : cur[j]? = some ps[j] := by
  have : (cur.drop j)[0]? = (ps.drop j)[0]? := by rw [h.tail]
  rw [List.getElem?_drop, List.getElem?_drop] at this
  simp only [Nat.add_zero] at this
  rw [this, List.getElem?_eq_getElem hj]
theorem take_snoc {α : Type} (l : List α) {j : Nat} (h : j < l.length) : l.take (j + 1) = l.take j ++ [l[j]] := by rw [List.take_add_one, List.getElem?_eq_getElem h]; rfl
theorem DelI.skip {ps cur : RowE} {i j : Nat} (h : DelI ps cur i j) (hj : j < ps.length) (hd : liveB ps[j] = false) : DelI ps cur i (j + 1) :=
  ⟨by have := h.lt; omega, h.len, by rw [take_snoc ps hj, List.filter_append, ← h.head]; simp [hd], by rw [← List.drop_drop, h.tail, List.drop_drop]⟩
theorem DelI.put {ps cur : RowE} {i j : Nat} (h : DelI ps cur i j) (hj : j < ps.length) (hd : liveB ps[j] = true) : DelI ps (cur.set i ps[j]) (i + 1) (j + 1) := by
  have hlt := h.lt
  have hl := h.len
  refine ⟨by omega, by rw [List.length_set, hl], ?_, ?_⟩
  · rw [take_snoc ps hj, List.filter_append, ← h.head, take_snoc (cur.set i ps[j]) (by rw [List.length_set]; omega)]
    rw [List.getElem_set_self, List.take_set_of_le (Nat.le_refl i)]
    simp [hd]
  · rw [List.drop_set_of_lt (by omega), ← List.drop_drop, h.tail, List.drop_drop]
theorem del_start {ps : RowE} {k : Nat} (hk : k < ps.length) (h : ∀ j E, j ≤ k → (ps.map (·.1))[j]? = some E → deadB E = decide (j = k)) : DelI ps ps k (k + 1) := by
  have hb : ∀ j, (hj : j < ps.length) → j ≤ k → liveB ps[j] = !decide (j = k) := fun j hj hle => by
    unfold liveB
    rw [h j ps[j].1 hle (by rw [List.getElem?_map, List.getElem?_eq_getElem hj]; rfl)]
  refine ⟨Nat.lt_succ_self _, rfl, ?_, rfl⟩
  rw [take_snoc ps hk, List.filter_append, List.filter_eq_self.2 (fun q hq => ?_)]
  · have := hb k hk (Nat.le_refl _)
    simp [this]
  · obtain ⟨j, hj⟩ := List.getElem?_of_mem hq
    have hj1 := (List.getElem?_eq_some_iff.1 hj).1
    rw [List.length_take] at hj1
    rw [List.getElem?_take_of_lt (by omega), List.getElem?_eq_getElem (by omega)] at hj
    injection hj with hj
    rw [← hj, hb j (by omega) (by omega), decide_eq_false (by omega)]; rfl
theorem filter_rows {ps : RowE} : (ps.filter liveB).map (·.1) = (ps.map (·.1)).filter (fun e => !e.val.dead) := by rw [List.filter_map]; rfl
theorem run_clear_ens {w : World} (s o n c : Nat) (hn : 0 < n) (hc : ∀ j, j < n * 9 → (w.cell? ⟨s, o + j, none⟩).isSome = true) (hf : ∀ j, w.frozen? ⟨s, j, none⟩ = false) :
    ∃ zl : List Value, zl.length = n * 9 ∧ ∀ ty, (Builtin.clear_ #[22] ty #[.slice (some ⟨s, o, none⟩) n c]).run Tryz.prog w = .ok (.tuple #[]) (w.setCells s o zl) := by
  obtain ⟨ie, h1, h2⟩ := Option.map_eq_some_iff.1 Tryz.infoEn
  simp only [Prod.mk.injEq] at h2
  have hv : (zeroValue 30).run Tryz.prog w = .ok (.agg #[.string ⟨#[]⟩, .int .i64 0, .int .i64 0, .int .i64 0, .bool false, .string ⟨#[]⟩, .slice none 0 0, .slice none 0 0, .int .u64 0]) w := by simp [zeroValue, typeInfo, h1, h2.1]
  refine ⟨(Builtin.zeroCells (Value.agg #[.string ⟨#[]⟩, .int .i64 0, .int .i64 0, .int .i64 0, .bool false, .string ⟨#[]⟩, .slice none 0 0, .slice none 0 0, .int .u64 0]).cells n).toList, by simp [Builtin.zeroCells, Value.cells], fun ty => ?_⟩
  have hlen : (Builtin.zeroCells (Value.agg #[.string ⟨#[]⟩, .int .i64 0, .int .i64 0, .int .i64 0, .bool false, .string ⟨#[]⟩, .slice none 0 0, .slice none 0 0, .int .u64 0]).cells n).toList.length = n * 9 := by simp [Builtin.zeroCells, Value.cells]
  have hst := run_storeCells_cells (P := Tryz.prog) s o (Builtin.zeroCells (Value.agg #[.string ⟨#[]⟩, .int .i64 0, .int .i64 0, .int .i64 0, .bool false, .string ⟨#[]⟩, .slice none 0 0, .slice none 0 0, .int .u64 0]).cells n).toList 0 w (by intro j hj; rw [hlen] at hj; simpa using hc j hj) (fun j _ => hf _) (fun v hv' => by
    simp only [Builtin.zeroCells, Value.cells, Array.toList_map, List.mem_map] at hv'
    obtain ⟨i, _, rfl⟩ := hv'
    have h9 : i % 9 < 9 := Nat.mod_lt _ (by decide)
    have : ∀ k, k < 9 → ((#[.string ⟨#[]⟩, .int .i64 0, .int .i64 0, .int .i64 0, .bool false, .string ⟨#[]⟩, .slice none 0 0, .slice none 0 0, .int .u64 0] : Array Value)[k]!).oneCell' = true := by decide
    exact this _ h9)
  simp only [Nat.add_zero] at hst
  obtain ⟨m, rfl⟩ : ∃ m, n = m + 1 := ⟨n - 1, by omega⟩
  simp [Builtin.clear_, run_underlying Tryz.underlying22, hv, hst]
theorem cells_some {w : World} {s j : Nat} {arr : Array Value} {T : TypeId} (h : w.heap[s]? = some (.cells arr T (0, 0))) (hj : j < arr.size) : (w.cell? ⟨s, j, none⟩).isSome = true := by simp [World.cell?, h, hj]
theorem ens_prefix {N s n cap a : Nat} {cur : RowE} {w : World} (h : OutV N (.slice (some ⟨s, 0, none⟩) n cap) cur w) (hn : cur.length = n) (ha : a ≤ n) (zl : List Value) : isEns ((cur.take a).map (·.1)) (.slice (some ⟨s, 0, none⟩) a cap) (w.setCells s (a * 9) zl) := by
  have bt : Bt (fun b => b = s) w (w.setCells s (a * 9) zl) := by rw [← setN_cells]; exact bt_setN (S := fun b => b = s) rfl _ _ _
  by_cases h0 : n = 0
  · obtain rfl : a = 0 := by omega
    exact .inr (.inl ⟨_, _, rfl, rfl⟩)
  obtain ⟨s', cap', arr, ev, hg, hcs, hnc, hc, ht, hBs, hlt⟩ := h.slot (q := 0) (by omega)
  injection ev with ev1 ev2 ev3
  injection ev1 with ev1
  injection ev1 with ev1 ev4 ev5
  subst ev1 ev3
  refine .inr (.inr ⟨s, 0, cap, by rw [List.length_map, List.length_take, hn, Nat.min_eq_left ha], Nat.lt_of_lt_of_le hlt bt.size, fun j E hj => ?_⟩)
  rw [List.getElem?_map] at hj
  obtain ⟨q, hq, rfl⟩ := Option.map_eq_some_iff.1 hj
  have hja : j < a := by have := (List.getElem?_eq_some_iff.1 hq).1; rw [List.length_take] at this; omega
  rw [List.getElem?_take_of_lt hja] at hq
  have hm := List.mem_of_getElem? hq
  obtain ⟨r1, r2⟩ := h.rows q hm
  obtain ⟨o1, o2⟩ := h.off q hm s rfl
  refine ⟨q.2.1, q.2.2, fun i x hx => ?_, bt.cells r1 (o1.imp id (fun g b hb e => g (by rw [hb, e]))), bt.cells r2 (o2.imp id (fun g b hb e => g (by rw [hb, e])))⟩
  have hi : i < 9 := (List.getElem?_eq_some_iff.1 hx).1
  rw [Nat.zero_add, World.cell?_setCells_out s zl (a * 9) w ⟨s, j * 9 + i, none⟩ (fun _ _ => .inl (by show j * 9 + i < a * 9; omega))]
  exact cell_flat hg ht (show cur[j]? = some (q.1, q.2.1, q.2.2) from hq) i x hx
set_option maxRecDepth 100000 in
set_option maxHeartbeats 2000000 in
theorem delete_any (N : Nat) (v : Value) (ps : RowE) (w : World) (h : OutV N v ps w) (hl : ps.length ≤ 1000) (hN : N ≤ w.heap.size) : Calls Tryz.prog 81 #[v, .func (.func 82) #[] #[]] w fun e w' => (∃ v', e = .returned v' ∧ isEns ((ps.filter liveB).map (·.1)) v' w') ∧ Below N w w' := by
  have eg : ∀ args w, (callFunc 82 args).run Tryz.prog w = .ok (.enter 82 args) w := enters_of Tryz.func82 (by kernel_rfl) rfl
  have HO := Kept.mk h
  have hlen := h.len
  have HI := Kept.mk (index_dead (ps.map (·.1)) v w h.ens (by rw [List.length_map]; exact hl))
  clear h
  obtain ⟨sa, cap, rfl⟩ := hlen
  go_enter Tryz.func81, Tryz.ntmps81
  go_wp2_with fail
  refine HI.out.mono ?_
  rintro e W1 ⟨⟨r, rfl, hr⟩, hb⟩
  replace HO := Kept.mk (HO.out.keep hb)
  have HB1 := Kept.mk hb
  clear hb HI
  rcases hr with ⟨rfl, hall⟩ | ⟨k, rfl, hk, hat⟩
  · have HA := Kept.mk hall
    clear hall
    go_wp2
    go_ret
    refine ⟨⟨_, rfl, ?_⟩, ?_⟩
    · rw [List.filter_eq_self.2 (fun q hq => by unfold liveB; rw [HA.out q.1 (List.mem_map_of_mem hq)]; rfl)]
      exact HO.out.ens
    · exact HB1.out.mono hN
  · rw [List.length_map] at hk
    have HD := Kept.mk (del_start hk hat)
    clear hat
    generalize hn : ps.length = n at hl hk ⊢
    have HN := Kept.mk hn
    obtain ⟨s, cap', cur0, ev, hg0, hcs0, hn0, hc0, ht0, hBs0, hlt0⟩ := HO.out.slot (q := k) (by rw [HN.out]; exact hk)
    injection ev with ev1 ev2 ev3
    subst ev1 ev3
    rw [hn] at hn0
    clear ev2 hg0 hcs0 ht0 hn
    have HCAP := Kept.mk hn0
    have hk1 : ((k : Int) == -1) = false := beq_eq_false_iff_ne.2 (by omega)
    go_wp2
    go_loopw [5, 6, 7] (fun i j _ wr => ∃ (a b : Nat) (cur : RowE), i = .int .i64 (a : Int) ∧ j = .int .i64 (b : Int) ∧ b ≤ n ∧ Kept (DelI ps cur a b) ∧ Kept (cur.length = n) ∧ Kept (OutV N (.slice (some ⟨s, 0, none⟩) n cap) cur wr) ∧ Kept (Bt (fun x => x = s) W1 wr)) (fun _ j _ _ => n - (intOf j).toNat)
    case atStart => exact ⟨k, k + 1, ps, rfl, by go_num, by omega, HD, HN, ⟨by have := HO.out; rwa [HN.out] at this⟩, ⟨Bt.grow (Below.refl _ _)⟩⟩
    case round =>
      obtain ⟨a, b, cur, rfl, rfl, hbn, DI, HL, OV, BT⟩ := hrel
      have hab := DI.out.lt
      have hocap := HCAP.out
      by_cases hlt : b < n
      · skip
        have hlt' : (b : Int) < (n : Int) := by omega
        have hat := DI.out.at_ (show b < ps.length by rw [HN.out]; exact hlt)
        generalize hE : ps[b]'(by rw [HN.out]; exact hlt) = x at hat
        obtain ⟨E, vp, vm⟩ := x
        have HE := Kept.mk hE
        have HAT := Kept.mk hat
        clear hE hat
        obtain ⟨s', cap', arr1, ev, hg1, hcs1, hn1, hc1, ht1, hBs1, hlt1⟩ := OV.out.slot (q := b) (by rw [HL.out]; omega)
        injection ev with ev1 ev2 ev3
        injection ev1 with ev1
        injection ev1 with ev1 ev4 ev5
        subst ev1 ev3
        clear ev2 ev4 ev5
        have HC := Kept.mk (cell_flat hg1 ht1 HAT.out)
        have hrw := OV.out.rows _ (List.mem_of_getElem? HAT.out)
        have hoff := OV.out.off _ (List.mem_of_getElem? HAT.out) s rfl
        have HOFF := Kept.mk hoff
        have kc0 : wr.cell? ⟨s, b * 9, none⟩ = _ := HC.out 0 _ rfl
        have kc1 : wr.cell? ⟨s, b * 9 + 1, none⟩ = _ := HC.out 1 _ rfl
        have kc2 : wr.cell? ⟨s, b * 9 + 2, none⟩ = _ := HC.out 2 _ rfl
        have kc3 : wr.cell? ⟨s, b * 9 + 3, none⟩ = _ := HC.out 3 _ rfl
        have kc4 : wr.cell? ⟨s, b * 9 + 4, none⟩ = _ := HC.out 4 _ rfl
        have kc5 : wr.cell? ⟨s, b * 9 + 5, none⟩ = _ := HC.out 5 _ rfl
        have kc6 : wr.cell? ⟨s, b * 9 + 6, none⟩ = _ := HC.out 6 _ rfl
        have kc7 : wr.cell? ⟨s, b * 9 + 7, none⟩ = _ := HC.out 7 _ rfl
        have kc8 : wr.cell? ⟨s, b * 9 + 8, none⟩ = _ := HC.out 8 _ rfl
        obtain ⟨K1, K2, K3, K4, K5⟩ := enew wr E vp vm hrw.1 hrw.2 wr.heap.size rfl
        have HP := Kept.mk hrw.1
        have HM := Kept.mk hrw.2
        obtain ⟨z, hz⟩ : ∃ z, deadB E = z := ⟨_, rfl⟩
        have HZ := Kept.mk hz
        clear hrw hoff hg1 hcs1 hn1 hc1 ht1 hBs1 hlt1 hz
        have OV2 := Kept.mk (OV.out.keep K3.out)
        have BT2 := Kept.mk (BT.out.trans (Bt.grow K3.out))
        have HP2 := Kept.mk (stable_cells _ _ _ _ HP.out K3.out)
        have HM2 := Kept.mk (stable_cells _ _ _ _ HM.out K3.out)
        go_wp2_with (have hz0 := K1; refine wpList_storeN 30 rfl (.tmp 7) (.tmp 25) rfl wr.heap.size [.string ⟨E.key.toArray⟩, .int .i64 E.val.kind, .int .i64 E.val.time, .int .i64 E.val.node, .bool E.val.dead, .string ⟨E.val.text.toArray⟩, vp, vm, .int .u64 (E.val.flags.toNat : Int)] size_en rfl rfl K1.out rfl K2.out K5.out ?_; clear hz0 K1 K2 K3 kc0 kc1 kc2 kc3 kc4 kc5 kc6 kc7 kc8; generalize setN (wr.alloc (.cells #[.string ⟨#[]⟩, .int .i64 0, .int .i64 0, .int .i64 0, .bool false, .string ⟨#[]⟩, .slice none 0 0, .slice none 0 0, .int .u64 0] 30)) wr.heap.size 0 [.string ⟨E.key.toArray⟩, .int .i64 E.val.kind, .int .i64 E.val.time, .int .i64 E.val.node, .bool E.val.dead, .string ⟨E.val.text.toArray⟩, vp, vm, .int .u64 (E.val.flags.toNat : Int)] = W2 at *; generalize wr.heap.size = gx at *; obtain ⟨kx, -, -⟩ := K4.out; have k0 := kx.2 0 _ rfl; have k1 := kx.2 1 _ rfl; have k2 := kx.2 2 _ rfl; have k3 := kx.2 3 _ rfl; have k4 := kx.2 4 _ rfl; have k5 := kx.2 5 _ rfl; have k6 := kx.2 6 _ rfl; have k7 := kx.2 7 _ rfl; have k8 := kx.2 8 _ rfl)
        refine (scan1_any E z _ W2 ⟨vp, vm, rfl, HP2.out, HM2.out⟩ HZ.out).mono ?_
        rintro e W3 ⟨rfl, hb3⟩
        replace OV2 := Kept.mk (OV2.out.keep hb3)
        replace BT2 := Kept.mk (BT2.out.trans (Bt.grow hb3))
        have KX := Kept.mk (kx.keep hb3 kx.1)
        replace HP2 := Kept.mk (stable_cells _ _ _ _ HP2.out hb3)
        replace HM2 := Kept.mk (stable_cells _ _ _ _ HM2.out hb3)
        clear hb3 kx K4 K5 k0 k1 k2 k3 k4 k5 k6 k7 k8
        cases z with
        | true =>
          go_wp2
          go_roundw
          case rel => exact ⟨a, b + 1, cur, rfl, by go_num, by omega, ⟨DI.out.skip (by rw [HN.out]; exact hlt) (by rw [HE.out]; unfold liveB; rw [HZ.out]; rfl)⟩, HL, OV2, BT2⟩
          case measure => simp [intOf]; omega
        | false =>
          obtain ⟨s', cap', arr2, ev, hg2, hcs2, hn2, hc2, ht2, hBs2, hlt2⟩ := OV2.out.slot (q := a) (by rw [HL.out]; omega)
          injection ev with ev1 ev2 ev3
          injection ev1 with ev1
          injection ev1 with ev1 ev4 ev5
          subst ev1 ev3
          clear ev2 ev4 ev5
          have hia : a < n := by omega
          have KO := Kept.mk (show Ones [.string ⟨E.key.toArray⟩, .int .i64 E.val.kind, .int .i64 E.val.time, .int .i64 E.val.node, .bool E.val.dead, .string ⟨E.val.text.toArray⟩, vp, vm, .int .u64 (E.val.flags.toNat : Int)] from ⟨rfl, rfl, rfl, rfl, rfl, rfl, HP2.out.one, HM2.out.one, rfl, trivial⟩)
          obtain ⟨q0, hq0⟩ : ∃ q0, cur[a]? = some q0 := ⟨_, List.getElem?_eq_getElem (by rw [HL.out]; exact hia)⟩
          have HSC := Kept.mk (show ∀ j, j < [.string ⟨E.key.toArray⟩, .int .i64 E.val.kind, .int .i64 E.val.time, .int .i64 E.val.node, .bool E.val.dead, .string ⟨E.val.text.toArray⟩, vp, vm, .int .u64 (E.val.flags.toNat : Int)].length → ∃ x, W3.cell? ⟨s, a * 9 + j, none⟩ = some x from fun j hj => ⟨_, cell_flat hg2 ht2 (show cur[a]? = some (q0.1, q0.2.1, q0.2.2) from hq0) j _ (List.getElem?_eq_getElem (show j < (enL q0.1 q0.2.1 q0.2.2).length from hj))⟩)
          have FRS := Kept.mk (free_of_heap hg2)
          have OV3 := Kept.mk (OutV.set E vp vm (by rw [HL.out]; exact OV2.out) hg2 hcs2 hn2 hc2 ht2 hBs2 (show a < cur.length by rw [HL.out]; exact hia) HP2.out HM2.out HOFF.out)
          have BT3 := Kept.mk (BT2.out.trans (bt_setN (S := fun x => x = s) rfl (enL E vp vm) (a * 9) W3))
          clear hg2 hcs2 hn2 hc2 ht2 hBs2 hlt2 hq0
          have k0 := KX.out.2 0 _ rfl
          have k1 := KX.out.2 1 _ rfl
          have k2 := KX.out.2 2 _ rfl
          have k3 := KX.out.2 3 _ rfl
          have k4 := KX.out.2 4 _ rfl
          have k5 := KX.out.2 5 _ rfl
          have k6 := KX.out.2 6 _ rfl
          have k7 := KX.out.2 7 _ rfl
          have k8 := KX.out.2 8 _ rfl
          go_wp2_with (have hz0 := KO; refine wpList_storeO 30 rfl (.tmp 33) (.tmp 32) rfl s (a * 9) [.string ⟨E.key.toArray⟩, .int .i64 E.val.kind, .int .i64 E.val.time, .int .i64 E.val.node, .bool E.val.dead, .string ⟨E.val.text.toArray⟩, vp, vm, .int .u64 (E.val.flags.toNat : Int)] size_en rfl rfl KO.out HSC.out FRS.out ?_; clear hz0 KO HSC FRS k0 k1 k2 k3 k4 k5 k6 k7 k8)
          go_roundw
          case rel => exact ⟨a + 1, b + 1, cur.set a (E, vp, vm), by go_num, by go_num, by omega, ⟨by rw [← HE.out]; exact DI.out.put (by rw [HN.out]; exact hlt) (by rw [HE.out]; unfold liveB; rw [HZ.out]; rfl)⟩, ⟨by rw [List.length_set]; exact HL.out⟩, ⟨by rw [HL.out] at OV3; exact OV3.out⟩, BT3⟩
          case measure => simp [intOf]; omega
      · skip
        obtain rfl : b = n := by omega
        have hlt' : ¬ (b : Int) < (b : Int) := by omega
        obtain ⟨s', cap', arr1, ev, hg1, hcs1, hn1, hc1, ht1, hBs1, hlt1⟩ := OV.out.slot (q := a) (by rw [HL.out]; omega)
        injection ev with ev1 ev2 ev3
        injection ev1 with ev1
        injection ev1 with ev1 ev4 ev5
        subst ev1 ev3
        clear ev2 ev4 ev5
        have hapos : 0 < b - a := by omega
        obtain ⟨zl, hzl, hcl⟩ := run_clear_ens (w := wr) s (a * 9) (b - a) (cap - a) hapos (fun j hj => cells_some hg1 (by rw [hcs1]; omega)) (fun j => free_of_heap hg1 j)
        have hcl' : ∀ ty, (Builtin.clear_ #[22] ty #[.slice (some ⟨s, a * 9, none⟩) (b - a) (cap - a)]).run Tryz.prog wr = .ok (.tuple #[]) (wr.setCells s (a * 9) zl) := hcl
        clear hcl
        have KE := Kept.mk (ens_prefix OV.out HL.out (show a ≤ b by omega) zl)
        have KF := Kept.mk (show cur.take a = ps.filter liveB by rw [DI.out.head, List.take_of_length_le (by rw [HN.out]; exact Nat.le_refl _)])
        rw [KF.out] at KE
        have KB := Kept.mk (show Bt (fun x => x = s) W1 (wr.setCells s (a * 9) zl) from BT.out.trans (by rw [← setN_cells]; exact bt_setN (S := fun x => x = s) rfl _ _ _))
        have hac : ¬ (cap = a) := by omega
        have hadd : (⟨s, 0, none⟩ : Addr).add (a * 9) = ⟨s, a * 9, none⟩ := by rw [add_at, Nat.zero_add]
        have hadd0 : (⟨s, 0, none⟩ : Addr).add 0 = ⟨s, 0, none⟩ := by rw [add_at]
        have hab2 : a ≤ b := by omega
        have hacap : a ≤ cap := by omega
        clear hg1 hcs1 hn1 hc1 ht1
        go_wp2
        go_ret
        exact ⟨⟨_, rfl, KE.out⟩, (HB1.out.mono hN).trans (KB.out.below (fun x e => by omega) (Nat.le_trans hN HB1.out.size))⟩
set_option maxRecDepth 100000 in
set_option maxHeartbeats 2000000 in
theorem dscan_any (A : Ar) (v : Value) (w : World) (hv : isAr A v w) (hF : FitA A) : Calls Tryz.prog 36 #[v] w fun e w' => ∃ v', e = .returned v' ∧ isEns (scanA A) v' w' ∧ Below w.heap.size w w' := by
  obtain ⟨vs, vi, rfl, hs, hi⟩ := hv
  obtain ⟨hB, V⟩ := abox w A vs vi hs hi w.heap.size rfl
  have XA := Kept.mk (show isAr A (.agg #[.int .i64 A.cap, vs, vi]) (w.alloc (.cells #[.int .i64 A.cap, vs, vi] 25)) from stable_ar A _ _ _ ⟨vs, vi, rfl, hs, hi⟩ hB.out)
  have BA := Kept.mk (Blk.new w 25 [.int .i64 A.cap, vs, vi] w.heap.size rfl)
  have ka0 := BA.out.cells.2 0 _ rfl
  have ka1 := BA.out.cells.2 1 _ rfl
  have ka2 := BA.out.cells.2 2 _ rfl
  have hl8 : (allA A).length ≤ 1000 := all_len hF
  clear hs hi V
  go_enter Tryz.func36, Tryz.ntmps36
  go_wp2_with fail
  generalize w.alloc (.cells #[.int .i64 A.cap, vs, vi] 25) = W0 at *
  refine (all_new A _ W0 XA.out hF).mono ?_
  rintro e U ⟨v', rfl, ⟨ps, hps, hov, _⟩, hb⟩
  have hpl : ps.length ≤ 1000 := by have := congrArg List.length hps; rw [List.length_map] at this; omega
  have HD := Kept.mk (delete_any W0.heap.size v' ps U hov hpl hb.size)
  have HP := Kept.mk hps
  replace hB := Kept.mk (hB.out.trans (hb.mono hB.out.size))
  have hW := Kept.mk hb.size
  obtain ⟨sa, sc, rfl⟩ := hov.len
  have hw0 : w.heap.size ≤ W0.heap.size := Nat.le_of_lt BA.out.lt
  clear hb hov hps ka0 ka1 ka2 hpl
  go_wp2_with fail
  refine HD.out.mono ?_
  rintro e W2 ⟨⟨v2, rfl, he⟩, hb2⟩
  have HE := Kept.mk (show isEns (scanA A) v2 W2 by rw [filter_rows, HP.out] at he; exact he)
  obtain ⟨ta, tc, ev⟩ := he.len
  rw [List.length_map] at ev
  have hB2 := Kept.mk (hB.out.trans (hb2.mono hw0))
  clear hb2 he
  subst ev
  go_wp2
  go_ret
  exact ⟨_, rfl, HE.out, hB2.out⟩
end Go.Proofs.YtbgconagkgfplaaGreat
end
section
namespace Go.Proofs.YtbgconagkgfplaaGreat
open Go.RowKit
set_option linter.unusedVariables false
set_option linter.unusedSimpArgs false
theorem gd_put (A : Ar) (node : Int) (key text : List UInt8) (r : Int) (G : En) (v : Value) (w : World) (hv : isAr A v w) (hF : FitA A) (hk : key.length ≤ 1000) (ht : text.length ≤ 1000) (hr : putDE A node key text = r) (hG : putDF A node key text = G) : Calls Tryz.prog 20 #[v, .int .i64 node, .string ⟨key.toArray⟩, .string ⟨text.toArray⟩] w fun e w' => ∃ v', e = .returned (.tuple #[v', .int .i64 r]) ∧ isEn G v' w' ∧ Below w.heap.size w w' := by
  subst hr hG
  exact (dput_any A node key text v w hv hF hk ht).mono (by rintro e w' ⟨⟨v', h1, h2⟩, h3⟩; exact ⟨v', h1, h2, h3⟩)
theorem gd_del (A : Ar) (node : Int) (key : List UInt8) (r : Int) (G : En) (v : Value) (w : World) (hv : isAr A v w) (hF : FitA A) (hk : key.length ≤ 1000) (hr : delDE A node key = r) (hG : delDF A node key = G) : Calls Tryz.prog 22 #[v, .int .i64 node, .string ⟨key.toArray⟩] w fun e w' => ∃ v', e = .returned (.tuple #[v', .int .i64 r]) ∧ isEn G v' w' ∧ Below w.heap.size w w' := by
  subst hr hG
  exact (ddel_any A node key v w hv hF hk).mono (by rintro e w' ⟨⟨v', h1, h2⟩, h3⟩; exact ⟨v', h1, h2, h3⟩)
theorem gd_add (A : Ar) (node : Int) (key : List UInt8) (n r : Int) (G : En) (v : Value) (w : World) (hv : isAr A v w) (hF : FitA A) (hk : key.length ≤ 1000) (hr : addDE A node key n = r) (hG : addDF A node key n = G) : Calls Tryz.prog 24 #[v, .int .i64 node, .string ⟨key.toArray⟩, .int .i64 n] w fun e w' => ∃ v', e = .returned (.tuple #[v', .int .i64 r]) ∧ isEn G v' w' ∧ Below w.heap.size w w' := by
  subst hr hG
  exact (dadd_any A node key n v w hv hF hk).mono (by rintro e w' ⟨⟨v', h1, h2⟩, h3⟩; exact ⟨v', h1, h2, h3⟩)
theorem gd_set (A : Ar) (key : List UInt8) (flags : UInt64) (r : Int) (G : En) (v : Value) (w : World) (hv : isAr A v w) (hF : FitA A) (hk : key.length ≤ 1000) (hr : setDE A key = r) (hG : setDF A key flags = G) : Calls Tryz.prog 26 #[v, .string ⟨key.toArray⟩, .int .u64 (flags.toNat : Int)] w fun e w' => ∃ v', e = .returned (.tuple #[v', .int .i64 r]) ∧ isEn G v' w' ∧ Below w.heap.size w w' := by
  subst hr hG
  exact (dset_any A key flags v w hv hF hk).mono (by rintro e w' ⟨⟨v', h1, h2⟩, h3⟩; exact ⟨v', h1, h2, h3⟩)
theorem gd_text (A : Ar) (key t : List UInt8) (b : Bool) (v : Value) (w : World) (hv : isAr A v w) (hF : FitA A) (ht : textT A key = t) (hb : textB A key = b) : Calls Tryz.prog 29 #[v, .string ⟨key.toArray⟩] w fun e w' => e = .returned (.tuple #[.string ⟨t.toArray⟩, .bool b]) ∧ Below w.heap.size w w' := by subst ht hb; exact dtext_any A key v w hv hF
theorem gd_sum (A : Ar) (key : List UInt8) (t : Int) (b : Bool) (v : Value) (w : World) (hv : isAr A v w) (hF : FitA A) (ht : sumT A key = t) (hb : heldB A 2 key = b) : Calls Tryz.prog 31 #[v, .string ⟨key.toArray⟩] w fun e w' => e = .returned (.tuple #[.int .i64 t, .bool b]) ∧ Below w.heap.size w w' := by subst ht hb; exact dsum_any A key v w hv hF
theorem gd_flags (A : Ar) (key : List UInt8) (t : UInt64) (b : Bool) (v : Value) (w : World) (hv : isAr A v w) (hF : FitA A) (ht : flagT A key = t) (hb : heldB A 3 key = b) : Calls Tryz.prog 33 #[v, .string ⟨key.toArray⟩] w fun e w' => e = .returned (.tuple #[.int .u64 (t.toNat : Int), .bool b]) ∧ Below w.heap.size w w' := by subst ht hb; exact dflags_any A key v w hv hF
theorem gd_scan (A : Ar) (l : List En) (v : Value) (w : World) (hv : isAr A v w) (hF : FitA A) (hl : scanA A = l) : Calls Tryz.prog 36 #[v] w fun e w' => ∃ v', e = .returned v' ∧ isEns l v' w' ∧ Below w.heap.size w w' := by subst hl; exact dscan_any A v w hv hF
end Go.Proofs.YtbgconagkgfplaaGreat
end
