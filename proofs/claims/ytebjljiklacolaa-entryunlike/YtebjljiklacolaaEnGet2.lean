/- Contracts of package entry: Get, that recovers. -/
import Derived.Test.YtebjljiklacolaaEnGet
import Derived.Recover
namespace Go.Proofs.Ytebjljiklacolaa
open Go.RowKit
set_option linter.unusedVariables false
set_option linter.unusedSimpArgs false
attribute [local irreducible] setN

set_option maxRecDepth 100000 in
set_option maxHeartbeats 4000000 in
theorem catch_gave (ge gn : Nat) (old : List Value) (x : Value) (older : List PanicEntry) (w : World) (h9 : old.length = 9) (hE : Blk w ge old) (hN : Blk w gn [x]) (hne : gn ≠ ge) :
    CallsD Try.prog 22 #[ptr ge, ptr gn] (.panicking ({ v := .iface 30 (.int .i64 2), recovered := false } :: older)) w fun e u' w' =>
      e = .returned (.tuple #[]) ∧ u' = .panicking ({ v := .iface 30 (.int .i64 2), recovered := true } :: older) ∧ w' = (setN w ge 0 [.string ⟨#[]⟩, .int .i64 0, .int .i64 0, .int .i64 0, .bool false, .string ⟨#[]⟩, .slice none 0 0, .slice none 0 0, .int .u64 0]).setCell ⟨gn, 0, none⟩ (.int .i64 2) := by
  refine callsD_of_wpS Try.func22 rfl fun c₀ cs hu => ?_
  apply wpS_seq
  apply wpS_region
  simp [wpOpsS, go_sem, recoverD, hu, Try.ntmps22, Exit.thenS]
  refine wpS_cond (t := true) (by simp [Act.eval, Array.replicate]) ?_
  simp only [if_true]
  have K5 : Kept (Ones [.string ⟨#[]⟩, .int .i64 0, .int .i64 0, .int .i64 0, .bool false, .string ⟨#[]⟩, .slice none 0 0, .slice none 0 0, .int .u64 0]) := ⟨⟨rfl, rfl, rfl, rfl, rfl, rfl, rfl, rfl, rfl, trivial⟩⟩
  have HN := (hN.apartN hne 0 [.string ⟨#[]⟩, .int .i64 0, .int .i64 0, .int .i64 0, .bool false, .string ⟨#[]⟩, .slice none 0 0, .slice none 0 0, .int .u64 0])
  have kn := HN.cells.2 0 _ rfl
  have fn := HN.free 0
  refine wpS_of_wp ?_
  go_wp2_with (refine wpList_storeN 27 rfl (.tmp 0) (.tmp 4) rfl ge [.string ⟨#[]⟩, .int .i64 0, .int .i64 0, .int .i64 0, .bool false, .string ⟨#[]⟩, .slice none 0 0, .slice none 0 0, .int .u64 0] size_en rfl rfl hE.cells h9 hE.free K5.out ?_)
  exact ⟨rfl, _, rfl, _, results_none rfl _ _ _, rfl, rfl, rfl⟩
set_option maxRecDepth 100000 in
set_option maxHeartbeats 4000000 in
theorem catch_idle (p q : Value) (w : World) :
    CallsD Try.prog 22 #[p, q] .returning w fun e u' w' => e = .returned (.tuple #[]) ∧ u' = .returning ∧ w' = w := by
  refine callsD_of_wpS Try.func22 rfl fun c₀ cs hu => ?_
  apply wpS_seq
  apply wpS_region
  simp [wpOpsS, go_sem, recoverD, hu, Try.ntmps22, Exit.thenS]
  refine wpS_cond (t := false) (by simp [Act.eval, Array.replicate]) ?_
  simp only [Bool.false_eq_true, if_false]
  refine wpS_of_wp (wp_skip ?_)
  cases c₀
  simp_all [bodyPostS, results, Try.results22]
theorem results_cells {P : Program} {fn : Func} {p q : Tmp} {t u : TypeId} (h : fn.results = #[.cell p t, .cell q u]) (tmps : Array Value) (w : World) (g b : Nat) (l : List Value) (x : Value) (hs : (P.info? t).map (·.size) = some l.length) (ha : ∀ w, (isAgg t).run P w = .ok true w) (hb : ∀ w, (isAgg u).run P w = .ok false w)
    (hp : tmps.getD p undef = .pointer (some ⟨g, 0, none⟩)) (hq : tmps.getD q undef = .pointer (some ⟨b, 0, none⟩)) (hc : CellsN w g l) (hx : w.cell? ⟨b, 0, none⟩ = some x) :
    (results fn tmps).run P w = .ok (.tuple #[.agg l.toArray, x]) w := by
  have hp' : tmps[p]?.getD undef = .pointer (some ⟨g, 0, none⟩) := by simpa using hp
  have hq' : tmps[q]?.getD undef = .pointer (some ⟨b, 0, none⟩) := by simpa using hq
  have e1 := loadN t g w l hs ha hc
  have e2 : (loadVar u ⟨b, 0, none⟩).run P w = .ok x w := by simp [loadVar, hb, hx]
  simp [results, h, hp', hq', asAddr, e1, e2]
theorem agg_errno (w : World) : (isAgg 30).run Try.prog w = .ok false w := by simp [isAgg, run_underlying Try.underlying30]
set_option maxRecDepth 100000 in
set_option maxHeartbeats 4000000 in
theorem eget_any (s : List UInt8) (w : World) (hs : s.length ≤ 1000) :
    Calls Try.prog 10 #[.string ⟨s.toArray⟩] w fun e w' => ∃ v', e = .returned (.tuple #[v', .int .i64 (getEE s)]) ∧ isEnN w.heap.size (getEF s) v' w' ∧ Below w.heap.size w w' := by
  have hmf : ∀ (fn : Fn) (first cap : Array Value) (w : World), (Instr.makeFunc fn first cap).run Try.prog w = .ok (.func fn first cap) w := fun _ _ _ _ => rfl
  have hb0 := Kept.mk ((lit_below w (.cells #[.string ⟨#[]⟩, .int .i64 0, .int .i64 0, .int .i64 0, .bool false, .string ⟨#[]⟩, .slice none 0 0, .slice none 0 0, .int .u64 0] 27)).trans ((lit_below (w.alloc (.cells #[.string ⟨#[]⟩, .int .i64 0, .int .i64 0, .int .i64 0, .bool false, .string ⟨#[]⟩, .slice none 0 0, .slice none 0 0, .int .u64 0] 27)) (.cells #[.int .i64 0] 30)).mono (lit_below w (.cells #[.string ⟨#[]⟩, .int .i64 0, .int .i64 0, .int .i64 0, .bool false, .string ⟨#[]⟩, .slice none 0 0, .slice none 0 0, .int .u64 0] 27)).size))
  have HR := Kept.mk ((Blk.new w 27 [.string ⟨#[]⟩, .int .i64 0, .int .i64 0, .int .i64 0, .bool false, .string ⟨#[]⟩, .slice none 0 0, .slice none 0 0, .int .u64 0] w.heap.size rfl).alloc (.cells #[.int .i64 0] 30))
  have HN := Kept.mk (Blk.new (w.alloc (.cells #[.string ⟨#[]⟩, .int .i64 0, .int .i64 0, .int .i64 0, .bool false, .string ⟨#[]⟩, .slice none 0 0, .slice none 0 0, .int .u64 0] 27)) 30 [.int .i64 0] (w.heap.size + 1) (by simp))
  go_enter_defers Try.func10, Try.ntmps10
  go_wp2_with fail
  clear hmf
  generalize hW0 : ((w.alloc (.cells #[.string ⟨#[]⟩, .int .i64 0, .int .i64 0, .int .i64 0, .bool false, .string ⟨#[]⟩, .slice none 0 0, .slice none 0 0, .int .u64 0] 27)).alloc (.cells #[.int .i64 0] 30)) = W0 at *
  have hs0 : W0.heap.size = w.heap.size + 2 := by rw [← hW0]; simp
  clear hW0
  refine (read_any s W0 hs).mono ?_
  rintro e W1 (⟨E, hr, ⟨v', rfl, p', m', rfl, hp, hm, np, nm⟩, hb⟩ | ⟨hr, rfl, hb⟩)
  · have HRD := Kept.mk hr
    replace HR := Kept.mk (HR.out.keep hb)
    replace HN := Kept.mk (HN.out.keep hb)
    replace hb0 := Kept.mk (hb0.out.trans (hb.mono hb0.out.size))
    obtain ⟨Q1, Q2, Q3, Q4, Q5⟩ := eset E p' m' (g := w.heap.size) (Nat.le_refl _) hb0.out HR.out.cells rfl hp hm (np.ne (by omega)) (nm.ne (by omega))
    have HN2 := Kept.mk (HN.out.apartN (b' := w.heap.size) (by omega) 0 [.string ⟨E.key.toArray⟩, .int .i64 E.val.kind, .int .i64 E.val.time, .int .i64 E.val.node, .bool E.val.dead, .string ⟨E.val.text.toArray⟩, p', m', .int .u64 (E.val.flags.toNat : Int)])
    have kn := HN2.out.cells.2 0 _ rfl
    have fn := HN2.out.free 0
    have NP := Kept.mk np
    have NM := Kept.mk nm
    have HP := Kept.mk hp
    have HM := Kept.mk hm
    clear hr hb hp hm np nm
    go_wp2_with (refine wpList_storeN 27 rfl (.tmp 2) (.tmp 6) rfl w.heap.size [.string ⟨E.key.toArray⟩, .int .i64 E.val.kind, .int .i64 E.val.time, .int .i64 E.val.node, .bool E.val.dead, .string ⟨E.val.text.toArray⟩, p', m', .int .u64 (E.val.flags.toNat : Int)] size_en rfl rfl HR.out.cells rfl HR.out.free Q5.out ?_)
    have HF := Kept.mk ((HR.out.all_ (l := [.string ⟨E.key.toArray⟩, .int .i64 E.val.kind, .int .i64 E.val.time, .int .i64 E.val.node, .bool E.val.dead, .string ⟨E.val.text.toArray⟩, p', m', .int .u64 (E.val.flags.toNat : Int)]) rfl).apart (b' := w.heap.size + 1) (by omega) 0 (.int .i64 0))
    have FN := Kept.mk (HN2.out.set 0 (.int .i64 0) (by simp))
    have QB := Kept.mk (Q1.out.setCell (p := ⟨w.heap.size + 1, 0, none⟩) (Nat.le_succ _) (.int .i64 0))
    have QP := Kept.mk (Q3.out.setCell_apart (w.heap.size + 1) 0 (.int .i64 0) (NP.out.ne (by omega)))
    have QM := Kept.mk (Q4.out.setCell_apart (w.heap.size + 1) 0 (.int .i64 0) (NM.out.ne (by omega)))
    refine leaves_cons (f := 22) (args := #[ptr w.heap.size, ptr (w.heap.size + 1)]) (by simp) (by simp [go_sem]) ?_
    refine (catch_idle _ _ _).mono ?_
    rintro e u' w' ⟨rfl, rfl, rfl⟩
    have e1 : getEF s = E := by unfold getEF; rw [HRD.out]; rfl
    have e2 : getEE s = 0 := by unfold getEE getOk; rw [HRD.out]; rfl
    rw [e1, e2]
    exact ⟨_, results_cells rfl _ _ w.heap.size (w.heap.size + 1) _ (.int .i64 0) size_en agg_en agg_errno rfl rfl HF.out.cells (FN.out.cells.2 0 _ rfl), _, rfl, ⟨p', m', rfl, QP.out, QM.out, NP.out.low (by omega), NM.out.low (by omega)⟩, QB.out⟩
  · have HRD := Kept.mk hr
    replace HR := Kept.mk (HR.out.keep hb)
    replace HN := Kept.mk (HN.out.keep hb)
    replace hb0 := Kept.mk (hb0.out.trans (hb.mono hb0.out.size))
    clear hr hb
    go_wp2
    refine leaves_cons (f := 22) (args := #[ptr w.heap.size, ptr (w.heap.size + 1)]) (by simp) (by simp [go_sem]) ?_
    refine (catch_gave w.heap.size (w.heap.size + 1) _ _ [] W1 rfl HR.out HN.out (by omega)).mono ?_
    rintro e u' w' ⟨rfl, rfl, rfl⟩
    have HF := (HR.out.all_ (l := [.string ⟨#[]⟩, .int .i64 0, .int .i64 0, .int .i64 0, .bool false, .string ⟨#[]⟩, .slice none 0 0, .slice none 0 0, .int .u64 0]) rfl).apart (b' := w.heap.size + 1) (by omega) 0 (.int .i64 2)
    have FN := (HN.out.apartN (b' := w.heap.size) (by omega) 0 [.string ⟨#[]⟩, .int .i64 0, .int .i64 0, .int .i64 0, .bool false, .string ⟨#[]⟩, .slice none 0 0, .slice none 0 0, .int .u64 0]).set 0 (.int .i64 2) (by simp)
    have e1 : getEF s = zeroE := by unfold getEF; rw [HRD.out]; rfl
    have e2 : getEE s = 2 := by unfold getEE getOk; rw [HRD.out]; rfl
    rw [e1, e2]
    exact ⟨_, results_cells rfl _ _ w.heap.size (w.heap.size + 1) _ (.int .i64 2) size_en agg_en agg_errno rfl rfl HF.cells (FN.cells.2 0 _ rfl), _, rfl, ⟨.slice none 0 0, .slice none 0 0, rfl, .inl ⟨rfl, rfl⟩, .inl ⟨rfl, rfl⟩, newB_nil _, newB_nil _⟩, (below_setN (Nat.le_refl _) _ 0 _ hb0.out).setCell (Nat.le_succ _) _⟩
end Go.Proofs.Ytebjljiklacolaa
