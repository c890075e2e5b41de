/- The least counter: its rows are its own; and arrays of eight among a law's arguments. -/
import Derived.Test.YtnjlefciekcehaaVaSumMath
import Derived.OpenShut
namespace Go.Proofs.Ytnjlefciekcehaa
open Go.RowKit Go.ChangeShapes Go.WideShapes
set_option linter.unusedVariables false
set_option linter.unusedSimpArgs false
attribute [local irreducible] setN

set_option maxRecDepth 20000 in
set_option maxHeartbeats 1000000 in
theorem vleast_own (w : World) : Calls Try.prog 15 #[.int .i64 2] w fun e w' => ∃ g1 g2, e = .returned (.tuple #[.agg #[.int .i64 2, .int .i64 0, .int .i64 0, .bool false, .string ⟨#[]⟩, .slice (some ⟨g1, 0, none⟩) 8 8, .slice (some ⟨g2, 0, none⟩) 8 8, .int .u64 0], .int .i64 0]) ∧ w.heap.size ≤ g1 ∧ g1 < g2 ∧ g2 < w'.heap.size ∧ w'.rowIs g1 3 8 (fun _ => intC 0) ∧ w'.rowIs g2 3 8 (fun _ => intC 0) ∧ Below w.heap.size w w' := by
  have hB := Kept.mk (lit_below w (.cells #[.int .i64 0, .int .i64 0, .int .i64 0, .bool false, .string ⟨#[]⟩, .slice none 0 0, .slice none 0 0, .int .u64 0] 25))
  have HZ := Kept.mk (cellsN_at w 25 [.int .i64 0, .int .i64 0, .int .i64 0, .bool false, .string ⟨#[]⟩, .slice none 0 0, .slice none 0 0, .int .u64 0] w.heap.size rfl)
  have HF := Kept.mk (free5_at w #[.int .i64 0, .int .i64 0, .int .i64 0, .bool false, .string ⟨#[]⟩, .slice none 0 0, .slice none 0 0, .int .u64 0] 25 w.heap.size rfl)
  have hs : (w.alloc (.cells #[.int .i64 0, .int .i64 0, .int .i64 0, .bool false, .string ⟨#[]⟩, .slice none 0 0, .slice none 0 0, .int .u64 0] 25)).heap.size = w.heap.size + 1 := by simp
  have hinv : ∀ W : World, (invoke (.fn (.method "ouroboros/value.least") #[]) #[.iface 55 (.agg #[])]).run Try.prog W = .ok (.enter 63 #[.agg #[]]) W := fun W => by kernel_rfl
  have HK : Kept (kOf 2 = 2) := ⟨by decide⟩
  have HI : Kept (ifaceK 2 = .iface 55 (.agg #[])) := ⟨rfl⟩
  go_enter Try.func15, Try.ntmps15
  go_wp2_with fail
  refine (kindOf_any _ _).mono ?_; rintro e w' ⟨rfl, rfl⟩
  rewrite [HK.out, HI.out]
  go_wp2_with fail
  generalize w.alloc (.cells #[.int .i64 0, .int .i64 0, .int .i64 0, .bool false, .string ⟨#[]⟩, .slice none 0 0, .slice none 0 0, .int .u64 0] 25) = W0 at *
  refine (countLeast_own _).mono ?_
  rintro e w1 ⟨g1, g2, rfl, b1, b2, r1, r2, hb1⟩
  have hZ1 := HZ.out.keep hb1 HZ.out.1
  have K1 := Kept.mk hZ1
  have K2 := Kept.mk (HF.out.keep hb1 HZ.out.1)
  have K5 : Kept (Ones [.int .i64 2, .int .i64 0, .int .i64 0, .bool false, .string ⟨#[]⟩, .slice (some ⟨g1, 0, none⟩) 8 8, .slice (some ⟨g2, 0, none⟩) 8 8, .int .u64 0]) := ⟨⟨rfl, rfl, rfl, rfl, rfl, rfl, rfl, rfl, trivial⟩⟩
  have hc' := hZ1.setN_ [.int .i64 2, .int .i64 0, .int .i64 0, .bool false, .string ⟨#[]⟩, .slice (some ⟨g1, 0, none⟩) 8 8, .slice (some ⟨g2, 0, none⟩) 8 8, .int .u64 0] rfl
  have Q1 := Kept.mk (r1.of_block (heap_setN w.heap.size [.int .i64 2, .int .i64 0, .int .i64 0, .bool false, .string ⟨#[]⟩, .slice (some ⟨g1, 0, none⟩) 8 8, .slice (some ⟨g2, 0, none⟩) 8 8, .int .u64 0] 0 w1 g1 (by omega)))
  have Q2 := Kept.mk (r2.of_block (heap_setN w.heap.size [.int .i64 2, .int .i64 0, .int .i64 0, .bool false, .string ⟨#[]⟩, .slice (some ⟨g1, 0, none⟩) 8 8, .slice (some ⟨g2, 0, none⟩) 8 8, .int .u64 0] 0 w1 g2 (by omega)))
  have Q3 := Kept.mk (below_setN (g := w.heap.size) (Nat.le_refl _) [.int .i64 2, .int .i64 0, .int .i64 0, .bool false, .string ⟨#[]⟩, .slice (some ⟨g1, 0, none⟩) 8 8, .slice (some ⟨g2, 0, none⟩) 8 8, .int .u64 0] 0 _ (hB.out.trans (hb1.mono hB.out.size)))
  have Q4 := Q2.out.lt
  have b0 : w.heap.size ≤ g1 := by omega
  clear hZ1 hb1 hinv r1 r2
  go_wp2_with (refine wpList_storeN 25 rfl (.tmp 2) (.tmp 15) rfl w.heap.size [.int .i64 2, .int .i64 0, .int .i64 0, .bool false, .string ⟨#[]⟩, .slice (some ⟨g1, 0, none⟩) 8 8, .slice (some ⟨g2, 0, none⟩) 8 8, .int .u64 0] size_va rfl rfl K1.out rfl K2.out K5.out ?_)
  exact bodyPost_ret (resultsN2 rfl _ _ w.heap.size _ (.int .i64 0) size_va agg_va rfl rfl hc') rfl ⟨_, _, rfl, b0, b2, Q4, Q1.out, Q2.out, Q3.out⟩

theorem list_eight {α : Type} (l : List α) (h : l.length = 8) : ∃ a0 a1 a2 a3 a4 a5 a6 a7, l = [a0, a1, a2, a3, a4, a5, a6, a7] := by
  match l, h with
  | [a0, a1, a2, a3, a4, a5, a6, a7], _ => exact ⟨_, _, _, _, _, _, _, _, rfl⟩
theorem wf_u16 {x : Int} (h : (Lit.int .u16 x).wf = true) : 0 ≤ x ∧ x ≤ 65535 := by
  unfold Lit.wf at h
  rw [Bool.and_eq_true] at h
  exact ⟨of_decide_eq_true h.1, of_decide_eq_true h.2⟩
section
variable {W : World} {H : Type} {enc : TypeId × Value → H} {base b0 : Nat} {spare : Nat → Bool} {held : Bool} {v : Value} {d : DataW H} {p : List MemPlace}
theorem open_u16s (hv : Value.okWide Try.prog W .any b0 38 v) (h : DataW.Trod enc Try.prog W base spare held 38 v d p) :
    ∃ f : Nat → Int, v = .agg ((List.range 8).map fun j => Value.int .u16 (f j)).toArray ∧ ∀ j, 0 ≤ f j ∧ f j ≤ 65535 := by
  have ct : Try.prog.cellsOf 38 = 8 := by kernel_rfl
  have ce : Try.prog.cellsOf 37 = 1 := by kernel_rfl
  obtain ⟨cs, rfl, hsz, _⟩ : ∃ cs, v = .agg cs ∧ cs.size = Try.prog.cellsOf 38 ∧ Row.okWide Try.prog W .any b0 38 cs := by simpa [Value.okWide, Try.underlying38] using hv
  obtain ⟨fuel, hf⟩ := h
  obtain ⟨xs, m, _, _, _, hxl, hg⟩ := DataW.trod_array Try.underlying38 hf
  obtain ⟨l⟩ := cs
  have hl : l.length = 8 := hsz.trans ct
  have key : ∀ j, j < 8 → ∃ n : Int, l[j]? = some (.int .u16 n) ∧ (Lit.int .u16 n).wf = true := by
    intro j hj
    have g := hg j hj
    rw [ce, Nat.mul_one, List.getElem?_eq_getElem (by omega : j < xs.length)] at g
    have e : (l.drop j).take 1 = [l[j]'(by omega)] := by rw [List.drop_eq_getElem_cons (by omega)]; rfl
    have g' : DataW.trod enc Try.prog W base spare held m 37 [l[j]'(by omega)] = some xs[j] := by rw [← e]; exact g
    obtain ⟨n, hn, _, wn⟩ := DataW.trod_int Try.underlying37 g'
    injection hn with hn _
    exact ⟨n, by rw [List.getElem?_eq_getElem (by omega), hn], wn⟩
  refine ⟨fun j => match l[j]? with | some (.int .u16 n) => n | _ => 0, ?_, fun j => ?_⟩
  · congr 1
    apply Array.ext'
    show l = _
    apply List.ext_getElem?
    intro j
    by_cases hj : j < 8
    · obtain ⟨n, hn, _⟩ := key j hj
      rw [hn]
      simp [hj, hn]
    · rw [List.getElem?_eq_none (by omega), List.getElem?_eq_none (by simp; omega)]
  · by_cases hj : j < 8
    · obtain ⟨n, hn, wn⟩ := key j hj
      simp only [hn]
      exact wf_u16 wn
    · simp only [List.getElem?_eq_none (show l.length ≤ j by omega)]
      omega
theorem open_bools (hv : Value.okWide Try.prog W .any b0 39 v) (h : DataW.Trod enc Try.prog W base spare held 39 v d p) :
    ∃ f : Nat → Bool, v = .agg ((List.range 8).map fun j => Value.bool (f j)).toArray := by
  have ct : Try.prog.cellsOf 39 = 8 := by kernel_rfl
  have ce : Try.prog.cellsOf 4 = 1 := by kernel_rfl
  obtain ⟨cs, rfl, hsz, _⟩ : ∃ cs, v = .agg cs ∧ cs.size = Try.prog.cellsOf 39 ∧ Row.okWide Try.prog W .any b0 39 cs := by simpa [Value.okWide, Try.underlying39] using hv
  obtain ⟨fuel, hf⟩ := h
  obtain ⟨xs, m, _, _, _, hxl, hg⟩ := DataW.trod_array Try.underlying39 hf
  obtain ⟨l⟩ := cs
  have hl : l.length = 8 := hsz.trans ct
  have key : ∀ j, j < 8 → ∃ n : Bool, l[j]? = some (.bool n) := by
    intro j hj
    have g := hg j hj
    rw [ce, Nat.mul_one, List.getElem?_eq_getElem (by omega : j < xs.length)] at g
    have e : (l.drop j).take 1 = [l[j]'(by omega)] := by rw [List.drop_eq_getElem_cons (by omega)]; rfl
    have g' : DataW.trod enc Try.prog W base spare held m 4 [l[j]'(by omega)] = some xs[j] := by rw [← e]; exact g
    obtain ⟨n, hn, _⟩ := DataW.trod_bool Try.underlying4 g'
    injection hn with hn _
    exact ⟨n, by rw [List.getElem?_eq_getElem (by omega), hn]⟩
  refine ⟨fun j => match l[j]? with | some (.bool n) => n | _ => false, ?_⟩
  congr 1
  apply Array.ext'
  show l = _
  apply List.ext_getElem?
  intro j
  by_cases hj : j < 8
  · obtain ⟨n, hn⟩ := key j hj
    rw [hn]
    simp [hj, hn]
  · rw [List.getElem?_eq_none (by omega), List.getElem?_eq_none (by simp; omega)]
end
end Go.Proofs.Ytnjlefciekcehaa
