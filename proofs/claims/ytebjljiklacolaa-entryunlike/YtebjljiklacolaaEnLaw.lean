/- Contracts of package entry in the forms that the laws' walks ask for. -/
import Derived.Test.YtebjljiklacolaaEnWorks
namespace Go.Proofs.Ytebjljiklacolaa
open Go.RowKit
set_option linter.unusedVariables false
set_option linter.unusedSimpArgs false

theorem eput_yes (E : En) (s : List UInt8) (v : Value) (w : World) (hv : isEn E v w) (hF : FitE E) (hok : okE E = true) (hs : putEn E = s) : Calls Try.prog 9 #[v] w fun e w' => e = .returned (.tuple #[.string ⟨s.toArray⟩, .int .i64 0]) ∧ Below w.heap.size w w' := by
  have h := eput_any E v w hv hF
  rwa [show putF E = s by unfold putF; rw [if_pos hok]; exact hs, chk_ok hok] at h
theorem eput_no (E : En) (v : Value) (w : World) (hv : isEn E v w) (hF : FitE E) (hok : okE E = false) : Calls Try.prog 9 #[v] w fun e w' => e = .returned (.tuple #[.string ⟨#[]⟩, .int .i64 2]) ∧ Below w.heap.size w w' := by
  have h := eput_any E v w hv hF
  rwa [show putF E = [] by unfold putF; rw [hok]; rfl, chk_no hok] at h
theorem eget_yes (s : List UInt8) (E : En) (w : World) (h : rdEn s = some E) (hl : s.length ≤ 1000) : Calls Try.prog 10 #[.string ⟨s.toArray⟩] w fun e w' => ∃ v', e = .returned (.tuple #[v', .int .i64 0]) ∧ isEnN w.heap.size E v' w' ∧ Below w.heap.size w w' := by
  have hg := eget_any s w hl
  rwa [show getEF s = E by unfold getEF; rw [h]; rfl, show getEE s = 0 by unfold getEE getOk; rw [h]; rfl] at hg
theorem eget_no (s : List UInt8) (w : World) (h : rdEn s = none) (hl : s.length ≤ 1000) : Calls Try.prog 10 #[.string ⟨s.toArray⟩] w fun e w' => ∃ v', e = .returned (.tuple #[v', .int .i64 2]) ∧ isEnN w.heap.size zeroE v' w' ∧ Below w.heap.size w w' := by
  have hg := eget_any s w hl
  rwa [show getEF s = zeroE by unfold getEF; rw [h]; rfl, show getEE s = 2 by unfold getEE getOk; rw [h]; rfl] at hg
theorem join_at (A B : En) (r : Int) (G : En) (v u : Value) (w : World) (hv : isEn A v w) (hu : isEn B u w) (hA : FitE A) (hF : FitE B) (hr : joinEE A B = r) (hg : joinEF A B = G) : Calls Try.prog 14 #[v, u] w fun e w' => ∃ v', e = .returned (.tuple #[v', .int .i64 r]) ∧ isEnN w.heap.size G v' w' ∧ Below w.heap.size w w' := by
  subst hr hg; exact ejoin_any A B v u w hv hu hA hF
theorem vjoin_at (A B : Va) (r : Int) (G : Va) (v u : Value) (w : World) (hv : isVa A v w) (hu : isVa B u w) (hA : Fit A) (hF : Fit B) (hr : joinE A B = r) (hg : joinF A B = G) : Calls Try.prog 15 #[v, u] w fun e w' => ∃ v', e = .returned (.tuple #[v', .int .i64 r]) ∧ isVaN w.heap.size G v' w' ∧ Below w.heap.size w w' := by
  subst hr hg; exact vjoin_any A B v u w hv hu hA hF
theorem gv_same (A B : Va) (r : Bool) (v u : Value) (w : World) (hv : isVa A v w) (hu : isVa B u w) (h1 : Fit A) (h2 : Fit B) (hr : decide (A = B) = r) : Calls Try.prog 16 #[v, u] w fun e w' => e = .returned (.bool r) ∧ Below w.heap.size w w' := by
  subst hr; exact vsame_fit A B v u w hv hu h1 h2
theorem fitE_zero : FitE zeroE := ⟨by decide, ⟨by decide, by decide, by decide⟩⟩
/-- What is put tells what it was. -/
theorem put_inj {A B : En} (hA : okE A = true) (hB : okE B = true) : (putEn A == putEn B) = decide (A = B) := by
  rw [Bool.eq_iff_iff, beq_iff_eq, decide_eq_true_eq]
  constructor
  · intro h
    have h1 := rd_putEn hA
    rw [h, rd_putEn hB] at h1
    injection h1 with h1
    exact h1.symm
  · rintro rfl; rfl
theorem ok_fit {E : En} (h : okE E = true) : FitE E := by
  simp only [okE, Bool.and_eq_true, decide_eq_true_eq] at h
  obtain ⟨⟨h1, h8⟩, hv⟩ := h
  refine ⟨by omega, ?_⟩
  unfold okV kindN at hv
  split at hv
  · split at hv
    · rename_i hi
      simp only [inReg, Bool.and_eq_true, decide_eq_true_eq] at hi
      obtain ⟨⟨⟨_, h8'⟩, _⟩, ho⟩ := hi
      refine ⟨by omega, ?_, ?_⟩
      · rw [ho]; show 0 ≤ _; omega
      · rw [ho]; show 0 ≤ _; omega
    · simp at hv
  · split at hv
    · split at hv
      · rename_i hi
        simp only [inCount, okRow, Bool.and_eq_true, decide_eq_true_eq] at hi
        obtain ⟨⟨⟨l1, _⟩, ⟨l2, _⟩⟩, ho⟩ := hi
        refine ⟨?_, by omega, by omega⟩
        rw [ho]; show 0 ≤ _; omega
      · simp at hv
    · split at hv
      · split at hv
        · rename_i ho
          simp only [decide_eq_true_eq] at ho
          refine ⟨?_, ?_, ?_⟩ <;> (rw [ho]; show 0 ≤ _; omega)
        · simp at hv
      · simp at hv
end Go.Proofs.Ytebjljiklacolaa
