/- What both have, of what one has, is as it was, and the other way round; both stand over either, and either over both, of texts of one length (octet.And, Or): for all texts. -/
import Derived.Test.YtbljcfkdmchgaaaOctWorks
import Derived.Test.YtbljcfkdmchgaaaOctLists
import Derived.ProofKit
import Derived.OpenShut
import Derived.ShutString
import Derived.ChangeOld
import Derived.Below
namespace Go.Proofs.Ytbljcfkdmchgaaa
open Go.ChangeShapes Go.WideShapes Go.ChangeAt Go.RowKit
open Go.ChangeMaps (open_string shut_string)
set_option linter.unusedVariables false

set_option maxRecDepth 100000 in
set_option maxHeartbeats 2000000 in
theorem octetLattice_far (a b c : List UInt8) (w : World) (h : 300 < a.length) :
    Calls Try.prog 8 #[.string ⟨a.toArray⟩, .string ⟨b.toArray⟩, .string ⟨c.toArray⟩] w fun e w' => e = .returned (.bool true) ∧ Below w.heap.size w w' := by
  have c1 : decide (300 < (a.length : Int)) = true := by simp; omega
  go_enter Try.func8, Try.ntmps8
  go_wp2_with fail
  refine (works_any _).mono ?_; rintro e w1 ⟨rfl, hB⟩
  go_wp2
  go_ret
  exact ⟨rfl, hB⟩

set_option maxRecDepth 100000 in
set_option maxHeartbeats 2000000 in
theorem octetLattice_ne1 (a b c : List UInt8) (w : World) (h : a.length ≤ 300) (h2 : b.length ≠ a.length) :
    Calls Try.prog 8 #[.string ⟨a.toArray⟩, .string ⟨b.toArray⟩, .string ⟨c.toArray⟩] w fun e w' => e = .returned (.bool true) ∧ Below w.heap.size w w' := by
  have c1 : decide (300 < (a.length : Int)) = false := by simp; omega
  have c2 : ((b.length : Int) != (a.length : Int)) = true := by rw [bne_iff_ne]; omega
  go_enter Try.func8, Try.ntmps8
  go_wp2_with fail
  refine (works_any _).mono ?_; rintro e w1 ⟨rfl, hB⟩
  go_wp2
  go_ret
  exact ⟨rfl, hB⟩

set_option maxRecDepth 100000 in
set_option maxHeartbeats 2000000 in
theorem octetLattice_ne2 (a b c : List UInt8) (w : World) (h : a.length ≤ 300) (h2 : b.length = a.length) (h3 : c.length ≠ a.length) :
    Calls Try.prog 8 #[.string ⟨a.toArray⟩, .string ⟨b.toArray⟩, .string ⟨c.toArray⟩] w fun e w' => e = .returned (.bool true) ∧ Below w.heap.size w w' := by
  have c1 : decide (300 < (a.length : Int)) = false := by simp; omega
  have c2 : ((b.length : Int) != (a.length : Int)) = false := by rw [bne_eq_false_iff_eq]; omega
  have c3 : ((c.length : Int) != (a.length : Int)) = true := by rw [bne_iff_ne]; omega
  clear h2
  go_enter Try.func8, Try.ntmps8
  go_wp2_with fail
  refine (works_any _).mono ?_; rintro e w1 ⟨rfl, hB⟩
  go_wp2
  go_ret
  exact ⟨rfl, hB⟩

theorem byte_absorb1 (x y : UInt8) : x &&& (x ||| y) = x := by
  apply UInt8.toBitVec_inj.1
  simp only [UInt8.toBitVec_and, UInt8.toBitVec_or]
  apply BitVec.eq_of_getLsbD_eq
  intro i hi
  simp only [BitVec.getLsbD_and, BitVec.getLsbD_or]
  cases x.toBitVec.getLsbD i <;> simp
theorem byte_absorb2 (x y : UInt8) : x ||| (x &&& y) = x := by
  apply UInt8.toBitVec_inj.1
  simp only [UInt8.toBitVec_and, UInt8.toBitVec_or]
  apply BitVec.eq_of_getLsbD_eq
  intro i hi
  simp only [BitVec.getLsbD_and, BitVec.getLsbD_or]
  cases x.toBitVec.getLsbD i <;> simp
theorem byte_distr1 (x y z : UInt8) : x &&& (y ||| z) = (x &&& y) ||| (x &&& z) := by
  apply UInt8.toBitVec_inj.1
  simp only [UInt8.toBitVec_and, UInt8.toBitVec_or]
  apply BitVec.eq_of_getLsbD_eq
  intro i hi
  simp only [BitVec.getLsbD_and, BitVec.getLsbD_or]
  cases x.toBitVec.getLsbD i <;> simp
theorem byte_distr2 (x y z : UInt8) : x ||| (y &&& z) = (x ||| y) &&& (x ||| z) := by
  apply UInt8.toBitVec_inj.1
  simp only [UInt8.toBitVec_and, UInt8.toBitVec_or]
  apply BitVec.eq_of_getLsbD_eq
  intro i hi
  simp only [BitVec.getLsbD_and, BitVec.getLsbD_or]
  cases x.toBitVec.getLsbD i <;> simp

set_option maxRecDepth 100000 in
set_option maxHeartbeats 2000000 in
theorem octetLattice_eq (a b c : List UInt8) (w : World) (h : a.length ≤ 300) (h2 : b.length = a.length) (h3 : c.length = a.length) :
    Calls Try.prog 8 #[.string ⟨a.toArray⟩, .string ⟨b.toArray⟩, .string ⟨c.toArray⟩] w fun e w' => e = .returned (.bool true) ∧ Below w.heap.size w w' := by
  have c1 : decide (300 < (a.length : Int)) = false := by simp; omega
  have c2 : ((b.length : Int) != (a.length : Int)) = false := by rw [bne_eq_false_iff_eq]; omega
  have c3 : ((c.length : Int) != (a.length : Int)) = false := by rw [bne_eq_false_iff_eq]; omega
  have l2 : b.length ≤ 300 := by omega
  have l3 : c.length ≤ 300 := by omega
  have H2 := Lib.hid h2
  have H3 := Lib.hid h3
  clear h2 h3
  go_enter Try.func8, Try.ntmps8
  go_wp2_with fail
  refine (works_any _).mono ?_; rintro e w1 ⟨rfl, hB⟩
  go_wp2_with fail
  ((with_reducible refine (or_l _ _ _ (by (repeat (first | rw [length_notL] | rw [length_pairL] | rw [List.length_append])); omega) (by (repeat (first | rw [length_notL] | rw [length_pairL] | rw [List.length_append])); omega)).mono ?_); rintro e w2 ⟨rfl, hb2⟩)
  replace hB := hB.trans (hb2.mono hB.size); clear hb2
  go_wp2_with fail
  ((with_reducible refine (and_l _ _ _ (by (repeat (first | rw [length_notL] | rw [length_pairL] | rw [List.length_append])); omega) (by (repeat (first | rw [length_notL] | rw [length_pairL] | rw [List.length_append])); omega)).mono ?_); rintro e w2 ⟨rfl, hb2⟩)
  replace hB := hB.trans (hb2.mono hB.size); clear hb2
  rw [absorb _ _ byte_absorb1 a b H2.out.symm]
  go_wp2_with fail
  ((with_reducible refine (and_l _ _ _ (by (repeat (first | rw [length_notL] | rw [length_pairL] | rw [List.length_append])); omega) (by (repeat (first | rw [length_notL] | rw [length_pairL] | rw [List.length_append])); omega)).mono ?_); rintro e w2 ⟨rfl, hb2⟩)
  replace hB := hB.trans (hb2.mono hB.size); clear hb2
  go_wp2_with fail
  ((with_reducible refine (or_l _ _ _ (by (repeat (first | rw [length_notL] | rw [length_pairL] | rw [List.length_append])); omega) (by (repeat (first | rw [length_notL] | rw [length_pairL] | rw [List.length_append])); omega)).mono ?_); rintro e w2 ⟨rfl, hb2⟩)
  replace hB := hB.trans (hb2.mono hB.size); clear hb2
  rw [absorb _ _ byte_absorb2 a b H2.out.symm]
  go_wp2_with fail
  ((with_reducible refine (or_l _ _ _ (by (repeat (first | rw [length_notL] | rw [length_pairL] | rw [List.length_append])); omega) (by (repeat (first | rw [length_notL] | rw [length_pairL] | rw [List.length_append])); omega)).mono ?_); rintro e w2 ⟨rfl, hb2⟩)
  replace hB := hB.trans (hb2.mono hB.size); clear hb2
  go_wp2_with fail
  ((with_reducible refine (and_l _ _ _ (by (repeat (first | rw [length_notL] | rw [length_pairL] | rw [List.length_append])); omega) (by (repeat (first | rw [length_notL] | rw [length_pairL] | rw [List.length_append])); omega)).mono ?_); rintro e w2 ⟨rfl, hb2⟩)
  replace hB := hB.trans (hb2.mono hB.size); clear hb2
  rw [distr _ _ byte_distr1 a b c H2.out.symm H3.out.symm]
  go_wp2_with fail
  ((with_reducible refine (and_l _ _ _ (by (repeat (first | rw [length_notL] | rw [length_pairL] | rw [List.length_append])); omega) (by (repeat (first | rw [length_notL] | rw [length_pairL] | rw [List.length_append])); omega)).mono ?_); rintro e w2 ⟨rfl, hb2⟩)
  replace hB := hB.trans (hb2.mono hB.size); clear hb2
  go_wp2_with fail
  ((with_reducible refine (and_l _ _ _ (by (repeat (first | rw [length_notL] | rw [length_pairL] | rw [List.length_append])); omega) (by (repeat (first | rw [length_notL] | rw [length_pairL] | rw [List.length_append])); omega)).mono ?_); rintro e w2 ⟨rfl, hb2⟩)
  replace hB := hB.trans (hb2.mono hB.size); clear hb2
  go_wp2_with fail
  ((with_reducible refine (or_l _ _ _ (by (repeat (first | rw [length_notL] | rw [length_pairL] | rw [List.length_append])); omega) (by (repeat (first | rw [length_notL] | rw [length_pairL] | rw [List.length_append])); omega)).mono ?_); rintro e w2 ⟨rfl, hb2⟩)
  replace hB := hB.trans (hb2.mono hB.size); clear hb2
  go_wp2_with fail
  ((with_reducible refine (and_l _ _ _ (by (repeat (first | rw [length_notL] | rw [length_pairL] | rw [List.length_append])); omega) (by (repeat (first | rw [length_notL] | rw [length_pairL] | rw [List.length_append])); omega)).mono ?_); rintro e w2 ⟨rfl, hb2⟩)
  replace hB := hB.trans (hb2.mono hB.size); clear hb2
  go_wp2_with fail
  ((with_reducible refine (or_l _ _ _ (by (repeat (first | rw [length_notL] | rw [length_pairL] | rw [List.length_append])); omega) (by (repeat (first | rw [length_notL] | rw [length_pairL] | rw [List.length_append])); omega)).mono ?_); rintro e w2 ⟨rfl, hb2⟩)
  replace hB := hB.trans (hb2.mono hB.size); clear hb2
  rw [distr _ _ byte_distr2 a b c H2.out.symm H3.out.symm]
  go_wp2_with fail
  ((with_reducible refine (or_l _ _ _ (by (repeat (first | rw [length_notL] | rw [length_pairL] | rw [List.length_append])); omega) (by (repeat (first | rw [length_notL] | rw [length_pairL] | rw [List.length_append])); omega)).mono ?_); rintro e w2 ⟨rfl, hb2⟩)
  replace hB := hB.trans (hb2.mono hB.size); clear hb2
  go_wp2_with fail
  ((with_reducible refine (or_l _ _ _ (by (repeat (first | rw [length_notL] | rw [length_pairL] | rw [List.length_append])); omega) (by (repeat (first | rw [length_notL] | rw [length_pairL] | rw [List.length_append])); omega)).mono ?_); rintro e w2 ⟨rfl, hb2⟩)
  replace hB := hB.trans (hb2.mono hB.size); clear hb2
  go_wp2_with fail
  ((with_reducible refine (and_l _ _ _ (by (repeat (first | rw [length_notL] | rw [length_pairL] | rw [List.length_append])); omega) (by (repeat (first | rw [length_notL] | rw [length_pairL] | rw [List.length_append])); omega)).mono ?_); rintro e w2 ⟨rfl, hb2⟩)
  replace hB := hB.trans (hb2.mono hB.size); clear hb2
  go_wp2
  go_ret
  exact ⟨rfl, hB⟩

theorem octetLattice_walk (a0 a1 a2 : ByteArray) (w0 : a0.size ≤ maxLen) (w1 : a1.size ≤ maxLen) (w2 : a2.size ≤ maxLen) (w : World) :
    Calls Try.prog 8 #[.string a0, .string a1, .string a2] w fun e w' => e = .returned (.bool true) ∧ Below w.heap.size w w' := by
  rw [str_eta a0, str_eta a1, str_eta a2]
  generalize a0.data.toList = a
  generalize a1.data.toList = b
  generalize a2.data.toList = c
  by_cases h : 300 < a.length
  · exact octetLattice_far a b c w h
  · by_cases h2 : b.length = a.length
    · by_cases h3 : c.length = a.length
      · exact octetLattice_eq a b c w (by omega) h2 h3
      · exact octetLattice_ne2 a b c w (by omega) h2 h3
    · exact octetLattice_ne1 a b c w (by omega) h2

set_option maxRecDepth 100000 in
theorem octetLattice_lifted (os : Os) (started : os.Started) (H : Type) (enc : TypeId × Value → H) :
    ReturnsInHanded {} Try.checked os 8 .any (Rows.octetLatticeSpec.pre6 enc Try.prog Try.f8 Rows.octetLatticeRow.domain false) (Rows.octetLatticeSpec.post enc Try.prog Try.f8 false true false false) := by
  refine returnsInHanded_of_change (C := Try.checked) (by kernel_rfl : ownKnob Try.prog.godebug = none) started (by kernel_rfl) Try.func8
    (ChangeSpec.witness6 (enc := enc) (C := Try.checked) false ⟨#[], #[.string ByteArray.empty, .string ByteArray.empty, .string ByteArray.empty], []⟩ 8 (by kernel_rfl) (by kernel_rfl) (by kernel_rfl) (by kernel_rfl)) ?_
  intro W base args ds gs before hval0 hW hcnd _
  have hval : ∀ (j : Nat) t v, Try.f8.params[j]? = some t → args[j]? = some v → Value.okWide Try.prog W .any base t v := hval0
  have hW' := hW
  obtain ⟨p, q, hA0, hV, rfl, hfz, hnd⟩ := hW
  have hA : DataW.TrodAll enc Try.prog W 0 (fun _ => true) true Try.f8.params.toList args.toList ds p := hA0
  rw [Try.params8] at hA hval
  obtain ⟨v0, vs0, d0, ds0, p0, q0, hargs, rfl, rfl, h0, r0⟩ := trodAll_cons hA
  obtain ⟨v1, vs1, d1, ds1, p1, q1, rfl, rfl, rfl, h1, r1⟩ := trodAll_cons r0
  obtain ⟨v2, vs2, d2, ds2, p2, q2, rfl, rfl, rfl, h2, r2⟩ := trodAll_cons r1
  obtain ⟨rfl, rfl, rfl⟩ := trodAll_nil r2
  obtain rfl : args = #[v0, v1, v2] := by cases args; simp_all
  obtain ⟨rfl, rfl⟩ := trodVars_none hV
  obtain ⟨a0, rfl, rfl, rfl, w0⟩ := open_string Try.underlying9 (hval 0 9 v0 rfl rfl) h0
  obtain ⟨a1, rfl, rfl, rfl, w1⟩ := open_string Try.underlying9 (hval 1 9 v1 rfl rfl) h1
  obtain ⟨a2, rfl, rfl, rfl, w2⟩ := open_string Try.underlying9 (hval 2 9 v2 rfl rfl) h2
  clear hA0 hval0
  simp only [List.append_nil] at hW'
  refine (octetLattice_walk a0 a1 a2 w0 w1 w2 W).mono fun e W' ⟨he, bel⟩ => ?_
  subst he
  exact ⟨_, rfl, _, _, _, [], [], [], hW', trodAll_mk1 (shut_bool Try.underlying4 _), (trodAll_cons_mk (shut_string Try.underlying9 w0) (trodAll_cons_mk (shut_string Try.underlying9 w1) (trodAll_cons_mk (shut_string Try.underlying9 w2) trodAll_mk0))), rfl, bel.frame _, fun h => by cases h⟩
/-- THE STATEMENT. -/
theorem octetLattice_proved : Rows.OctetLatticeSaid :=
  OpenClaim.holds_of_wide 8 Try.f8 rfl rfl rfl rfl rfl rfl rfl ⟨rfl, rfl, rfl, rfl, rfl⟩ rfl rfl rfl rfl rfl (by kernel_rfl) Try.func8 (by kernel_rfl)
    (of_decide_eq_true (by kernel_rfl)) (by unfold Func.isWrapper; first | (rw [if_pos (by decide +kernel)]; kernel_rfl) | (rw [if_neg (by decide +kernel)]; exact ⟨rfl, rfl⟩))
    (fun os started H enc _ => octetLattice_lifted os started H enc)
#print axioms octetLattice_proved
end Go.Proofs.Ytbljcfkdmchgaaa
