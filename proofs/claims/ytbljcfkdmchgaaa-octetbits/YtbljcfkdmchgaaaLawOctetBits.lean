/- The bits that two texts have, both, one of them, and just one, a text turned, ones, and how many there are, are just what the document says: for all texts and numbers. -/
import Derived.Test.YtbljcfkdmchgaaaOctWorks
import Derived.Test.YtbljcfkdmchgaaaOctLists
import Derived.Test.YtbljcfkdmchgaaaRefBits
import Derived.ProofKit
import Derived.OpenShut
import Derived.ShutString
import Derived.ChangeOld
import Derived.Below
namespace Go.Proofs.Ytbljcfkdmchgaaa
open Go.ChangeShapes Go.WideShapes Go.ChangeAt Go.RowKit
open Go.ChangeMaps (open_string shut_string)
set_option linter.unusedVariables false

theorem refAnd_l (a b : List UInt8) (w : World) (ha : a.length ≤ 1000000) (hb : b.length ≤ 1000000) :
    Calls Try.prog 15 #[.string ⟨a.toArray⟩, .string ⟨b.toArray⟩] w fun e w' => e = .returned (.string ⟨(pairL (· &&& ·) a b).toArray⟩) ∧ Below w.heap.size w w' :=
  refAnd_any _ _ w (by rw [size_mk]; exact ha) (by rw [size_mk]; exact hb)
theorem refOr_l (a b : List UInt8) (w : World) (ha : a.length ≤ 1000000) (hb : b.length ≤ 1000000) :
    Calls Try.prog 16 #[.string ⟨a.toArray⟩, .string ⟨b.toArray⟩] w fun e w' => e = .returned (.string ⟨(pairL (· ||| ·) a b).toArray⟩) ∧ Below w.heap.size w w' :=
  refOr_any _ _ w (by rw [size_mk]; exact ha) (by rw [size_mk]; exact hb)
theorem refXor_l (a b : List UInt8) (w : World) (ha : a.length ≤ 1000000) (hb : b.length ≤ 1000000) :
    Calls Try.prog 17 #[.string ⟨a.toArray⟩, .string ⟨b.toArray⟩] w fun e w' => e = .returned (.string ⟨(pairL (· ^^^ ·) a b).toArray⟩) ∧ Below w.heap.size w w' :=
  refXor_any _ _ w (by rw [size_mk]; exact ha) (by rw [size_mk]; exact hb)
theorem refNot_l (a : List UInt8) (w : World) (ha : a.length ≤ 100000) :
    Calls Try.prog 18 #[.string ⟨a.toArray⟩] w fun e w' => e = .returned (.string ⟨(notL a).toArray⟩) ∧ Below w.heap.size w w' :=
  refNot_any _ w (by rw [size_mk]; exact ha)
theorem refCount_l (a : List UInt8) (w : World) (ha : a.length ≤ 1000000) :
    Calls Try.prog 20 #[.string ⟨a.toArray⟩] w fun e w' => e = .returned (.int .i64 (countL a : Int)) ∧ w = w' :=
  refCount_any _ w (by rw [size_mk]; exact ha)

set_option maxRecDepth 100000 in
set_option maxHeartbeats 2000000 in
theorem octetBits_1 (a b : List UInt8) (n : Int) (w : World) (h : 300 < a.length) :
    Calls Try.prog 4 #[.string ⟨a.toArray⟩, .string ⟨b.toArray⟩, .int .i64 n] w fun e w' => e = .returned (.bool true) ∧ Below w.heap.size w w' := by
  have c1 : decide (300 < (a.length : Int)) = true := by simp; omega
  go_enter Try.func4, Try.ntmps4
  go_wp2_with fail
  refine (works_any _).mono ?_; rintro e w1 ⟨rfl, hB⟩
  go_wp2
  go_ret
  exact ⟨rfl, hB⟩

set_option maxRecDepth 100000 in
set_option maxHeartbeats 2000000 in
theorem octetBits_2 (a b : List UInt8) (n : Int) (w : World) (h : a.length ≤ 300) (h2 : 300 < b.length) :
    Calls Try.prog 4 #[.string ⟨a.toArray⟩, .string ⟨b.toArray⟩, .int .i64 n] w fun e w' => e = .returned (.bool true) ∧ Below w.heap.size w w' := by
  have c1 : decide (300 < (a.length : Int)) = false := by simp; omega
  have c2 : decide (300 < (b.length : Int)) = true := by simp; omega
  go_enter Try.func4, Try.ntmps4
  go_wp2_with fail
  refine (works_any _).mono ?_; rintro e w1 ⟨rfl, hB⟩
  go_wp2
  go_ret
  exact ⟨rfl, hB⟩

set_option maxRecDepth 100000 in
set_option maxHeartbeats 2000000 in
theorem octetBits_3 (a b : List UInt8) (n : Int) (w : World) (h : a.length ≤ 300) (h2 : b.length ≤ 300) (h3 : 300 < n) (h4 : n ≤ 100000) :
    Calls Try.prog 4 #[.string ⟨a.toArray⟩, .string ⟨b.toArray⟩, .int .i64 n] w fun e w' => e = .returned (.bool true) ∧ Below w.heap.size w w' := by
  have c1 : decide (300 < (a.length : Int)) = false := by simp; omega
  have c2 : decide (300 < (b.length : Int)) = false := by simp; omega
  have c3 : decide (300 < n) = true := by simp; omega
  have c4 : decide (n ≤ 100000) = true := by simp; omega
  go_enter Try.func4, Try.ntmps4
  go_wp2_with fail
  refine (works_any _).mono ?_; rintro e w1 ⟨rfl, hB⟩
  go_wp2
  go_ret
  exact ⟨rfl, hB⟩

set_option maxRecDepth 100000 in
set_option maxHeartbeats 2000000 in
theorem octetBits_4 (a b : List UInt8) (n : Int) (w : World) (h : a.length ≤ 300) (h2 : b.length ≤ 300) (h3 : n ≤ 300) :
    Calls Try.prog 4 #[.string ⟨a.toArray⟩, .string ⟨b.toArray⟩, .int .i64 n] w fun e w' => e = .returned (.bool true) ∧ Below w.heap.size w w' := by
  have c1 : decide (300 < (a.length : Int)) = false := by simp; omega
  have c2 : decide (300 < (b.length : Int)) = false := by simp; omega
  have c3 : decide (300 < n) = false := by simp; omega
  go_enter Try.func4, Try.ntmps4
  go_wp2_with fail
  refine (works_any _).mono ?_; rintro e w1 ⟨rfl, hB⟩
  go_wp2_with fail
  ((with_reducible refine (refAnd_l _ _ _ (by omega) (by omega)).mono ?_); rintro e w2 ⟨rfl, hb2⟩)
  replace hB := hB.trans (hb2.mono hB.size); clear hb2
  go_wp2_with fail
  ((with_reducible refine (refOr_l _ _ _ (by omega) (by omega)).mono ?_); rintro e w2 ⟨rfl, hb2⟩)
  replace hB := hB.trans (hb2.mono hB.size); clear hb2
  go_wp2_with fail
  ((with_reducible refine (refXor_l _ _ _ (by omega) (by omega)).mono ?_); rintro e w2 ⟨rfl, hb2⟩)
  replace hB := hB.trans (hb2.mono hB.size); clear hb2
  go_wp2_with fail
  ((with_reducible refine (refNot_l _ _ (by omega)).mono ?_); rintro e w2 ⟨rfl, hb2⟩)
  replace hB := hB.trans (hb2.mono hB.size); clear hb2
  go_wp2_with fail
  ((with_reducible refine (refOnes_any _ _).mono ?_); rintro e w2 ⟨rfl, hb2⟩)
  replace hB := hB.trans (hb2.mono hB.size); clear hb2
  go_wp2_with fail
  ((with_reducible refine (refCount_l _ _ (by omega)).mono ?_); rintro e w2 ⟨rfl, rfl⟩)
  go_wp2_with fail
  ((with_reducible refine (and_l _ _ _ (by (repeat (first | rw [length_notL] | rw [length_pairL] | rw [List.length_append])); omega) (by (repeat (first | rw [length_notL] | rw [length_pairL] | rw [List.length_append])); omega)).mono ?_); rintro e w2 ⟨rfl, hb2⟩)
  replace hB := hB.trans (hb2.mono hB.size); clear hb2
  go_wp2_with fail
  ((with_reducible refine (or_l _ _ _ (by (repeat (first | rw [length_notL] | rw [length_pairL] | rw [List.length_append])); omega) (by (repeat (first | rw [length_notL] | rw [length_pairL] | rw [List.length_append])); omega)).mono ?_); rintro e w2 ⟨rfl, hb2⟩)
  replace hB := hB.trans (hb2.mono hB.size); clear hb2
  go_wp2_with fail
  ((with_reducible refine (xor_l _ _ _ (by (repeat (first | rw [length_notL] | rw [length_pairL] | rw [List.length_append])); omega) (by (repeat (first | rw [length_notL] | rw [length_pairL] | rw [List.length_append])); omega)).mono ?_); rintro e w2 ⟨rfl, hb2⟩)
  replace hB := hB.trans (hb2.mono hB.size); clear hb2
  go_wp2_with fail
  ((with_reducible refine (not_l _ _ (by (repeat (first | rw [length_notL] | rw [length_pairL] | rw [List.length_append])); omega)).mono ?_); rintro e w2 ⟨rfl, hb2⟩)
  replace hB := hB.trans (hb2.mono hB.size); clear hb2
  go_wp2_with fail
  ((with_reducible refine (ones_any _ _).mono ?_); rintro e w2 ⟨rfl, hb2⟩)
  replace hB := hB.trans (hb2.mono hB.size); clear hb2
  go_wp2_with fail
  ((with_reducible refine (count_l _ _ (by (repeat (first | rw [length_notL] | rw [length_pairL] | rw [List.length_append])); omega)).mono ?_); rintro e w2 ⟨rfl, rfl⟩)
  go_wp2
  go_ret
  exact ⟨rfl, hB⟩

set_option maxRecDepth 100000 in
set_option maxHeartbeats 2000000 in
theorem octetBits_5 (a b : List UInt8) (n : Int) (w : World) (h : a.length ≤ 300) (h2 : b.length ≤ 300) (h3 : 100000 < n) :
    Calls Try.prog 4 #[.string ⟨a.toArray⟩, .string ⟨b.toArray⟩, .int .i64 n] w fun e w' => e = .returned (.bool true) ∧ Below w.heap.size w w' := by
  have c1 : decide (300 < (a.length : Int)) = false := by simp; omega
  have c2 : decide (300 < (b.length : Int)) = false := by simp; omega
  have c3 : decide (300 < n) = true := by simp; omega
  have c4 : decide (n ≤ 100000) = false := by simp; omega
  go_enter Try.func4, Try.ntmps4
  go_wp2_with fail
  refine (works_any _).mono ?_; rintro e w1 ⟨rfl, hB⟩
  go_wp2_with fail
  ((with_reducible refine (refAnd_l _ _ _ (by omega) (by omega)).mono ?_); rintro e w2 ⟨rfl, hb2⟩)
  replace hB := hB.trans (hb2.mono hB.size); clear hb2
  go_wp2_with fail
  ((with_reducible refine (refOr_l _ _ _ (by omega) (by omega)).mono ?_); rintro e w2 ⟨rfl, hb2⟩)
  replace hB := hB.trans (hb2.mono hB.size); clear hb2
  go_wp2_with fail
  ((with_reducible refine (refXor_l _ _ _ (by omega) (by omega)).mono ?_); rintro e w2 ⟨rfl, hb2⟩)
  replace hB := hB.trans (hb2.mono hB.size); clear hb2
  go_wp2_with fail
  ((with_reducible refine (refNot_l _ _ (by omega)).mono ?_); rintro e w2 ⟨rfl, hb2⟩)
  replace hB := hB.trans (hb2.mono hB.size); clear hb2
  go_wp2_with fail
  ((with_reducible refine (refOnes_any _ _).mono ?_); rintro e w2 ⟨rfl, hb2⟩)
  replace hB := hB.trans (hb2.mono hB.size); clear hb2
  go_wp2_with fail
  ((with_reducible refine (refCount_l _ _ (by omega)).mono ?_); rintro e w2 ⟨rfl, rfl⟩)
  go_wp2_with fail
  ((with_reducible refine (and_l _ _ _ (by (repeat (first | rw [length_notL] | rw [length_pairL] | rw [List.length_append])); omega) (by (repeat (first | rw [length_notL] | rw [length_pairL] | rw [List.length_append])); omega)).mono ?_); rintro e w2 ⟨rfl, hb2⟩)
  replace hB := hB.trans (hb2.mono hB.size); clear hb2
  go_wp2_with fail
  ((with_reducible refine (or_l _ _ _ (by (repeat (first | rw [length_notL] | rw [length_pairL] | rw [List.length_append])); omega) (by (repeat (first | rw [length_notL] | rw [length_pairL] | rw [List.length_append])); omega)).mono ?_); rintro e w2 ⟨rfl, hb2⟩)
  replace hB := hB.trans (hb2.mono hB.size); clear hb2
  go_wp2_with fail
  ((with_reducible refine (xor_l _ _ _ (by (repeat (first | rw [length_notL] | rw [length_pairL] | rw [List.length_append])); omega) (by (repeat (first | rw [length_notL] | rw [length_pairL] | rw [List.length_append])); omega)).mono ?_); rintro e w2 ⟨rfl, hb2⟩)
  replace hB := hB.trans (hb2.mono hB.size); clear hb2
  go_wp2_with fail
  ((with_reducible refine (not_l _ _ (by (repeat (first | rw [length_notL] | rw [length_pairL] | rw [List.length_append])); omega)).mono ?_); rintro e w2 ⟨rfl, hb2⟩)
  replace hB := hB.trans (hb2.mono hB.size); clear hb2
  go_wp2_with fail
  ((with_reducible refine (ones_any _ _).mono ?_); rintro e w2 ⟨rfl, hb2⟩)
  replace hB := hB.trans (hb2.mono hB.size); clear hb2
  go_wp2_with fail
  ((with_reducible refine (count_l _ _ (by (repeat (first | rw [length_notL] | rw [length_pairL] | rw [List.length_append])); omega)).mono ?_); rintro e w2 ⟨rfl, rfl⟩)
  go_wp2
  go_ret
  exact ⟨rfl, hB⟩


theorem octetBits_walk (a0 a1 : ByteArray) (a2 : Int) (w0 : a0.size ≤ maxLen) (w1 : a1.size ≤ maxLen) (w2 : (Lit.int .i64 a2).wf = true) (w : World) :
    Calls Try.prog 4 #[.string a0, .string a1, .int .i64 a2] w fun e w' => e = .returned (.bool true) ∧ Below w.heap.size w w' := by
  rw [str_eta a0, str_eta a1]
  generalize a0.data.toList = a
  generalize a1.data.toList = b
  by_cases h : 300 < a.length
  · exact octetBits_1 a b a2 w h
  · by_cases h2 : 300 < b.length
    · exact octetBits_2 a b a2 w (by omega) h2
    · by_cases h3 : 300 < a2
      · by_cases h4 : a2 ≤ 100000
        · exact octetBits_3 a b a2 w (by omega) (by omega) h3 h4
        · exact octetBits_5 a b a2 w (by omega) (by omega) (by omega)
      · exact octetBits_4 a b a2 w (by omega) (by omega) (by omega)

set_option maxRecDepth 100000 in
theorem octetBits_lifted (os : Os) (started : os.Started) (H : Type) (enc : TypeId × Value → H) :
    ReturnsInHanded {} Try.checked os 4 .any (Rows.octetBitsSpec.pre6 enc Try.prog Try.f4 Rows.octetBitsRow.domain false) (Rows.octetBitsSpec.post enc Try.prog Try.f4 false true false false) := by
  refine returnsInHanded_of_change (C := Try.checked) (by kernel_rfl : ownKnob Try.prog.godebug = none) started (by kernel_rfl) Try.func4
    (ChangeSpec.witness6 (enc := enc) (C := Try.checked) false ⟨#[], #[.string ByteArray.empty, .string ByteArray.empty, .int .i64 0], []⟩ 8 (by kernel_rfl) (by kernel_rfl) (by kernel_rfl) (by kernel_rfl)) ?_
  intro W base args ds gs before hval0 hW hcnd _
  have hval : ∀ (j : Nat) t v, Try.f4.params[j]? = some t → args[j]? = some v → Value.okWide Try.prog W .any base t v := hval0
  have hW' := hW
  obtain ⟨p, q, hA0, hV, rfl, hfz, hnd⟩ := hW
  have hA : DataW.TrodAll enc Try.prog W 0 (fun _ => true) true Try.f4.params.toList args.toList ds p := hA0
  rw [Try.params4] at hA hval
  obtain ⟨v0, vs0, d0, ds0, p0, q0, hargs, rfl, rfl, h0, r0⟩ := trodAll_cons hA
  obtain ⟨v1, vs1, d1, ds1, p1, q1, rfl, rfl, rfl, h1, r1⟩ := trodAll_cons r0
  obtain ⟨v2, vs2, d2, ds2, p2, q2, rfl, rfl, rfl, h2, r2⟩ := trodAll_cons r1
  obtain ⟨rfl, rfl, rfl⟩ := trodAll_nil r2
  obtain rfl : args = #[v0, v1, v2] := by cases args; simp_all
  obtain ⟨rfl, rfl⟩ := trodVars_none hV
  obtain ⟨a0, rfl, rfl, rfl, w0⟩ := open_string Try.underlying9 (hval 0 9 v0 rfl rfl) h0
  obtain ⟨a1, rfl, rfl, rfl, w1⟩ := open_string Try.underlying9 (hval 1 9 v1 rfl rfl) h1
  obtain ⟨a2, rfl, rfl, rfl, w2⟩ := open_int Try.underlying3 (hval 2 3 v2 rfl rfl) h2
  clear hA0 hval0
  simp only [List.append_nil] at hW'
  refine (octetBits_walk a0 a1 a2 w0 w1 w2 W).mono fun e W' ⟨he, bel⟩ => ?_
  subst he
  exact ⟨_, rfl, _, _, _, [], [], [], hW', trodAll_mk1 (shut_bool Try.underlying4 _), (trodAll_cons_mk (shut_string Try.underlying9 w0) (trodAll_cons_mk (shut_string Try.underlying9 w1) (trodAll_cons_mk (shut_int Try.underlying3 w2) trodAll_mk0))), rfl, bel.frame _, fun h => by cases h⟩
/-- THE STATEMENT. -/
theorem octetBits_proved : Rows.OctetBitsSaid :=
  OpenClaim.holds_of_wide 4 Try.f4 rfl rfl rfl rfl rfl rfl rfl ⟨rfl, rfl, rfl, rfl, rfl⟩ rfl rfl rfl rfl rfl (by kernel_rfl) Try.func4 (by kernel_rfl)
    (of_decide_eq_true (by kernel_rfl)) (by unfold Func.isWrapper; first | (rw [if_pos (by decide +kernel)]; kernel_rfl) | (rw [if_neg (by decide +kernel)]; exact ⟨rfl, rfl⟩))
    (fun os started H enc _ => octetBits_lifted os started H enc)
#print axioms octetBits_proved
end Go.Proofs.Ytbljcfkdmchgaaa
