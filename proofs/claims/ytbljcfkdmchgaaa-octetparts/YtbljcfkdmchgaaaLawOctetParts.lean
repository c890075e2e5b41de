/- What is done with two texts is done part by part, wherever both are cut (octet.And, Or, Xor, Not, Count): for all texts. -/
import Derived.Test.YtbljcfkdmchgaaaOctWorks
import Derived.Test.YtbljcfkdmchgaaaOctLists
import Derived.ProofKit
import Derived.OpenShut
import Derived.ShutString
import Derived.ChangeOld
import Derived.Below
namespace Go.Proofs.Ytbljcfkdmchgaaa
open Go.ChangeShapes Go.WideShapes Go.ChangeAt Go.RowKit
open Go.ChangeMaps (open_string shut_string)
set_option linter.unusedVariables false

theorem mk_append (a b : List UInt8) : (⟨a.toArray⟩ : ByteArray) ++ ⟨b.toArray⟩ = ⟨(a ++ b).toArray⟩ := by
  apply ByteArray.ext
  simp [ByteArray.data_append]

set_option maxRecDepth 100000 in
set_option maxHeartbeats 2000000 in
theorem octetParts_1 (a b c d : List UInt8) (w : World) (h : 300 < a.length) :
    Calls Try.prog 9 #[.string ⟨a.toArray⟩, .string ⟨b.toArray⟩, .string ⟨c.toArray⟩, .string ⟨d.toArray⟩] w fun e w' => e = .returned (.bool true) ∧ Below w.heap.size w w' := by
  have c1 : decide (300 < (a.length : Int)) = true := by simp; omega
  go_enter Try.func9, Try.ntmps9
  go_wp2_with fail
  refine (works_any _).mono ?_; rintro e w1 ⟨rfl, hB⟩
  go_wp2
  go_ret
  exact ⟨rfl, hB⟩

set_option maxRecDepth 100000 in
set_option maxHeartbeats 2000000 in
theorem octetParts_2 (a b c d : List UInt8) (w : World) (h : a.length ≤ 300) (h2 : 300 < c.length) :
    Calls Try.prog 9 #[.string ⟨a.toArray⟩, .string ⟨b.toArray⟩, .string ⟨c.toArray⟩, .string ⟨d.toArray⟩] w fun e w' => e = .returned (.bool true) ∧ Below w.heap.size w w' := by
  have c1 : decide (300 < (a.length : Int)) = false := by simp; omega
  have c2 : decide (300 < (c.length : Int)) = true := by simp; omega
  go_enter Try.func9, Try.ntmps9
  go_wp2_with fail
  refine (works_any _).mono ?_; rintro e w1 ⟨rfl, hB⟩
  go_wp2
  go_ret
  exact ⟨rfl, hB⟩

set_option maxRecDepth 100000 in
set_option maxHeartbeats 2000000 in
theorem octetParts_3 (a b c d : List UInt8) (w : World) (h : a.length ≤ 300) (h2 : c.length ≤ 300) (h3 : b.length ≠ a.length) :
    Calls Try.prog 9 #[.string ⟨a.toArray⟩, .string ⟨b.toArray⟩, .string ⟨c.toArray⟩, .string ⟨d.toArray⟩] w fun e w' => e = .returned (.bool true) ∧ Below w.heap.size w w' := by
  have c1 : decide (300 < (a.length : Int)) = false := by simp; omega
  have c2 : decide (300 < (c.length : Int)) = false := by simp; omega
  have c3 : ((b.length : Int) != (a.length : Int)) = true := by rw [bne_iff_ne]; omega
  go_enter Try.func9, Try.ntmps9
  go_wp2_with fail
  refine (works_any _).mono ?_; rintro e w1 ⟨rfl, hB⟩
  go_wp2
  go_ret
  exact ⟨rfl, hB⟩

set_option maxRecDepth 100000 in
set_option maxHeartbeats 2000000 in
theorem octetParts_4 (a b c d : List UInt8) (w : World) (h : a.length ≤ 300) (h2 : c.length ≤ 300) (h3 : b.length = a.length) (h4 : d.length ≠ c.length) :
    Calls Try.prog 9 #[.string ⟨a.toArray⟩, .string ⟨b.toArray⟩, .string ⟨c.toArray⟩, .string ⟨d.toArray⟩] w fun e w' => e = .returned (.bool true) ∧ Below w.heap.size w w' := by
  have c1 : decide (300 < (a.length : Int)) = false := by simp; omega
  have c2 : decide (300 < (c.length : Int)) = false := by simp; omega
  have c3 : ((b.length : Int) != (a.length : Int)) = false := by rw [bne_eq_false_iff_eq]; omega
  have c4 : ((d.length : Int) != (c.length : Int)) = true := by rw [bne_iff_ne]; omega
  clear h3
  go_enter Try.func9, Try.ntmps9
  go_wp2_with fail
  refine (works_any _).mono ?_; rintro e w1 ⟨rfl, hB⟩
  go_wp2
  go_ret
  exact ⟨rfl, hB⟩

set_option maxRecDepth 100000 in
set_option maxHeartbeats 2000000 in
theorem octetParts_5 (a b c d : List UInt8) (w : World) (h : a.length ≤ 300) (h2 : c.length ≤ 300) (h3 : b.length = a.length) (h4 : d.length = c.length) :
    Calls Try.prog 9 #[.string ⟨a.toArray⟩, .string ⟨b.toArray⟩, .string ⟨c.toArray⟩, .string ⟨d.toArray⟩] w fun e w' => e = .returned (.bool true) ∧ Below w.heap.size w w' := by
  have c1 : decide (300 < (a.length : Int)) = false := by simp; omega
  have c2 : decide (300 < (c.length : Int)) = false := by simp; omega
  have c3 : ((b.length : Int) != (a.length : Int)) = false := by rw [bne_eq_false_iff_eq]; omega
  have c4 : ((d.length : Int) != (c.length : Int)) = false := by rw [bne_eq_false_iff_eq]; omega
  have l2 : b.length ≤ 300 := by omega
  have l4 : d.length ≤ 300 := by omega
  have hcat1 := fun W => run_string_add_lists (P := Try.prog) W a c (by omega) (by omega)
  have hcat2 := fun W => run_string_add_lists (P := Try.prog) W b d (by omega) (by omega)
  have H3 := Lib.hid h3
  have H4 := Lib.hid h4
  clear h3 h4
  go_enter Try.func9, Try.ntmps9
  go_wp2_with fail
  refine (works_any _).mono ?_; rintro e w1 ⟨rfl, hB⟩
  go_wp2_with fail
  ((with_reducible refine (and_l _ _ _ (by (repeat (first | rw [length_notL] | rw [length_pairL] | rw [List.length_append])); omega) (by (repeat (first | rw [length_notL] | rw [length_pairL] | rw [List.length_append])); omega)).mono ?_); rintro e w2 ⟨rfl, hb2⟩)
  replace hB := hB.trans (hb2.mono hB.size); clear hb2
  rw [pairL_append _ a b c d H3.out.symm]
  go_wp2_with fail
  ((with_reducible refine (and_l _ _ _ (by (repeat (first | rw [length_notL] | rw [length_pairL] | rw [List.length_append])); omega) (by (repeat (first | rw [length_notL] | rw [length_pairL] | rw [List.length_append])); omega)).mono ?_); rintro e w2 ⟨rfl, hb2⟩)
  replace hB := hB.trans (hb2.mono hB.size); clear hb2
  have hxand : (pairL (· &&& ·) a b).length ≤ 300 := by rw [length_pairL]; omega
  generalize pairL (· &&& ·) a b = xand at hxand ⊢
  go_wp2_with fail
  ((with_reducible refine (and_l _ _ _ (by (repeat (first | rw [length_notL] | rw [length_pairL] | rw [List.length_append])); omega) (by (repeat (first | rw [length_notL] | rw [length_pairL] | rw [List.length_append])); omega)).mono ?_); rintro e w2 ⟨rfl, hb2⟩)
  replace hB := hB.trans (hb2.mono hB.size); clear hb2
  have hyand : (pairL (· &&& ·) c d).length ≤ 300 := by rw [length_pairL]; omega
  generalize pairL (· &&& ·) c d = yand at hyand ⊢
  have hcatand := fun W => run_string_add_lists (P := Try.prog) W xand yand (by omega) (by omega)
  go_wp2_with fail
  ((with_reducible refine (or_l _ _ _ (by (repeat (first | rw [length_notL] | rw [length_pairL] | rw [List.length_append])); omega) (by (repeat (first | rw [length_notL] | rw [length_pairL] | rw [List.length_append])); omega)).mono ?_); rintro e w2 ⟨rfl, hb2⟩)
  replace hB := hB.trans (hb2.mono hB.size); clear hb2
  rw [pairL_append _ a b c d H3.out.symm]
  go_wp2_with fail
  ((with_reducible refine (or_l _ _ _ (by (repeat (first | rw [length_notL] | rw [length_pairL] | rw [List.length_append])); omega) (by (repeat (first | rw [length_notL] | rw [length_pairL] | rw [List.length_append])); omega)).mono ?_); rintro e w2 ⟨rfl, hb2⟩)
  replace hB := hB.trans (hb2.mono hB.size); clear hb2
  have hxor : (pairL (· ||| ·) a b).length ≤ 300 := by rw [length_pairL]; omega
  generalize pairL (· ||| ·) a b = xor at hxor ⊢
  go_wp2_with fail
  ((with_reducible refine (or_l _ _ _ (by (repeat (first | rw [length_notL] | rw [length_pairL] | rw [List.length_append])); omega) (by (repeat (first | rw [length_notL] | rw [length_pairL] | rw [List.length_append])); omega)).mono ?_); rintro e w2 ⟨rfl, hb2⟩)
  replace hB := hB.trans (hb2.mono hB.size); clear hb2
  have hyor : (pairL (· ||| ·) c d).length ≤ 300 := by rw [length_pairL]; omega
  generalize pairL (· ||| ·) c d = yor at hyor ⊢
  have hcator := fun W => run_string_add_lists (P := Try.prog) W xor yor (by omega) (by omega)
  go_wp2_with fail
  ((with_reducible refine (xor_l _ _ _ (by (repeat (first | rw [length_notL] | rw [length_pairL] | rw [List.length_append])); omega) (by (repeat (first | rw [length_notL] | rw [length_pairL] | rw [List.length_append])); omega)).mono ?_); rintro e w2 ⟨rfl, hb2⟩)
  replace hB := hB.trans (hb2.mono hB.size); clear hb2
  rw [pairL_append _ a b c d H3.out.symm]
  go_wp2_with fail
  ((with_reducible refine (xor_l _ _ _ (by (repeat (first | rw [length_notL] | rw [length_pairL] | rw [List.length_append])); omega) (by (repeat (first | rw [length_notL] | rw [length_pairL] | rw [List.length_append])); omega)).mono ?_); rintro e w2 ⟨rfl, hb2⟩)
  replace hB := hB.trans (hb2.mono hB.size); clear hb2
  have hxxor : (pairL (· ^^^ ·) a b).length ≤ 300 := by rw [length_pairL]; omega
  generalize pairL (· ^^^ ·) a b = xxor at hxxor ⊢
  go_wp2_with fail
  ((with_reducible refine (xor_l _ _ _ (by (repeat (first | rw [length_notL] | rw [length_pairL] | rw [List.length_append])); omega) (by (repeat (first | rw [length_notL] | rw [length_pairL] | rw [List.length_append])); omega)).mono ?_); rintro e w2 ⟨rfl, hb2⟩)
  replace hB := hB.trans (hb2.mono hB.size); clear hb2
  have hyxor : (pairL (· ^^^ ·) c d).length ≤ 300 := by rw [length_pairL]; omega
  generalize pairL (· ^^^ ·) c d = yxor at hyxor ⊢
  have hcatxor := fun W => run_string_add_lists (P := Try.prog) W xxor yxor (by omega) (by omega)
  go_wp2_with fail
  ((with_reducible refine (not_l _ _ (by (repeat (first | rw [length_notL] | rw [length_pairL] | rw [List.length_append])); omega)).mono ?_); rintro e w2 ⟨rfl, hb2⟩)
  replace hB := hB.trans (hb2.mono hB.size); clear hb2
  rw [notL_append]
  go_wp2_with fail
  ((with_reducible refine (not_l _ _ (by (repeat (first | rw [length_notL] | rw [length_pairL] | rw [List.length_append])); omega)).mono ?_); rintro e w2 ⟨rfl, hb2⟩)
  replace hB := hB.trans (hb2.mono hB.size); clear hb2
  have hxn : (notL a).length ≤ 300 := by rw [length_notL]; omega
  generalize notL a = xn at hxn ⊢
  go_wp2_with fail
  ((with_reducible refine (not_l _ _ (by (repeat (first | rw [length_notL] | rw [length_pairL] | rw [List.length_append])); omega)).mono ?_); rintro e w2 ⟨rfl, hb2⟩)
  replace hB := hB.trans (hb2.mono hB.size); clear hb2
  have hyn : (notL c).length ≤ 300 := by rw [length_notL]; omega
  generalize notL c = yn at hyn ⊢
  have hcatn := fun W => run_string_add_lists (P := Try.prog) W xn yn (by omega) (by omega)
  go_wp2_with fail
  ((with_reducible refine (count_l _ _ (by (repeat (first | rw [length_notL] | rw [length_pairL] | rw [List.length_append])); omega)).mono ?_); rintro e w2 ⟨rfl, rfl⟩)
  rw [countL_append]
  go_wp2_with fail
  ((with_reducible refine (count_l _ _ (by (repeat (first | rw [length_notL] | rw [length_pairL] | rw [List.length_append])); omega)).mono ?_); rintro e w2 ⟨rfl, rfl⟩)
  go_wp2_with fail
  ((with_reducible refine (count_l _ _ (by (repeat (first | rw [length_notL] | rw [length_pairL] | rw [List.length_append])); omega)).mono ?_); rintro e w2 ⟨rfl, rfl⟩)
  have k1 := countL_le a
  have k2 := countL_le c
  go_wp2
  go_ret
  exact ⟨rfl, hB⟩

theorem octetParts_walk (a0 a1 a2 a3 : ByteArray) (w0 : a0.size ≤ maxLen) (w1 : a1.size ≤ maxLen) (w2 : a2.size ≤ maxLen) (w3 : a3.size ≤ maxLen) (w : World) :
    Calls Try.prog 9 #[.string a0, .string a1, .string a2, .string a3] w fun e w' => e = .returned (.bool true) ∧ Below w.heap.size w w' := by
  rw [str_eta a0, str_eta a1, str_eta a2, str_eta a3]
  generalize a0.data.toList = a
  generalize a1.data.toList = b
  generalize a2.data.toList = c
  generalize a3.data.toList = d
  by_cases h : 300 < a.length
  · exact octetParts_1 a b c d w h
  · by_cases h2 : 300 < c.length
    · exact octetParts_2 a b c d w (by omega) h2
    · by_cases h3 : b.length = a.length
      · by_cases h4 : d.length = c.length
        · exact octetParts_5 a b c d w (by omega) (by omega) h3 h4
        · exact octetParts_4 a b c d w (by omega) (by omega) h3 h4
      · exact octetParts_3 a b c d w (by omega) (by omega) h3

set_option maxRecDepth 100000 in
theorem octetParts_lifted (os : Os) (started : os.Started) (H : Type) (enc : TypeId × Value → H) :
    ReturnsInHanded {} Try.checked os 9 .any (Rows.octetPartsSpec.pre6 enc Try.prog Try.f9 Rows.octetPartsRow.domain false) (Rows.octetPartsSpec.post enc Try.prog Try.f9 false true false false) := by
  refine returnsInHanded_of_change (C := Try.checked) (by kernel_rfl : ownKnob Try.prog.godebug = none) started (by kernel_rfl) Try.func9
    (ChangeSpec.witness6 (enc := enc) (C := Try.checked) false ⟨#[], #[.string ByteArray.empty, .string ByteArray.empty, .string ByteArray.empty, .string ByteArray.empty], []⟩ 8 (by kernel_rfl) (by kernel_rfl) (by kernel_rfl) (by kernel_rfl)) ?_
  intro W base args ds gs before hval0 hW hcnd _
  have hval : ∀ (j : Nat) t v, Try.f9.params[j]? = some t → args[j]? = some v → Value.okWide Try.prog W .any base t v := hval0
  have hW' := hW
  obtain ⟨p, q, hA0, hV, rfl, hfz, hnd⟩ := hW
  have hA : DataW.TrodAll enc Try.prog W 0 (fun _ => true) true Try.f9.params.toList args.toList ds p := hA0
  rw [Try.params9] at hA hval
  obtain ⟨v0, vs0, d0, ds0, p0, q0, hargs, rfl, rfl, h0, r0⟩ := trodAll_cons hA
  obtain ⟨v1, vs1, d1, ds1, p1, q1, rfl, rfl, rfl, h1, r1⟩ := trodAll_cons r0
  obtain ⟨v2, vs2, d2, ds2, p2, q2, rfl, rfl, rfl, h2, r2⟩ := trodAll_cons r1
  obtain ⟨v3, vs3, d3, ds3, p3, q3, rfl, rfl, rfl, h3, r3⟩ := trodAll_cons r2
  obtain ⟨rfl, rfl, rfl⟩ := trodAll_nil r3
  obtain rfl : args = #[v0, v1, v2, v3] := by cases args; simp_all
  obtain ⟨rfl, rfl⟩ := trodVars_none hV
  obtain ⟨a0, rfl, rfl, rfl, w0⟩ := open_string Try.underlying9 (hval 0 9 v0 rfl rfl) h0
  obtain ⟨a1, rfl, rfl, rfl, w1⟩ := open_string Try.underlying9 (hval 1 9 v1 rfl rfl) h1
  obtain ⟨a2, rfl, rfl, rfl, w2⟩ := open_string Try.underlying9 (hval 2 9 v2 rfl rfl) h2
  obtain ⟨a3, rfl, rfl, rfl, w3⟩ := open_string Try.underlying9 (hval 3 9 v3 rfl rfl) h3
  clear hA0 hval0
  simp only [List.append_nil] at hW'
  refine (octetParts_walk a0 a1 a2 a3 w0 w1 w2 w3 W).mono fun e W' ⟨he, bel⟩ => ?_
  subst he
  exact ⟨_, rfl, _, _, _, [], [], [], hW', trodAll_mk1 (shut_bool Try.underlying4 _), (trodAll_cons_mk (shut_string Try.underlying9 w0) (trodAll_cons_mk (shut_string Try.underlying9 w1) (trodAll_cons_mk (shut_string Try.underlying9 w2) (trodAll_cons_mk (shut_string Try.underlying9 w3) trodAll_mk0)))), rfl, bel.frame _, fun h => by cases h⟩
/-- THE STATEMENT. -/
theorem octetParts_proved : Rows.OctetPartsSaid :=
  OpenClaim.holds_of_wide 9 Try.f9 rfl rfl rfl rfl rfl rfl rfl ⟨rfl, rfl, rfl, rfl, rfl⟩ rfl rfl rfl rfl rfl (by kernel_rfl) Try.func9 (by kernel_rfl)
    (of_decide_eq_true (by kernel_rfl)) (by unfold Func.isWrapper; first | (rw [if_pos (by decide +kernel)]; kernel_rfl) | (rw [if_neg (by decide +kernel)]; exact ⟨rfl, rfl⟩))
    (fun os started H enc _ => octetParts_lifted os started H enc)
#print axioms octetParts_proved
end Go.Proofs.Ytbljcfkdmchgaaa
