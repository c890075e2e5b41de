/- Turned twice a text is as it was; turned, both come to be one, and one both; just one, twice, is what it was (octet.Not, And, Or, Xor): for all texts. -/
import Derived.Test.YtbljcfkdmchgaaaOctWorks
import Derived.Test.YtbljcfkdmchgaaaOctLists
import Derived.ProofKit
import Derived.OpenShut
import Derived.ShutString
import Derived.ChangeOld
import Derived.Below
namespace Go.Proofs.Ytbljcfkdmchgaaa
open Go.ChangeShapes Go.WideShapes Go.ChangeAt Go.RowKit
open Go.ChangeMaps (open_string shut_string)
set_option linter.unusedVariables false

set_option maxRecDepth 100000 in
set_option maxHeartbeats 1000000 in
theorem octetTurns_ne (a b : List UInt8) (ha : a.length ≤ 300) (hb : b.length ≤ 300) (hab : a.length ≠ b.length) (w : World) :
    Calls Try.prog 6 #[.string ⟨a.toArray⟩, .string ⟨b.toArray⟩] w fun e w' => e = .returned (.bool true) ∧ Below w.heap.size w w' := by
  have c1 : decide (300 < (a.length : Int)) = false := by simp; omega
  have c2 : decide (300 < (b.length : Int)) = false := by simp; omega
  have x1 := fun (x y : UInt8) => (show x ^^^ y ^^^ y = x by rw [UInt8.xor_assoc, UInt8.xor_self, UInt8.xor_zero])
  have X1 := Lib.hid x1
  clear x1
  have t5 : ((a.length : Int) != (b.length : Int)) = true := by rw [bne_iff_ne]; omega
  go_enter Try.func6, Try.ntmps6
  go_wp2_with fail
  refine (works_any _).mono ?_; rintro e w1 ⟨rfl, hB⟩
  go_wp2_with fail
  ((with_reducible refine (not_l _ _ (by (repeat (first | rw [length_notL] | rw [length_pairL] | rw [List.length_append])); omega)).mono ?_); rintro e w2 ⟨rfl, hb2⟩)
  replace hB := hB.trans (hb2.mono hB.size); clear hb2
  go_wp2_with fail
  ((with_reducible refine (not_l _ _ (by (repeat (first | rw [length_notL] | rw [length_pairL] | rw [List.length_append])); omega)).mono ?_); rintro e w2 ⟨rfl, hb2⟩)
  replace hB := hB.trans (hb2.mono hB.size); clear hb2
  rw [notL_notL]
  go_wp2_with fail
  ((with_reducible refine (xor_l _ _ _ (by (repeat (first | rw [length_notL] | rw [length_pairL] | rw [List.length_append])); omega) (by (repeat (first | rw [length_notL] | rw [length_pairL] | rw [List.length_append])); omega)).mono ?_); rintro e w2 ⟨rfl, hb2⟩)
  replace hB := hB.trans (hb2.mono hB.size); clear hb2
  go_wp2_with fail
  ((with_reducible refine (xor_l _ _ _ (by (repeat (first | rw [length_notL] | rw [length_pairL] | rw [List.length_append])); omega) (by (repeat (first | rw [length_notL] | rw [length_pairL] | rw [List.length_append])); omega)).mono ?_); rintro e w2 ⟨rfl, hb2⟩)
  replace hB := hB.trans (hb2.mono hB.size); clear hb2
  rw [pairL_twice _ X1.out]
  go_wp2_with fail
  ((with_reducible refine (and_l _ _ _ (by (repeat (first | rw [length_notL] | rw [length_pairL] | rw [List.length_append])); omega) (by (repeat (first | rw [length_notL] | rw [length_pairL] | rw [List.length_append])); omega)).mono ?_); rintro e w2 ⟨rfl, hb2⟩)
  replace hB := hB.trans (hb2.mono hB.size); clear hb2
  rw [pairL_self _ (fun x => UInt8.and_self)]
  go_wp2_with fail
  ((with_reducible refine (or_l _ _ _ (by (repeat (first | rw [length_notL] | rw [length_pairL] | rw [List.length_append])); omega) (by (repeat (first | rw [length_notL] | rw [length_pairL] | rw [List.length_append])); omega)).mono ?_); rintro e w2 ⟨rfl, hb2⟩)
  replace hB := hB.trans (hb2.mono hB.size); clear hb2
  rw [pairL_self _ (fun x => UInt8.or_self)]
  go_wp2
  go_ret
  exact ⟨rfl, hB⟩

set_option maxRecDepth 100000 in
set_option maxHeartbeats 2000000 in
theorem octetTurns_eq (a b : List UInt8) (ha : a.length ≤ 300) (hb : b.length ≤ 300) (hab : a.length = b.length) (w : World) :
    Calls Try.prog 6 #[.string ⟨a.toArray⟩, .string ⟨b.toArray⟩] w fun e w' => e = .returned (.bool true) ∧ Below w.heap.size w w' := by
  have c1 : decide (300 < (a.length : Int)) = false := by simp; omega
  have c2 : decide (300 < (b.length : Int)) = false := by simp; omega
  have x1 := fun (x y : UInt8) => (show x ^^^ y ^^^ y = x by rw [UInt8.xor_assoc, UInt8.xor_self, UInt8.xor_zero])
  have X1 := Lib.hid x1
  clear x1
  have t5 : ((a.length : Int) != (b.length : Int)) = false := by rw [bne_eq_false_iff_eq]; omega
  have HAB := Lib.hid hab
  clear hab
  go_enter Try.func6, Try.ntmps6
  go_wp2_with fail
  refine (works_any _).mono ?_; rintro e w1 ⟨rfl, hB⟩
  go_wp2_with fail
  ((with_reducible refine (not_l _ _ (by (repeat (first | rw [length_notL] | rw [length_pairL] | rw [List.length_append])); omega)).mono ?_); rintro e w2 ⟨rfl, hb2⟩)
  replace hB := hB.trans (hb2.mono hB.size); clear hb2
  go_wp2_with fail
  ((with_reducible refine (not_l _ _ (by (repeat (first | rw [length_notL] | rw [length_pairL] | rw [List.length_append])); omega)).mono ?_); rintro e w2 ⟨rfl, hb2⟩)
  replace hB := hB.trans (hb2.mono hB.size); clear hb2
  rw [notL_notL]
  go_wp2_with fail
  ((with_reducible refine (xor_l _ _ _ (by (repeat (first | rw [length_notL] | rw [length_pairL] | rw [List.length_append])); omega) (by (repeat (first | rw [length_notL] | rw [length_pairL] | rw [List.length_append])); omega)).mono ?_); rintro e w2 ⟨rfl, hb2⟩)
  replace hB := hB.trans (hb2.mono hB.size); clear hb2
  go_wp2_with fail
  ((with_reducible refine (xor_l _ _ _ (by (repeat (first | rw [length_notL] | rw [length_pairL] | rw [List.length_append])); omega) (by (repeat (first | rw [length_notL] | rw [length_pairL] | rw [List.length_append])); omega)).mono ?_); rintro e w2 ⟨rfl, hb2⟩)
  replace hB := hB.trans (hb2.mono hB.size); clear hb2
  rw [pairL_twice _ X1.out]
  go_wp2_with fail
  ((with_reducible refine (and_l _ _ _ (by (repeat (first | rw [length_notL] | rw [length_pairL] | rw [List.length_append])); omega) (by (repeat (first | rw [length_notL] | rw [length_pairL] | rw [List.length_append])); omega)).mono ?_); rintro e w2 ⟨rfl, hb2⟩)
  replace hB := hB.trans (hb2.mono hB.size); clear hb2
  rw [pairL_self _ (fun x => UInt8.and_self)]
  go_wp2_with fail
  ((with_reducible refine (or_l _ _ _ (by (repeat (first | rw [length_notL] | rw [length_pairL] | rw [List.length_append])); omega) (by (repeat (first | rw [length_notL] | rw [length_pairL] | rw [List.length_append])); omega)).mono ?_); rintro e w2 ⟨rfl, hb2⟩)
  replace hB := hB.trans (hb2.mono hB.size); clear hb2
  rw [pairL_self _ (fun x => UInt8.or_self)]
  go_wp2_with fail
  ((with_reducible refine (and_l _ _ _ (by (repeat (first | rw [length_notL] | rw [length_pairL] | rw [List.length_append])); omega) (by (repeat (first | rw [length_notL] | rw [length_pairL] | rw [List.length_append])); omega)).mono ?_); rintro e w2 ⟨rfl, hb2⟩)
  replace hB := hB.trans (hb2.mono hB.size); clear hb2
  go_wp2_with fail
  ((with_reducible refine (not_l _ _ (by (repeat (first | rw [length_notL] | rw [length_pairL] | rw [List.length_append])); omega)).mono ?_); rintro e w2 ⟨rfl, hb2⟩)
  replace hB := hB.trans (hb2.mono hB.size); clear hb2
  go_wp2_with fail
  ((with_reducible refine (not_l _ _ (by (repeat (first | rw [length_notL] | rw [length_pairL] | rw [List.length_append])); omega)).mono ?_); rintro e w2 ⟨rfl, hb2⟩)
  replace hB := hB.trans (hb2.mono hB.size); clear hb2
  go_wp2_with fail
  ((with_reducible refine (not_l _ _ (by (repeat (first | rw [length_notL] | rw [length_pairL] | rw [List.length_append])); omega)).mono ?_); rintro e w2 ⟨rfl, hb2⟩)
  replace hB := hB.trans (hb2.mono hB.size); clear hb2
  go_wp2_with fail
  ((with_reducible refine (or_l _ _ _ (by (repeat (first | rw [length_notL] | rw [length_pairL] | rw [List.length_append])); omega) (by (repeat (first | rw [length_notL] | rw [length_pairL] | rw [List.length_append])); omega)).mono ?_); rintro e w2 ⟨rfl, hb2⟩)
  replace hB := hB.trans (hb2.mono hB.size); clear hb2
  rw [← notL_pairL _ _ not_and8 a b HAB.out]
  go_wp2_with fail
  ((with_reducible refine (or_l _ _ _ (by (repeat (first | rw [length_notL] | rw [length_pairL] | rw [List.length_append])); omega) (by (repeat (first | rw [length_notL] | rw [length_pairL] | rw [List.length_append])); omega)).mono ?_); rintro e w2 ⟨rfl, hb2⟩)
  replace hB := hB.trans (hb2.mono hB.size); clear hb2
  go_wp2_with fail
  ((with_reducible refine (not_l _ _ (by (repeat (first | rw [length_notL] | rw [length_pairL] | rw [List.length_append])); omega)).mono ?_); rintro e w2 ⟨rfl, hb2⟩)
  replace hB := hB.trans (hb2.mono hB.size); clear hb2
  go_wp2_with fail
  ((with_reducible refine (not_l _ _ (by (repeat (first | rw [length_notL] | rw [length_pairL] | rw [List.length_append])); omega)).mono ?_); rintro e w2 ⟨rfl, hb2⟩)
  replace hB := hB.trans (hb2.mono hB.size); clear hb2
  go_wp2_with fail
  ((with_reducible refine (not_l _ _ (by (repeat (first | rw [length_notL] | rw [length_pairL] | rw [List.length_append])); omega)).mono ?_); rintro e w2 ⟨rfl, hb2⟩)
  replace hB := hB.trans (hb2.mono hB.size); clear hb2
  go_wp2_with fail
  ((with_reducible refine (and_l _ _ _ (by (repeat (first | rw [length_notL] | rw [length_pairL] | rw [List.length_append])); omega) (by (repeat (first | rw [length_notL] | rw [length_pairL] | rw [List.length_append])); omega)).mono ?_); rintro e w2 ⟨rfl, hb2⟩)
  replace hB := hB.trans (hb2.mono hB.size); clear hb2
  rw [← notL_pairL _ _ not_or8 a b HAB.out]
  go_wp2_with fail
  ((with_reducible refine (and_l _ _ _ (by (repeat (first | rw [length_notL] | rw [length_pairL] | rw [List.length_append])); omega) (by (repeat (first | rw [length_notL] | rw [length_pairL] | rw [List.length_append])); omega)).mono ?_); rintro e w2 ⟨rfl, hb2⟩)
  replace hB := hB.trans (hb2.mono hB.size); clear hb2
  go_wp2_with fail
  ((with_reducible refine (and_l _ _ _ (by (repeat (first | rw [length_notL] | rw [length_pairL] | rw [List.length_append])); omega) (by (repeat (first | rw [length_notL] | rw [length_pairL] | rw [List.length_append])); omega)).mono ?_); rintro e w2 ⟨rfl, hb2⟩)
  replace hB := hB.trans (hb2.mono hB.size); clear hb2
  rw [pairL_comm _ (fun x y => UInt8.and_comm x y) b a HAB.out.symm]
  go_wp2_with fail
  ((with_reducible refine (or_l _ _ _ (by (repeat (first | rw [length_notL] | rw [length_pairL] | rw [List.length_append])); omega) (by (repeat (first | rw [length_notL] | rw [length_pairL] | rw [List.length_append])); omega)).mono ?_); rintro e w2 ⟨rfl, hb2⟩)
  replace hB := hB.trans (hb2.mono hB.size); clear hb2
  go_wp2_with fail
  ((with_reducible refine (or_l _ _ _ (by (repeat (first | rw [length_notL] | rw [length_pairL] | rw [List.length_append])); omega) (by (repeat (first | rw [length_notL] | rw [length_pairL] | rw [List.length_append])); omega)).mono ?_); rintro e w2 ⟨rfl, hb2⟩)
  replace hB := hB.trans (hb2.mono hB.size); clear hb2
  rw [pairL_comm _ (fun x y => UInt8.or_comm x y) b a HAB.out.symm]
  go_wp2_with fail
  ((with_reducible refine (xor_l _ _ _ (by (repeat (first | rw [length_notL] | rw [length_pairL] | rw [List.length_append])); omega) (by (repeat (first | rw [length_notL] | rw [length_pairL] | rw [List.length_append])); omega)).mono ?_); rintro e w2 ⟨rfl, hb2⟩)
  replace hB := hB.trans (hb2.mono hB.size); clear hb2
  go_wp2_with fail
  ((with_reducible refine (xor_l _ _ _ (by (repeat (first | rw [length_notL] | rw [length_pairL] | rw [List.length_append])); omega) (by (repeat (first | rw [length_notL] | rw [length_pairL] | rw [List.length_append])); omega)).mono ?_); rintro e w2 ⟨rfl, hb2⟩)
  replace hB := hB.trans (hb2.mono hB.size); clear hb2
  rw [pairL_comm _ (fun x y => UInt8.xor_comm x y) b a HAB.out.symm]
  go_wp2
  go_ret
  exact ⟨rfl, hB⟩

set_option maxRecDepth 100000 in
set_option maxHeartbeats 1000000 in
theorem octetTurns_long (a b : ByteArray) (h : 300 < a.size ∨ 300 < b.size) (w : World) : Calls Try.prog 6 #[.string a, .string b] w fun e w' => e = .returned (.bool true) ∧ Below w.heap.size w w' := by
  by_cases h1 : 300 < a.size
  · go_enter Try.func6, Try.ntmps6
    go_wp2_with (go_at_call 10; refine (works_any _).mono ?_; rintro e w1 ⟨rfl, hb1⟩)
    go_ret
    exact ⟨rfl, hb1⟩
  · have h2 : 300 < b.size := by omega
    have h1' : decide (300 < a.size) = false := by simpa using h1
    go_enter Try.func6, Try.ntmps6
    go_wp2_with (go_at_call 10; refine (works_any _).mono ?_; rintro e w1 ⟨rfl, hb1⟩)
    go_ret
    exact ⟨rfl, hb1⟩

theorem octetTurns_walk (a0 : ByteArray) (a1 : ByteArray) (w0 : a0.size ≤ maxLen) (w1 : a1.size ≤ maxLen) (w : World) :
    Calls Try.prog 6 #[.string a0, .string a1] w fun e w' => e = .returned (.bool true) ∧ Below w.heap.size w w' := by
  by_cases hl : 300 < a0.size ∨ 300 < a1.size
  · exact octetTurns_long a0 a1 hl w
  · have l0 : a0.data.toList.length = a0.size := by simp
    have l1 : a1.data.toList.length = a1.size := by simp
    rw [str_eta a0, str_eta a1]
    by_cases hab : a0.data.toList.length = a1.data.toList.length
    · exact octetTurns_eq _ _ (by omega) (by omega) hab w
    · exact octetTurns_ne _ _ (by omega) (by omega) hab w

set_option maxRecDepth 100000 in
theorem octetTurns_lifted (os : Os) (started : os.Started) (H : Type) (enc : TypeId × Value → H) :
    ReturnsInHanded {} Try.checked os 6 .any (Rows.octetTurnsSpec.pre6 enc Try.prog Try.f6 Rows.octetTurnsRow.domain false) (Rows.octetTurnsSpec.post enc Try.prog Try.f6 false true false false) := by
  refine returnsInHanded_of_change (C := Try.checked) (by kernel_rfl : ownKnob Try.prog.godebug = none) started (by kernel_rfl) Try.func6
    (ChangeSpec.witness6 (enc := enc) (C := Try.checked) false ⟨#[], #[.string ByteArray.empty, .string ByteArray.empty], []⟩ 8 (by kernel_rfl) (by kernel_rfl) (by kernel_rfl) (by kernel_rfl)) ?_
  intro W base args ds gs before hval0 hW hcnd _
  have hval : ∀ (j : Nat) t v, Try.f6.params[j]? = some t → args[j]? = some v → Value.okWide Try.prog W .any base t v := hval0
  have hW' := hW
  obtain ⟨p, q, hA0, hV, rfl, hfz, hnd⟩ := hW
  have hA : DataW.TrodAll enc Try.prog W 0 (fun _ => true) true Try.f6.params.toList args.toList ds p := hA0
  rw [Try.params6] at hA hval
  obtain ⟨v0, vs0, d0, ds0, p0, q0, hargs, rfl, rfl, h0, r0⟩ := trodAll_cons hA
  obtain ⟨v1, vs1, d1, ds1, p1, q1, rfl, rfl, rfl, h1, r1⟩ := trodAll_cons r0
  obtain ⟨rfl, rfl, rfl⟩ := trodAll_nil r1
  obtain rfl : args = #[v0, v1] := by cases args; simp_all
  obtain ⟨rfl, rfl⟩ := trodVars_none hV
  obtain ⟨a0, rfl, rfl, rfl, w0⟩ := open_string Try.underlying9 (hval 0 9 v0 rfl rfl) h0
  obtain ⟨a1, rfl, rfl, rfl, w1⟩ := open_string Try.underlying9 (hval 1 9 v1 rfl rfl) h1
  clear hA0 hval0
  simp only [List.append_nil] at hW'
  refine (octetTurns_walk a0 a1 w0 w1 W).mono fun e W' ⟨he, bel⟩ => ?_
  subst he
  exact ⟨_, rfl, _, _, _, [], [], [], hW', trodAll_mk1 (shut_bool Try.underlying4 _), (trodAll_cons_mk (shut_string Try.underlying9 w0) (trodAll_cons_mk (shut_string Try.underlying9 w1) trodAll_mk0)), rfl, bel.frame _, fun h => by cases h⟩
/-- THE STATEMENT. -/
theorem octetTurns_proved : Rows.OctetTurnsSaid :=
  OpenClaim.holds_of_wide 6 Try.f6 rfl rfl rfl rfl rfl rfl rfl ⟨rfl, rfl, rfl, rfl, rfl⟩ rfl rfl rfl rfl rfl (by kernel_rfl) Try.func6 (by kernel_rfl)
    (of_decide_eq_true (by kernel_rfl)) (by unfold Func.isWrapper; first | (rw [if_pos (by decide +kernel)]; kernel_rfl) | (rw [if_neg (by decide +kernel)]; exact ⟨rfl, rfl⟩))
    (fun os started H enc _ => octetTurns_lifted os started H enc)
#print axioms octetTurns_proved
end Go.Proofs.Ytbljcfkdmchgaaa
