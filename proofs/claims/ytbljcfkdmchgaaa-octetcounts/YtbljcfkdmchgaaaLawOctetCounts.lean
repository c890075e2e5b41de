/- As many bits as both, and as one of them, have two texts of one length, together; and a text, and it turned, have all (octet.Count, And, Or, Xor, Not, Ones): for all texts. -/
import Derived.Test.YtbljcfkdmchgaaaOctWorks
import Derived.Test.YtbljcfkdmchgaaaOctLists
import Derived.ProofKit
import Derived.OpenShut
import Derived.ShutString
import Derived.ChangeOld
import Derived.Below
namespace Go.Proofs.Ytbljcfkdmchgaaa
open Go.ChangeShapes Go.WideShapes Go.ChangeAt Go.RowKit
open Go.ChangeMaps (open_string shut_string)
set_option linter.unusedVariables false

theorem onesL_nat (a : List UInt8) (h : a.length ≤ 300) : onesL (a.length : Int) = List.replicate a.length 255 := by
  unfold onesL
  rw [if_pos (by omega), Int.toNat_natCast]

set_option maxRecDepth 100000 in
set_option maxHeartbeats 2000000 in
theorem octetCounts_1 (a b : List UInt8) (w : World) (h : 300 < a.length) :
    Calls Try.prog 7 #[.string ⟨a.toArray⟩, .string ⟨b.toArray⟩] w fun e w' => e = .returned (.bool true) ∧ Below w.heap.size w w' := by
  have c1 : decide (300 < (a.length : Int)) = true := by simp; omega
  go_enter Try.func7, Try.ntmps7
  go_wp2_with fail
  refine (works_any _).mono ?_; rintro e w1 ⟨rfl, hB⟩
  go_wp2
  go_ret
  exact ⟨rfl, hB⟩

set_option maxRecDepth 100000 in
set_option maxHeartbeats 2000000 in
theorem octetCounts_2 (a b : List UInt8) (w : World) (h : a.length ≤ 300) (h2 : b.length ≠ a.length) :
    Calls Try.prog 7 #[.string ⟨a.toArray⟩, .string ⟨b.toArray⟩] w fun e w' => e = .returned (.bool true) ∧ Below w.heap.size w w' := by
  have c1 : decide (300 < (a.length : Int)) = false := by simp; omega
  have c2 : ((b.length : Int) != (a.length : Int)) = true := by rw [bne_iff_ne]; omega
  go_enter Try.func7, Try.ntmps7
  go_wp2_with fail
  refine (works_any _).mono ?_; rintro e w1 ⟨rfl, hB⟩
  go_wp2
  go_ret
  exact ⟨rfl, hB⟩

set_option maxRecDepth 100000 in
set_option maxHeartbeats 2000000 in
theorem octetCounts_3 (a b : List UInt8) (w : World) (h : a.length ≤ 300) (h2 : b.length = a.length) :
    Calls Try.prog 7 #[.string ⟨a.toArray⟩, .string ⟨b.toArray⟩] w fun e w' => e = .returned (.bool true) ∧ Below w.heap.size w w' := by
  have c1 : decide (300 < (a.length : Int)) = false := by simp; omega
  have c2 : ((b.length : Int) != (a.length : Int)) = false := by rw [bne_eq_false_iff_eq]; omega
  have l2 : b.length ≤ 300 := by omega
  have f1 := count_and_or a b h2.symm
  have f2 := count_xor a b h2.symm
  have f3 := count_not a
  have f4 := count_ones a.length
  rw [← onesL_nat a h] at f4
  have k0 := countL_le a
  have k1 := countL_le b
  have k2 := countL_le (notL a)
  have k3 := countL_le (pairL (· &&& ·) a b)
  have k4 := countL_le (pairL (· ||| ·) a b)
  have k5 := countL_le (pairL (· ^^^ ·) a b)
  rw [length_notL] at k2
  rw [length_pairL] at k3 k4 k5
  have t1 : ((countL (pairL (· &&& ·) a b) : Int) + (countL (pairL (· ||| ·) a b) : Int) == (countL a : Int) + (countL b : Int)) = true := by rw [beq_iff_eq]; omega
  have t2 : ((countL (pairL (· ^^^ ·) a b) : Int) == (countL (pairL (· ||| ·) a b) : Int) - (countL (pairL (· &&& ·) a b) : Int)) = true := by rw [beq_iff_eq]; omega
  have t3 : ((countL a : Int) + (countL (notL a) : Int) == 8 * (a.length : Int)) = true := by rw [beq_iff_eq]; omega
  have t4 : ((countL (onesL (a.length : Int)) : Int) == 8 * (a.length : Int)) = true := by rw [beq_iff_eq]; omega
  have F0 := Lib.hid (And.intro t1 (And.intro t2 (And.intro t3 t4)))
  have k6 : 0 ≤ (countL (pairL (· ||| ·) a b) : Int) - (countL (pairL (· &&& ·) a b) : Int) := by omega
  clear t1 t2 t3 t4 f1 f2 f3 f4 h2
  go_enter Try.func7, Try.ntmps7
  go_wp2_with fail
  refine (works_any _).mono ?_; rintro e w1 ⟨rfl, hB⟩
  go_wp2_with fail
  ((with_reducible refine (and_l _ _ _ (by (repeat (first | rw [length_notL] | rw [length_pairL] | rw [List.length_append])); omega) (by (repeat (first | rw [length_notL] | rw [length_pairL] | rw [List.length_append])); omega)).mono ?_); rintro e w2 ⟨rfl, hb2⟩)
  replace hB := hB.trans (hb2.mono hB.size); clear hb2
  go_wp2_with fail
  ((with_reducible refine (count_l _ _ (by (repeat (first | rw [length_notL] | rw [length_pairL] | rw [List.length_append])); omega)).mono ?_); rintro e w2 ⟨rfl, rfl⟩)
  go_wp2_with fail
  ((with_reducible refine (or_l _ _ _ (by (repeat (first | rw [length_notL] | rw [length_pairL] | rw [List.length_append])); omega) (by (repeat (first | rw [length_notL] | rw [length_pairL] | rw [List.length_append])); omega)).mono ?_); rintro e w2 ⟨rfl, hb2⟩)
  replace hB := hB.trans (hb2.mono hB.size); clear hb2
  go_wp2_with fail
  ((with_reducible refine (count_l _ _ (by (repeat (first | rw [length_notL] | rw [length_pairL] | rw [List.length_append])); omega)).mono ?_); rintro e w2 ⟨rfl, rfl⟩)
  go_wp2_with fail
  ((with_reducible refine (xor_l _ _ _ (by (repeat (first | rw [length_notL] | rw [length_pairL] | rw [List.length_append])); omega) (by (repeat (first | rw [length_notL] | rw [length_pairL] | rw [List.length_append])); omega)).mono ?_); rintro e w2 ⟨rfl, hb2⟩)
  replace hB := hB.trans (hb2.mono hB.size); clear hb2
  go_wp2_with fail
  ((with_reducible refine (count_l _ _ (by (repeat (first | rw [length_notL] | rw [length_pairL] | rw [List.length_append])); omega)).mono ?_); rintro e w2 ⟨rfl, rfl⟩)
  go_wp2_with fail
  ((with_reducible refine (count_l _ _ (by (repeat (first | rw [length_notL] | rw [length_pairL] | rw [List.length_append])); omega)).mono ?_); rintro e w2 ⟨rfl, rfl⟩)
  go_wp2_with fail
  ((with_reducible refine (count_l _ _ (by (repeat (first | rw [length_notL] | rw [length_pairL] | rw [List.length_append])); omega)).mono ?_); rintro e w2 ⟨rfl, rfl⟩)
  have t1 := F0.out.1
  have t2 := F0.out.2.1
  go_wp2_with fail
  ((with_reducible refine (count_l _ _ (by (repeat (first | rw [length_notL] | rw [length_pairL] | rw [List.length_append])); omega)).mono ?_); rintro e w2 ⟨rfl, rfl⟩)
  go_wp2_with fail
  ((with_reducible refine (not_l _ _ (by (repeat (first | rw [length_notL] | rw [length_pairL] | rw [List.length_append])); omega)).mono ?_); rintro e w2 ⟨rfl, hb2⟩)
  replace hB := hB.trans (hb2.mono hB.size); clear hb2
  go_wp2_with fail
  ((with_reducible refine (count_l _ _ (by (repeat (first | rw [length_notL] | rw [length_pairL] | rw [List.length_append])); omega)).mono ?_); rintro e w2 ⟨rfl, rfl⟩)
  have t3 := F0.out.2.2.1
  go_wp2_with fail
  ((with_reducible refine (ones_any _ _).mono ?_); rintro e w2 ⟨rfl, hb2⟩)
  replace hB := hB.trans (hb2.mono hB.size); clear hb2
  go_wp2_with fail
  ((with_reducible refine (count_l _ _ (by rw [onesL_nat a h, List.length_replicate]; omega)).mono ?_); rintro e w2 ⟨rfl, rfl⟩)
  have t4 := F0.out.2.2.2
  go_wp2
  go_ret
  exact ⟨rfl, hB⟩

theorem octetCounts_walk (a0 a1 : ByteArray) (w0 : a0.size ≤ maxLen) (w1 : a1.size ≤ maxLen) (w : World) :
    Calls Try.prog 7 #[.string a0, .string a1] w fun e w' => e = .returned (.bool true) ∧ Below w.heap.size w w' := by
  rw [str_eta a0, str_eta a1]
  generalize a0.data.toList = a
  generalize a1.data.toList = b
  by_cases h : 300 < a.length
  · exact octetCounts_1 a b w h
  · by_cases h2 : b.length = a.length
    · exact octetCounts_3 a b w (by omega) h2
    · exact octetCounts_2 a b w (by omega) h2

set_option maxRecDepth 100000 in
theorem octetCounts_lifted (os : Os) (started : os.Started) (H : Type) (enc : TypeId × Value → H) :
    ReturnsInHanded {} Try.checked os 7 .any (Rows.octetCountsSpec.pre6 enc Try.prog Try.f7 Rows.octetCountsRow.domain false) (Rows.octetCountsSpec.post enc Try.prog Try.f7 false true false false) := by
  refine returnsInHanded_of_change (C := Try.checked) (by kernel_rfl : ownKnob Try.prog.godebug = none) started (by kernel_rfl) Try.func7
    (ChangeSpec.witness6 (enc := enc) (C := Try.checked) false ⟨#[], #[.string ByteArray.empty, .string ByteArray.empty], []⟩ 8 (by kernel_rfl) (by kernel_rfl) (by kernel_rfl) (by kernel_rfl)) ?_
  intro W base args ds gs before hval0 hW hcnd _
  have hval : ∀ (j : Nat) t v, Try.f7.params[j]? = some t → args[j]? = some v → Value.okWide Try.prog W .any base t v := hval0
  have hW' := hW
  obtain ⟨p, q, hA0, hV, rfl, hfz, hnd⟩ := hW
  have hA : DataW.TrodAll enc Try.prog W 0 (fun _ => true) true Try.f7.params.toList args.toList ds p := hA0
  rw [Try.params7] at hA hval
  obtain ⟨v0, vs0, d0, ds0, p0, q0, hargs, rfl, rfl, h0, r0⟩ := trodAll_cons hA
  obtain ⟨v1, vs1, d1, ds1, p1, q1, rfl, rfl, rfl, h1, r1⟩ := trodAll_cons r0
  obtain ⟨rfl, rfl, rfl⟩ := trodAll_nil r1
  obtain rfl : args = #[v0, v1] := by cases args; simp_all
  obtain ⟨rfl, rfl⟩ := trodVars_none hV
  obtain ⟨a0, rfl, rfl, rfl, w0⟩ := open_string Try.underlying9 (hval 0 9 v0 rfl rfl) h0
  obtain ⟨a1, rfl, rfl, rfl, w1⟩ := open_string Try.underlying9 (hval 1 9 v1 rfl rfl) h1
  clear hA0 hval0
  simp only [List.append_nil] at hW'
  refine (octetCounts_walk a0 a1 w0 w1 W).mono fun e W' ⟨he, bel⟩ => ?_
  subst he
  exact ⟨_, rfl, _, _, _, [], [], [], hW', trodAll_mk1 (shut_bool Try.underlying4 _), (trodAll_cons_mk (shut_string Try.underlying9 w0) (trodAll_cons_mk (shut_string Try.underlying9 w1) trodAll_mk0)), rfl, bel.frame _, fun h => by cases h⟩
/-- THE STATEMENT. -/
theorem octetCounts_proved : Rows.OctetCountsSaid :=
  OpenClaim.holds_of_wide 7 Try.f7 rfl rfl rfl rfl rfl rfl rfl ⟨rfl, rfl, rfl, rfl, rfl⟩ rfl rfl rfl rfl rfl (by kernel_rfl) Try.func7 (by kernel_rfl)
    (of_decide_eq_true (by kernel_rfl)) (by unfold Func.isWrapper; first | (rw [if_pos (by decide +kernel)]; kernel_rfl) | (rw [if_neg (by decide +kernel)]; exact ⟨rfl, rfl⟩))
    (fun os started H enc _ => octetCounts_lifted os started H enc)
#print axioms octetCounts_proved
end Go.Proofs.Ytbljcfkdmchgaaa
