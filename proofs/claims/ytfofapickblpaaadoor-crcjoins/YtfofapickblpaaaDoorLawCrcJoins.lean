/- The sum of two texts, one behind the other, is told by that of the first one, and the second one (crc.Sum, Add). -/
import Derived.Test.YtfofapickblpaaaDoorCrcWorks
import Derived.Test.YtfofapickblpaaaDoorCrcMore
import Derived.ProofKit
import Derived.OpenShut
import Derived.ShutString
import Derived.ChangeOld
import Derived.Below
namespace Go.Proofs.YtfofapickblpaaaDoor
open Go.ChangeShapes Go.WideShapes Go.ChangeAt Go.RowKit
open Go.ChangeMaps (open_string shut_string)
set_option linter.unusedVariables false

set_option maxRecDepth 100000 in
set_option maxHeartbeats 2000000 in
theorem crcJoins_1 (a b c : List UInt8) (w : World) (h : 200 < a.length) :
    Calls Tryd.prog 6 #[.string ⟨a.toArray⟩, .string ⟨b.toArray⟩, .string ⟨c.toArray⟩] w fun e w' => e = .returned (.bool true) ∧ Below w.heap.size w w' := by
  have c1 : decide (200 < (a.length : Int)) = true := by simp; omega
  go_enter Tryd.func6, Tryd.ntmps6
  go_wp2_with fail
  refine (works_any _).mono ?_; rintro e w1 ⟨rfl, hB⟩
  go_wp2
  go_ret
  exact ⟨rfl, hB⟩

set_option maxRecDepth 100000 in
set_option maxHeartbeats 2000000 in
theorem crcJoins_2 (a b c : List UInt8) (w : World) (h : a.length ≤ 200) (h2 : 200 < b.length) :
    Calls Tryd.prog 6 #[.string ⟨a.toArray⟩, .string ⟨b.toArray⟩, .string ⟨c.toArray⟩] w fun e w' => e = .returned (.bool true) ∧ Below w.heap.size w w' := by
  have c1 : decide (200 < (a.length : Int)) = false := by simp; omega
  have c2 : decide (200 < (b.length : Int)) = true := by simp; omega
  go_enter Tryd.func6, Tryd.ntmps6
  go_wp2_with fail
  refine (works_any _).mono ?_; rintro e w1 ⟨rfl, hB⟩
  go_wp2
  go_ret
  exact ⟨rfl, hB⟩

set_option maxRecDepth 100000 in
set_option maxHeartbeats 2000000 in
theorem crcJoins_3 (a b c : List UInt8) (w : World) (h : a.length ≤ 200) (h2 : b.length ≤ 200) (h3 : 200 < c.length) :
    Calls Tryd.prog 6 #[.string ⟨a.toArray⟩, .string ⟨b.toArray⟩, .string ⟨c.toArray⟩] w fun e w' => e = .returned (.bool true) ∧ Below w.heap.size w w' := by
  have c1 : decide (200 < (a.length : Int)) = false := by simp; omega
  have c2 : decide (200 < (b.length : Int)) = false := by simp; omega
  have c3 : decide (200 < (c.length : Int)) = true := by simp; omega
  go_enter Tryd.func6, Tryd.ntmps6
  go_wp2_with fail
  refine (works_any _).mono ?_; rintro e w1 ⟨rfl, hB⟩
  go_wp2
  go_ret
  exact ⟨rfl, hB⟩

set_option maxRecDepth 100000 in
set_option maxHeartbeats 2000000 in
theorem crcJoins_4 (a b c : List UInt8) (w : World) (h : a.length ≤ 200) (h2 : b.length ≤ 200) (h3 : c.length ≤ 200) :
    Calls Tryd.prog 6 #[.string ⟨a.toArray⟩, .string ⟨b.toArray⟩, .string ⟨c.toArray⟩] w fun e w' => e = .returned (.bool true) ∧ Below w.heap.size w w' := by
  have c1 : decide (200 < (a.length : Int)) = false := by simp; omega
  have c2 : decide (200 < (b.length : Int)) = false := by simp; omega
  have c3 : decide (200 < (c.length : Int)) = false := by simp; omega
  have hcat1 := fun W => run_string_add_lists (P := Tryd.prog) W b c (by omega) (by omega)
  have hcat2 := fun W => run_string_add_lists (P := Tryd.prog) W a b (by omega) (by omega)
  have hcat3 := fun W => run_string_add_lists (P := Tryd.prog) W (a ++ b) c (by rw [List.length_append]; omega) (by omega)
  have H5 := Lib.hid (show a ++ b ++ c = a ++ (b ++ c) from List.append_assoc a b c)
  have H1 := Lib.hid (sum_app a b)
  have H2 := Lib.hid (sum_app (a ++ b) c)
  have H3 := Lib.hid (sum_app a (b ++ c))
  have H4 := Lib.hid (List.append_assoc a b c)
  go_enter Tryd.func6, Tryd.ntmps6
  go_wp2_with fail
  refine (works_any _).mono ?_; rintro e w1 ⟨rfl, hB⟩
  go_wp2_with fail
  ((with_reducible refine (sum_any a _ (by omega)).mono ?_); rintro e w2 ⟨rfl, rfl⟩)
  go_wp2_with fail
  ((with_reducible refine (add_yes _ b _ (sumN_lt _) (by omega)).mono ?_); rintro e w2 ⟨rfl, rfl⟩)
  rw [H1.out]
  go_wp2_with fail
  ((with_reducible refine (add_yes _ c _ (sumN_lt _) (by omega)).mono ?_); rintro e w2 ⟨rfl, rfl⟩)
  rw [H2.out, H5.out]
  go_wp2_with fail
  ((with_reducible refine (sum_any a _ (by omega)).mono ?_); rintro e w2 ⟨rfl, rfl⟩)
  go_wp2_with fail
  ((with_reducible refine (add_yes _ (b ++ c) _ (sumN_lt _) (by rw [List.length_append]; omega)).mono ?_); rintro e w2 ⟨rfl, rfl⟩)
  rw [H3.out]
  go_wp2_with fail
  ((with_reducible refine (sum_any (a ++ b) _ (by rw [List.length_append]; omega)).mono ?_); rintro e w2 ⟨rfl, rfl⟩)
  go_wp2_with fail
  ((with_reducible refine (sum_any (a ++ (b ++ c)) _ (by rw [List.length_append, List.length_append]; omega)).mono ?_); rintro e w2 ⟨rfl, rfl⟩)
  go_wp2
  go_ret
  exact ⟨rfl, hB⟩

theorem crcJoins_walk (a0 a1 a2 : ByteArray) (w0 : a0.size ≤ maxLen) (w1 : a1.size ≤ maxLen) (w2 : a2.size ≤ maxLen) (w : World) :
    Calls Tryd.prog 6 #[.string a0, .string a1, .string a2] w fun e w' => e = .returned (.bool true) ∧ Below w.heap.size w w' := by
  rw [str_eta a0, str_eta a1, str_eta a2]
  generalize a0.data.toList = a
  generalize a1.data.toList = b
  generalize a2.data.toList = c
  by_cases h : 200 < a.length
  · exact crcJoins_1 a b c w h
  · by_cases h2 : 200 < b.length
    · exact crcJoins_2 a b c w (by omega) h2
    · by_cases h3 : 200 < c.length
      · exact crcJoins_3 a b c w (by omega) (by omega) h3
      · exact crcJoins_4 a b c w (by omega) (by omega) (by omega)

set_option maxRecDepth 100000 in
theorem crcJoins_lifted (os : Os) (started : os.Started) (H : Type) (enc : TypeId × Value → H) :
    ReturnsInHanded {} Tryd.checked os 6 .any (Rows.crcJoinsSpec.pre6 enc Tryd.prog Tryd.f6 Rows.crcJoinsRow.domain false) (Rows.crcJoinsSpec.post enc Tryd.prog Tryd.f6 false true false false) := by
  refine returnsInHanded_of_change (C := Tryd.checked) (by kernel_rfl : ownKnob Tryd.prog.godebug = none) started (by kernel_rfl) Tryd.func6
    (ChangeSpec.witness6 (enc := enc) (C := Tryd.checked) false ⟨#[], #[.string ByteArray.empty, .string ByteArray.empty, .string ByteArray.empty], []⟩ 8 (by kernel_rfl) (by kernel_rfl) (by kernel_rfl) (by kernel_rfl)) ?_
  intro W base args ds gs before hval0 hW hcnd _
  have hval : ∀ (j : Nat) t v, Tryd.f6.params[j]? = some t → args[j]? = some v → Value.okWide Tryd.prog W .any base t v := hval0
  have hW' := hW
  obtain ⟨p, q, hA0, hV, rfl, hfz, hnd⟩ := hW
  have hA : DataW.TrodAll enc Tryd.prog W 0 (fun _ => true) true Tryd.f6.params.toList args.toList ds p := hA0
  rw [Tryd.params6] at hA hval
  obtain ⟨v0, vs0, d0, ds0, p0, q0, hargs, rfl, rfl, h0, r0⟩ := trodAll_cons hA
  obtain ⟨v1, vs1, d1, ds1, p1, q1, rfl, rfl, rfl, h1, r1⟩ := trodAll_cons r0
  obtain ⟨v2, vs2, d2, ds2, p2, q2, rfl, rfl, rfl, h2, r2⟩ := trodAll_cons r1
  obtain ⟨rfl, rfl, rfl⟩ := trodAll_nil r2
  obtain rfl : args = #[v0, v1, v2] := by cases args; simp_all
  obtain ⟨rfl, rfl⟩ := trodVars_none hV
  obtain ⟨a0, rfl, rfl, rfl, w0⟩ := open_string Tryd.underlying9 (hval 0 9 v0 rfl rfl) h0
  obtain ⟨a1, rfl, rfl, rfl, w1⟩ := open_string Tryd.underlying9 (hval 1 9 v1 rfl rfl) h1
  obtain ⟨a2, rfl, rfl, rfl, w2⟩ := open_string Tryd.underlying9 (hval 2 9 v2 rfl rfl) h2
  clear hA0 hval0
  simp only [List.append_nil] at hW'
  refine (crcJoins_walk a0 a1 a2 w0 w1 w2 W).mono fun e W' ⟨he, bel⟩ => ?_
  subst he
  exact ⟨_, rfl, _, _, _, [], [], [], hW', trodAll_mk1 (shut_bool Tryd.underlying4 _), (trodAll_cons_mk (shut_string Tryd.underlying9 w0) (trodAll_cons_mk (shut_string Tryd.underlying9 w1) (trodAll_cons_mk (shut_string Tryd.underlying9 w2) trodAll_mk0))), rfl, bel.frame _, fun h => by cases h⟩
/-- THE STATEMENT. -/
theorem crcJoins_proved : Rows.CrcJoinsSaid :=
  OpenClaim.holds_of_wide 6 Tryd.f6 rfl rfl rfl rfl rfl rfl rfl ⟨rfl, rfl, rfl, rfl, rfl⟩ rfl rfl rfl rfl rfl (by kernel_rfl) Tryd.func6 (by kernel_rfl)
    (of_decide_eq_true (by kernel_rfl)) (by unfold Func.isWrapper; first | (rw [if_pos (by decide +kernel)]; kernel_rfl) | (rw [if_neg (by decide +kernel)]; exact ⟨rfl, rfl⟩))
    (fun os started H enc _ => crcJoins_lifted os started H enc)
#print axioms crcJoins_proved
end Go.Proofs.YtfofapickblpaaaDoor
