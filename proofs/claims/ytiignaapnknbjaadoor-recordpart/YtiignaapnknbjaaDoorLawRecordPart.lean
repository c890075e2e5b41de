/- A record that was programmed in part is none (record.Make, Read). -/
import Derived.Test.YtiignaapnknbjaaDoorRecWorks
import Derived.ProofKit
import Derived.OpenShut
import Derived.ShutString
import Derived.ChangeOld
import Derived.Below
namespace Go.Proofs.YtiignaapnknbjaaDoor
open Go.ChangeShapes Go.WideShapes Go.ChangeAt Go.RowKit
open Go.ChangeMaps (open_string shut_string)
set_option linter.unusedVariables false

set_option maxRecDepth 100000 in
set_option maxHeartbeats 2000000 in
theorem recordPart_1 (a b : List UInt8) (w : World) (h : 200 < a.length) :
    Calls Tryd.prog 5 #[.string ⟨a.toArray⟩, .string ⟨b.toArray⟩] w fun e w' => e = .returned (.bool true) ∧ Below w.heap.size w w' := by
  have c1 : decide (200 < (a.length : Int)) = true := by simp; omega
  go_enter Tryd.func5, Tryd.ntmps5
  go_wp2_with fail
  refine (works_any _).mono ?_; rintro e w1 ⟨rfl, hB⟩
  go_wp2
  go_ret
  exact ⟨rfl, hB⟩

set_option maxRecDepth 100000 in
set_option maxHeartbeats 2000000 in
theorem recordPart_2 (a b : List UInt8) (w : World) (h : a.length ≤ 200) (h2 : 408 < b.length) :
    Calls Tryd.prog 5 #[.string ⟨a.toArray⟩, .string ⟨b.toArray⟩] w fun e w' => e = .returned (.bool true) ∧ Below w.heap.size w w' := by
  have c1 : decide (200 < (a.length : Int)) = false := by simp; omega
  have c2 : decide (408 < (b.length : Int)) = true := by simp; omega
  go_enter Tryd.func5, Tryd.ntmps5
  go_wp2_with fail
  refine (works_any _).mono ?_; rintro e w1 ⟨rfl, hB⟩
  go_wp2
  go_ret
  exact ⟨rfl, hB⟩

set_option maxRecDepth 100000 in
set_option maxHeartbeats 2000000 in
theorem recordPart_3 (a b : List UInt8) (w : World) (h : a.length ≤ 200) (h2 : b.length ≤ 408) (he : pairL (· ||| ·) (recL a) b = recL a) :
    Calls Tryd.prog 5 #[.string ⟨a.toArray⟩, .string ⟨b.toArray⟩] w fun e w' => e = .returned (.bool true) ∧ Below w.heap.size w w' := by
  have c1 : decide (200 < (a.length : Int)) = false := by simp; omega
  have c2 : decide (408 < (b.length : Int)) = false := by simp; omega
  have HE := Lib.hid (readE_rec a)
  have HP := Lib.hid he
  have hrl : (recL a).length ≤ 408 := by rw [length_recL]; omega
  clear he
  go_enter Tryd.func5, Tryd.ntmps5
  go_wp2_with fail
  refine (works_any _).mono ?_; rintro e w1 ⟨rfl, hB⟩
  go_wp2_with fail
  ((with_reducible refine (make_any a _ (by omega)).mono ?_); rintro e w2 ⟨rfl, hb2⟩)
  replace hB := hB.trans (hb2.mono hB.size); clear hb2
  go_wp2_with fail
  ((with_reducible refine (or_l (recL a) b _ (by omega) (by omega)).mono ?_); rintro e w2 ⟨rfl, hb2⟩)
  replace hB := hB.trans (hb2.mono hB.size); clear hb2
  rw [HP.out]
  go_wp2_with fail
  ((with_reducible refine (read_any (recL a) _ (by omega)).mono ?_); rintro e w2 ⟨rfl, hb2⟩)
  replace hB := hB.trans (hb2.mono hB.size); clear hb2
  rw [HE.out]
  go_wp2
  go_ret
  exact ⟨rfl, hB⟩

set_option maxRecDepth 100000 in
set_option maxHeartbeats 2000000 in
theorem recordPart_4 (a b : List UInt8) (w : World) (h : a.length ≤ 200) (h2 : b.length ≤ 408) (hn : ¬ pairL (· ||| ·) (recL a) b = recL a) (he : readE (pairL (· ||| ·) (recL a) b) = 2) :
    Calls Tryd.prog 5 #[.string ⟨a.toArray⟩, .string ⟨b.toArray⟩] w fun e w' => e = .returned (.bool true) ∧ Below w.heap.size w w' := by
  have c1 : decide (200 < (a.length : Int)) = false := by simp; omega
  have c2 : decide (408 < (b.length : Int)) = false := by simp; omega
  have hrl : (recL a).length ≤ 408 := by rw [length_recL]; omega
  have HE := Lib.hid he
  have HN := Lib.hid hn
  clear he hn
  go_enter Tryd.func5, Tryd.ntmps5
  go_wp2_with fail
  refine (works_any _).mono ?_; rintro e w1 ⟨rfl, hB⟩
  go_wp2_with fail
  ((with_reducible refine (make_any a _ (by omega)).mono ?_); rintro e w2 ⟨rfl, hb2⟩)
  replace hB := hB.trans (hb2.mono hB.size); clear hb2
  go_wp2_with fail
  ((with_reducible refine (or_l (recL a) b _ (by omega) (by omega)).mono ?_); rintro e w2 ⟨rfl, hb2⟩)
  replace hB := hB.trans (hb2.mono hB.size); clear hb2
  have hxl := length_pairL (· ||| ·) (recL a) b
  generalize pairL (· ||| ·) (recL a) b = x at *
  go_wp2_with fail
  ((with_reducible refine (read_any x _ (by omega)).mono ?_); rintro e w2 ⟨rfl, hb2⟩)
  replace hB := hB.trans (hb2.mono hB.size); clear hb2
  rw [HE.out]
  have hne := HN.out
  generalize recL a = y at *
  have hbe : (x == y) = false := by simpa using hne
  clear hne
  go_wp2
  go_ret
  exact ⟨rfl, hB⟩

theorem recordPart_walk (a0 a1 : ByteArray) (w0 : a0.size ≤ maxLen) (w1 : a1.size ≤ maxLen) (w : World) :
    Calls Tryd.prog 5 #[.string a0, .string a1] w fun e w' => e = .returned (.bool true) ∧ Below w.heap.size w w' := by
  rw [str_eta a0, str_eta a1]
  generalize a0.data.toList = a
  generalize a1.data.toList = b
  by_cases h : 200 < a.length
  · exact recordPart_1 a b w h
  · by_cases h2 : 408 < b.length
    · exact recordPart_2 a b w (by omega) h2
    · by_cases he : pairL (· ||| ·) (recL a) b = recL a
      · exact recordPart_3 a b w (by omega) (by omega) he
      · rcases readE_cases (pairL (· ||| ·) (recL a) b) with ⟨h3, _⟩ | ⟨h4, _⟩
        · exact absurd (part_reads a b h3) he
        · exact recordPart_4 a b w (by omega) (by omega) he h4

set_option maxRecDepth 100000 in
theorem recordPart_lifted (os : Os) (started : os.Started) (H : Type) (enc : TypeId × Value → H) :
    ReturnsInHanded {} Tryd.checked os 5 .any (Rows.recordPartSpec.pre6 enc Tryd.prog Tryd.f5 Rows.recordPartRow.domain false) (Rows.recordPartSpec.post enc Tryd.prog Tryd.f5 false true false false) := by
  refine returnsInHanded_of_change (C := Tryd.checked) (by kernel_rfl : ownKnob Tryd.prog.godebug = none) started (by kernel_rfl) Tryd.func5
    (ChangeSpec.witness6 (enc := enc) (C := Tryd.checked) false ⟨#[], #[.string ByteArray.empty, .string ByteArray.empty], []⟩ 8 (by kernel_rfl) (by kernel_rfl) (by kernel_rfl) (by kernel_rfl)) ?_
  intro W base args ds gs before hval0 hW hcnd _
  have hval : ∀ (j : Nat) t v, Tryd.f5.params[j]? = some t → args[j]? = some v → Value.okWide Tryd.prog W .any base t v := hval0
  have hW' := hW
  obtain ⟨p, q, hA0, hV, rfl, hfz, hnd⟩ := hW
  have hA : DataW.TrodAll enc Tryd.prog W 0 (fun _ => true) true Tryd.f5.params.toList args.toList ds p := hA0
  rw [Tryd.params5] at hA hval
  obtain ⟨v0, vs0, d0, ds0, p0, q0, hargs, rfl, rfl, h0, r0⟩ := trodAll_cons hA
  obtain ⟨v1, vs1, d1, ds1, p1, q1, rfl, rfl, rfl, h1, r1⟩ := trodAll_cons r0
  obtain ⟨rfl, rfl, rfl⟩ := trodAll_nil r1
  obtain rfl : args = #[v0, v1] := by cases args; simp_all
  obtain ⟨rfl, rfl⟩ := trodVars_none hV
  obtain ⟨a0, rfl, rfl, rfl, w0⟩ := open_string Tryd.underlying9 (hval 0 9 v0 rfl rfl) h0
  obtain ⟨a1, rfl, rfl, rfl, w1⟩ := open_string Tryd.underlying9 (hval 1 9 v1 rfl rfl) h1
  clear hA0 hval0
  simp only [List.append_nil] at hW'
  refine (recordPart_walk a0 a1 w0 w1 W).mono fun e W' ⟨he, bel⟩ => ?_
  subst he
  exact ⟨_, rfl, _, _, _, [], [], [], hW', trodAll_mk1 (shut_bool Tryd.underlying4 _), (trodAll_cons_mk (shut_string Tryd.underlying9 w0) (trodAll_cons_mk (shut_string Tryd.underlying9 w1) trodAll_mk0)), rfl, bel.frame _, fun h => by cases h⟩
/-- THE STATEMENT. -/
theorem recordPart_proved : Rows.RecordPartSaid :=
  OpenClaim.holds_of_wide 5 Tryd.f5 rfl rfl rfl rfl rfl rfl rfl ⟨rfl, rfl, rfl, rfl, rfl⟩ rfl rfl rfl rfl rfl (by kernel_rfl) Tryd.func5 (by kernel_rfl)
    (of_decide_eq_true (by kernel_rfl)) (by unfold Func.isWrapper; first | (rw [if_pos (by decide +kernel)]; kernel_rfl) | (rw [if_neg (by decide +kernel)]; exact ⟨rfl, rfl⟩))
    (fun os started H enc _ => recordPart_lifted os started H enc)
#print axioms recordPart_proved
end Go.Proofs.YtiignaapnknbjaaDoor
