/- Of a record just half of all bits are ones; erased bytes are none (record.Make, Read, Clear). -/
import Derived.Test.YtiignaapnknbjaaDoorRecWorks
import Derived.Test.YtiignaapnknbjaaDoorFour
import Derived.ProofKit
import Derived.OpenShut
import Derived.ShutString
import Derived.ChangeOld
import Derived.Below
namespace Go.Proofs.YtiignaapnknbjaaDoor
open Go.ChangeShapes Go.WideShapes Go.ChangeAt Go.RowKit
open Go.ChangeMaps (open_string shut_string)
set_option linter.unusedVariables false
theorem clear_l (l : List UInt8) (w : World) (hs : l.length ≤ 1000000000) :
    Calls Tryd.prog 17 #[.string ⟨l.toArray⟩] w fun e w' => e = .returned (.bool (clearL l)) ∧ Below w.heap.size w w' :=
  clear_any _ w (by rw [size_mk]; exact hs)
theorem ones_n (n : Nat) (w : World) (h : n ≤ 255) :
    Calls Tryd.prog 21 #[.int .i64 (n : Int)] w fun e w' => e = .returned (.string ⟨(onesL (n : Int)).toArray⟩) ∧ Below w.heap.size w w' := ones_any n w
set_option maxRecDepth 100000 in
set_option maxHeartbeats 2000000 in
theorem recordHalf_1 (a : List UInt8) (n : Nat) (w : World) (h : 200 < a.length) :
    Calls Tryd.prog 8 #[.string ⟨a.toArray⟩, .int .u8 (n : Int)] w fun e w' => e = .returned (.bool true) ∧ Below w.heap.size w w' := by
  have c1 : decide (200 < (a.length : Int)) = true := by simp; omega
  go_enter Tryd.func8, Tryd.ntmps8
  go_wp2_with fail
  refine (works_any _).mono ?_; rintro e w1 ⟨rfl, hB⟩
  go_wp2
  go_ret
  exact ⟨rfl, hB⟩

set_option maxRecDepth 100000 in
set_option maxHeartbeats 2000000 in
theorem recordHalf_2 (a : List UInt8) (n : Nat) (w : World) (h : a.length ≤ 200) (hn : n < 256) :
    Calls Tryd.prog 8 #[.string ⟨a.toArray⟩, .int .u8 (n : Int)] w fun e w' => e = .returned (.bool true) ∧ Below w.heap.size w w' := by
  have c1 : decide (200 < (a.length : Int)) = false := by simp; omega
  have hon : onesL (n : Int) = List.replicate n 255 := by unfold onesL; rw [if_pos (by omega), Int.toNat_natCast]
  have hol : (onesL (n : Int)).length ≤ 255 := by rw [hon, List.length_replicate]; omega
  have HE := Lib.hid (show readE (onesL (n : Int)) = 2 by rw [hon]; exact readE_ones n)
  have HC := Lib.hid (show clearL (onesL (n : Int)) = true by rw [hon]; exact clearL_ones n)
  have HD := Lib.hid (clearL_rec a)
  have hrl : (recL a).length ≤ 408 := by rw [length_recL]; omega
  have HK := Lib.hid (show (countL (recL a) : Int) = 4 * ((recL a).length : Int) by rw [count_rec]; omega)
  clear hon
  go_enter Tryd.func8, Tryd.ntmps8
  go_wp2_with fail
  refine (works_any _).mono ?_; rintro e w1 ⟨rfl, hB⟩
  go_wp2_with fail
  ((with_reducible refine (make_any a _ (by omega)).mono ?_); rintro e w2 ⟨rfl, hb2⟩)
  replace hB := hB.trans (hb2.mono hB.size); clear hb2
  go_wp2_with fail
  ((with_reducible refine (ones_n n _ (by omega)).mono ?_); rintro e w2 ⟨rfl, hb2⟩)
  replace hB := hB.trans (hb2.mono hB.size); clear hb2
  go_wp2_with fail
  ((with_reducible refine (read_any (onesL (n : Int)) _ (by omega)).mono ?_); rintro e w2 ⟨rfl, hb2⟩)
  replace hB := hB.trans (hb2.mono hB.size); clear hb2
  rw [HE.out]
  go_wp2_with fail
  ((with_reducible refine (ones_n n _ (by omega)).mono ?_); rintro e w2 ⟨rfl, hb2⟩)
  replace hB := hB.trans (hb2.mono hB.size); clear hb2
  go_wp2_with fail
  ((with_reducible refine (clear_l (onesL (n : Int)) _ (by omega)).mono ?_); rintro e w2 ⟨rfl, hb2⟩)
  replace hB := hB.trans (hb2.mono hB.size); clear hb2
  rw [HC.out]
  go_wp2_with fail
  ((with_reducible refine (count_l (recL a) _ (by omega)).mono ?_); rintro e w2 ⟨rfl, rfl⟩)
  rw [HK.out]
  go_wp2_with fail
  ((with_reducible refine (clear_l (recL a) _ (by omega)).mono ?_); rintro e w2 ⟨rfl, hb2⟩)
  replace hB := hB.trans (hb2.mono hB.size); clear hb2
  rw [HD.out]
  go_wp2
  go_ret
  exact ⟨rfl, hB⟩

theorem recordHalf_walk (a0 : ByteArray) (a1 : Int) (w0 : a0.size ≤ maxLen) (w1 : (Lit.int .u8 a1).wf = true) (w : World) :
    Calls Tryd.prog 8 #[.string a0, .int .u8 a1] w fun e w' => e = .returned (.bool true) ∧ Below w.heap.size w w' := by
  obtain ⟨n, rfl⟩ := byte_of w1
  rw [str_eta a0]
  generalize a0.data.toList = a
  by_cases h : 200 < a.length
  · exact recordHalf_1 a n.toNat w h
  · exact recordHalf_2 a n.toNat w (by omega) n.toNat_lt

set_option maxRecDepth 100000 in
theorem recordHalf_lifted (os : Os) (started : os.Started) (H : Type) (enc : TypeId × Value → H) :
    ReturnsInHanded {} Tryd.checked os 8 .any (Rows.recordHalfSpec.pre6 enc Tryd.prog Tryd.f8 Rows.recordHalfRow.domain false) (Rows.recordHalfSpec.post enc Tryd.prog Tryd.f8 false true false false) := by
  refine returnsInHanded_of_change (C := Tryd.checked) (by kernel_rfl : ownKnob Tryd.prog.godebug = none) started (by kernel_rfl) Tryd.func8
    (ChangeSpec.witness6 (enc := enc) (C := Tryd.checked) false ⟨#[], #[.string ByteArray.empty, .int .u8 0], []⟩ 8 (by kernel_rfl) (by kernel_rfl) (by kernel_rfl) (by kernel_rfl)) ?_
  intro W base args ds gs before hval0 hW hcnd _
  have hval : ∀ (j : Nat) t v, Tryd.f8.params[j]? = some t → args[j]? = some v → Value.okWide Tryd.prog W .any base t v := hval0
  have hW' := hW
  obtain ⟨p, q, hA0, hV, rfl, hfz, hnd⟩ := hW
  have hA : DataW.TrodAll enc Tryd.prog W 0 (fun _ => true) true Tryd.f8.params.toList args.toList ds p := hA0
  rw [Tryd.params8] at hA hval
  obtain ⟨v0, vs0, d0, ds0, p0, q0, hargs, rfl, rfl, h0, r0⟩ := trodAll_cons hA
  obtain ⟨v1, vs1, d1, ds1, p1, q1, rfl, rfl, rfl, h1, r1⟩ := trodAll_cons r0
  obtain ⟨rfl, rfl, rfl⟩ := trodAll_nil r1
  obtain rfl : args = #[v0, v1] := by cases args; simp_all
  obtain ⟨rfl, rfl⟩ := trodVars_none hV
  obtain ⟨a0, rfl, rfl, rfl, w0⟩ := open_string Tryd.underlying9 (hval 0 9 v0 rfl rfl) h0
  obtain ⟨a1, rfl, rfl, rfl, w1⟩ := open_int Tryd.underlying5 (hval 1 5 v1 rfl rfl) h1
  clear hA0 hval0
  simp only [List.append_nil] at hW'
  refine (recordHalf_walk a0 a1 w0 w1 W).mono fun e W' ⟨he, bel⟩ => ?_
  subst he
  exact ⟨_, rfl, _, _, _, [], [], [], hW', trodAll_mk1 (shut_bool Tryd.underlying4 _), (trodAll_cons_mk (shut_string Tryd.underlying9 w0) (trodAll_cons_mk (shut_int Tryd.underlying5 w1) trodAll_mk0)), rfl, bel.frame _, fun h => by cases h⟩
/-- THE STATEMENT. -/
theorem recordHalf_proved : Rows.RecordHalfSaid :=
  OpenClaim.holds_of_wide 8 Tryd.f8 rfl rfl rfl rfl rfl rfl rfl ⟨rfl, rfl, rfl, rfl, rfl⟩ rfl rfl rfl rfl rfl (by kernel_rfl) Tryd.func8 (by kernel_rfl)
    (of_decide_eq_true (by kernel_rfl)) (by unfold Func.isWrapper; first | (rw [if_pos (by decide +kernel)]; kernel_rfl) | (rw [if_neg (by decide +kernel)]; exact ⟨rfl, rfl⟩))
    (fun os started H enc _ => recordHalf_lifted os started H enc)
#print axioms recordHalf_proved
end Go.Proofs.YtiignaapnknbjaaDoor
