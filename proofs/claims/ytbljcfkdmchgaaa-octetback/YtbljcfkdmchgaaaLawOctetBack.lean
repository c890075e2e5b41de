/- What is put is got again, whatever is ahead of it, and behind it; what is got is put just so (octet.Put, Get): for all numbers, widths and texts. -/
import Derived.Test.YtbljcfkdmchgaaaOctWorks
import Derived.Test.YtbljcfkdmchgaaaOctNum
import Derived.ProofKit
import Derived.OpenShut
import Derived.ShutString
import Derived.ChangeOld
import Derived.Below
namespace Go.Proofs.Ytbljcfkdmchgaaa
open Go.ChangeShapes Go.WideShapes Go.ChangeAt Go.RowKit
open Go.ChangeMaps (open_string shut_string)
set_option linter.unusedVariables false

theorem ext_take (l : List UInt8) (n : Nat) : (⟨l.toArray⟩ : ByteArray).extract 0 n = ⟨(l.take n).toArray⟩ := by
  apply ByteArray.ext
  apply Array.toList_inj.1
  rw [ByteArray.data_extract, Array.toList_extract, List.extract_eq_take_drop]
  simp

theorem get_yes0 (l : List UInt8) (wd : Nat) (w : World) (hl : l.length ≤ 1000000000) (h1 : 1 ≤ wd) (h7 : wd ≤ 7) (hf : wd ≤ l.length) :
    Calls Try.prog 13 #[.string ⟨l.toArray⟩, .int .i64 0, .int .i64 (wd : Int)] w fun e w' => e = .returned (.tuple #[.int .i64 (getN (l.take wd) : Int), .int .i64 0]) ∧ Below w.heap.size w w' :=
  get_yes l 0 wd w hl h1 h7 (by omega)

set_option maxRecDepth 100000 in
set_option maxHeartbeats 2000000 in
theorem octetBack_1 (n width : Int) (a b : List UInt8) (w : World) (h : 300 < a.length) :
    Calls Try.prog 5 #[.int .i64 n, .int .i64 width, .string ⟨a.toArray⟩, .string ⟨b.toArray⟩] w fun e w' => e = .returned (.bool true) ∧ Below w.heap.size w w' := by
  have c1 : decide (300 < (a.length : Int)) = true := by simp; omega
  go_enter Try.func5, Try.ntmps5
  go_wp2_with fail
  refine (works_any _).mono ?_; rintro e w1 ⟨rfl, hB⟩
  go_wp2
  go_ret
  exact ⟨rfl, hB⟩

set_option maxRecDepth 100000 in
set_option maxHeartbeats 2000000 in
theorem octetBack_2 (n width : Int) (a b : List UInt8) (w : World) (h : a.length ≤ 300) (h2 : 300 < b.length) :
    Calls Try.prog 5 #[.int .i64 n, .int .i64 width, .string ⟨a.toArray⟩, .string ⟨b.toArray⟩] w fun e w' => e = .returned (.bool true) ∧ Below w.heap.size w w' := by
  have c1 : decide (300 < (a.length : Int)) = false := by simp; omega
  have c2 : decide (300 < (b.length : Int)) = true := by simp; omega
  go_enter Try.func5, Try.ntmps5
  go_wp2_with fail
  refine (works_any _).mono ?_; rintro e w1 ⟨rfl, hB⟩
  go_wp2
  go_ret
  exact ⟨rfl, hB⟩

set_option maxRecDepth 100000 in
set_option maxHeartbeats 2000000 in
theorem octetBack_yy (m wd : Nat) (a b : List UInt8) (w : World) (ha : a.length ≤ 300) (hb : b.length ≤ 300) (h1 : 1 ≤ wd) (h7 : wd ≤ 7) (hz : m < 256 ^ wd) (hfit : wd ≤ b.length) :
    Calls Try.prog 5 #[.int .i64 (m : Int), .int .i64 (wd : Int), .string ⟨a.toArray⟩, .string ⟨b.toArray⟩] w fun e w' => e = .returned (.bool true) ∧ Below w.heap.size w w' := by
  have c1 : decide (300 < (a.length : Int)) = false := by simp; omega
  have c2 : decide (300 < (b.length : Int)) = false := by simp; omega
  go_enter Try.func5, Try.ntmps5
  go_wp2_with fail
  refine (works_any _).mono ?_; rintro e w1 ⟨rfl, hB⟩
  go_wp2_with fail
  ((with_reducible refine (put_yes m wd _ h1 h7 hz).mono ?_); rintro e w2 ⟨rfl, hb2⟩)
  replace hB := hB.trans (hb2.mono hB.size); clear hb2
  have hp := length_putL wd m
  have HP := Lib.hid (getN_putL wd m hz)
  generalize putL m wd = p at hp HP ⊢
  have hcat1 := fun W => run_string_add_lists (P := Try.prog) W a p (by omega) (by omega)
  have hcat2 := fun W => run_string_add_lists (P := Try.prog) W (a ++ p) b (by rw [List.length_append]; omega) (by omega)
  have HD := Lib.hid (show getN (((a ++ (p ++ b)).drop a.length).take wd) = m by rw [← HP.out, ← hp]; simp)
  go_wp2_with fail
  ((with_reducible refine (get_yes (a ++ (p ++ b)) a.length wd _ (by rw [List.length_append, List.length_append]; omega) h1 h7 (by rw [List.length_append, List.length_append]; omega)).mono ?_); rintro e w2 ⟨rfl, hb2⟩)
  replace hB := hB.trans (hb2.mono hB.size); clear hb2
  rw [HD.out]
  clear hcat1 hcat2
  go_wp2_with fail
  ((with_reducible refine (get_yes0 b wd _ (by omega) h1 h7 (by omega)).mono ?_); rintro e w2 ⟨rfl, hb2⟩)
  replace hB := hB.trans (hb2.mono hB.size); clear hb2
  have hk := getN_lt (b.take wd)
  have HL := Lib.hid (show (b.take wd).length = wd by rw [List.length_take]; omega)
  rw [HL.out] at hk
  go_wp2_with fail
  ((with_reducible refine (put_yes _ wd _ h1 h7 hk).mono ?_); rintro e w2 ⟨rfl, hb2⟩)
  replace hB := hB.trans (hb2.mono hB.size); clear hb2
  have HT := putL_getN (b.take wd)
  rw [HL.out] at HT
  rw [HT]
  clear HT
  have hext : (⟨b.toArray⟩ : ByteArray).extract 0 wd = ⟨(b.take wd).toArray⟩ := ext_take b wd
  have hwb : wd ≤ b.length := hfit
  go_wp2
  go_ret
  exact ⟨rfl, hB⟩

set_option maxRecDepth 100000 in
set_option maxHeartbeats 2000000 in
theorem octetBack_yn (m wd : Nat) (a b : List UInt8) (w : World) (ha : a.length ≤ 300) (hb : b.length ≤ 300) (h1 : 1 ≤ wd) (h7 : wd ≤ 7) (hz : m < 256 ^ wd) (hfit : fitsGet b 0 (wd : Int) = false) :
    Calls Try.prog 5 #[.int .i64 (m : Int), .int .i64 (wd : Int), .string ⟨a.toArray⟩, .string ⟨b.toArray⟩] w fun e w' => e = .returned (.bool true) ∧ Below w.heap.size w w' := by
  have c1 : decide (300 < (a.length : Int)) = false := by simp; omega
  have c2 : decide (300 < (b.length : Int)) = false := by simp; omega
  go_enter Try.func5, Try.ntmps5
  go_wp2_with fail
  refine (works_any _).mono ?_; rintro e w1 ⟨rfl, hB⟩
  go_wp2_with fail
  ((with_reducible refine (put_yes m wd _ h1 h7 hz).mono ?_); rintro e w2 ⟨rfl, hb2⟩)
  replace hB := hB.trans (hb2.mono hB.size); clear hb2
  have hp := length_putL wd m
  have HP := Lib.hid (getN_putL wd m hz)
  generalize putL m wd = p at hp HP ⊢
  have hcat1 := fun W => run_string_add_lists (P := Try.prog) W a p (by omega) (by omega)
  have hcat2 := fun W => run_string_add_lists (P := Try.prog) W (a ++ p) b (by rw [List.length_append]; omega) (by omega)
  have HD := Lib.hid (show getN (((a ++ (p ++ b)).drop a.length).take wd) = m by rw [← HP.out, ← hp]; simp)
  go_wp2_with fail
  ((with_reducible refine (get_yes (a ++ (p ++ b)) a.length wd _ (by rw [List.length_append, List.length_append]; omega) h1 h7 (by rw [List.length_append, List.length_append]; omega)).mono ?_); rintro e w2 ⟨rfl, hb2⟩)
  replace hB := hB.trans (hb2.mono hB.size); clear hb2
  rw [HD.out]
  clear hcat1 hcat2
  go_wp2_with fail
  ((with_reducible refine (get_no b 0 (wd : Int) _ (by omega) hfit).mono ?_); rintro e w2 ⟨k, hk, hke, rfl, hb2⟩)
  replace hB := hB.trans (hb2.mono hB.size); clear hb2 hke
  have hk' : (k != 0) = true := by simpa [bne] using hk
  go_wp2_with fail
  ((with_reducible refine (put_any 0 (wd : Int) _ (by omega)).mono ?_); rintro e w2 ⟨rfl, hb2⟩)
  replace hB := hB.trans (hb2.mono hB.size); clear hb2
  go_wp2
  go_ret
  exact ⟨rfl, hB⟩

set_option maxRecDepth 100000 in
set_option maxHeartbeats 2000000 in
theorem octetBack_ny (n : Int) (wd : Nat) (a b : List UInt8) (w : World) (ha : a.length ≤ 300) (hb : b.length ≤ 300) (hm : n ≤ 9223372036854775807) (hz : okPut n (wd : Int) = false) (h1 : 1 ≤ wd) (h7 : wd ≤ 7) (hfit : wd ≤ b.length) :
    Calls Try.prog 5 #[.int .i64 n, .int .i64 (wd : Int), .string ⟨a.toArray⟩, .string ⟨b.toArray⟩] w fun e w' => e = .returned (.bool true) ∧ Below w.heap.size w w' := by
  have c1 : decide (300 < (a.length : Int)) = false := by simp; omega
  have c2 : decide (300 < (b.length : Int)) = false := by simp; omega
  go_enter Try.func5, Try.ntmps5
  go_wp2_with fail
  refine (works_any _).mono ?_; rintro e w1 ⟨rfl, hB⟩
  go_wp2_with fail
  ((with_reducible refine (put_no n wd _ hm hz).mono ?_); rintro e w2 ⟨rfl, hb2⟩)
  replace hB := hB.trans (hb2.mono hB.size); clear hb2
  go_wp2_with fail
  ((with_reducible refine (get_yes0 b wd _ (by omega) h1 h7 (by omega)).mono ?_); rintro e w2 ⟨rfl, hb2⟩)
  replace hB := hB.trans (hb2.mono hB.size); clear hb2
  have hk := getN_lt (b.take wd)
  have HL := Lib.hid (show (b.take wd).length = wd by rw [List.length_take]; omega)
  rw [HL.out] at hk
  go_wp2_with fail
  ((with_reducible refine (put_yes _ wd _ h1 h7 hk).mono ?_); rintro e w2 ⟨rfl, hb2⟩)
  replace hB := hB.trans (hb2.mono hB.size); clear hb2
  have HT := putL_getN (b.take wd)
  rw [HL.out] at HT
  rw [HT]
  clear HT
  have hext : (⟨b.toArray⟩ : ByteArray).extract 0 wd = ⟨(b.take wd).toArray⟩ := ext_take b wd
  have hwb : wd ≤ b.length := hfit
  go_wp2
  go_ret
  exact ⟨rfl, hB⟩

set_option maxRecDepth 100000 in
set_option maxHeartbeats 2000000 in
theorem octetBack_nn (n width : Int) (a b : List UInt8) (w : World) (ha : a.length ≤ 300) (hb : b.length ≤ 300) (hm : n ≤ 9223372036854775807) (hz : okPut n width = false) (hfit : fitsGet b 0 width = false) :
    Calls Try.prog 5 #[.int .i64 n, .int .i64 width, .string ⟨a.toArray⟩, .string ⟨b.toArray⟩] w fun e w' => e = .returned (.bool true) ∧ Below w.heap.size w w' := by
  have c1 : decide (300 < (a.length : Int)) = false := by simp; omega
  have c2 : decide (300 < (b.length : Int)) = false := by simp; omega
  go_enter Try.func5, Try.ntmps5
  go_wp2_with fail
  refine (works_any _).mono ?_; rintro e w1 ⟨rfl, hB⟩
  go_wp2_with fail
  ((with_reducible refine (put_no n width _ hm hz).mono ?_); rintro e w2 ⟨rfl, hb2⟩)
  replace hB := hB.trans (hb2.mono hB.size); clear hb2
  go_wp2_with fail
  ((with_reducible refine (get_no b 0 width _ (by omega) hfit).mono ?_); rintro e w2 ⟨k, hk, hke, rfl, hb2⟩)
  replace hB := hB.trans (hb2.mono hB.size); clear hb2 hke
  have hk' : (k != 0) = true := by simpa [bne] using hk
  go_wp2_with fail
  ((with_reducible refine (put_any 0 width _ (by omega)).mono ?_); rintro e w2 ⟨rfl, hb2⟩)
  replace hB := hB.trans (hb2.mono hB.size); clear hb2
  go_wp2
  go_ret
  exact ⟨rfl, hB⟩

theorem octetBack_walk (a0 a1 : Int) (a2 a3 : ByteArray) (w0 : (Lit.int .i64 a0).wf = true) (w1 : (Lit.int .i64 a1).wf = true) (w2 : a2.size ≤ maxLen) (w3 : a3.size ≤ maxLen) (w : World) :
    Calls Try.prog 5 #[.int .i64 a0, .int .i64 a1, .string a2, .string a3] w fun e w' => e = .returned (.bool true) ∧ Below w.heap.size w w' := by
  have hbd := bounds_i64 w0
  rw [str_eta a2, str_eta a3]
  generalize a2.data.toList = a
  generalize a3.data.toList = b
  by_cases h : 300 < a.length
  · exact octetBack_1 a0 a1 a b w h
  · by_cases h2 : 300 < b.length
    · exact octetBack_2 a0 a1 a b w (by omega) h2
    · cases hz : okPut a0 a1 with
      | true =>
        obtain ⟨m, wd, rfl, rfl, h1, h7, hlt⟩ := okPut_nat hz
        cases hf : fitsGet b 0 (wd : Int) with
        | true =>
          obtain ⟨x, y, hx, hy, _, _, hxy⟩ := fitsGet_nat hf
          exact octetBack_yy m wd a b w (by omega) (by omega) h1 h7 hlt (by omega)
        | false => exact octetBack_yn m wd a b w (by omega) (by omega) h1 h7 hlt hf
      | false =>
        cases hf : fitsGet b 0 a1 with
        | true =>
          obtain ⟨x, y, hx, rfl, h1, h7, hxy⟩ := fitsGet_nat hf
          exact octetBack_ny a0 y a b w (by omega) (by omega) (by omega) hz h1 h7 (by omega)
        | false => exact octetBack_nn a0 a1 a b w (by omega) (by omega) (by omega) hz hf

set_option maxRecDepth 100000 in
theorem octetBack_lifted (os : Os) (started : os.Started) (H : Type) (enc : TypeId × Value → H) :
    ReturnsInHanded {} Try.checked os 5 .any (Rows.octetBackSpec.pre6 enc Try.prog Try.f5 Rows.octetBackRow.domain false) (Rows.octetBackSpec.post enc Try.prog Try.f5 false true false false) := by
  refine returnsInHanded_of_change (C := Try.checked) (by kernel_rfl : ownKnob Try.prog.godebug = none) started (by kernel_rfl) Try.func5
    (ChangeSpec.witness6 (enc := enc) (C := Try.checked) false ⟨#[], #[.int .i64 0, .int .i64 0, .string ByteArray.empty, .string ByteArray.empty], []⟩ 8 (by kernel_rfl) (by kernel_rfl) (by kernel_rfl) (by kernel_rfl)) ?_
  intro W base args ds gs before hval0 hW hcnd _
  have hval : ∀ (j : Nat) t v, Try.f5.params[j]? = some t → args[j]? = some v → Value.okWide Try.prog W .any base t v := hval0
  have hW' := hW
  obtain ⟨p, q, hA0, hV, rfl, hfz, hnd⟩ := hW
  have hA : DataW.TrodAll enc Try.prog W 0 (fun _ => true) true Try.f5.params.toList args.toList ds p := hA0
  rw [Try.params5] at hA hval
  obtain ⟨v0, vs0, d0, ds0, p0, q0, hargs, rfl, rfl, h0, r0⟩ := trodAll_cons hA
  obtain ⟨v1, vs1, d1, ds1, p1, q1, rfl, rfl, rfl, h1, r1⟩ := trodAll_cons r0
  obtain ⟨v2, vs2, d2, ds2, p2, q2, rfl, rfl, rfl, h2, r2⟩ := trodAll_cons r1
  obtain ⟨v3, vs3, d3, ds3, p3, q3, rfl, rfl, rfl, h3, r3⟩ := trodAll_cons r2
  obtain ⟨rfl, rfl, rfl⟩ := trodAll_nil r3
  obtain rfl : args = #[v0, v1, v2, v3] := by cases args; simp_all
  obtain ⟨rfl, rfl⟩ := trodVars_none hV
  obtain ⟨a0, rfl, rfl, rfl, w0⟩ := open_int Try.underlying3 (hval 0 3 v0 rfl rfl) h0
  obtain ⟨a1, rfl, rfl, rfl, w1⟩ := open_int Try.underlying3 (hval 1 3 v1 rfl rfl) h1
  obtain ⟨a2, rfl, rfl, rfl, w2⟩ := open_string Try.underlying9 (hval 2 9 v2 rfl rfl) h2
  obtain ⟨a3, rfl, rfl, rfl, w3⟩ := open_string Try.underlying9 (hval 3 9 v3 rfl rfl) h3
  clear hA0 hval0
  simp only [List.append_nil] at hW'
  refine (octetBack_walk a0 a1 a2 a3 w0 w1 w2 w3 W).mono fun e W' ⟨he, bel⟩ => ?_
  subst he
  exact ⟨_, rfl, _, _, _, [], [], [], hW', trodAll_mk1 (shut_bool Try.underlying4 _), (trodAll_cons_mk (shut_int Try.underlying3 w0) (trodAll_cons_mk (shut_int Try.underlying3 w1) (trodAll_cons_mk (shut_string Try.underlying9 w2) (trodAll_cons_mk (shut_string Try.underlying9 w3) trodAll_mk0)))), rfl, bel.frame _, fun h => by cases h⟩
/-- THE STATEMENT. -/
theorem octetBack_proved : Rows.OctetBackSaid :=
  OpenClaim.holds_of_wide 5 Try.f5 rfl rfl rfl rfl rfl rfl rfl ⟨rfl, rfl, rfl, rfl, rfl⟩ rfl rfl rfl rfl rfl (by kernel_rfl) Try.func5 (by kernel_rfl)
    (of_decide_eq_true (by kernel_rfl)) (by unfold Func.isWrapper; first | (rw [if_pos (by decide +kernel)]; kernel_rfl) | (rw [if_neg (by decide +kernel)]; exact ⟨rfl, rfl⟩))
    (fun os started H enc _ => octetBack_lifted os started H enc)
#print axioms octetBack_proved
end Go.Proofs.Ytbljcfkdmchgaaa
