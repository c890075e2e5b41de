/- Contracts of package flash: what a step does to a page; a page between. -/
import Derived.Test.YtipiioggdalkoaaGreatDoorFlCopy
namespace Go.Proofs.YtipiioggdalkoaaGreatDoor
open Go.RowKit
set_option linter.unusedVariables false
set_option linter.unusedSimpArgs false

/-- Which bits of a page's bytes are done, if a step is torn. -/
def maskL (torn : List UInt8) (n : Nat) : List UInt8 := (List.range n).map fun i => torn.getD (i % torn.length) 0
theorem length_maskL (torn : List UInt8) (n : Nat) : (maskL torn n).length = n := by simp [maskL]
theorem length_repeatL (l : List UInt8) (c : Nat) : (Lib.repeatL l c).length = c * l.length := by
  induction c with
  | zero => simp [Lib.repeatL]
  | succ c ih => rw [Lib.repeatL, List.length_append, ih, Nat.succ_mul, Nat.add_comm]
theorem repeatL_get (l : List UInt8) (h : l ≠ []) : ∀ (c i : Nat), i < c * l.length → (Lib.repeatL l c)[i]? = some (l.getD (i % l.length) 0)
  | 0, i, hi => by simp at hi
  | c + 1, i, hi => by
    have h0 : 0 < l.length := List.length_pos_iff.2 h
    rw [Lib.repeatL]
    by_cases e : i < l.length
    · rw [List.getElem?_append_left e, Nat.mod_eq_of_lt e, List.getElem?_eq_getElem e]; simp [List.getD_eq_getElem?_getD, e]
    · rw [List.getElem?_append_right (by omega), repeatL_get l h c (i - l.length) (by rw [Nat.succ_mul] at hi; omega)]
      rw [Nat.mod_eq_sub_mod (a := i) (by omega)]
theorem take_repeatL (torn : List UInt8) (h : torn ≠ []) (n : Nat) : (Lib.repeatL torn (n / torn.length + 1)).take n = maskL torn n := by
  have h0 : 0 < torn.length := List.length_pos_iff.2 h
  have hn : n < (n / torn.length + 1) * torn.length := by
    have e1 := Nat.div_add_mod n torn.length
    have e2 := Nat.mod_lt n h0
    rw [Nat.succ_mul, Nat.mul_comm]
    omega
  apply List.ext_getElem?
  intro i
  rw [List.getElem?_take]
  by_cases e : i < n
  · rw [if_pos e, repeatL_get torn h _ i (by omega)]
    unfold maskL
    simp [e]
  · rw [if_neg e, List.getElem?_eq_none (by rw [length_maskL]; omega)]
theorem ext_takeF (l : List UInt8) (n : Nat) : (⟨l.toArray⟩ : ByteArray).extract 0 n = ⟨(l.take n).toArray⟩ := by
  apply ByteArray.ext
  apply Array.toList_inj.1
  rw [ByteArray.data_extract, Array.toList_extract, List.extract_eq_take_drop]
  simp
theorem repeatL_zero (n : Nat) : Lib.repeatL [0] n = maskL [] n := by
  induction n with
  | zero => rfl
  | succ n ih =>
    rw [Lib.repeatL, ih]
    unfold maskL
    rw [List.range_succ_eq_map]
    simp [List.getD_eq_getElem?_getD]

set_option maxHeartbeats 400000 in
theorem goingRound_any (torn : List UInt8) (n : Nat) (w : World) (hn : n ≤ 1000000) (ht : torn.length ≤ 1000000) :
    Calls Tryz.prog 96 #[.string ⟨torn.toArray⟩, .int .i64 (n : Int)] w fun e w' => e = .returned (.string ⟨(maskL torn n).toArray⟩) ∧ Below w.heap.size w w' := by
  by_cases h : torn = []
  · subst h
    have H := Lib.hid (repeatL_zero n)
    go_enter Tryz.func96, Tryz.ntmps96
    go_wp2_with fail
    refine (Tryz.strings_Repeat ⟨#[0]⟩ n _ (by omega) (by show 1 * n ≤ _; omega)).mono ?_
    rintro e w' ⟨rfl, hb⟩
    go_wp2
    go_ret
    exact ⟨ret_str H.out, hb⟩
  · have h0 : 0 < torn.length := List.length_pos_iff.2 h
    have hsz : (⟨torn.toArray⟩ : ByteArray).size = torn.length := size_mk torn
    have hbe : (torn == []) = false := by simpa using h
    obtain ⟨q, hq⟩ : ∃ q, q = n / torn.length := ⟨_, rfl⟩
    have hqn : q ≤ n := by rw [hq]; exact Nat.div_le_self _ _
    have hqd : ((n : Int) / (torn.length : Int)) = (q : Int) := by rw [hq]; simp
    have hmul : torn.length * (q + 1) ≤ n + torn.length := by rw [hq, Nat.mul_add, Nat.mul_one]; have := Nat.mul_div_le n torn.length; omega
    have H := Lib.hid (take_repeatL torn h n)
    rw [← hq] at H
    have hlen := length_repeatL torn (q + 1)
    have hle : n ≤ (q + 1) * torn.length := by
      have := congrArg List.length H.out
      rw [List.length_take, length_maskL, hlen] at this
      omega
    have hext := ext_takeF (Lib.repeatL torn (q + 1)) n
    have hrsz : (⟨(Lib.repeatL torn (q + 1)).toArray⟩ : ByteArray).size = (q + 1) * torn.length := by rw [size_mk]; exact hlen
    obtain ⟨m, hm⟩ : ∃ m, m = (q + 1) * torn.length := ⟨_, rfl⟩
    rw [← hm] at hrsz hle hlen
    have hm2 : m ≤ n + torn.length := by rw [hm, Nat.mul_comm]; exact hmul
    have HQ := Lib.hid hq
    have HM := Lib.hid hm
    have HU := Lib.hid hmul
    clear hq hm h hmul
    go_enter Tryz.func96, Tryz.ntmps96
    go_wp2_with fail
    refine (Tryz.strings_Repeat ⟨torn.toArray⟩ (q + 1) _ (by omega) (by rw [size_mk]; have := HU.out; omega)).mono ?_
    rintro e w' ⟨rfl, hb⟩
    have ht2 : (⟨torn.toArray⟩ : ByteArray).data.toList = torn := by simp
    rw [ht2]
    generalize Lib.repeatL torn (q + 1) = r at *
    go_wp2
    go_ret
    exact ⟨ret_str H.out, hb⟩

/-- A page of which just those bits were changed, of those that a step would change, that torn has. -/
def betweenL (was would torn : List UInt8) : List UInt8 := pairL (· ^^^ ·) was (pairL (· &&& ·) (pairL (· ^^^ ·) was would) (maskL torn was.length))
set_option maxHeartbeats 400000 in
theorem between_any (was would torn : List UInt8) (w : World) (h1 : was.length ≤ 1000000) (h2 : would.length ≤ 1000000) (h3 : torn.length ≤ 1000000) :
    Calls Tryz.prog 81 #[.string ⟨was.toArray⟩, .string ⟨would.toArray⟩, .string ⟨torn.toArray⟩] w fun e w' => e = .returned (.string ⟨(betweenL was would torn).toArray⟩) ∧ Below w.heap.size w w' := by
  have hsz : (⟨was.toArray⟩ : ByteArray).size = was.length := size_mk was
  have H := Lib.hid (show betweenL was would torn = pairL (· ^^^ ·) was (pairL (· &&& ·) (pairL (· ^^^ ·) was would) (maskL torn was.length)) from rfl)
  go_enter Tryz.func81, Tryz.ntmps81
  go_wp2_with fail
  refine (xor_l was would _ (by omega) (by omega)).mono ?_
  rintro e w1 ⟨rfl, hB⟩
  go_wp2_with fail
  refine (goingRound_any torn was.length _ h1 h3).mono ?_
  rintro e w2 ⟨rfl, hb2⟩
  replace hB := hB.trans (hb2.mono hB.size); clear hb2
  go_wp2_with fail
  refine (and_l _ _ _ (by rw [length_pairL]; omega) (by rw [length_maskL]; omega)).mono ?_
  rintro e w2 ⟨rfl, hb2⟩
  replace hB := hB.trans (hb2.mono hB.size); clear hb2
  go_wp2_with fail
  refine (xor_l _ _ _ (by omega) (by rw [length_pairL, length_pairL]; omega)).mono ?_
  rintro e w2 ⟨rfl, hb2⟩
  replace hB := hB.trans (hb2.mono hB.size); clear hb2
  rw [← H.out]
  go_wp2
  go_ret
  exact ⟨rfl, hB⟩
end Go.Proofs.YtipiioggdalkoaaGreatDoor
