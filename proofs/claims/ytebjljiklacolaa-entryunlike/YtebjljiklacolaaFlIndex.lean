/- slices.IndexFunc, ContainsFunc: of a closure that leaves memory alone. -/
import Derived.Test.YtebjljiklacolaaFlBase
namespace Go.Proofs.Ytebjljiklacolaa
open Go.RowKit
set_option linter.unusedVariables false
set_option linter.unusedSimpArgs false

theorem firstAt_some (p : Value → Bool) (cs : List Value) (k : Nat) (x : Value) (h : cs[k]? = some x) (hp : p x = true) (hb : ∀ (j : Nat) (y : Value), j < k → cs[j]? = some y → p y = false) : firstAt p cs = (k : Int) := by
  obtain ⟨hk, hx⟩ := List.getElem?_eq_some_iff.1 h
  have : cs.findIdx? p = some k := by
    rw [List.findIdx?_eq_some_iff_getElem]
    refine ⟨hk, by rw [hx]; exact hp, fun j hj => ?_⟩
    rw [hb j cs[j] hj (List.getElem?_eq_getElem _)]; simp
  unfold firstAt
  rw [this]
theorem firstAt_none (p : Value → Bool) (cs : List Value) (hb : ∀ (j : Nat) (y : Value), cs[j]? = some y → p y = false) : firstAt p cs = -1 := by
  have : cs.findIdx? p = none := by
    rw [List.findIdx?_eq_none_iff]
    intro x hx
    obtain ⟨j, hj⟩ := List.getElem?_of_mem hx
    exact hb j x hj
  unfold firstAt
  rw [this]
theorem firstAt_any (p : Value → Bool) (cs : List Value) : decide (0 ≤ firstAt p cs) = cs.any p := by
  unfold firstAt
  cases h : cs.findIdx? p with
  | none =>
    rw [List.findIdx?_eq_none_iff] at h
    show decide ((0 : Int) ≤ -1) = _
    rw [decide_eq_false (by omega)]
    symm
    rw [List.any_eq_false]
    intro x hx
    rw [h x hx]; simp
  | some k =>
    rw [List.findIdx?_eq_some_iff_getElem] at h
    obtain ⟨hk, hp, _⟩ := h
    show decide ((0 : Int) ≤ (k : Int)) = _
    rw [decide_eq_true (by omega)]
    symm
    rw [List.any_eq_true]
    exact ⟨cs[k], List.getElem_mem _, hp⟩

set_option maxRecDepth 20000 in
set_option maxHeartbeats 400000 in
theorem index_i (p : Value → Bool) (g : Nat) (caps : Array Value) (hent : Enters Try.prog g) (cs : List Value) (v : Value) (w : World) (hv : isCells cs v w) (hlen : cs.length ≤ 140737488355328)
    (HF0 : ∀ x ∈ cs, Calls Try.prog g (#[x] ++ caps) w fun e w' => e = .returned (.bool (p x)) ∧ w = w') :
    Calls Try.prog 103 #[v, .func (.func g) #[] caps] w fun e w' => e = .returned (.int .i64 (firstAt p cs)) ∧ w = w' := by
  have HF := Lib.hid HF0
  clear HF0
  obtain ⟨a, cap, rfl⟩ := hv.len
  have HV := Lib.hid hv
  clear hv
  go_enter Try.func103, Try.ntmps103
  go_wp2
  go_loop [8] (fun i => ∃ k : Nat, k ≤ cs.length ∧ i = .int .i64 k ∧ Hid (∀ (j : Nat) (y : Value), j < k → cs[j]? = some y → p y = false)) (fun i => cs.length - (intOf i).toNat)
  case atStart => exact ⟨0, Nat.zero_le _, rfl, Lib.hid (fun j y hj => absurd hj (by omega))⟩
  case round =>
    obtain ⟨k, hk, rfl, HB⟩ := hrel
    by_cases hlt : k < cs.length
    · obtain ⟨b, off, cap', hs, hb, hc⟩ := HV.out.some_ (by omega)
      injection hs with h1 h2 h3
      subst h1 h3
      obtain ⟨x, hx⟩ : ∃ x, cs[k]? = some x := ⟨_, List.getElem?_eq_getElem hlt⟩
      have hcell := hc k x hx
      have HC := Lib.hid hc
      have HX := Lib.hid hx
      clear hc hx
      go_wp2_with fail
      rw [hent]
      simp only [Oper.upon]
      refine (HF.out x (List.mem_of_getElem? HX.out)).mono ?_
      rintro e w' ⟨rfl, rfl⟩
      cases hp : p x with
      | true =>
        go_wp2
        go_ret
        exact ⟨ret_int (firstAt_some p cs k x HX.out hp HB.out).symm, rfl⟩
      | false =>
        go_wp2
        go_round
        case rel =>
          refine ⟨k + 1, by omega, by go_num, Lib.hid ?_⟩
          intro j y hj hy
          by_cases e : j = k
          · subst e; rw [HX.out] at hy; injection hy with hy; rw [← hy]; exact hp
          · exact HB.out j y (by omega) hy
        case measure => simp [intOf]; omega
    · go_wp2
      go_ret
      exact ⟨ret_int (firstAt_none p cs (fun j y hy => HB.out j y (by have := (List.getElem?_eq_some_iff.1 hy).1; omega) hy)).symm, rfl⟩

set_option maxHeartbeats 400000 in
theorem contains_i (p : Value → Bool) (g : Nat) (caps : Array Value) (hent : Enters Try.prog g) (cs : List Value) (v : Value) (w : World) (hv : isCells cs v w) (hlen : cs.length ≤ 140737488355328)
    (HF0 : ∀ x ∈ cs, Calls Try.prog g (#[x] ++ caps) w fun e w' => e = .returned (.bool (p x)) ∧ w = w') :
    Calls Try.prog 101 #[v, .func (.func g) #[] caps] w fun e w' => e = .returned (.bool (cs.any p)) ∧ w = w' := by
  have H := Lib.hid (firstAt_any p cs)
  have HF := Lib.hid HF0
  have HV := Lib.hid hv
  clear HF0 hv
  go_enter Try.func101, Try.ntmps101
  go_wp2_with fail
  refine (index_i p g caps hent cs v _ HV.out hlen HF.out).mono ?_
  rintro e w' ⟨rfl, rfl⟩
  go_wp2
  go_ret
  exact ⟨by rw [← H.out]; rfl, rfl⟩

end Go.Proofs.Ytebjljiklacolaa
