/- Contracts of package value: numbers, rows, and which register is behind. -/
import Derived.Test.YtebjljiklacolaaVaMath
namespace Go.Proofs.Ytebjljiklacolaa
open Go.RowKit
set_option linter.unusedVariables false
set_option linter.unusedSimpArgs false

theorem ret_bool {a b : Bool} (h : a = b) : Ending.returned (.bool a) = .returned (.bool b) := by rw [h]
theorem within_any (n most : Int) (w : World) : Calls Try.prog 84 #[.int .i64 n, .int .i64 most] w fun e w' => e = .returned (.bool (decide (0 ≤ n) && decide (n ≤ most))) ∧ w = w' := by
  by_cases h1 : 0 ≤ n
  · have h1' : decide (0 ≤ n) = true := by simpa using h1
    go_enter Try.func84, Try.ntmps84
    go_wp2
    go_ret
    exact ⟨by simp [h1], rfl⟩
  · have h1' : decide (0 ≤ n) = false := by simpa using h1
    go_enter Try.func84, Try.ntmps84
    go_wp2
    go_ret
    exact ⟨by simp [h1], rfl⟩
theorem isNaN_i (x : Int) (w : World) : Calls Try.prog 89 #[.int .i64 x] w fun e w' => e = .returned (.bool false) ∧ w = w' := by
  go_enter Try.func89, Try.ntmps89
  go_wp2
  go_ret
  exact ⟨by simp, rfl⟩
theorem isNaN_s (x : List UInt8) (w : World) : Calls Try.prog 90 #[.string ⟨x.toArray⟩] w fun e w' => e = .returned (.bool false) ∧ w = w' := by
  go_enter Try.func90, Try.ntmps90
  go_wp2
  go_ret
  exact ⟨by simp, rfl⟩
theorem compare_i (x y : Int) (w : World) : Calls Try.prog 86 #[.int .i64 x, .int .i64 y] w fun e w' => e = .returned (.int .i64 (cmpI x y)) ∧ w = w' := by
  have HC := Kept.mk (show cmpI x y = if x < y then -1 else if y < x then 1 else 0 from rfl)
  by_cases h1 : x < y
  · have d1 : decide (x < y) = true := by simpa using h1
    have HR := Kept.mk (show cmpI x y = -1 by rw [HC.out, if_pos h1])
    clear h1
    go_enter Try.func86, Try.ntmps86
    go_wp2_with fail
    refine (isNaN_i x _).mono ?_; rintro e w' ⟨rfl, rfl⟩
    go_wp2_with fail
    refine (isNaN_i y _).mono ?_; rintro e w' ⟨rfl, rfl⟩
    go_wp2
    go_ret
    exact ⟨by rw [HR.out]; rfl, rfl⟩
  · have d1 : decide (x < y) = false := by simpa using h1
    by_cases h2 : y < x
    · have d2 : decide (y < x) = true := by simpa using h2
      have HR := Kept.mk (show cmpI x y = 1 by rw [HC.out, if_neg h1, if_pos h2])
      clear h1 h2
      go_enter Try.func86, Try.ntmps86
      go_wp2_with fail
      refine (isNaN_i x _).mono ?_; rintro e w' ⟨rfl, rfl⟩
      go_wp2_with fail
      refine (isNaN_i y _).mono ?_; rintro e w' ⟨rfl, rfl⟩
      go_wp2
      go_ret
      exact ⟨by rw [HR.out]; rfl, rfl⟩
    · have d2 : decide (y < x) = false := by simpa using h2
      have HR := Kept.mk (show cmpI x y = 0 by rw [HC.out, if_neg h1, if_neg h2])
      clear h1 h2
      go_enter Try.func86, Try.ntmps86
      go_wp2_with fail
      refine (isNaN_i x _).mono ?_; rintro e w' ⟨rfl, rfl⟩
      go_wp2_with fail
      refine (isNaN_i y _).mono ?_; rintro e w' ⟨rfl, rfl⟩
      go_wp2
      go_ret
      exact ⟨by rw [HR.out]; rfl, rfl⟩
theorem rank_any (b : Bool) (w : World) : Calls Try.prog 87 #[.bool b] w fun e w' => e = .returned (.int .i64 (rankI b)) ∧ w = w' := by
  cases b
  · go_enter Try.func87, Try.ntmps87
    go_wp2
    go_ret
    exact ⟨rfl, rfl⟩
  · go_enter Try.func87, Try.ntmps87
    go_wp2
    go_ret
    exact ⟨rfl, rfl⟩
theorem text_eq (x y : List UInt8) : (x == y) = decide (x = y) := by by_cases h : x = y <;> simp [h]
set_option maxHeartbeats 400000 in
theorem compare_s (x y : List UInt8) (w : World) : Calls Try.prog 88 #[.string ⟨x.toArray⟩, .string ⟨y.toArray⟩] w fun e w' => e = .returned (.int .i64 (cmpT x y)) ∧ w = w' := by
  have HC := Kept.mk (show cmpT x y = if Op.bytesLess x y = true then -1 else if x = y then 0 else 1 from rfl)
  cases h1 : Op.bytesLess x y with
  | true =>
    have HR := Kept.mk (show cmpT x y = -1 by rw [HC.out, if_pos h1])
    go_enter Try.func88, Try.ntmps88
    go_wp2_with fail
    refine (isNaN_s x _).mono ?_; rintro e w' ⟨rfl, rfl⟩
    go_wp2_with fail
    refine (isNaN_s y _).mono ?_; rintro e w' ⟨rfl, rfl⟩
    go_wp2
    go_ret
    exact ⟨by rw [HR.out]; rfl, rfl⟩
  | false =>
    cases h2 : x == y with
    | true =>
      have HR := Kept.mk (show cmpT x y = 0 by rw [HC.out, h1, if_neg (by simp), if_pos (by simpa using h2)])
      go_enter Try.func88, Try.ntmps88
      go_wp2_with fail
      refine (isNaN_s x _).mono ?_; rintro e w' ⟨rfl, rfl⟩
      go_wp2_with fail
      refine (isNaN_s y _).mono ?_; rintro e w' ⟨rfl, rfl⟩
      go_wp2
      go_ret
      exact ⟨by rw [HR.out]; rfl, rfl⟩
    | false =>
      have HR := Kept.mk (show cmpT x y = 1 by rw [HC.out, h1, if_neg (by simp), if_neg (by simpa using h2)])
      go_enter Try.func88, Try.ntmps88
      go_wp2_with fail
      refine (isNaN_s x _).mono ?_; rintro e w' ⟨rfl, rfl⟩
      go_wp2_with fail
      refine (isNaN_s y _).mono ?_; rintro e w' ⟨rfl, rfl⟩
      go_wp2
      go_ret
      exact ⟨by rw [HR.out]; rfl, rfl⟩

theorem behindL_nil : behindL [] = false := rfl
theorem behindL_cons (x : Int) (r : List Int) : behindL (x :: r) = if x = 0 then behindL r else decide (0 < x) := rfl
set_option maxHeartbeats 400000 in
theorem isBehind_any (l : List Int) (v : Value) (w : World) (hv : isCells (l.map intC) v w) (hl : l.length ≤ 1000000) :
    Calls Try.prog 85 #[v] w fun e w' => e = .returned (.bool (behindL l)) ∧ w = w' := by
  obtain ⟨a, cap, hva⟩ := hv.len
  rw [List.length_map] at hva
  subst hva
  have HV := Kept.mk hv
  clear hv
  go_enter Try.func85, Try.ntmps85
  go_wp2
  go_loop [7] (fun i => ∃ k : Nat, k ≤ l.length ∧ i = .int .i64 (k : Int) ∧ Kept (behindL l = behindL (l.drop k))) (fun i => l.length - (intOf i).toNat)
  case atStart => exact ⟨0, Nat.zero_le _, rfl, ⟨rfl⟩⟩
  case round =>
    obtain ⟨k, hk, rfl, HB⟩ := hrel
    by_cases hlt : k < l.length
    · obtain ⟨b, off, cap', hs, hb, hc⟩ := HV.out.some_ (by rw [List.length_map]; omega)
      rw [List.length_map] at hs
      injection hs with h1 h2 h3
      subst h1 h3
      have hcell := hc k _ (get_map intC l k hlt)
      have HD := Kept.mk (show l.drop k = l[k] :: l.drop (k + 1) from List.drop_eq_getElem_cons hlt)
      obtain ⟨x, hx⟩ : ∃ x, x = l[k] := ⟨_, rfl⟩
      rw [← hx] at hcell HD
      unfold intC at hcell
      clear hc hx
      by_cases hz : x = 0
      · have d : (x == 0) = true := by simpa using hz
        have HR := Kept.mk (show behindL l = behindL (l.drop (k + 1)) by rw [HB.out, HD.out, behindL_cons, if_pos hz])
        clear hz
        go_wp2
        go_round
        case rel => exact ⟨k + 1, by omega, by go_num, HR⟩
        case measure => simp [intOf]; omega
      · have d : (x == 0) = false := by simpa using hz
        have HR := Kept.mk (show behindL l = decide (0 < x) by rw [HB.out, HD.out, behindL_cons, if_neg hz])
        clear hz
        go_wp2
        go_ret
        exact ⟨by rw [HR.out]; rfl, rfl⟩
    · have HR := Kept.mk (show behindL l = false by rw [HB.out, List.drop_eq_nil_of_le (by omega)]; rfl)
      go_wp2
      go_ret
      exact ⟨by rw [HR.out]; rfl, rfl⟩

theorem isRow1_any (x : Int) (w : World) : Calls Try.prog 102 #[.int .i64 x] w fun e w' => e = .returned (.bool (!okNum x)) ∧ w = w' := by
  have HO := Kept.mk (show okNum x = (decide (0 ≤ x) && decide (x ≤ 65535)) from rfl)
  go_enter Try.func102, Try.ntmps102
  go_wp2_with fail
  refine (within_any x 65535 _).mono ?_; rintro e w' ⟨rfl, rfl⟩
  obtain ⟨z, hz⟩ : ∃ z, z = (decide (0 ≤ x) && decide (x ≤ 65535)) := ⟨_, rfl⟩
  rw [← hz] at HO ⊢
  clear hz
  go_wp2
  go_ret
  exact ⟨by rw [HO.out]; rfl, rfl⟩
def badNum : Value → Bool
  | .int .i64 x => !okNum x
  | _ => false
theorem badNum_int (x : Int) : badNum (intC x) = !okNum x := rfl
theorem okNum_eq (l : List Int) : l.all okNum = !(l.map intC).any badNum := by
  induction l with
  | nil => rfl
  | cons x r ih => rw [List.all_cons, List.map_cons, List.any_cons, badNum_int, ih, Bool.not_or, Bool.not_not]
attribute [irreducible] badNum
set_option maxRecDepth 20000 in
theorem isRow_any (l : List Int) (v : Value) (w : World) (hv : isCells (l.map intC) v w) (hl : l.length ≤ 140737488355328) :
    Calls Try.prog 96 #[v] w fun e w' => e = .returned (.bool (okRow l)) ∧ w = w' := by
  have hen : Enters Try.prog 102 := enters_of Try.func102 (by kernel_rfl) rfl
  obtain ⟨a, cap, hva⟩ := hv.len
  rw [List.length_map] at hva
  subst hva
  have HV := Kept.mk hv
  clear hv
  by_cases h : l.length = 8
  · have h' : ((l.length : Int) == 8) = true := by simp; omega
    have HE := Kept.mk (show okRow l = !(l.map intC).any badNum by
      unfold okRow
      rw [decide_eq_true h, Bool.true_and, okNum_eq])
    clear h
    go_enter Try.func96, Try.ntmps96
    go_wp2_with fail
    refine (contains_i badNum 102 #[] hen (l.map intC) _ _ HV.out (by simpa using hl) ?_).mono ?_
    · intro x hx
      obtain ⟨y, _, rfl⟩ := List.mem_map.1 hx
      rw [badNum_int]
      exact isRow1_any y _
    rintro e w' ⟨rfl, rfl⟩
    generalize (l.map intC).any badNum = z at *
    go_wp2
    go_ret
    exact ⟨by rw [HE.out]; rfl, rfl⟩
  · have h' : ((l.length : Int) == 8) = false := by simp; omega
    have HE := Kept.mk (show okRow l = false by unfold okRow; rw [decide_eq_false h]; rfl)
    go_enter Try.func96, Try.ntmps96
    go_wp2
    go_ret
    exact ⟨by rw [HE.out]; rfl, rfl⟩
theorem sum_take (l : List Int) (k : Nat) (h : k < l.length) : (l.take (k + 1)).sum = (l.take k).sum + l[k] := by
  rw [List.take_succ_eq_append_getElem h, List.sum_append]; simp
theorem sum_bound : ∀ (l : List Int), l.all okNum = true → 0 ≤ l.sum ∧ l.sum ≤ 65535 * l.length
  | [], _ => by simp
  | x :: r, h => by
    rw [List.all_cons, Bool.and_eq_true] at h
    have := sum_bound r h.2
    have hx := h.1
    unfold okNum at hx
    simp only [Bool.and_eq_true, decide_eq_true_eq] at hx
    rw [List.sum_cons, List.length_cons]
    omega
end Go.Proofs.Ytebjljiklacolaa
