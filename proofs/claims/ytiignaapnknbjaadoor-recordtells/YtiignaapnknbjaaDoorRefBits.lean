/- The document's own Ones, Not, Count (ouroborosref01). -/
import Derived.Test.YtiignaapnknbjaaDoorRefPair
import Derived.Test.YtiignaapnknbjaaDoorOctMath
namespace Go.Proofs.YtiignaapnknbjaaDoor
open Go.RowKit
set_option linter.unusedVariables false

set_option maxHeartbeats 400000 in
theorem refOnes_none (n : Int) (w : World) (h : n ≤ 0 ∨ 100000 < n) :
    Calls Tryd.prog 28 #[.int .i64 n] w fun e w' => e = .returned (.string ⟨#[]⟩) ∧ w = w' := by
  have hbk := fun W => run_convert_bytes_nil (P := Tryd.prog) (w := W) 35 5 Tryd.underlying35 Tryd.underlying5 0 0 9 Tryd.underlying9
  by_cases h0 : 0 < n
  · have h1 : decide (n ≤ 100000) = false := by simp; omega
    go_enter Tryd.func28, Tryd.ntmps28
    go_wp2
    refine wp_loop_rounds 1 ?_; rw [rounds_succ]
    go_wp2
    go_ret
    exact ⟨rfl, rfl⟩
  · have h1 : decide (0 < n) = false := by simp; omega
    go_enter Tryd.func28, Tryd.ntmps28
    go_wp2
    refine wp_loop_rounds 1 ?_; rw [rounds_succ]
    go_wp2
    go_ret
    exact ⟨rfl, rfl⟩

set_option maxHeartbeats 400000 in
theorem refOnes_some (n : Nat) (w : World) (hn : n ≤ 100000) :
    Calls Tryd.prog 28 #[.int .i64 (n : Int)] w fun e w' => e = .returned (.string ⟨(List.replicate n 255).toArray⟩) ∧ Below w.heap.size w w' := by
  obtain ⟨i0, hi, hz0, hz1, hz2⟩ := info_parts Tryd.infoU8
  have hn2 : decide ((n : Int) ≤ 100000) = true := by simp; omega
  go_enter Tryd.func28, Tryd.ntmps28
  go_wp2
  go_loopw [3, 4] (fun v i wr => ∃ k : Nat, k ≤ n ∧ i = .int .i64 k ∧ OwnB wr w.heap.size 5 v (List.replicate k 255) ∧ Below w.heap.size w wr) (fun _ i _ => n - (intOf i).toNat)
  case atStart => exact ⟨0, Nat.zero_le _, rfl, OwnB.nil _ _ _, Below.refl _ _⟩
  case round =>
    obtain ⟨k, hk, rfl, hown, hbel⟩ := hrel
    by_cases hlt : k < n
    · have hlen : (List.replicate k (255 : UInt8)).length = k := by simp
      have hbs := hown.size_le
      have HS := Lib.hid (show List.replicate (k + 1) (255 : UInt8) = List.replicate k 255 ++ [255] from List.replicate_succ')
      generalize List.replicate k (255 : UInt8) = l at *
      have HO := Lib.hid hown
      have HBS := Lib.hid hbs
      have HL := Lib.hid hlen
      have hll : l.length ≤ 100000 := by omega
      clear hown hbs hlen
      go_wp2_with (at_builtin; refine wpList_append_own _ rfl _ _ 35 rfl w.heap.size 5 i0 (.int .u8 0) 1 1 Tryd.underlying35 hi hz0 hz1 hz2 rfl (by decide) _ _ _ rfl (HO.out.alloc _) ⟨wr.heap.size, 0, none⟩ 1 1 [.int .u8 255] rfl rfl ?c1 ?c2 ?c3 ?c4 ?c5 ?_)
      case c1 => exact cell_one_new _ _ _
      case c2 => intro u hu; simp at hu; subst hu; rfl
      case c3 => unfold maxLen; omega
      case c4 => omega
      case c5 => have := hbel.size; simp; omega
      · intro v' w1 hown' hgrow _
        have hB1 : Below w.heap.size w w1 := (hbel.alloc (by have := hbel.size; omega) _).grown hgrow (by have := hbel.size; simp; omega) HBS.out
        have HO1 : Hid (OwnB w1 w.heap.size 5 v' (List.replicate (k + 1) 255)) := by
          show OwnB _ _ _ _ _
          rw [HS.out]
          have e : l.length + 1 = (l ++ [255]).length := by simp
          rw [e] at hown'
          have e2 : encB l ++ [Value.int .u8 255] = encB (l ++ [255]) := encB_snoc l 255
          rw [e2] at hown'
          exact hown'
        clear hown' hgrow
        go_wp2
        go_roundw
        case rel => exact ⟨k + 1, by omega, by go_num, HO1.out, hB1⟩
        case measure => simp [intOf]; omega
    · have hbk := hown.back (P := Tryd.prog) 35 9 Tryd.underlying35 Tryd.underlying5 Tryd.underlying9
      have HO := Lib.hid hown
      have hd : decide ((k : Int) < (n : Int)) = false := by simp; omega
      clear hown
      obtain rfl : k = n := by omega
      generalize hr : List.replicate k (255 : UInt8) = l at *
      have HR := Lib.hid hr
      clear hr
      go_wp2
      go_ret
      exact ⟨ret_str HR.out.symm, hbel⟩

theorem refOnes_any (n : Int) (w : World) :
    Calls Tryd.prog 28 #[.int .i64 n] w fun e w' => e = .returned (.string ⟨(onesL n).toArray⟩) ∧ Below w.heap.size w w' := by
  by_cases h : 0 < n ∧ n ≤ 100000
  · obtain ⟨m, rfl⟩ := Int.eq_ofNat_of_zero_le (show 0 ≤ n by omega)
    refine (refOnes_some m w (by omega)).mono ?_
    rintro e w' ⟨rfl, hb⟩
    exact ⟨by rw [show onesL (m : Int) = List.replicate m 255 by unfold onesL; rw [if_pos (by omega), Int.toNat_natCast]], hb⟩
  · refine (refOnes_none n w (by omega)).mono ?_
    rintro e w' ⟨rfl, rfl⟩
    refine ⟨?_, Below.refl _ _⟩
    have : onesL n = [] := by
      unfold onesL
      split
      · have : n = 0 := by omega
        subst this; rfl
      · rfl
    rw [this]

theorem not_of_xor : ∀ l : List UInt8, pairL (· ^^^ ·) (List.replicate l.length 255) l = notL l
  | [] => rfl
  | x :: r => by
    have := not_of_xor r
    simp only [notL, List.length_cons, List.replicate_succ, pairL, List.map_cons] at this ⊢
    rw [this, show (255 : UInt8) = -1 from rfl, UInt8.neg_one_xor]

set_option maxHeartbeats 400000 in
theorem refNot_any (s : ByteArray) (w : World) (hs : s.size ≤ 100000) :
    Calls Tryd.prog 24 #[.string s] w fun e w' => e = .returned (.string ⟨(notL s.data.toList).toArray⟩) ∧ Below w.heap.size w w' := by
  have H1 := Lib.hid (show onesL (s.size : Int) = List.replicate s.data.toList.length 255 by unfold onesL; rw [if_pos (by omega), Int.toNat_natCast]; simp)
  go_enter Tryd.func24, Tryd.ntmps24
  go_wp2_with fail
  refine (refOnes_any _ _).mono ?_
  rintro e w1 ⟨rfl, hb1⟩
  have hl : (onesL (s.size : Int)).length ≤ 1000000 := by rw [H1.out, List.length_replicate]; simp; omega
  go_wp2_with fail
  refine (refXor_any _ _ _ (by show (onesL (s.size : Int)).toArray.size ≤ _; simpa using hl) (by omega)).mono ?_
  rintro e w2 ⟨rfl, hb2⟩
  go_wp2
  go_ret
  exact ⟨ret_str (by rw [← not_of_xor, ← H1.out]), hb1.trans (hb2.mono hb1.size)⟩

theorem pop_half (c : Nat) (h : c < 256) : Lib.onesCount c = c % 2 + Lib.onesCount (c / 2) := by
  have h' : ∀ n : Fin 256, Lib.onesCount n.val = n.val % 2 + Lib.onesCount (n.val / 2) := by decide +kernel
  exact h' ⟨c, h⟩
theorem pop_le8 (c : Nat) (h : c < 256) : Lib.onesCount c ≤ 8 := Lib.onesCount_le8 ⟨c, h⟩

end Go.Proofs.YtiignaapnknbjaaDoor
