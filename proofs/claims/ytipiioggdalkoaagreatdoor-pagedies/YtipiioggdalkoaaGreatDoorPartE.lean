/- Joined texts: contracts of the program's functions, and the mathematics that they lean on. -/
import Derived.Test.YtipiioggdalkoaaGreatDoorPartD
section
namespace Go.Proofs.YtipiioggdalkoaaGreatDoor
open Go.RowKit
set_option linter.unusedVariables false

theorem pairL_take (f : UInt8 → UInt8 → UInt8) (a b : List UInt8) (k : Nat) (ha : k < a.length) (hb : k < b.length) : (pairL f a b).take (k + 1) = (pairL f a b).take k ++ [f a[k] b[k]] := by
  rw [List.take_succ_eq_append_getElem (by rw [length_pairL]; exact ha), pairL_get f a b k ha hb]
theorem pairL_get_past (f : UInt8 → UInt8 → UInt8) : ∀ (a b : List UInt8) (k : Nat) (ha : k < a.length) (hb : ¬ k < b.length), (pairL f a b)[k]'(by rw [length_pairL]; exact ha) = a[k]
  | _ :: _, [], _, _, _ => rfl
  | _ :: _, _ :: _, 0, _, hb => absurd (by simp) hb
  | _ :: r, _ :: q, k + 1, ha, hb => by simpa [pairL] using pairL_get_past f r q k (by simpa using ha) (by simpa using hb)
theorem pairL_take_past (f : UInt8 → UInt8 → UInt8) (a b : List UInt8) (k : Nat) (ha : k < a.length) (hb : ¬ k < b.length) : (pairL f a b).take (k + 1) = (pairL f a b).take k ++ [a[k]] := by
  rw [List.take_succ_eq_append_getElem (by rw [length_pairL]; exact ha), pairL_get_past f a b k ha hb]

set_option maxHeartbeats 400000 in
theorem refAnd_any (a b : ByteArray) (w : World) (ha : a.size ≤ 1000000) (hb : b.size ≤ 1000000) :
    Calls Tryz.prog 74 #[.string a, .string b] w fun e w' => e = .returned (.string ⟨(pairL (· &&& ·) a.data.toList b.data.toList).toArray⟩) ∧ Below w.heap.size w w' := by
  obtain ⟨i0, hi, hz0, hz1, hz2⟩ := info_parts Tryz.infoU8
  go_enter Tryz.func74, Tryz.ntmps74
  go_wp2
  go_loopw [5, 6] (fun v i wr => ∃ k : Nat, k ≤ a.size ∧ i = .int .i64 k ∧ OwnB wr w.heap.size 5 v ((pairL (· &&& ·) a.data.toList b.data.toList).take k) ∧ Below w.heap.size w wr) (fun _ i _ => a.size - (intOf i).toNat)
  case atStart => exact ⟨0, Nat.zero_le _, rfl, OwnB.nil _ _ _, Below.refl _ _⟩
  case round =>
    obtain ⟨k, hk, rfl, hown, hbel⟩ := hrel
    by_cases hlt : k < a.size
    · have hlen : ((pairL (· &&& ·) a.data.toList b.data.toList).take k).length ≤ k := List.length_take_le _ _
      have hbs := hown.size_le
      by_cases hltb : k < b.size
      · have HS := Lib.hid (pairL_take (· &&& ·) a.data.toList b.data.toList k (by simpa using hlt) (by simpa using hltb))
        have HB := Lib.hid (bits_and_u8 (a[k]'hlt) (b[k]'hltb))
        generalize (pairL (· &&& ·) a.data.toList b.data.toList).take k = l at *
        have HO := Lib.hid hown
        have HBS := Lib.hid hbs
        clear hown hbs
        go_wp2_with (at_builtin; refine wpList_append_own _ rfl _ _ 65 rfl w.heap.size 5 i0 (.int .u8 0) 1 1 Tryz.underlying65 hi hz0 hz1 hz2 rfl (by decide) _ _ _ rfl (HO.out.alloc _) ⟨wr.heap.size, 0, none⟩ 1 1 [.int .u8 (bits BinOp.and IntKind.u8 ↑(a[k]'hlt).toNat ↑(b[k]'hltb).toNat)] rfl rfl ?c1 ?c2 ?c3 ?c4 ?c5 ?_)
        case c1 => exact cell_one_new _ _ _
        case c2 => intro u hu; simp at hu; subst hu; rfl
        case c3 => unfold maxLen; omega
        case c4 => omega
        case c5 => have := hbel.size; simp; omega
        · intro v' w1 hown' hgrow _
          have hB1 : Below w.heap.size w w1 := (hbel.alloc (by have := hbel.size; omega) _).grown hgrow (by have := hbel.size; simp; omega) HBS.out
          have HO1 : Hid (OwnB w1 w.heap.size 5 v' ((pairL (· &&& ·) a.data.toList b.data.toList).take (k + 1))) := by
            show OwnB _ _ _ _ _
            rw [HS.out]
            rw [HB.out, encB_snoc] at hown'
            have e : l.length + 1 = (l ++ [a[k]'hlt &&& b[k]'hltb]).length := by simp
            rw [e] at hown'
            exact hown'
          clear hown' hgrow
          go_wp2
          go_roundw
          case rel => exact ⟨k + 1, by omega, by go_num, HO1.out, hB1⟩
          case measure => simp [intOf]; omega
      · have HS := Lib.hid (pairL_take_past (· &&& ·) a.data.toList b.data.toList k (by simpa using hlt) (by simpa using hltb))
        generalize (pairL (· &&& ·) a.data.toList b.data.toList).take k = l at *
        have HO := Lib.hid hown
        have HBS := Lib.hid hbs
        clear hown hbs
        go_wp2_with (at_builtin; refine wpList_append_own _ rfl _ _ 65 rfl w.heap.size 5 i0 (.int .u8 0) 1 1 Tryz.underlying65 hi hz0 hz1 hz2 rfl (by decide) _ _ _ rfl (HO.out.alloc _) ⟨wr.heap.size, 0, none⟩ 1 1 [.int .u8 ↑(a[k]'hlt).toNat] rfl rfl ?d1 ?d2 ?d3 ?d4 ?d5 ?_)
        case d1 => exact cell_one_new _ _ _
        case d2 => intro u hu; simp at hu; subst hu; rfl
        case d3 => unfold maxLen; omega
        case d4 => omega
        case d5 => have := hbel.size; simp; omega
        · intro v' w1 hown' hgrow _
          have hB1 : Below w.heap.size w w1 := (hbel.alloc (by have := hbel.size; omega) _).grown hgrow (by have := hbel.size; simp; omega) HBS.out
          have HO1 : Hid (OwnB w1 w.heap.size 5 v' ((pairL (· &&& ·) a.data.toList b.data.toList).take (k + 1))) := by
            show OwnB _ _ _ _ _
            rw [HS.out]
            rw [encB_snoc] at hown'
            have e : l.length + 1 = (l ++ [a[k]'hlt]).length := by simp
            rw [e] at hown'
            exact hown'
          clear hown' hgrow
          go_wp2
          go_roundw
          case rel => exact ⟨k + 1, by omega, by go_num, HO1.out, hB1⟩
          case measure => simp [intOf]; omega
    · have hbk := hown.back (P := Tryz.prog) 65 9 Tryz.underlying65 Tryz.underlying5 Tryz.underlying9
      have HO := Lib.hid hown
      clear hown
      go_wp2
      go_ret
      exact ⟨ret_str (List.take_of_length_le (by rw [length_pairL]; simp; omega)), hbel⟩

set_option maxHeartbeats 400000 in
theorem refOr_any (a b : ByteArray) (w : World) (ha : a.size ≤ 1000000) (hb : b.size ≤ 1000000) :
    Calls Tryz.prog 69 #[.string a, .string b] w fun e w' => e = .returned (.string ⟨(pairL (· ||| ·) a.data.toList b.data.toList).toArray⟩) ∧ Below w.heap.size w w' := by
  obtain ⟨i0, hi, hz0, hz1, hz2⟩ := info_parts Tryz.infoU8
  go_enter Tryz.func69, Tryz.ntmps69
  go_wp2
  go_loopw [5, 6] (fun v i wr => ∃ k : Nat, k ≤ a.size ∧ i = .int .i64 k ∧ OwnB wr w.heap.size 5 v ((pairL (· ||| ·) a.data.toList b.data.toList).take k) ∧ Below w.heap.size w wr) (fun _ i _ => a.size - (intOf i).toNat)
  case atStart => exact ⟨0, Nat.zero_le _, rfl, OwnB.nil _ _ _, Below.refl _ _⟩
  case round =>
    obtain ⟨k, hk, rfl, hown, hbel⟩ := hrel
    by_cases hlt : k < a.size
    · have hlen : ((pairL (· ||| ·) a.data.toList b.data.toList).take k).length ≤ k := List.length_take_le _ _
      have hbs := hown.size_le
      by_cases hltb : k < b.size
      · have HS := Lib.hid (pairL_take (· ||| ·) a.data.toList b.data.toList k (by simpa using hlt) (by simpa using hltb))
        have HB := Lib.hid (bits_or_u8 (a[k]'hlt) (b[k]'hltb))
        generalize (pairL (· ||| ·) a.data.toList b.data.toList).take k = l at *
        have HO := Lib.hid hown
        have HBS := Lib.hid hbs
        clear hown hbs
        go_wp2_with (at_builtin; refine wpList_append_own _ rfl _ _ 65 rfl w.heap.size 5 i0 (.int .u8 0) 1 1 Tryz.underlying65 hi hz0 hz1 hz2 rfl (by decide) _ _ _ rfl (HO.out.alloc _) ⟨wr.heap.size, 0, none⟩ 1 1 [.int .u8 (bits BinOp.or IntKind.u8 ↑(a[k]'hlt).toNat ↑(b[k]'hltb).toNat)] rfl rfl ?c1 ?c2 ?c3 ?c4 ?c5 ?_)
        case c1 => exact cell_one_new _ _ _
        case c2 => intro u hu; simp at hu; subst hu; rfl
        case c3 => unfold maxLen; omega
        case c4 => omega
        case c5 => have := hbel.size; simp; omega
        · intro v' w1 hown' hgrow _
          have hB1 : Below w.heap.size w w1 := (hbel.alloc (by have := hbel.size; omega) _).grown hgrow (by have := hbel.size; simp; omega) HBS.out
          have HO1 : Hid (OwnB w1 w.heap.size 5 v' ((pairL (· ||| ·) a.data.toList b.data.toList).take (k + 1))) := by
            show OwnB _ _ _ _ _
            rw [HS.out]
            rw [HB.out, encB_snoc] at hown'
            have e : l.length + 1 = (l ++ [a[k]'hlt ||| b[k]'hltb]).length := by simp
            rw [e] at hown'
            exact hown'
          clear hown' hgrow
          go_wp2
          go_roundw
          case rel => exact ⟨k + 1, by omega, by go_num, HO1.out, hB1⟩
          case measure => simp [intOf]; omega
      · have HS := Lib.hid (pairL_take_past (· ||| ·) a.data.toList b.data.toList k (by simpa using hlt) (by simpa using hltb))
        generalize (pairL (· ||| ·) a.data.toList b.data.toList).take k = l at *
        have HO := Lib.hid hown
        have HBS := Lib.hid hbs
        clear hown hbs
        go_wp2_with (at_builtin; refine wpList_append_own _ rfl _ _ 65 rfl w.heap.size 5 i0 (.int .u8 0) 1 1 Tryz.underlying65 hi hz0 hz1 hz2 rfl (by decide) _ _ _ rfl (HO.out.alloc _) ⟨wr.heap.size, 0, none⟩ 1 1 [.int .u8 ↑(a[k]'hlt).toNat] rfl rfl ?d1 ?d2 ?d3 ?d4 ?d5 ?_)
        case d1 => exact cell_one_new _ _ _
        case d2 => intro u hu; simp at hu; subst hu; rfl
        case d3 => unfold maxLen; omega
        case d4 => omega
        case d5 => have := hbel.size; simp; omega
        · intro v' w1 hown' hgrow _
          have hB1 : Below w.heap.size w w1 := (hbel.alloc (by have := hbel.size; omega) _).grown hgrow (by have := hbel.size; simp; omega) HBS.out
          have HO1 : Hid (OwnB w1 w.heap.size 5 v' ((pairL (· ||| ·) a.data.toList b.data.toList).take (k + 1))) := by
            show OwnB _ _ _ _ _
            rw [HS.out]
            rw [encB_snoc] at hown'
            have e : l.length + 1 = (l ++ [a[k]'hlt]).length := by simp
            rw [e] at hown'
            exact hown'
          clear hown' hgrow
          go_wp2
          go_roundw
          case rel => exact ⟨k + 1, by omega, by go_num, HO1.out, hB1⟩
          case measure => simp [intOf]; omega
    · have hbk := hown.back (P := Tryz.prog) 65 9 Tryz.underlying65 Tryz.underlying5 Tryz.underlying9
      have HO := Lib.hid hown
      clear hown
      go_wp2
      go_ret
      exact ⟨ret_str (List.take_of_length_le (by rw [length_pairL]; simp; omega)), hbel⟩

set_option maxHeartbeats 400000 in
theorem refXor_any (a b : ByteArray) (w : World) (ha : a.size ≤ 1000000) (hb : b.size ≤ 1000000) :
    Calls Tryz.prog 87 #[.string a, .string b] w fun e w' => e = .returned (.string ⟨(pairL (· ^^^ ·) a.data.toList b.data.toList).toArray⟩) ∧ Below w.heap.size w w' := by
  obtain ⟨i0, hi, hz0, hz1, hz2⟩ := info_parts Tryz.infoU8
  go_enter Tryz.func87, Tryz.ntmps87
  go_wp2
  go_loopw [5, 6] (fun v i wr => ∃ k : Nat, k ≤ a.size ∧ i = .int .i64 k ∧ OwnB wr w.heap.size 5 v ((pairL (· ^^^ ·) a.data.toList b.data.toList).take k) ∧ Below w.heap.size w wr) (fun _ i _ => a.size - (intOf i).toNat)
  case atStart => exact ⟨0, Nat.zero_le _, rfl, OwnB.nil _ _ _, Below.refl _ _⟩
  case round =>
    obtain ⟨k, hk, rfl, hown, hbel⟩ := hrel
    by_cases hlt : k < a.size
    · have hlen : ((pairL (· ^^^ ·) a.data.toList b.data.toList).take k).length ≤ k := List.length_take_le _ _
      have hbs := hown.size_le
      by_cases hltb : k < b.size
      · have HS := Lib.hid (pairL_take (· ^^^ ·) a.data.toList b.data.toList k (by simpa using hlt) (by simpa using hltb))
        have HB := Lib.hid (bits_xor_u8 (a[k]'hlt) (b[k]'hltb))
        generalize (pairL (· ^^^ ·) a.data.toList b.data.toList).take k = l at *
        have HO := Lib.hid hown
        have HBS := Lib.hid hbs
        clear hown hbs
        go_wp2_with (at_builtin; refine wpList_append_own _ rfl _ _ 65 rfl w.heap.size 5 i0 (.int .u8 0) 1 1 Tryz.underlying65 hi hz0 hz1 hz2 rfl (by decide) _ _ _ rfl (HO.out.alloc _) ⟨wr.heap.size, 0, none⟩ 1 1 [.int .u8 (bits BinOp.xor IntKind.u8 ↑(a[k]'hlt).toNat ↑(b[k]'hltb).toNat)] rfl rfl ?c1 ?c2 ?c3 ?c4 ?c5 ?_)
        case c1 => exact cell_one_new _ _ _
        case c2 => intro u hu; simp at hu; subst hu; rfl
        case c3 => unfold maxLen; omega
        case c4 => omega
        case c5 => have := hbel.size; simp; omega
        · intro v' w1 hown' hgrow _
          have hB1 : Below w.heap.size w w1 := (hbel.alloc (by have := hbel.size; omega) _).grown hgrow (by have := hbel.size; simp; omega) HBS.out
          have HO1 : Hid (OwnB w1 w.heap.size 5 v' ((pairL (· ^^^ ·) a.data.toList b.data.toList).take (k + 1))) := by
            show OwnB _ _ _ _ _
            rw [HS.out]
            rw [HB.out, encB_snoc] at hown'
            have e : l.length + 1 = (l ++ [a[k]'hlt ^^^ b[k]'hltb]).length := by simp
            rw [e] at hown'
            exact hown'
          clear hown' hgrow
          go_wp2
          go_roundw
          case rel => exact ⟨k + 1, by omega, by go_num, HO1.out, hB1⟩
          case measure => simp [intOf]; omega
      · have HS := Lib.hid (pairL_take_past (· ^^^ ·) a.data.toList b.data.toList k (by simpa using hlt) (by simpa using hltb))
        generalize (pairL (· ^^^ ·) a.data.toList b.data.toList).take k = l at *
        have HO := Lib.hid hown
        have HBS := Lib.hid hbs
        clear hown hbs
        go_wp2_with (at_builtin; refine wpList_append_own _ rfl _ _ 65 rfl w.heap.size 5 i0 (.int .u8 0) 1 1 Tryz.underlying65 hi hz0 hz1 hz2 rfl (by decide) _ _ _ rfl (HO.out.alloc _) ⟨wr.heap.size, 0, none⟩ 1 1 [.int .u8 ↑(a[k]'hlt).toNat] rfl rfl ?d1 ?d2 ?d3 ?d4 ?d5 ?_)
        case d1 => exact cell_one_new _ _ _
        case d2 => intro u hu; simp at hu; subst hu; rfl
        case d3 => unfold maxLen; omega
        case d4 => omega
        case d5 => have := hbel.size; simp; omega
        · intro v' w1 hown' hgrow _
          have hB1 : Below w.heap.size w w1 := (hbel.alloc (by have := hbel.size; omega) _).grown hgrow (by have := hbel.size; simp; omega) HBS.out
          have HO1 : Hid (OwnB w1 w.heap.size 5 v' ((pairL (· ^^^ ·) a.data.toList b.data.toList).take (k + 1))) := by
            show OwnB _ _ _ _ _
            rw [HS.out]
            rw [encB_snoc] at hown'
            have e : l.length + 1 = (l ++ [a[k]'hlt]).length := by simp
            rw [e] at hown'
            exact hown'
          clear hown' hgrow
          go_wp2
          go_roundw
          case rel => exact ⟨k + 1, by omega, by go_num, HO1.out, hB1⟩
          case measure => simp [intOf]; omega
    · have hbk := hown.back (P := Tryz.prog) 65 9 Tryz.underlying65 Tryz.underlying5 Tryz.underlying9
      have HO := Lib.hid hown
      clear hown
      go_wp2
      go_ret
      exact ⟨ret_str (List.take_of_length_le (by rw [length_pairL]; simp; omega)), hbel⟩
end Go.Proofs.YtipiioggdalkoaaGreatDoor
end
section
namespace Go.Proofs.YtipiioggdalkoaaGreatDoor
open Go.RowKit
set_option linter.unusedVariables false

set_option maxHeartbeats 400000 in
theorem refOnes_none (n : Int) (w : World) (h : n ≤ 0 ∨ 100000 < n) :
    Calls Tryz.prog 64 #[.int .i64 n] w fun e w' => e = .returned (.string ⟨#[]⟩) ∧ w = w' := by
  have hbk := fun W => run_convert_bytes_nil (P := Tryz.prog) (w := W) 65 5 Tryz.underlying65 Tryz.underlying5 0 0 9 Tryz.underlying9
  by_cases h0 : 0 < n
  · have h1 : decide (n ≤ 100000) = false := by simp; omega
    go_enter Tryz.func64, Tryz.ntmps64
    go_wp2
    refine wp_loop_rounds 1 ?_; rw [rounds_succ]
    go_wp2
    go_ret
    exact ⟨rfl, rfl⟩
  · have h1 : decide (0 < n) = false := by simp; omega
    go_enter Tryz.func64, Tryz.ntmps64
    go_wp2
    refine wp_loop_rounds 1 ?_; rw [rounds_succ]
    go_wp2
    go_ret
    exact ⟨rfl, rfl⟩

set_option maxHeartbeats 400000 in
theorem refOnes_some (n : Nat) (w : World) (hn : n ≤ 100000) :
    Calls Tryz.prog 64 #[.int .i64 (n : Int)] w fun e w' => e = .returned (.string ⟨(List.replicate n 255).toArray⟩) ∧ Below w.heap.size w w' := by
  obtain ⟨i0, hi, hz0, hz1, hz2⟩ := info_parts Tryz.infoU8
  have hn2 : decide ((n : Int) ≤ 100000) = true := by simp; omega
  go_enter Tryz.func64, Tryz.ntmps64
  go_wp2
  go_loopw [3, 4] (fun v i wr => ∃ k : Nat, k ≤ n ∧ i = .int .i64 k ∧ OwnB wr w.heap.size 5 v (List.replicate k 255) ∧ Below w.heap.size w wr) (fun _ i _ => n - (intOf i).toNat)
  case atStart => exact ⟨0, Nat.zero_le _, rfl, OwnB.nil _ _ _, Below.refl _ _⟩
  case round =>
    obtain ⟨k, hk, rfl, hown, hbel⟩ := hrel
    by_cases hlt : k < n
    · have hlen : (List.replicate k (255 : UInt8)).length = k := by simp
      have hbs := hown.size_le
      have HS := Lib.hid (show List.replicate (k + 1) (255 : UInt8) = List.replicate k 255 ++ [255] from List.replicate_succ')
      generalize List.replicate k (255 : UInt8) = l at *
      have HO := Lib.hid hown
      have HBS := Lib.hid hbs
      have HL := Lib.hid hlen
      have hll : l.length ≤ 100000 := by omega
      clear hown hbs hlen
      go_wp2_with (at_builtin; refine wpList_append_own _ rfl _ _ 65 rfl w.heap.size 5 i0 (.int .u8 0) 1 1 Tryz.underlying65 hi hz0 hz1 hz2 rfl (by decide) _ _ _ rfl (HO.out.alloc _) ⟨wr.heap.size, 0, none⟩ 1 1 [.int .u8 255] rfl rfl ?c1 ?c2 ?c3 ?c4 ?c5 ?_)
      case c1 => exact cell_one_new _ _ _
      case c2 => intro u hu; simp at hu; subst hu; rfl
      case c3 => unfold maxLen; omega
      case c4 => omega
      case c5 => have := hbel.size; simp; omega
      · intro v' w1 hown' hgrow _
        have hB1 : Below w.heap.size w w1 := (hbel.alloc (by have := hbel.size; omega) _).grown hgrow (by have := hbel.size; simp; omega) HBS.out
        have HO1 : Hid (OwnB w1 w.heap.size 5 v' (List.replicate (k + 1) 255)) := by
          show OwnB _ _ _ _ _
          rw [HS.out]
          have e : l.length + 1 = (l ++ [255]).length := by simp
          rw [e] at hown'
          have e2 : encB l ++ [Value.int .u8 255] = encB (l ++ [255]) := encB_snoc l 255
          rw [e2] at hown'
          exact hown'
        clear hown' hgrow
        go_wp2
        go_roundw
        case rel => exact ⟨k + 1, by omega, by go_num, HO1.out, hB1⟩
        case measure => simp [intOf]; omega
    · have hbk := hown.back (P := Tryz.prog) 65 9 Tryz.underlying65 Tryz.underlying5 Tryz.underlying9
      have HO := Lib.hid hown
      have hd : decide ((k : Int) < (n : Int)) = false := by simp; omega
      clear hown
      obtain rfl : k = n := by omega
      generalize hr : List.replicate k (255 : UInt8) = l at *
      have HR := Lib.hid hr
      clear hr
      go_wp2
      go_ret
      exact ⟨ret_str HR.out.symm, hbel⟩

theorem refOnes_any (n : Int) (w : World) :
    Calls Tryz.prog 64 #[.int .i64 n] w fun e w' => e = .returned (.string ⟨(onesL n).toArray⟩) ∧ Below w.heap.size w w' := by
  by_cases h : 0 < n ∧ n ≤ 100000
  · obtain ⟨m, rfl⟩ := Int.eq_ofNat_of_zero_le (show 0 ≤ n by omega)
    refine (refOnes_some m w (by omega)).mono ?_
    rintro e w' ⟨rfl, hb⟩
    exact ⟨by rw [show onesL (m : Int) = List.replicate m 255 by unfold onesL; rw [if_pos (by omega), Int.toNat_natCast]], hb⟩
  · refine (refOnes_none n w (by omega)).mono ?_
    rintro e w' ⟨rfl, rfl⟩
    refine ⟨?_, Below.refl _ _⟩
    have : onesL n = [] := by
      unfold onesL
      split
      · have : n = 0 := by omega
        subst this; rfl
      · rfl
    rw [this]

theorem not_of_xor : ∀ l : List UInt8, pairL (· ^^^ ·) (List.replicate l.length 255) l = notL l
  | [] => rfl
  | x :: r => by
    have := not_of_xor r
    simp only [notL, List.length_cons, List.replicate_succ, pairL, List.map_cons] at this ⊢
    rw [this, show (255 : UInt8) = -1 from rfl, UInt8.neg_one_xor]

set_option maxHeartbeats 400000 in
theorem refNot_any (s : ByteArray) (w : World) (hs : s.size ≤ 100000) :
    Calls Tryz.prog 70 #[.string s] w fun e w' => e = .returned (.string ⟨(notL s.data.toList).toArray⟩) ∧ Below w.heap.size w w' := by
  have H1 := Lib.hid (show onesL (s.size : Int) = List.replicate s.data.toList.length 255 by unfold onesL; rw [if_pos (by omega), Int.toNat_natCast]; simp)
  go_enter Tryz.func70, Tryz.ntmps70
  go_wp2_with fail
  refine (refOnes_any _ _).mono ?_
  rintro e w1 ⟨rfl, hb1⟩
  have hl : (onesL (s.size : Int)).length ≤ 1000000 := by rw [H1.out, List.length_replicate]; simp; omega
  go_wp2_with fail
  refine (refXor_any _ _ _ (by show (onesL (s.size : Int)).toArray.size ≤ _; simpa using hl) (by omega)).mono ?_
  rintro e w2 ⟨rfl, hb2⟩
  go_wp2
  go_ret
  exact ⟨ret_str (by rw [← not_of_xor, ← H1.out]), hb1.trans (hb2.mono hb1.size)⟩

theorem pop_half (c : Nat) (h : c < 256) : Lib.onesCount c = c % 2 + Lib.onesCount (c / 2) := by
  have h' : ∀ n : Fin 256, Lib.onesCount n.val = n.val % 2 + Lib.onesCount (n.val / 2) := by decide +kernel
  exact h' ⟨c, h⟩
theorem pop_le8 (c : Nat) (h : c < 256) : Lib.onesCount c ≤ 8 := Lib.onesCount_le8 ⟨c, h⟩

end Go.Proofs.YtipiioggdalkoaaGreatDoor
end
section
namespace Go.Proofs.YtipiioggdalkoaaGreatDoor
open Go.RowKit
set_option linter.unusedVariables false

theorem putL_snoc : ∀ (k m : Nat), putL m (k + 1) = putL m k ++ [UInt8.ofNat (m / 256 ^ k)]
  | 0, m => by simp [putL]
  | k + 1, m => by
    have h := putL_snoc k (m / 256)
    rw [putL, h, putL, Nat.div_div_eq_div_mul, Nat.pow_succ, Nat.mul_comm]
    simp

set_option maxRecDepth 20000 in
set_option maxHeartbeats 400000 in
theorem refPut_bad (n width : Int) (w : World) (h : isWidthB width = false ∨ n < 0) :
    Calls Tryz.prog 88 #[.int .i64 n, .int .i64 width] w fun e w' => e = .returned (.tuple #[.string ⟨#[]⟩, .int .i64 1]) ∧ w = w' := by
  by_cases h1 : width < 1
  · go_enter Tryz.func88, Tryz.ntmps88
    go_wp2
    go_ret2
    exact ⟨rfl, rfl⟩
  · have h1' : decide (width < 1) = false := by simpa using h1
    by_cases h7 : 7 < width
    · go_enter Tryz.func88, Tryz.ntmps88
      go_wp2
      go_ret2
      exact ⟨rfl, rfl⟩
    · have h7' : decide (7 < width) = false := by simpa using h7
      have hn : n < 0 := by
        rcases h with h | h
        · simp only [isWidthB, Bool.and_eq_false_iff, decide_eq_false_iff_not] at h; omega
        · exact h
      clear h
      go_enter Tryz.func88, Tryz.ntmps88
      go_wp2
      go_ret2
      exact ⟨rfl, rfl⟩

/-- What is left of a number, byte by byte. -/
def leftN (m k : Nat) : Nat := m / 256 ^ k
theorem leftN_succ (m k : Nat) : leftN m (k + 1) = leftN m k / 256 := by
  unfold leftN; rw [Nat.pow_succ, Nat.div_div_eq_div_mul]
theorem leftN_le (m k : Nat) : leftN m k ≤ m := Nat.div_le_self _ _

set_option maxRecDepth 20000 in
set_option maxHeartbeats 400000 in
theorem refPut_run (m wd : Nat) (w : World) (h1 : 1 ≤ wd) (h7 : wd ≤ 7) (hm : (m : Int) ≤ 9223372036854775807) (z : Bool) (hz : decide (0 < leftN m wd) = z) :
    Calls Tryz.prog 88 #[.int .i64 (m : Int), .int .i64 (wd : Int)] w fun e w' => e = .returned (if z = true then .tuple #[.string ⟨#[]⟩, .int .i64 1] else .tuple #[.string ⟨(putL m wd).toArray⟩, .int .i64 0]) ∧ Below w.heap.size w w' := by
  obtain ⟨i0, hi, hz0, hz1, hz2⟩ := info_parts Tryz.infoU8
  have d1 : decide ((wd : Int) < 1) = false := by simp; omega
  have d2 : decide (7 < (wd : Int)) = false := by simp; omega
  have d3 : decide ((m : Int) < 0) = false := by simp
  have HZ := Lib.hid hz
  clear hz
  go_enter Tryz.func88, Tryz.ntmps88
  go_wp2
  go_loopw [0, 6, 7] (fun n v i wr => ∃ k : Nat, k ≤ wd ∧ i = .int .i64 k ∧ n = .int .i64 (leftN m k : Int) ∧ OwnB wr w.heap.size 5 v (putL m k) ∧ Below w.heap.size w wr) (fun _ _ i _ => wd - (intOf i).toNat)
  case atStart => exact ⟨0, Nat.zero_le _, rfl, by simp [leftN], OwnB.nil _ _ _, Below.refl _ _⟩
  case round =>
    obtain ⟨k, hk, rfl, rfl, hown, hbel⟩ := hrel
    have hle := leftN_le m k
    by_cases hlt : k < wd
    · have hlen := length_putL k m
      have hbs := hown.size_le
      have HS := Lib.hid (putL_snoc k m)
      have HN := Lib.hid (leftN_succ m k)
      have HQ := Lib.hid (show ((leftN m k : Int) % 256) = ((UInt8.ofNat (m / 256 ^ k)).toNat : Int) by unfold leftN; simp)
      generalize putL m k = l at *
      have HO := Lib.hid hown
      have HBS := Lib.hid hbs
      have hll : l.length ≤ 7 := by omega
      clear hown hbs hlen
      go_wp2_with (at_builtin; refine wpList_append_own _ rfl _ _ 65 rfl w.heap.size 5 i0 (.int .u8 0) 1 1 Tryz.underlying65 hi hz0 hz1 hz2 rfl (by decide) _ _ _ rfl (HO.out.alloc _) ⟨wr.heap.size, 0, none⟩ 1 1 [.int .u8 ((leftN m k : Int) % 256)] rfl rfl ?c1 ?c2 ?c3 ?c4 ?c5 ?_)
      case c1 => exact cell_one_new _ _ _
      case c2 => intro u hu; simp at hu; subst hu; rfl
      case c3 => unfold maxLen; omega
      case c4 => omega
      case c5 => have := hbel.size; simp; omega
      · intro v' w1 hown' hgrow _
        have hB1 : Below w.heap.size w w1 := (hbel.alloc (by have := hbel.size; omega) _).grown hgrow (by have := hbel.size; simp; omega) HBS.out
        have HO1 : Hid (OwnB w1 w.heap.size 5 v' (putL m (k + 1))) := by
          show OwnB _ _ _ _ _
          rw [HS.out]
          rw [HQ.out, encB_snoc] at hown'
          have e : l.length + 1 = (l ++ [UInt8.ofNat (m / 256 ^ k)]).length := by simp
          rw [e] at hown'
          exact hown'
        clear hown' hgrow
        go_wp2
        go_roundw
        case rel => exact ⟨k + 1, by omega, by go_num, by rw [HN.out]; go_num, HO1.out, hB1⟩
        case measure => simp [intOf]; omega
    · obtain rfl : k = wd := by omega
      have hbk := hown.back (P := Tryz.prog) 65 9 Tryz.underlying65 Tryz.underlying5 Tryz.underlying9
      have HO := Lib.hid hown
      clear hown
      have hzz := HZ.out
      cases z with
      | true =>
        have hp : 0 < leftN m k := by simpa using hzz
        go_wp2
        go_ret2
        exact ⟨rfl, hbel⟩
      | false =>
        have hp : ¬ 0 < leftN m k := by simpa using hzz
        go_wp2
        go_ret2
        exact ⟨rfl, hbel⟩

theorem refPut_any (n width : Int) (w : World) (hm : n ≤ 9223372036854775807) :
    Calls Tryz.prog 88 #[.int .i64 n, .int .i64 width] w fun e w' => e = .returned (.tuple #[.string ⟨(putS n width).toArray⟩, .int .i64 (putE n width)]) ∧ Below w.heap.size w w' := by
  by_cases h : isWidthB width = false ∨ n < 0
  · refine (refPut_bad n width w h).mono ?_
    rintro e w' ⟨rfl, rfl⟩
    have ok : okPut n width = false := by
      rcases h with h | h
      · simp [okPut, h]
      · simp [okPut]; omega
    exact ⟨by simp [putS, putE, ok], Below.refl _ _⟩
  · have hw : isWidthB width = true := by simp at h; exact h.1
    have hwd : 1 ≤ width ∧ width ≤ 7 := by simpa [isWidthB] using hw
    obtain ⟨m, rfl⟩ := Int.eq_ofNat_of_zero_le (show 0 ≤ n by simp at h; omega)
    obtain ⟨wd, rfl⟩ := Int.eq_ofNat_of_zero_le (show 0 ≤ width by omega)
    refine (refPut_run m wd w (by omega) (by omega) hm _ rfl).mono ?_
    rintro e w' ⟨rfl, hb⟩
    have hiff : okPut (m : Int) (wd : Int) = !decide (0 < leftN m wd) := by
      have e1 : ((256 : Int) ^ wd) = ((256 ^ wd : Nat) : Int) := by simp
      simp only [okPut, hw, Bool.true_and, Int.toNat_natCast, e1]
      unfold leftN
      by_cases hz : m < 256 ^ wd
      · have : m / 256 ^ wd = 0 := Nat.div_eq_of_lt hz
        simp [this]
        omega
      · have := Nat.div_pos (Nat.le_of_not_lt hz) (Nat.pow_pos (n := wd) (show 0 < 256 by omega))
        simp [this]
        omega
    refine ⟨?_, hb⟩
    cases hd : decide (0 < leftN m wd) with
    | true => rw [hd] at hiff; simp [putS, putE, hiff]
    | false => rw [hd] at hiff; simp [putS, putE, hiff]

theorem getN_drop (l : List UInt8) (i : Nat) (h : i < l.length) : getN (l.drop i) = 256 * getN (l.drop (i + 1)) + l[i].toNat := by
  rw [List.drop_eq_getElem_cons h, getN]
  omega

theorem get_step (g b : Nat) (hg : g ≤ 281474976710656) (hb : b < 2 ^ 8) : wrap64 (256 * (g : Int) + wrap64 (b : Int)) = ((256 * g + b : Nat) : Int) := by
  unfold wrap64
  omega

end Go.Proofs.YtipiioggdalkoaaGreatDoor
end
section
namespace Go.Proofs.YtipiioggdalkoaaGreatDoor
open Go.RowKit
set_option linter.unusedVariables false

/-- The lowest bit of the byte is turned into the number, the others wait. -/
theorem stp_bit (q c : Nat) : stp (q ^^^ c) = stp (q ^^^ c % 2) ^^^ c / 2 := by
  rw [stp_xor, stp_xor, Nat.xor_assoc]
  congr 1
  unfold stp
  rcases Nat.mod_two_eq_zero_or_one c with h | h <;> simp [h]
  rw [Nat.xor_comm]

set_option maxHeartbeats 400000 in
theorem refStep_any (n b : Nat) (w : World) (hn : n < 4294967296) (hb : b < 2) :
    Calls Tryz.prog 119 #[.int .u32 (n : Int), .int .u32 (b : Int)] w fun e w' => e = .returned (.int .u32 (stp (n ^^^ b) : Int)) ∧ w = w' := by
  have hxor := u32_xor_nat (n / 2) 3988292384 (by omega) (by omega)
  have hb2 : b / 2 = 0 := by omega
  have H := Lib.hid (show stp (n ^^^ b) = if n % 2 = b then n / 2 else n / 2 ^^^ 3988292384 by
    unfold stp
    rw [xor_two, xor_half, hb2, Nat.xor_zero]
    by_cases h : n % 2 = b
    · rw [if_pos h, if_neg (by omega)]
    · rw [if_neg h, if_pos (by omega)])
  by_cases h : n % 2 = b
  · have h' : ((n : Int) % 2 != (b : Int)) = false := by simp [bne]; omega
    go_enter Tryz.func119, Tryz.ntmps119
    go_wp2
    go_ret
    exact ⟨ret_int (by rw [H.out, if_pos h]; omega), rfl⟩
  · have h' : ((n : Int) % 2 != (b : Int)) = true := by simp [bne]; omega
    go_enter Tryz.func119, Tryz.ntmps119
    go_wp2
    go_ret
    exact ⟨ret_int (by rw [H.out, if_neg h, ← hxor]; rfl), rfl⟩

set_option maxHeartbeats 1000000 in
theorem refOn_any (n : Nat) (l : List UInt8) (w : World) (hn : n < 4294967296) (hl : l.length ≤ 1000000) :
    Calls Tryz.prog 107 #[.int .u32 (n : Int), .string ⟨l.toArray⟩] w fun e w' => e = .returned (.int .u32 (onL n l : Int)) ∧ w = w' := by
  go_enter Tryz.func107, Tryz.ntmps107
  have hsz : (⟨l.toArray⟩ : ByteArray).size = l.length := size_mk l
  go_wp2
  go_loop [0, 5] (fun x i => ∃ k : Nat, k ≤ l.length ∧ i = .int .i64 k ∧ x = .int .u32 (onL n (l.take k) : Int)) (fun _ i => l.length - (intOf i).toNat)
  case atStart => exact ⟨0, Nat.zero_le _, rfl, rfl⟩
  case round =>
    obtain ⟨k, hk, rfl, rfl⟩ := hrel
    have ho := onL_lt (l.take k) hn
    by_cases hlt : k < l.length
    · have HT := Lib.hid (onL_take n l k hlt)
      have hb := byte_lt l[k]
      have hb2 := (l[k]).toNat_lt
      have hbb : (((⟨l.toArray⟩ : ByteArray)[k]'(by rw [hsz]; exact hlt)).toNat : Int) % 4294967296 = ((l[k]).toNat : Int) := by
        change (((l[k]).toNat : Nat) : Int) % 4294967296 = _; omega
      generalize onL n (l.take k) = q0 at *
      go_wp2
      go_loop [0, 6, 7] (fun x c i => ∃ j q r : Nat, j ≤ 8 ∧ q < 4294967296 ∧ r < 256 ∧ i = .int .i64 j ∧ x = .int .u32 (q : Int) ∧ c = .int .u32 (r : Int) ∧ r * 2 ^ j < 256 ∧ Hid (stps (8 - j) (q ^^^ r) = stps 8 (q0 ^^^ (l[k]).toNat))) (fun _ _ i => 8 - (intOf i).toNat)
      case atStart => exact ⟨0, q0, (l[k]).toNat, by omega, ho, hb2, rfl, rfl, by go_num, by omega, Lib.hid rfl⟩
      case round =>
        obtain ⟨j, q, r, hj, hq, hr, rfl, rfl, rfl, hrj, HR⟩ := hrel
        by_cases hj8 : j < 8
        · have hx := x32 hq (show r % 2 < 4294967296 by omega)
          have hsl := stp_lt hx
          have HS := Lib.hid (show stps (8 - j) (q ^^^ r) = stps (8 - (j + 1)) (stp (q ^^^ r % 2) ^^^ r / 2) by
            rw [show 8 - j = (8 - (j + 1)) + 1 by omega, ← stp_bit]; rfl)
          have hr2 : r / 2 * 2 ^ (j + 1) < 256 := by
            have : r / 2 * 2 ^ (j + 1) ≤ r * 2 ^ j := by
              rw [Nat.pow_succ, Nat.mul_comm (2 ^ j) 2, ← Nat.mul_assoc]
              exact Nat.mul_le_mul_right _ (Nat.div_mul_le_self r 2)
            omega
          have HR2 := Lib.hid hr2
          have HM := Lib.hid (show ((r : Int) % 2) = ((r % 2 : Nat) : Int) by omega)
          clear hr2 hrj
          go_wp2_with fail
          rw [HM.out]
          refine (refStep_any q (r % 2) _ hq (by omega)).mono ?_
          rintro e w' ⟨rfl, rfl⟩
          generalize stp (q ^^^ r % 2) = q2 at *
          go_wp2
          go_round
          case rel => exact ⟨j + 1, q2, r / 2, by omega, hsl, by omega, by go_num, by go_num, by go_num, HR2.out, Lib.hid (by rw [← HS.out]; exact HR.out)⟩
          case measure => simp [intOf]; omega
        · obtain rfl : j = 8 := by omega
          obtain rfl : r = 0 := by simp at hrj; omega
          clear hrj
          go_wp2
          go_round
          case rel => exact ⟨k + 1, by omega, by go_num, by rw [HT.out, stp8_eq, ← HR.out, Nat.xor_zero]; rfl⟩
          case measure => simp [intOf]; omega
    · go_wp2
      go_ret
      exact ⟨ret_int (by rw [List.take_of_length_le (by omega)]), rfl⟩

theorem xor_last {n : Nat} (h : n < 4294967296) : bits .xor .u32 (n : Int) 4294967295 = ((4294967295 - n : Nat) : Int) := by
  have := u32_xor_nat n 4294967295 h (by omega)
  rw [show ((4294967295 : Nat) : Int) = 4294967295 from rfl] at this
  rw [this, Nat.xor_comm, ← not_x32 h]

set_option maxHeartbeats 400000 in
theorem refSum_any (l : List UInt8) (w : World) (hl : l.length ≤ 1000000) :
    Calls Tryz.prog 89 #[.string ⟨l.toArray⟩] w fun e w' => e = .returned (.int .i64 (sumN l : Int)) ∧ w = w' := by
  have ho := onL_lt l (n := 4294967295) (by omega)
  have H := Lib.hid (show sumN l = 4294967295 - onL 4294967295 l from rfl)
  have hx := xor_last ho
  have hle : onL 4294967295 l ≤ 4294967295 := by omega
  go_enter Tryz.func89, Tryz.ntmps89
  go_wp2_with fail
  refine (refOn_any 4294967295 l _ (by omega) hl).mono ?_
  rintro e w' ⟨rfl, rfl⟩
  generalize onL 4294967295 l = q at *
  go_wp2
  go_ret
  exact ⟨ret_int (by rw [H.out]), rfl⟩

theorem refPut4 (m : Nat) (w : World) (hm : m < 4294967296) :
    Calls Tryz.prog 88 #[.int .i64 (m : Int), .int .i64 4] w fun e w' => e = .returned (.tuple #[.string ⟨(putL m 4).toArray⟩, .int .i64 0]) ∧ Below w.heap.size w w' := by
  refine (refPut_run m 4 w (by omega) (by omega) (by omega) false (by unfold leftN; rw [Nat.div_eq_of_lt (by omega)]; rfl)).mono ?_
  rintro e w' ⟨rfl, hb⟩
  exact ⟨rfl, hb⟩

set_option maxHeartbeats 400000 in
theorem refSeal_any (l : List UInt8) (w : World) (hl : l.length ≤ 1000000) :
    Calls Tryz.prog 76 #[.string ⟨l.toArray⟩] w fun e w' => e = .returned (.string ⟨(sealL l).toArray⟩) ∧ Below w.heap.size w w' := by
  have hp := length_putL 4 (sumN l)
  have hcat := fun W => run_string_add_lists (P := Tryz.prog) W l (putL (sumN l) 4) (by omega) (by omega)
  have hs := sumN_lt l
  have HS := Lib.hid (show l ++ putL (sumN l) 4 = sealL l from rfl)
  go_enter Tryz.func76, Tryz.ntmps76
  go_wp2_with fail
  refine (refSum_any l _ hl).mono ?_
  rintro e w' ⟨rfl, rfl⟩
  go_wp2_with fail
  refine (refPut4 (sumN l) _ hs).mono ?_
  rintro e w' ⟨rfl, hB⟩
  generalize putL (sumN l) 4 = p at *
  go_wp2
  go_ret
  exact ⟨ret_str HS.out, hB⟩

/-- What opens is what is sealed. -/
theorem opens_eq (l : List UInt8) (m : Nat) (hm : l.length = m + 4) : opens l = decide (sealL (l.take m) = l) := by
  rw [Bool.eq_iff_iff, decide_eq_true_iff]
  constructor
  · intro h
    have := seal_open l h
    unfold openS at this
    rwa [h, if_pos rfl, hm, Nat.add_sub_cancel] at this
  · intro h
    rw [← h]
    exact opens_seal _

end Go.Proofs.YtipiioggdalkoaaGreatDoor
end
section
namespace Go.Proofs.YtipiioggdalkoaaGreatDoor
open Go.RowKit
set_option linter.unusedVariables false

theorem refNot_l (a : List UInt8) (w : World) (ha : a.length ≤ 100000) :
    Calls Tryz.prog 70 #[.string ⟨a.toArray⟩] w fun e w' => e = .returned (.string ⟨(notL a).toArray⟩) ∧ Below w.heap.size w w' :=
  refNot_any _ w (by rw [size_mk]; exact ha)

set_option maxHeartbeats 400000 in
theorem refMake_any (l : List UInt8) (w : World) (hl : l.length ≤ 1024) :
    Calls Tryz.prog 47 #[.string ⟨l.toArray⟩] w fun e w' => e = .returned (.string ⟨(recL l).toArray⟩) ∧ Below w.heap.size w w' := by
  have hsl := length_sealL l
  have hnl := length_notL (sealL l)
  have hcat := fun W => run_string_add_lists (P := Tryz.prog) W (sealL l) (notL (sealL l)) (by omega) (by omega)
  have HR := Lib.hid (show sealL l ++ notL (sealL l) = recL l from rfl)
  go_enter Tryz.func47, Tryz.ntmps47
  go_wp2_with fail
  refine (refSeal_any l _ (by omega)).mono ?_
  rintro e w1 ⟨rfl, hB⟩
  go_wp2_with fail
  (with_reducible refine (refNot_l (sealL l) _ (by omega)).mono ?_); rintro e w2 ⟨rfl, hb2⟩
  replace hB := hB.trans (hb2.mono hB.size); clear hb2
  go_wp2
  go_ret
  exact ⟨ret_str HR.out, hB⟩

theorem refSize_any (n : Int) (w : World) :
    Calls Tryz.prog 33 #[.int .i64 n] w fun e w' => e = .returned (.int .i64 (sizeN n)) ∧ w = w' := by
  by_cases h1 : n < 0
  · have d1 : decide (n < 0) = true := by simpa using h1
    go_enter Tryz.func33, Tryz.ntmps33
    go_wp2
    go_ret
    exact ⟨by simp [sizeN, h1], rfl⟩
  · have d1 : decide (n < 0) = false := by simpa using h1
    by_cases h2 : 4000 < n
    · have d2 : decide (4000 < n) = true := by simpa using h2
      go_enter Tryz.func33, Tryz.ntmps33
      go_wp2
      go_ret
      exact ⟨by simp [sizeN, h2], rfl⟩
    · have d2 : decide (4000 < n) = false := by simpa using h2
      go_enter Tryz.func33, Tryz.ntmps33
      go_wp2
      go_ret
      exact ⟨ret_int (by unfold sizeN; rw [if_neg (by omega)]), rfl⟩

set_option maxHeartbeats 400000 in
theorem refClear_any (l : List UInt8) (w : World) (hl : l.length ≤ 1000) :
    Calls Tryz.prog 36 #[.string ⟨l.toArray⟩] w fun e w' => e = .returned (.bool (clearL l)) ∧ Below w.heap.size w w' := by
  have hsz : (⟨l.toArray⟩ : ByteArray).size = l.length := size_mk l
  have HC := Lib.hid (show (l == onesL (l.length : Int)) = clearL l by
    rw [clear_iff]
    have : onesL (l.length : Int) = List.replicate l.length 255 := by unfold onesL; rw [if_pos (by omega), Int.toNat_natCast]
    rw [this]
    by_cases h : l = List.replicate l.length 255
    · rw [decide_eq_true h]; exact beq_iff_eq.2 h
    · rw [decide_eq_false h]; exact beq_eq_false_iff_ne.2 h)
  go_enter Tryz.func36, Tryz.ntmps36
  go_wp2_with fail
  refine (refOnes_any _ _).mono ?_
  rintro e w1 ⟨rfl, hB⟩
  generalize onesL (l.length : Int) = o at *
  go_wp2
  go_ret
  exact ⟨by rw [← HC.out]; rfl, hB⟩

set_option maxHeartbeats 400000 in
theorem refRead_short (l : List UInt8) (w : World) (hl : l.length < 8) :
    Calls Tryz.prog 35 #[.string ⟨l.toArray⟩] w fun e w' => e = .returned (.tuple #[.string ⟨#[]⟩, .int .i64 2]) ∧ Below w.heap.size w w' := by
  have hsz : (⟨l.toArray⟩ : ByteArray).size = l.length := size_mk l
  have c8 : decide ((l.length : Int) < 8) = true := by simp; omega
  go_enter Tryz.func35, Tryz.ntmps35
  go_wp2
  go_ret2
  exact ⟨rfl, Below.refl _ _⟩
set_option maxHeartbeats 400000 in
theorem refRead_odd (l : List UInt8) (w : World) (hl : 8 ≤ l.length) (h1 : l.length ≤ 1000) (h2 : l.length % 2 = 1) :
    Calls Tryz.prog 35 #[.string ⟨l.toArray⟩] w fun e w' => e = .returned (.tuple #[.string ⟨#[]⟩, .int .i64 2]) ∧ Below w.heap.size w w' := by
  have hsz : (⟨l.toArray⟩ : ByteArray).size = l.length := size_mk l
  have c8 : decide ((l.length : Int) < 8) = false := by simp; omega
  have hm : (l.length : Int) % 2 = 1 := by omega
  go_enter Tryz.func35, Tryz.ntmps35
  go_wp2
  go_ret2
  exact ⟨rfl, Below.refl _ _⟩
set_option maxHeartbeats 400000 in
theorem refRead_long (l : List UInt8) (m : Nat) (w : World) (hm : l.length = 2 * (m + 4)) (h1 : l.length ≤ 1000) (o : Bool) (ho : decide (recL (l.take m) = l) = o) :
    Calls Tryz.prog 35 #[.string ⟨l.toArray⟩] w fun e w' => e = .returned (if o = true then .tuple #[.string ⟨(l.take m).toArray⟩, .int .i64 0] else .tuple #[.string ⟨#[]⟩, .int .i64 2]) ∧ Below w.heap.size w w' := by
  have hsz : (⟨l.toArray⟩ : ByteArray).size = 2 * (m + 4) := by rw [size_mk l]; exact hm
  have hext := ext_take' l m
  have HO := Lib.hid ho
  have c8 : decide (2 * ((m : Int) + 4) < 8) = false := by simp; omega
  have c9 : 2 * ((m : Int) + 4) % 2 = 0 := by omega
  have c10 : 2 * ((m : Int) + 4) / 2 = (m : Int) + 4 := by omega
  clear ho
  go_enter Tryz.func35, Tryz.ntmps35
  go_wp2_with fail
  refine (refMake_any (l.take m) _ (by rw [List.length_take]; omega)).mono ?_
  rintro e w' ⟨rfl, hB⟩
  generalize recL (l.take m) = y at *
  cases o with
  | true =>
    have hyl : y = l := by simpa using HO.out
    rw [hyl]
    go_wp2
    go_ret2
    exact ⟨rfl, hB⟩
  | false =>
    have hne : ¬ y = l := by simpa using HO.out
    have hbe : (y == l) = false := by simpa using hne
    have hbn : (y != l) = true := by simpa [bne] using hne
    clear hne
    go_wp2
    go_ret2
    exact ⟨rfl, hB⟩
theorem refRead_any (l : List UInt8) (w : World) (hl : l.length ≤ 1000) :
    Calls Tryz.prog 35 #[.string ⟨l.toArray⟩] w fun e w' => e = .returned (.tuple #[.string ⟨(readS l).toArray⟩, .int .i64 (readE l)]) ∧ Below w.heap.size w w' := by
  by_cases h : l.length < 8
  · obtain ⟨e1, e2⟩ := read_short l (.inl h)
    rw [e1, e2]
    exact refRead_short l w h
  · by_cases h2 : l.length % 2 = 1
    · obtain ⟨e1, e2⟩ := read_short l (.inr h2)
      rw [e1, e2]
      exact refRead_odd l w (by omega) hl h2
    · obtain ⟨e1, e2⟩ := read_ref l (by omega) (by omega)
      refine (refRead_long l (l.length / 2 - 4) w (by omega) hl _ rfl).mono ?_
      rintro e w' ⟨rfl, hB⟩
      refine ⟨?_, hB⟩
      rw [e1, e2]
      by_cases h3 : recL (l.take (l.length / 2 - 4)) = l
      · rw [decide_eq_true h3, if_pos rfl, if_pos h3, if_pos h3]
      · rw [decide_eq_false h3, if_neg h3, if_neg h3]; rfl
end Go.Proofs.YtipiioggdalkoaaGreatDoor
end
section
namespace Go.Proofs.YtipiioggdalkoaaGreatDoor
open Go.RowKit
set_option linter.unusedVariables false
set_option linter.unusedSimpArgs false

set_option maxHeartbeats 1000000 in
theorem refRoom_any (s : List UInt8) (n : Int) (w : World) (hs : s.length ≤ 1000000000) :
    Calls Tryz.prog 10 #[.string ⟨s.toArray⟩, .int .i64 n] w fun e w' => e = .returned (.int .i64 (roomN s n : Int)) ∧ w = w' := by
  have hsz : (⟨s.toArray⟩ : ByteArray).size = s.length := size_mk s
  have HE := Lib.hid (szN_eq n)
  have HZ := Lib.hid (roomN_zero s n)
  have HR := Lib.hid (show (roomN s n : Int) = (s.length : Int) / (szN n : Int) by unfold roomN; simp)
  have hle := szN_le n
  have hrl := roomN_len s n
  generalize szN n = z at *
  generalize roomN s n = r at *
  by_cases h0 : z = 0
  · have d0 : ((z : Int) == 0) = true := by simp [h0]
    go_enter Tryz.func10, Tryz.ntmps10
    go_wp2_with fail
    ((with_reducible refine (refSize_any n _).mono ?_); rintro e w' ⟨rfl, rfl⟩)
    rw [HE.out]
    go_wp2
    go_ret
    exact ⟨by rw [HZ.out h0]; rfl, rfl⟩
  · have d0 : ((z : Int) == 0) = false := by simp; omega
    have hz1 : 0 < z := by omega
    have hq0 : 0 ≤ (s.length : Int) / (z : Int) := by rw [← HR.out]; omega
    have hq1 : (s.length : Int) / (z : Int) ≤ 1000000000 := by rw [← HR.out]; omega
    go_enter Tryz.func10, Tryz.ntmps10
    go_wp2_with fail
    ((with_reducible refine (refSize_any n _).mono ?_); rintro e w' ⟨rfl, rfl⟩)
    rw [HE.out]
    go_wp2
    go_ret
    exact ⟨by rw [HR.out]; rfl, rfl⟩
set_option maxHeartbeats 1000000 in
theorem refSlot_no (s : List UInt8) (n i : Int) (w : World) (hs : s.length ≤ 1000000000) (h : i < 0 ∨ (roomN s n : Int) ≤ i) :
    Calls Tryz.prog 11 #[.string ⟨s.toArray⟩, .int .i64 n, .int .i64 i] w fun e w' => e = .returned (.string ⟨#[]⟩) ∧ w = w' := by
  by_cases h0 : i < 0
  · have d0 : decide (i < 0) = true := by simpa using h0
    go_enter Tryz.func11, Tryz.ntmps11
    go_wp2
    go_ret
    exact ⟨rfl, rfl⟩
  · have d0 : decide (i < 0) = false := by simpa using h0
    have d1 : decide ((roomN s n : Int) ≤ i) = true := by simp; omega
    go_enter Tryz.func11, Tryz.ntmps11
    go_wp2_with fail
    ((with_reducible refine (refRoom_any s n _ hs).mono ?_); rintro e w' ⟨rfl, rfl⟩)
    go_wp2
    go_ret
    exact ⟨rfl, rfl⟩
set_option maxHeartbeats 1000000 in
theorem refSlot_yes (s : List UInt8) (n : Int) (i : Nat) (w : World) (hs : s.length ≤ 1000000000) (h : i < roomN s n) :
    Calls Tryz.prog 11 #[.string ⟨s.toArray⟩, .int .i64 n, .int .i64 (i : Int)] w fun e w' => e = .returned (.string ⟨(slotL s n i).toArray⟩) ∧ w = w' := by
  have hsz : (⟨s.toArray⟩ : ByteArray).size = s.length := size_mk s
  have d0 : decide ((i : Int) < 0) = false := by simp
  have d1 : decide ((roomN s n : Int) ≤ (i : Int)) = false := by simp; omega
  have d1' : decide (roomN s n ≤ i) = false := by simp; omega
  have h1 := roomN_le s n
  have h2 : (i + 1) * szN n ≤ roomN s n * szN n := Nat.mul_le_mul_right _ h
  have h3 : (i + 1) * szN n = i * szN n + szN n := by rw [Nat.add_mul, Nat.one_mul]
  rw [h3] at h2
  have HE := Lib.hid (szN_eq n)
  have hz := szN_le n
  have HS := Lib.hid (show slotL s n i = (s.drop (i * szN n)).take (szN n) from rfl)
  have HM := Lib.hid (show (i : Int) * (szN n : Int) = ((i * szN n : Nat) : Int) by simp)
  have HX := Lib.hid (ext_mid s (i * szN n) (i * szN n + szN n))
  have hil : i ≤ 1000000000 := Nat.le_trans (Nat.le_of_lt h) (Nat.le_trans (roomN_len s n) hs)
  generalize szN n = z at *
  generalize i * z = q at *
  clear h3
  have hm0 : 0 ≤ (i : Int) * (z : Int) := by rw [HM.out]; omega
  have hm1 : (i : Int) * (z : Int) ≤ 1000000000 := by rw [HM.out]; omega
  have hm4 : (i : Int) * (z : Int) + (z : Int) ≤ (s.length : Int) := by rw [HM.out]; omega
  have HR := Lib.hid (show (⟨s.toArray⟩ : ByteArray).extract ((i : Int) * (z : Int)).toNat ((i : Int) * (z : Int) + (z : Int)).toNat = ⟨(slotL s n i).toArray⟩ by
    rw [HM.out, show ((q : Int) + (z : Int)).toNat = q + z by omega, Int.toNat_natCast, HX.out, HS.out, Nat.add_sub_cancel_left])
  clear HS HX HM h1 h2
  go_enter Tryz.func11, Tryz.ntmps11
  go_wp2_with fail
  ((with_reducible refine (refRoom_any s n _ hs).mono ?_); rintro e w' ⟨rfl, rfl⟩)
  go_wp2_with fail
  ((with_reducible refine (refSize_any n _).mono ?_); rintro e w' ⟨rfl, rfl⟩)
  rw [HE.out]
  go_wp2
  go_ret
  exact ⟨by rw [← HR.out]; rfl, rfl⟩
theorem refSlot_any (s : List UInt8) (n i : Int) (w : World) (hs : s.length ≤ 1000000000) :
    Calls Tryz.prog 11 #[.string ⟨s.toArray⟩, .int .i64 n, .int .i64 i] w fun e w' => e = .returned (.string ⟨(slotI s n i).toArray⟩) ∧ w = w' := by
  by_cases h : 0 ≤ i ∧ i < (roomN s n : Int)
  · obtain ⟨k, rfl⟩ := Int.eq_ofNat_of_zero_le h.1
    have := refSlot_yes s n k w hs (by omega)
    rwa [show slotI s n (k : Int) = slotL s n k by unfold slotI; rw [if_pos h]; rfl]
  · have := refSlot_no s n i w hs (by omega)
    rwa [show slotI s n i = [] by unfold slotI; rw [if_neg h]]
end Go.Proofs.YtipiioggdalkoaaGreatDoor
end
section
namespace Go.Proofs.YtipiioggdalkoaaGreatDoor
open Go.RowKit
set_option linter.unusedVariables false
set_option linter.unusedSimpArgs false

theorem ownsRow_block {w : World} {base : Nat} {e : TypeId} {z : Nat} {v : Value} {k : Nat} {xs : List Value} (h : w.ownsRow base e z v k xs) : ∀ j, v.ownBlock = some j → base ≤ j := by
  intro j hj
  obtain ⟨_, ⟨rfl, _⟩ | ⟨g, cap, cur, rfl, hb, _⟩⟩ := h
  · simp [Value.ownBlock] at hj
  · simp only [Value.ownBlock, Option.some.injEq] at hj
    omega
theorem slot_le (s : List UInt8) (n : Int) (j : Nat) : (slotL s n j).length ≤ s.length := by simp only [slotL, List.length_take, List.length_drop]; omega
set_option maxRecDepth 20000 in
set_option maxHeartbeats 1000000 in
theorem refNext_any (s : List UInt8) (n : Int) (w : World) (hs : s.length ≤ 1000) :
    Calls Tryz.prog 16 #[.string ⟨s.toArray⟩, .int .i64 n] w fun e w' => e = .returned (.int .i64 (nextN s n : Int)) ∧ Below w.heap.size w w' := by
  have hrl := roomN_len s n
  have HROOM := Kept.mk (fun W : World => refRoom_any s n W (by omega))
  have HSL := Kept.mk (fun (j : Nat) (hj : j < roomN s n) (W : World) => refSlot_yes s n j W (by omega) hj)
  have HTS := Kept.mk (fun r => tend_succ (fun i => nextP (slotL s n i)) r)
  have HN := Kept.mk (show nextN s n = tend (fun i => nextP (slotL s n i)) (List.range (roomN s n)) from rfl)
  have HCL := Kept.mk (fun (j : Nat) (W : World) => refClear_any (slotL s n j) W (Nat.le_trans (slot_le s n j) hs))
  generalize hr : roomN s n = r at *
  clear hr
  have hB : Below w.heap.size w w := Below.refl _ _
  go_enter Tryz.func16, Tryz.ntmps16
  go_wp2
  go_loopw [5, 6] (fun c i wr => ∃ j : Nat, j ≤ r ∧ i = .int .i64 (j : Int) ∧ c = .int .i64 (tend (fun i => nextP (slotL s n i)) (List.range j) : Int) ∧ Below w.heap.size w wr) (fun _ i _ => r - (intOf i).toNat)
  case atStart => exact ⟨0, Nat.zero_le _, rfl, rfl, hB⟩
  case round =>
    clear hB
    obtain ⟨j, hj, rfl, rfl, hB⟩ := hrel
    by_cases hlt : j < r
    · have e1 : decide ((j : Int) < (r : Int)) = true := by simpa using hlt
      have HS1 := Kept.mk (HSL.out j hlt)
      have HC1 := Kept.mk (HCL.out j)
      have HT := Kept.mk (HTS.out j)
      cases hcv : clearL (slotL s n j) with
      | true =>
        have HCV := Kept.mk hcv
        have HN1 := Kept.mk (show tend (fun i => nextP (slotL s n i)) (List.range (j + 1)) = tend (fun i => nextP (slotL s n i)) (List.range j) by rw [HT.out]; simp [nextP, hcv])
        clear hcv
        generalize tend (fun i => nextP (slotL s n i)) (List.range j) = c at *
        go_wp2_with fail
        ((with_reducible refine (HROOM.out _).mono ?_); rintro e w' ⟨rfl, rfl⟩)
        go_wp2_with fail
        ((with_reducible refine (HS1.out _).mono ?_); rintro e w' ⟨rfl, rfl⟩)
        go_wp2_with fail
        ((with_reducible refine (HC1.out _).mono ?_); rintro e W9 ⟨rfl, hb⟩)
        rewrite [HCV.out]
        replace hB := hB.trans (hb.mono hB.size)
        clear hb
        go_wp2
        go_roundw
        case rel => exact ⟨j + 1, by omega, by go_num, by rw [HN1.out], hB⟩
        case measure => simp [intOf]; omega
      | false =>
        have HCV := Kept.mk hcv
        have HN1 := Kept.mk (show tend (fun i => nextP (slotL s n i)) (List.range (j + 1)) = j + 1 by rw [HT.out]; simp [nextP, hcv])
        clear hcv
        generalize tend (fun i => nextP (slotL s n i)) (List.range j) = c at *
        go_wp2_with fail
        ((with_reducible refine (HROOM.out _).mono ?_); rintro e w' ⟨rfl, rfl⟩)
        go_wp2_with fail
        ((with_reducible refine (HS1.out _).mono ?_); rintro e w' ⟨rfl, rfl⟩)
        go_wp2_with fail
        ((with_reducible refine (HC1.out _).mono ?_); rintro e W9 ⟨rfl, hb⟩)
        rewrite [HCV.out]
        replace hB := hB.trans (hb.mono hB.size)
        clear hb
        go_wp2
        go_roundw
        case rel => exact ⟨j + 1, by omega, by go_num, by rw [HN1.out]; go_num, hB⟩
        case measure => simp [intOf]; omega
    · have e1 : decide ((j : Int) < (r : Int)) = false := by simp; omega
      obtain rfl : j = r := by omega
      go_wp2_with fail
      ((with_reducible refine (HROOM.out _).mono ?_); rintro e w' ⟨rfl, rfl⟩)
      go_wp2
      go_ret
      exact ⟨by rw [HN.out]; rfl, hB⟩
set_option maxRecDepth 20000 in
set_option maxHeartbeats 1000000 in
theorem refBad_any (s : List UInt8) (n : Int) (w : World) (hs : s.length ≤ 1000) :
    Calls Tryz.prog 15 #[.string ⟨s.toArray⟩, .int .i64 n] w fun e w' => e = .returned (.int .i64 (badN s n : Int)) ∧ Below w.heap.size w w' := by
  have hrl := roomN_len s n
  have HROOM := Kept.mk (fun W : World => refRoom_any s n W (by omega))
  have HSL := Kept.mk (fun (j : Nat) (hj : j < roomN s n) (W : World) => refSlot_yes s n j W (by omega) hj)
  have HTS := Kept.mk (fun r => tcnt_succ (fun i => badP (slotL s n i)) r)
  have HTL := Kept.mk (fun r => tcnt_le (fun i => badP (slotL s n i)) (List.range r))
  have HN := Kept.mk (show badN s n = tcnt (fun i => badP (slotL s n i)) (List.range (roomN s n)) from rfl)
  have HCL := Kept.mk (fun (j : Nat) (W : World) => refClear_any (slotL s n j) W (Nat.le_trans (slot_le s n j) hs))
  have HRD := Kept.mk (fun (j : Nat) (W : World) => refRead_any (slotL s n j) W (Nat.le_trans (slot_le s n j) hs))
  generalize hr : roomN s n = r at *
  clear hr
  have hB : Below w.heap.size w w := Below.refl _ _
  go_enter Tryz.func15, Tryz.ntmps15
  go_wp2
  go_loopw [5, 6] (fun c i wr => ∃ j : Nat, j ≤ r ∧ i = .int .i64 (j : Int) ∧ c = .int .i64 (tcnt (fun i => badP (slotL s n i)) (List.range j) : Int) ∧ Below w.heap.size w wr) (fun _ i _ => r - (intOf i).toNat)
  case atStart => exact ⟨0, Nat.zero_le _, rfl, rfl, hB⟩
  case round =>
    clear hB
    obtain ⟨j, hj, rfl, rfl, hB⟩ := hrel
    have htl := HTL.out j
    rw [List.length_range] at htl
    by_cases hlt : j < r
    · have e1 : decide ((j : Int) < (r : Int)) = true := by simpa using hlt
      have HS1 := Kept.mk (HSL.out j hlt)
      have HC1 := Kept.mk (HCL.out j)
      have HR1 := Kept.mk (HRD.out j)
      have HT := Kept.mk (HTS.out j)
      rcases readE_cases (slotL s n j) with ⟨h0, _⟩ | ⟨h0, _⟩
      · have HE := Kept.mk h0
        have HN1 := Kept.mk (show tcnt (fun i => badP (slotL s n i)) (List.range (j + 1)) = tcnt (fun i => badP (slotL s n i)) (List.range j) by rw [HT.out]; simp [badP, isRec, h0])
        clear h0
        generalize tcnt (fun i => badP (slotL s n i)) (List.range j) = c at *
        go_wp2_with fail
        ((with_reducible refine (HROOM.out _).mono ?_); rintro e w' ⟨rfl, rfl⟩)
        go_wp2_with fail
        ((with_reducible refine (HS1.out _).mono ?_); rintro e w' ⟨rfl, rfl⟩)
        go_wp2_with fail
        ((with_reducible refine (HR1.out _).mono ?_); rintro e W9 ⟨rfl, hb⟩)
        rewrite [HE.out]
        replace hB := hB.trans (hb.mono hB.size)
        clear hb
        go_wp2
        go_roundw
        case rel => exact ⟨j + 1, by omega, by go_num, by rw [HN1.out], hB⟩
        case measure => simp [intOf]; omega
      · have HE := Kept.mk h0
        cases hcv : clearL (slotL s n j) with
        | true =>
          have HCV := Kept.mk hcv
          have HN1 := Kept.mk (show tcnt (fun i => badP (slotL s n i)) (List.range (j + 1)) = tcnt (fun i => badP (slotL s n i)) (List.range j) by rw [HT.out]; simp [badP, hcv])
          clear hcv h0
          generalize tcnt (fun i => badP (slotL s n i)) (List.range j) = c at *
          go_wp2_with fail
          ((with_reducible refine (HROOM.out _).mono ?_); rintro e w' ⟨rfl, rfl⟩)
          go_wp2_with fail
          ((with_reducible refine (HS1.out _).mono ?_); rintro e w' ⟨rfl, rfl⟩)
          go_wp2_with fail
          ((with_reducible refine (HR1.out _).mono ?_); rintro e W9 ⟨rfl, hb⟩)
          rewrite [HE.out]
          replace hB := hB.trans (hb.mono hB.size)
          clear hb
          go_wp2_with fail
          ((with_reducible refine (HC1.out _).mono ?_); rintro e W10 ⟨rfl, hb⟩)
          rewrite [HCV.out]
          replace hB := hB.trans (hb.mono hB.size)
          clear hb
          go_wp2
          go_roundw
          case rel => exact ⟨j + 1, by omega, by go_num, by rw [HN1.out], hB⟩
          case measure => simp [intOf]; omega
        | false =>
          have HCV := Kept.mk hcv
          have HN1 := Kept.mk (show tcnt (fun i => badP (slotL s n i)) (List.range (j + 1)) = tcnt (fun i => badP (slotL s n i)) (List.range j) + 1 by rw [HT.out]; simp [badP, isRec, hcv, h0])
          clear hcv h0
          generalize tcnt (fun i => badP (slotL s n i)) (List.range j) = c at *
          go_wp2_with fail
          ((with_reducible refine (HROOM.out _).mono ?_); rintro e w' ⟨rfl, rfl⟩)
          go_wp2_with fail
          ((with_reducible refine (HS1.out _).mono ?_); rintro e w' ⟨rfl, rfl⟩)
          go_wp2_with fail
          ((with_reducible refine (HR1.out _).mono ?_); rintro e W9 ⟨rfl, hb⟩)
          rewrite [HE.out]
          replace hB := hB.trans (hb.mono hB.size)
          clear hb
          go_wp2_with fail
          ((with_reducible refine (HC1.out _).mono ?_); rintro e W10 ⟨rfl, hb⟩)
          rewrite [HCV.out]
          replace hB := hB.trans (hb.mono hB.size)
          clear hb
          go_wp2
          go_roundw
          case rel => exact ⟨j + 1, by omega, by go_num, by rw [HN1.out]; go_num, hB⟩
          case measure => simp [intOf]; omega
    · have e1 : decide ((j : Int) < (r : Int)) = false := by simp; omega
      obtain rfl : j = r := by omega
      go_wp2_with fail
      ((with_reducible refine (HROOM.out _).mono ?_); rintro e w' ⟨rfl, rfl⟩)
      go_wp2
      go_ret
      exact ⟨by rw [HN.out]; rfl, hB⟩
set_option maxRecDepth 20000 in
set_option maxHeartbeats 1000000 in
theorem refRecords_any (s : List UInt8) (n : Int) (w : World) (hs : s.length ≤ 1000) :
    Calls Tryz.prog 14 #[.string ⟨s.toArray⟩, .int .i64 n] w fun e W' => ∃ v, e = .returned v ∧ isCells ((recordsL s n).map strC) v W' ∧ Below w.heap.size w W' := by
  have hrl := roomN_len s n
  obtain ⟨i0, hi, hz0, hz1, hz2⟩ := info_parts Tryz.infoStr
  have HROOM := Kept.mk (fun W : World => refRoom_any s n W (by omega))
  have HSL := Kept.mk (fun (j : Nat) (hj : j < roomN s n) (W : World) => refSlot_yes s n j W (by omega) hj)
  have HTS := Kept.mk (fun r => recsOf_succ s n r)
  have HTL := Kept.mk (fun r => recsOf_len s n (List.range r))
  have HN := Kept.mk (show recordsL s n = recsOf s n (List.range (roomN s n)) from rfl)
  have HRD := Kept.mk (fun (j : Nat) (W : World) => refRead_any (slotL s n j) W (Nat.le_trans (slot_le s n j) hs))
  generalize hr : roomN s n = r at *
  clear hr
  have hB : Below w.heap.size w w := Below.refl _ _
  go_enter Tryz.func14, Tryz.ntmps14
  go_wp2
  go_loopw [5, 6] (fun v i wr => ∃ j : Nat, j ≤ r ∧ i = .int .i64 (j : Int) ∧ Kept (wr.ownsRow w.heap.size 9 1 v (recsOf s n (List.range j)).length ((recsOf s n (List.range j)).map strC)) ∧ Below w.heap.size w wr) (fun _ i _ => r - (intOf i).toNat)
  case atStart => exact ⟨0, Nat.zero_le _, rfl, ⟨World.ownsRow_nil _ _ _ _⟩, hB⟩
  case round =>
    clear hB
    obtain ⟨j, hj, rfl, HO, hB⟩ := hrel
    have htl := HTL.out j
    rw [List.length_range] at htl
    by_cases hlt : j < r
    · have e1 : decide ((j : Int) < (r : Int)) = true := by simpa using hlt
      have HS1 := Kept.mk (HSL.out j hlt)
      have HR1 := Kept.mk (HRD.out j)
      have HT := Kept.mk (HTS.out j)
      rcases readE_cases (slotL s n j) with ⟨h0, _⟩ | ⟨h0, _⟩
      · have HE := Kept.mk h0
        have HN1 := Kept.mk (show recsOf s n (List.range (j + 1)) = recsOf s n (List.range j) ++ [readS (slotL s n j)] by rw [HT.out]; simp [recOf, h0])
        clear h0
        generalize recsOf s n (List.range j) = rl at *
        go_wp2_with fail
        ((with_reducible refine (HROOM.out _).mono ?_); rintro e w' ⟨rfl, rfl⟩)
        go_wp2_with fail
        ((with_reducible refine (HS1.out _).mono ?_); rintro e w' ⟨rfl, rfl⟩)
        go_wp2_with fail
        ((with_reducible refine (HR1.out _).mono ?_); rintro e W9 ⟨rfl, hb⟩)
        rewrite [HE.out]
        replace HO := Kept.mk (ownsRow_below HO.out hb)
        replace hB := hB.trans (hb.mono hB.size)
        clear hb
        generalize readS (slotL s n j) = rd at *
        have HBS := Kept.mk (ownsRow_block HO.out)
        go_wp2_with (at_builtin; refine wpList_append_own _ rfl _ _ 26 rfl w.heap.size 9 i0 (.string ⟨#[]⟩) 1 16 Tryz.underlying26 hi hz0 hz1 hz2 rfl (by decide) _ _ _ rfl (HO.out.alloc _) ⟨W9.heap.size, 0, none⟩ 1 1 [strC rd] rfl rfl (cell_one_new _ _ _) (by simp [Value.oneCell', strC]) (by unfold maxLen; omega) (by omega) (by have := hB.size; simp; omega) ?_; intro v' w1 hown' hgrow _)
        have hB1 : Below w.heap.size w w1 := ((hB.alloc (by have := hB.size; omega) _).grown hgrow (by have := hB.size; simp; omega) HBS.out)
        have HO1 := Kept.mk (show w1.ownsRow w.heap.size 9 1 v' (rl ++ [rd]).length ((rl ++ [rd]).map strC) by simpa using hown')
        clear hown' hgrow
        go_wp2
        go_roundw
        case rel => exact ⟨j + 1, by omega, by go_num, by rw [HN1.out]; exact HO1, hB1⟩
        case measure => simp [intOf]; omega
      · have HE := Kept.mk h0
        have HN1 := Kept.mk (show recsOf s n (List.range (j + 1)) = recsOf s n (List.range j) by rw [HT.out]; simp [recOf, h0])
        clear h0
        generalize recsOf s n (List.range j) = rl at *
        go_wp2_with fail
        ((with_reducible refine (HROOM.out _).mono ?_); rintro e w' ⟨rfl, rfl⟩)
        go_wp2_with fail
        ((with_reducible refine (HS1.out _).mono ?_); rintro e w' ⟨rfl, rfl⟩)
        go_wp2_with fail
        ((with_reducible refine (HR1.out _).mono ?_); rintro e W9 ⟨rfl, hb⟩)
        rewrite [HE.out]
        replace HO := Kept.mk (ownsRow_below HO.out hb)
        replace hB := hB.trans (hb.mono hB.size)
        clear hb
        go_wp2
        go_roundw
        case rel => exact ⟨j + 1, by omega, by go_num, by rw [HN1.out]; exact HO, hB⟩
        case measure => simp [intOf]; omega
    · have e1 : decide ((j : Int) < (r : Int)) = false := by simp; omega
      obtain rfl : j = r := by omega
      go_wp2_with fail
      ((with_reducible refine (HROOM.out _).mono ?_); rintro e w' ⟨rfl, rfl⟩)
      go_wp2
      go_ret
      exact ⟨_, rfl, by rw [HN.out]; exact isCells_own HO.out, hB⟩
end Go.Proofs.YtipiioggdalkoaaGreatDoor
end
