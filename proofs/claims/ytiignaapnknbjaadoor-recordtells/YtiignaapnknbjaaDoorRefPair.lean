/- The document's own And, Or, Xor (ouroborosref01), by the same lists as octet's. -/
import Derived.Test.YtiignaapnknbjaaDoorOctPair
import Derived.Test.YtiignaapnknbjaaDoorOwnBytes
namespace Go.Proofs.YtiignaapnknbjaaDoor
open Go.RowKit
set_option linter.unusedVariables false

theorem pairL_take (f : UInt8 → UInt8 → UInt8) (a b : List UInt8) (k : Nat) (ha : k < a.length) (hb : k < b.length) : (pairL f a b).take (k + 1) = (pairL f a b).take k ++ [f a[k] b[k]] := by
  rw [List.take_succ_eq_append_getElem (by rw [length_pairL]; exact ha), pairL_get f a b k ha hb]
theorem pairL_get_past (f : UInt8 → UInt8 → UInt8) : ∀ (a b : List UInt8) (k : Nat) (ha : k < a.length) (hb : ¬ k < b.length), (pairL f a b)[k]'(by rw [length_pairL]; exact ha) = a[k]
  | _ :: _, [], _, _, _ => rfl
  | _ :: _, _ :: _, 0, _, hb => absurd (by simp) hb
  | _ :: r, _ :: q, k + 1, ha, hb => by simpa [pairL] using pairL_get_past f r q k (by simpa using ha) (by simpa using hb)
theorem pairL_take_past (f : UInt8 → UInt8 → UInt8) (a b : List UInt8) (k : Nat) (ha : k < a.length) (hb : ¬ k < b.length) : (pairL f a b).take (k + 1) = (pairL f a b).take k ++ [a[k]] := by
  rw [List.take_succ_eq_append_getElem (by rw [length_pairL]; exact ha), pairL_get_past f a b k ha hb]

set_option maxHeartbeats 400000 in
theorem refXor_any (a b : ByteArray) (w : World) (ha : a.size ≤ 1000000) (hb : b.size ≤ 1000000) :
    Calls Tryd.prog 39 #[.string a, .string b] w fun e w' => e = .returned (.string ⟨(pairL (· ^^^ ·) a.data.toList b.data.toList).toArray⟩) ∧ Below w.heap.size w w' := by
  obtain ⟨i0, hi, hz0, hz1, hz2⟩ := info_parts Tryd.infoU8
  go_enter Tryd.func39, Tryd.ntmps39
  go_wp2
  go_loopw [5, 6] (fun v i wr => ∃ k : Nat, k ≤ a.size ∧ i = .int .i64 k ∧ OwnB wr w.heap.size 5 v ((pairL (· ^^^ ·) a.data.toList b.data.toList).take k) ∧ Below w.heap.size w wr) (fun _ i _ => a.size - (intOf i).toNat)
  case atStart => exact ⟨0, Nat.zero_le _, rfl, OwnB.nil _ _ _, Below.refl _ _⟩
  case round =>
    obtain ⟨k, hk, rfl, hown, hbel⟩ := hrel
    by_cases hlt : k < a.size
    · have hlen : ((pairL (· ^^^ ·) a.data.toList b.data.toList).take k).length ≤ k := List.length_take_le _ _
      have hbs := hown.size_le
      by_cases hltb : k < b.size
      · have HS := Lib.hid (pairL_take (· ^^^ ·) a.data.toList b.data.toList k (by simpa using hlt) (by simpa using hltb))
        have HB := Lib.hid (bits_xor_u8 (a[k]'hlt) (b[k]'hltb))
        generalize (pairL (· ^^^ ·) a.data.toList b.data.toList).take k = l at *
        have HO := Lib.hid hown
        have HBS := Lib.hid hbs
        clear hown hbs
        go_wp2_with (at_builtin; refine wpList_append_own _ rfl _ _ 35 rfl w.heap.size 5 i0 (.int .u8 0) 1 1 Tryd.underlying35 hi hz0 hz1 hz2 rfl (by decide) _ _ _ rfl (HO.out.alloc _) ⟨wr.heap.size, 0, none⟩ 1 1 [.int .u8 (bits BinOp.xor IntKind.u8 ↑(a[k]'hlt).toNat ↑(b[k]'hltb).toNat)] rfl rfl ?c1 ?c2 ?c3 ?c4 ?c5 ?_)
        case c1 => exact cell_one_new _ _ _
        case c2 => intro u hu; simp at hu; subst hu; rfl
        case c3 => unfold maxLen; omega
        case c4 => omega
        case c5 => have := hbel.size; simp; omega
        · intro v' w1 hown' hgrow _
          have hB1 : Below w.heap.size w w1 := (hbel.alloc (by have := hbel.size; omega) _).grown hgrow (by have := hbel.size; simp; omega) HBS.out
          have HO1 : Hid (OwnB w1 w.heap.size 5 v' ((pairL (· ^^^ ·) a.data.toList b.data.toList).take (k + 1))) := by
            show OwnB _ _ _ _ _
            rw [HS.out]
            rw [HB.out, encB_snoc] at hown'
            have e : l.length + 1 = (l ++ [a[k]'hlt ^^^ b[k]'hltb]).length := by simp
            rw [e] at hown'
            exact hown'
          clear hown' hgrow
          go_wp2
          go_roundw
          case rel => exact ⟨k + 1, by omega, by go_num, HO1.out, hB1⟩
          case measure => simp [intOf]; omega
      · have HS := Lib.hid (pairL_take_past (· ^^^ ·) a.data.toList b.data.toList k (by simpa using hlt) (by simpa using hltb))
        generalize (pairL (· ^^^ ·) a.data.toList b.data.toList).take k = l at *
        have HO := Lib.hid hown
        have HBS := Lib.hid hbs
        clear hown hbs
        go_wp2_with (at_builtin; refine wpList_append_own _ rfl _ _ 35 rfl w.heap.size 5 i0 (.int .u8 0) 1 1 Tryd.underlying35 hi hz0 hz1 hz2 rfl (by decide) _ _ _ rfl (HO.out.alloc _) ⟨wr.heap.size, 0, none⟩ 1 1 [.int .u8 ↑(a[k]'hlt).toNat] rfl rfl ?d1 ?d2 ?d3 ?d4 ?d5 ?_)
        case d1 => exact cell_one_new _ _ _
        case d2 => intro u hu; simp at hu; subst hu; rfl
        case d3 => unfold maxLen; omega
        case d4 => omega
        case d5 => have := hbel.size; simp; omega
        · intro v' w1 hown' hgrow _
          have hB1 : Below w.heap.size w w1 := (hbel.alloc (by have := hbel.size; omega) _).grown hgrow (by have := hbel.size; simp; omega) HBS.out
          have HO1 : Hid (OwnB w1 w.heap.size 5 v' ((pairL (· ^^^ ·) a.data.toList b.data.toList).take (k + 1))) := by
            show OwnB _ _ _ _ _
            rw [HS.out]
            rw [encB_snoc] at hown'
            have e : l.length + 1 = (l ++ [a[k]'hlt]).length := by simp
            rw [e] at hown'
            exact hown'
          clear hown' hgrow
          go_wp2
          go_roundw
          case rel => exact ⟨k + 1, by omega, by go_num, HO1.out, hB1⟩
          case measure => simp [intOf]; omega
    · have hbk := hown.back (P := Tryd.prog) 35 9 Tryd.underlying35 Tryd.underlying5 Tryd.underlying9
      have HO := Lib.hid hown
      clear hown
      go_wp2
      go_ret
      exact ⟨ret_str (List.take_of_length_le (by rw [length_pairL]; simp; omega)), hbel⟩
end Go.Proofs.YtiignaapnknbjaaDoor
