/- Contract of octet.pairwise, and And, Or, Xor by it. -/
import Derived.Test.YtipiioggdalkoaaGreatDoorOctNot
import Derived.StillTailTactics
import Derived.Deep.RegionWith
import Derived.Deep.RegionHeld3
import Derived.Lib.ConvBytes
import Derived.Shelf.Abstract
namespace Go.Proofs.YtipiioggdalkoaaGreatDoor
open Go.RowKit
set_option linter.unusedVariables false

/-- f of both bytes, where the second text has one; else the first one's. -/
def pairL (f : UInt8 → UInt8 → UInt8) : List UInt8 → List UInt8 → List UInt8
  | [], _ => []
  | a :: r, [] => a :: r
  | a :: r, b :: q => f a b :: pairL f r q

theorem length_pairL (f : UInt8 → UInt8 → UInt8) : ∀ a b, (pairL f a b).length = a.length
  | [], _ => rfl
  | _ :: _, [] => rfl
  | _ :: r, _ :: q => by simp [pairL, length_pairL f r q]

theorem pairL_get (f : UInt8 → UInt8 → UInt8) : ∀ (a b : List UInt8) (k : Nat) (ha : k < a.length) (hb : k < b.length), (pairL f a b)[k]'(by rw [length_pairL]; exact ha) = f a[k] b[k]
  | _ :: _, _ :: _, 0, _, _ => rfl
  | _ :: r, _ :: q, k + 1, ha, hb => by simpa [pairL] using pairL_get f r q k (by simpa using ha) (by simpa using hb)

theorem pairL_drop (f : UInt8 → UInt8 → UInt8) : ∀ (a b : List UInt8), mix (pairL f a b) a (min a.length b.length) = pairL f a b
  | [], _ => by simp [mix, pairL]
  | _ :: _, [] => by simp [mix, pairL]
  | x :: r, y :: q => by
    have := pairL_drop f r q
    simp only [mix, pairL, List.length_cons, Nat.add_min_add_right, List.take_succ_cons, List.drop_succ_cons, List.cons_append] at this ⊢
    rw [this]

theorem bytesWorld_row (w : World) (e : TypeId) (s : ByteArray) : BRow (Lib.bytesWorld w e s) w.heap.size s.data.toList := by
  intro j hj
  have hj' : j < s.size := by simpa using hj
  refine ⟨?_, ?_⟩
  · rw [Lib.bytesWorld_cell w e s j hj']
    rw [List.getD_eq_getElem?_getD, List.getElem?_eq_getElem hj]; rfl
  · have := Lib.bytesWorld_at_new w e s
    simp [World.frozen?, this, Lib.bytesCells]
    omega

theorem bytesWorld_below (w : World) (e : TypeId) (s : ByteArray) : Below w.heap.size w (Lib.bytesWorld w e s) :=
  ⟨rfl, rfl, rfl, by rw [Lib.bytesWorld_size]; omega, fun k hk => Lib.bytesWorld_at_old w e s k hk⟩

set_option maxHeartbeats 400000 in
theorem pairwise_any (f : UInt8 → UInt8 → UInt8) (g : FuncId) (eg : ∀ args w, (callFunc g args).run Tryz.prog w = .ok (.enter g args) w)
    (hf : ∀ (x y : UInt8) (w : World), Calls Tryz.prog g #[.int .u8 (x.toNat : Int), .int .u8 (y.toNat : Int)] w fun e w' => e = .returned (.int .u8 ((f x y).toNat : Int)) ∧ w = w')
    (a b : ByteArray) (w : World) (ha : a.size ≤ 1000000000) (hb : b.size ≤ 1000000000) :
    Calls Tryz.prog 110 #[.string a, .string b, .func (.func g) #[] #[]] w fun e w' => e = .returned (.string ⟨(pairL f a.data.toList b.data.toList).toArray⟩) ∧ Below w.heap.size w w' := by
  have HF := Lib.hid hf
  clear hf
  have hcv := fun W => Lib.run_convert_string_bytes (P := Tryz.prog) W 9 65 5 a Tryz.underlying9 Tryz.underlying65 Tryz.underlying5
  have hr0 := bytesWorld_row w 5 a
  have hb0 := bytesWorld_below w 5 a
  have hmin : ∀ (ts : Array TypeId) (t : TypeId) (W : World), (Builtin.min_ ts t #[.int .i64 (a.size : Int), .int .i64 (b.size : Int)]).run Tryz.prog W = .ok (.int .i64 ((min a.size b.size : Nat) : Int)) W := by
    intro ts t W
    rw [run_min_int2]
    congr 2
    split <;> omega
  go_enter Tryz.func110, Tryz.ntmps110
  go_wp2
  clear hcv
  generalize Lib.bytesWorld w 5 a = w0 at *
  generalize grownCap w a.size 0 5 = cap at *
  all_goals
    go_loopw [16] (fun i wr => ∃ k : Nat, k ≤ min a.size b.size ∧ i = .int .i64 k ∧ BRow wr w.heap.size (mix (pairL f a.data.toList b.data.toList) a.data.toList k) ∧ Below w.heap.size w wr) (fun i _ => min a.size b.size - (intOf i).toNat)
    case atStart => exact ⟨0, Nat.zero_le _, rfl, by rw [mix_zero]; exact hr0, hb0⟩
    case round =>
      clear hr0 hb0
      obtain ⟨k, hk, rfl, hrow, hbel⟩ := hrel
      have hlen : (mix (pairL f a.data.toList b.data.toList) a.data.toList k).length = a.size := by rw [length_mix _ _ _ (by rw [length_pairL]), length_pairL]; simp
      by_cases hlt : k < min a.size b.size
      · obtain ⟨v, hc⟩ := hrow.some_ (k := k) (by omega)
        have hfz := hrow.free (k := k) (by omega)
        have HL := Lib.hid hlen
        clear hlen
        have hka : k < a.size := by omega
        have hkb : k < b.size := by omega
        go_wp2
        go_region_with ((with_reducible refine (HF.out (a[k]'hka) (b[k]'hkb) _).mono ?_); rintro e w' ⟨rfl, rfl⟩)
        all_goals go_wp2
        all_goals
          go_roundw
          case rel =>
            go_light
            refine ⟨k + 1, by omega, by go_num, ?_, (hbel.setCell (p := ⟨w.heap.size, k, none⟩) (Nat.le_refl _) _).drew⟩
            rw [← mix_set _ _ k (by rw [length_pairL]) (by rw [length_pairL]; simpa using hka) (f (a[k]'hka) (b[k]'hkb)) (pairL_get f _ _ k (by simpa using hka) (by simpa using hkb)).symm]
            exact (hrow.set_ (by rw [HL.out]; exact hka) _).drew
          case measure => simp [intOf]; omega
      · have hbk := hrow.back (P := Tryz.prog) 65 9 5 a.size cap hlen Tryz.underlying65 Tryz.underlying5 Tryz.underlying9
        clear hlen
        go_wp2
        go_ret
        exact ⟨ret_str (by rw [show k = min a.data.toList.length b.data.toList.length by simp at hlt hk ⊢; omega]; exact pairL_drop f _ _), hbel⟩

set_option maxHeartbeats 400000 in
theorem and_any (a b : ByteArray) (w : World) (ha : a.size ≤ 1000000000) (hb : b.size ≤ 1000000000) :
    Calls Tryz.prog 95 #[.string a, .string b] w fun e w' => e = .returned (.string ⟨(pairL (· &&& ·) a.data.toList b.data.toList).toArray⟩) ∧ Below w.heap.size w w' := by
  go_enter Tryz.func95, Tryz.ntmps95
  go_wp2_with fail
  refine (pairwise_any (· &&& ·) 112 (enters_of Tryz.func112 (by kernel_rfl) rfl) and1_any a b _ ha hb).mono ?_
  rintro e w' ⟨rfl, hb⟩
  go_wp2
  go_ret
  exact ⟨rfl, hb⟩
set_option maxHeartbeats 400000 in
theorem xor_any (a b : ByteArray) (w : World) (ha : a.size ≤ 1000000000) (hb : b.size ≤ 1000000000) :
    Calls Tryz.prog 94 #[.string a, .string b] w fun e w' => e = .returned (.string ⟨(pairL (· ^^^ ·) a.data.toList b.data.toList).toArray⟩) ∧ Below w.heap.size w w' := by
  go_enter Tryz.func94, Tryz.ntmps94
  go_wp2_with fail
  refine (pairwise_any (· ^^^ ·) 111 (enters_of Tryz.func111 (by kernel_rfl) rfl) xor1_any a b _ ha hb).mono ?_
  rintro e w' ⟨rfl, hb⟩
  go_wp2
  go_ret
  exact ⟨rfl, hb⟩
end Go.Proofs.YtipiioggdalkoaaGreatDoor
