/- Contract of octet.Not: all bits of all bytes turned. -/
import Derived.Test.YtipiioggdalkoaaGreatDoorOctWalk1
import Derived.Deep.OwnRows
namespace Go.Proofs.YtipiioggdalkoaaGreatDoor
open Go.RowKit

theorem Tryz.infoU8 : (Tryz.prog.info? 5).map (fun i => (i.zero, i.size, i.bytes)) = some (some (.int .u8 0), 1, 1) := by kernel_rfl

/-- All bits turned. -/
def notL (l : List UInt8) : List UInt8 := l.map (fun b => ~~~b)

theorem length_notL (l : List UInt8) : (notL l).length = l.length := by simp [notL]

theorem not_u8 (x : UInt8) : bits .xor .u8 (if IntKind.u8.signed = true then -1 else IntKind.u8.max) (x.toNat : Int) = ((~~~x).toNat : Int) := by
  have e : (if IntKind.u8.signed = true then -1 else IntKind.u8.max) = (((255 : UInt8).toNat : Nat) : Int) := by decide
  rw [e, bits_xor_u8]
  rw [show (255 : UInt8) = -1 from rfl, UInt8.neg_one_xor]

set_option maxHeartbeats 400000 in
theorem not_any (s : ByteArray) (w : World) (hs : s.size ≤ 1000000000) :
    Calls Tryz.prog 56 #[.string s] w fun e w' => e = .returned (.string ⟨(notL s.data.toList).toArray⟩) ∧ Below w.heap.size w w' := by
  have hmk := fun W => run_make_row' (P := Tryz.prog) 65 5 (.int .u8 0) 1 Tryz.underlying65 Tryz.infoU8 rfl .i64 .i64 s.size (by omega) (by omega) W
  go_enter Tryz.func56, Tryz.ntmps56
  go_wp2
  clear hmk
  go_loopw [10] (fun i wr => ∃ k : Nat, k ≤ s.size ∧ i = .int .i64 k ∧ BRow wr w.heap.size (mix (notL s.data.toList) (List.replicate s.size 0) k) ∧ Below w.heap.size w wr) (fun i _ => s.size - (intOf i).toNat)
  case atStart => exact ⟨0, Nat.zero_le _, rfl, by rw [mix_zero]; exact BRow.made w 5 s.size, (Below.refl _ _).alloc (Nat.le_refl _) _⟩
  case round =>
    obtain ⟨k, hk, rfl, hrow, hbel⟩ := hrel
    have hlen : (mix (notL s.data.toList) (List.replicate s.size 0) k).length = s.size := by rw [length_mix _ _ _ (by simp [length_notL]), length_notL]; simp
    by_cases hlt : k < s.size
    · obtain ⟨v, hc⟩ := hrow.some_ (k := k) (by omega)
      have hf := hrow.free (k := k) (by omega)
      have HL := Lib.hid hlen
      clear hlen
      go_wp2
      go_roundw
      case rel =>
        go_light
        refine ⟨k + 1, by omega, by go_num, ?_, hbel.setCell (p := ⟨w.heap.size, k, none⟩) (Nat.le_refl _) _⟩
        rw [not_u8, ← mix_set _ _ k (by simp [length_notL]) (by simpa [length_notL] using hlt) (~~~s[k]) (by simp [notL]; rfl)]
        exact hrow.set_ (by rw [HL.out]; exact hlt) _
      case measure => simp [intOf]; omega
    · have hb := hrow.back (P := Tryz.prog) 65 9 5 s.size s.size hlen Tryz.underlying65 Tryz.underlying5 Tryz.underlying9
      clear hlen
      go_wp2
      go_ret
      exact ⟨ret_str (mix_all _ _ _ (by simp [length_notL]; omega) (by simp; omega)), hbel⟩
end Go.Proofs.YtipiioggdalkoaaGreatDoor
