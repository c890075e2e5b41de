/- Joined texts: contracts of the program's functions, and the mathematics that they lean on. -/
import Derived.WalkKit
import Derived.WalkSpells
import Derived.WalkLawsBesides
import Derived.Lib.Hide
import Derived.Lib.ConvBytes
import Derived.Laws.BitsAllLaws
import Derived.IntWalk
import Derived.Deep.Light
import Derived.Deep.OwnRows
import Derived.Test.YtipiioggdalkoaaGreatDoorRows
import Derived.StillTailTactics
import Derived.Deep.RegionWith
import Derived.Deep.RegionHeld3
import Derived.Shelf.Abstract
import Derived.Shelf.Strings.Builder1
import Derived.Shelf.Strings.Builder2
import Derived.Shelf.Strings.BuilderF
import Derived.Shelf.Strings.Prefix
import Derived.Shelf.Bits.Mul64
import Derived.Shelf.Strings.Repeat
import Derived.Shelf.Slices.Equal
import Derived.Ground.Names2Prog
import Derived.Shelf.Slices.Clone
import Derived.Test.YtipiioggdalkoaaGreatDoorProg
import Derived.Lib.BitFns
import Derived.RangeFuncNested
import Derived.RangeFuncBound
import Derived.RangeFuncCalls
import Derived.RangeFuncLeaves
import Derived.Shelf.RegionOpen
import Derived.OwnWalkIn
import Derived.TacticsInMore
import Derived.LoopNIn
import Derived.LoopIn
import Derived.Orders
import Derived.Great.BuildSlice
import Derived.ChangeKeysEq
import Derived.Laws.Rows
import Derived.Laws.AppendOwn
section
namespace Go.Proofs.YtipiioggdalkoaaGreatDoor
open Go.RowKit

/-- Block g begins with the bytes l, none of them frozen. -/
def BRow (w : World) (g : Nat) (l : List UInt8) : Prop :=
  ∀ j (h : j < l.length), w.cell? ⟨g, j, none⟩ = some (.int .u8 (l[j].toNat : Int)) ∧ w.frozen? ⟨g, j, none⟩ = false

theorem BRow.at_ {w : World} {g : Nat} {l : List UInt8} (h : BRow w g l) {k : Nat} (hk : k < l.length) :
    w.cell? ⟨g, k, none⟩ = some (.int .u8 (l[k].toNat : Int)) := (h k hk).1
theorem BRow.some_ {w : World} {g : Nat} {l : List UInt8} (h : BRow w g l) {k : Nat} (hk : k < l.length) :
    ∃ v, w.cell? ⟨g, k, none⟩ = some (.int .u8 v) := ⟨_, (h k hk).1⟩
theorem BRow.free {w : World} {g : Nat} {l : List UInt8} (h : BRow w g l) {k : Nat} (hk : k < l.length) :
    w.frozen? ⟨g, k, none⟩ = false := (h k hk).2

theorem BRow.set_ {w : World} {g : Nat} {l : List UInt8} (h : BRow w g l) {k : Nat} (hk : k < l.length) (b : UInt8) :
    BRow (w.setCell ⟨g, k, none⟩ (.int .u8 (b.toNat : Int))) g (l.set k b) := by
  intro j hj
  have hj' : j < l.length := by simpa using hj
  refine ⟨?_, by rw [World.frozen?_setCell]; exact (h j hj').2⟩
  by_cases e : k = j
  · subst e
    rw [World.cell?_setCell_same w _ _ (h k hk).1]
    simp
  · rw [World.cell?_setCell_other w _ _ _ (by intro h; injection h; contradiction), (h j hj').1]
    simp [List.getElem_set_ne e]

theorem BRow.drewN {w : World} {g : Nat} {l : List UInt8} (h : BRow w g l) (n : Nat) : BRow (w.drewN n) g l := h
theorem BRow.drew {w : World} {g : Nat} {l : List UInt8} (h : BRow w g l) : BRow w.drew g l := h

theorem madeCells_get (z : Value) (n j : Nat) (h : j < n) : (madeCells #[z] n)[j]? = some z := by
  simp [madeCells, h, Nat.mod_one]

theorem BRow.made (w : World) (e : TypeId) (n : Nat) : BRow (w.alloc (.cells (madeCells #[.int .u8 0] n) e)) w.heap.size (List.replicate n 0) := by
  intro j hj
  have hj' : j < n := by simpa using hj
  refine ⟨?_, World.frozen?_alloc_new w _ _ _⟩
  rw [World.cell?_alloc_new w, madeCells_get _ _ _ hj']
  simp

theorem BRow.back {P : Program} {w : World} {g : Nat} {l : List UInt8} (h : BRow w g l) (src dst e : TypeId) (n cap : Nat) (hn : l.length = n)
    (hs : P.underlying src = some (.slice e)) (he : P.underlying e = some (.int .u8)) (hd : P.underlying dst = some .string) :
    (convert src dst (.slice (some ⟨g, 0, none⟩) n cap)).run P w = .ok (.string ⟨l.toArray⟩) w := by
  subst hn
  refine run_convert_bytes_back w src dst e ⟨g, 0, none⟩ cap l hs he hd (fun j hj => ?_)
  have := (h j hj).1
  by_cases e0 : j = 0
  · subst e0; simpa [Addr.add] using this
  · simpa [Addr.add, e0] using this

/-- The first k of l, and behind them what stands in b there. -/
def mix (l b : List UInt8) (k : Nat) : List UInt8 := l.take k ++ b.drop k
theorem mix_zero (l b : List UInt8) : mix l b 0 = b := by simp [mix]
theorem mix_all (l b : List UInt8) (k : Nat) (hl : l.length ≤ k) (hb : b.length ≤ k) : mix l b k = l := by
  simp [mix, List.take_of_length_le hl, List.drop_eq_nil_of_le hb]
theorem length_mix (l b : List UInt8) (k : Nat) (h : b.length = l.length) : (mix l b k).length = l.length := by
  simp [mix]; omega
theorem mix_set (l b : List UInt8) (k : Nat) (h : b.length = l.length) (hk : k < l.length) (x : UInt8) (hx : x = l[k]) :
    (mix l b k).set k x = mix l b (k + 1) := by
  subst hx
  have hb : b.drop k = b[k]'(by omega) :: b.drop (k + 1) := List.drop_eq_getElem_cons (by omega)
  have e : (l.take k).length = k := by simp; omega
  unfold mix
  rw [hb, List.take_succ_eq_append_getElem hk, List.set_append_right _ _ (by omega), e, Nat.sub_self, List.set_cons_zero, List.append_assoc, List.singleton_append]

end Go.Proofs.YtipiioggdalkoaaGreatDoor
end
section
namespace Go.Proofs.YtipiioggdalkoaaGreatDoor
open Go.RowKit

theorem ret_int {k : IntKind} {a b : Int} (h : a = b) : Ending.returned (.int k a) = .returned (.int k b) := by rw [h]
theorem ret_str {a b : List UInt8} (h : a = b) : Ending.returned (.string ⟨a.toArray⟩) = .returned (.string ⟨b.toArray⟩) := by rw [h]

def isWidthB (n : Int) : Bool := decide (1 ≤ n) && decide (n ≤ 7)

set_option maxHeartbeats 400000 in
theorem isWidth_any (n : Int) (w : World) :
    Calls Tryz.prog 97 #[.int .i64 n] w fun e w' => e = .returned (.bool (isWidthB n)) ∧ w = w' := by
  by_cases h1 : 1 ≤ n
  · by_cases h2 : n ≤ 7
    · go_enter Tryz.func97, Tryz.ntmps97
      go_wp2
      go_ret
      exact ⟨by simp [isWidthB, h1, h2], rfl⟩
    · have h2' : decide (n ≤ 7) = false := by simpa using h2
      go_enter Tryz.func97, Tryz.ntmps97
      go_wp2
      go_ret
      exact ⟨by simp [isWidthB, h1, h2], rfl⟩
  · have h1' : decide (1 ≤ n) = false := by simpa using h1
    go_enter Tryz.func97, Tryz.ntmps97
    go_wp2
    go_ret
    exact ⟨by simp [isWidthB, h1'], rfl⟩

theorem bits_and_u8 (x y : UInt8) : bits .and .u8 (x.toNat : Int) (y.toNat : Int) = ((x &&& y).toNat : Int) := by
  rw [u8_and_nat _ _ x.toNat_lt y.toNat_lt, UInt8.toNat_and]
theorem bits_or_u8 (x y : UInt8) : bits .or .u8 (x.toNat : Int) (y.toNat : Int) = ((x ||| y).toNat : Int) := by
  rw [u8_or_nat _ _ x.toNat_lt y.toNat_lt, UInt8.toNat_or]
theorem bits_xor_u8 (x y : UInt8) : bits .xor .u8 (x.toNat : Int) (y.toNat : Int) = ((x ^^^ y).toNat : Int) := by
  rw [u8_xor_nat _ _ x.toNat_lt y.toNat_lt, UInt8.toNat_xor]

set_option maxHeartbeats 400000 in
theorem and1_any (x y : UInt8) (w : World) :
    Calls Tryz.prog 112 #[.int .u8 (x.toNat : Int), .int .u8 (y.toNat : Int)] w fun e w' => e = .returned (.int .u8 ((x &&& y).toNat : Int)) ∧ w = w' := by
  go_enter Tryz.func112, Tryz.ntmps112
  go_wp2
  go_ret
  exact ⟨ret_int (bits_and_u8 x y), rfl⟩
set_option maxHeartbeats 400000 in
theorem xor1_any (x y : UInt8) (w : World) :
    Calls Tryz.prog 111 #[.int .u8 (x.toNat : Int), .int .u8 (y.toNat : Int)] w fun e w' => e = .returned (.int .u8 ((x ^^^ y).toNat : Int)) ∧ w = w' := by
  go_enter Tryz.func111, Tryz.ntmps111
  go_wp2
  go_ret
  exact ⟨ret_int (bits_xor_u8 x y), rfl⟩
end Go.Proofs.YtipiioggdalkoaaGreatDoor
end
section
namespace Go.Proofs.YtipiioggdalkoaaGreatDoor
open Go.RowKit

theorem Tryz.infoU8 : (Tryz.prog.info? 5).map (fun i => (i.zero, i.size, i.bytes)) = some (some (.int .u8 0), 1, 1) := by kernel_rfl

/-- All bits turned. -/
def notL (l : List UInt8) : List UInt8 := l.map (fun b => ~~~b)

theorem length_notL (l : List UInt8) : (notL l).length = l.length := by simp [notL]

theorem not_u8 (x : UInt8) : bits .xor .u8 (if IntKind.u8.signed = true then -1 else IntKind.u8.max) (x.toNat : Int) = ((~~~x).toNat : Int) := by
  have e : (if IntKind.u8.signed = true then -1 else IntKind.u8.max) = (((255 : UInt8).toNat : Nat) : Int) := by decide
  rw [e, bits_xor_u8]
  rw [show (255 : UInt8) = -1 from rfl, UInt8.neg_one_xor]

set_option maxHeartbeats 400000 in
theorem not_any (s : ByteArray) (w : World) (hs : s.size ≤ 1000000000) :
    Calls Tryz.prog 56 #[.string s] w fun e w' => e = .returned (.string ⟨(notL s.data.toList).toArray⟩) ∧ Below w.heap.size w w' := by
  have hmk := fun W => run_make_row' (P := Tryz.prog) 65 5 (.int .u8 0) 1 Tryz.underlying65 Tryz.infoU8 rfl .i64 .i64 s.size (by omega) (by omega) W
  go_enter Tryz.func56, Tryz.ntmps56
  go_wp2
  clear hmk
  go_loopw [10] (fun i wr => ∃ k : Nat, k ≤ s.size ∧ i = .int .i64 k ∧ BRow wr w.heap.size (mix (notL s.data.toList) (List.replicate s.size 0) k) ∧ Below w.heap.size w wr) (fun i _ => s.size - (intOf i).toNat)
  case atStart => exact ⟨0, Nat.zero_le _, rfl, by rw [mix_zero]; exact BRow.made w 5 s.size, (Below.refl _ _).alloc (Nat.le_refl _) _⟩
  case round =>
    obtain ⟨k, hk, rfl, hrow, hbel⟩ := hrel
    have hlen : (mix (notL s.data.toList) (List.replicate s.size 0) k).length = s.size := by rw [length_mix _ _ _ (by simp [length_notL]), length_notL]; simp
    by_cases hlt : k < s.size
    · obtain ⟨v, hc⟩ := hrow.some_ (k := k) (by omega)
      have hf := hrow.free (k := k) (by omega)
      have HL := Lib.hid hlen
      clear hlen
      go_wp2
      go_roundw
      case rel =>
        go_light
        refine ⟨k + 1, by omega, by go_num, ?_, hbel.setCell (p := ⟨w.heap.size, k, none⟩) (Nat.le_refl _) _⟩
        rw [not_u8, ← mix_set _ _ k (by simp [length_notL]) (by simpa [length_notL] using hlt) (~~~s[k]) (by simp [notL]; rfl)]
        exact hrow.set_ (by rw [HL.out]; exact hlt) _
      case measure => simp [intOf]; omega
    · have hb := hrow.back (P := Tryz.prog) 65 9 5 s.size s.size hlen Tryz.underlying65 Tryz.underlying5 Tryz.underlying9
      clear hlen
      go_wp2
      go_ret
      exact ⟨ret_str (mix_all _ _ _ (by simp [length_notL]; omega) (by simp; omega)), hbel⟩
end Go.Proofs.YtipiioggdalkoaaGreatDoor
end
section
namespace Go.Proofs.YtipiioggdalkoaaGreatDoor
open Go.RowKit
set_option linter.unusedVariables false

/-- f of both bytes, where the second text has one; else the first one's. -/
def pairL (f : UInt8 → UInt8 → UInt8) : List UInt8 → List UInt8 → List UInt8
  | [], _ => []
  | a :: r, [] => a :: r
  | a :: r, b :: q => f a b :: pairL f r q

theorem length_pairL (f : UInt8 → UInt8 → UInt8) : ∀ a b, (pairL f a b).length = a.length
  | [], _ => rfl
  | _ :: _, [] => rfl
  | _ :: r, _ :: q => by simp [pairL, length_pairL f r q]

theorem pairL_get (f : UInt8 → UInt8 → UInt8) : ∀ (a b : List UInt8) (k : Nat) (ha : k < a.length) (hb : k < b.length), (pairL f a b)[k]'(by rw [length_pairL]; exact ha) = f a[k] b[k]
  | _ :: _, _ :: _, 0, _, _ => rfl
  | _ :: r, _ :: q, k + 1, ha, hb => by simpa [pairL] using pairL_get f r q k (by simpa using ha) (by simpa using hb)

theorem pairL_drop (f : UInt8 → UInt8 → UInt8) : ∀ (a b : List UInt8), mix (pairL f a b) a (min a.length b.length) = pairL f a b
  | [], _ => by simp [mix, pairL]
  | _ :: _, [] => by simp [mix, pairL]
  | x :: r, y :: q => by
    have := pairL_drop f r q
    simp only [mix, pairL, List.length_cons, Nat.add_min_add_right, List.take_succ_cons, List.drop_succ_cons, List.cons_append] at this ⊢
    rw [this]

theorem bytesWorld_row (w : World) (e : TypeId) (s : ByteArray) : BRow (Lib.bytesWorld w e s) w.heap.size s.data.toList := by
  intro j hj
  have hj' : j < s.size := by simpa using hj
  refine ⟨?_, ?_⟩
  · rw [Lib.bytesWorld_cell w e s j hj']
    rw [List.getD_eq_getElem?_getD, List.getElem?_eq_getElem hj]; rfl
  · have := Lib.bytesWorld_at_new w e s
    simp [World.frozen?, this, Lib.bytesCells]
    omega

theorem bytesWorld_below (w : World) (e : TypeId) (s : ByteArray) : Below w.heap.size w (Lib.bytesWorld w e s) :=
  ⟨rfl, rfl, rfl, by rw [Lib.bytesWorld_size]; omega, fun k hk => Lib.bytesWorld_at_old w e s k hk⟩

set_option maxHeartbeats 400000 in
theorem pairwise_any (f : UInt8 → UInt8 → UInt8) (g : FuncId) (eg : ∀ args w, (callFunc g args).run Tryz.prog w = .ok (.enter g args) w)
    (hf : ∀ (x y : UInt8) (w : World), Calls Tryz.prog g #[.int .u8 (x.toNat : Int), .int .u8 (y.toNat : Int)] w fun e w' => e = .returned (.int .u8 ((f x y).toNat : Int)) ∧ w = w')
    (a b : ByteArray) (w : World) (ha : a.size ≤ 1000000000) (hb : b.size ≤ 1000000000) :
    Calls Tryz.prog 110 #[.string a, .string b, .func (.func g) #[] #[]] w fun e w' => e = .returned (.string ⟨(pairL f a.data.toList b.data.toList).toArray⟩) ∧ Below w.heap.size w w' := by
  have HF := Lib.hid hf
  clear hf
  have hcv := fun W => Lib.run_convert_string_bytes (P := Tryz.prog) W 9 65 5 a Tryz.underlying9 Tryz.underlying65 Tryz.underlying5
  have hr0 := bytesWorld_row w 5 a
  have hb0 := bytesWorld_below w 5 a
  have hmin : ∀ (ts : Array TypeId) (t : TypeId) (W : World), (Builtin.min_ ts t #[.int .i64 (a.size : Int), .int .i64 (b.size : Int)]).run Tryz.prog W = .ok (.int .i64 ((min a.size b.size : Nat) : Int)) W := by
    intro ts t W
    rw [run_min_int2]
    congr 2
    split <;> omega
  go_enter Tryz.func110, Tryz.ntmps110
  go_wp2
  clear hcv
  generalize Lib.bytesWorld w 5 a = w0 at *
  generalize grownCap w a.size 0 5 = cap at *
  all_goals
    go_loopw [16] (fun i wr => ∃ k : Nat, k ≤ min a.size b.size ∧ i = .int .i64 k ∧ BRow wr w.heap.size (mix (pairL f a.data.toList b.data.toList) a.data.toList k) ∧ Below w.heap.size w wr) (fun i _ => min a.size b.size - (intOf i).toNat)
    case atStart => exact ⟨0, Nat.zero_le _, rfl, by rw [mix_zero]; exact hr0, hb0⟩
    case round =>
      clear hr0 hb0
      obtain ⟨k, hk, rfl, hrow, hbel⟩ := hrel
      have hlen : (mix (pairL f a.data.toList b.data.toList) a.data.toList k).length = a.size := by rw [length_mix _ _ _ (by rw [length_pairL]), length_pairL]; simp
      by_cases hlt : k < min a.size b.size
      · obtain ⟨v, hc⟩ := hrow.some_ (k := k) (by omega)
        have hfz := hrow.free (k := k) (by omega)
        have HL := Lib.hid hlen
        clear hlen
        have hka : k < a.size := by omega
        have hkb : k < b.size := by omega
        go_wp2
        go_region_with ((with_reducible refine (HF.out (a[k]'hka) (b[k]'hkb) _).mono ?_); rintro e w' ⟨rfl, rfl⟩)
        all_goals go_wp2
        all_goals
          go_roundw
          case rel =>
            go_light
            refine ⟨k + 1, by omega, by go_num, ?_, (hbel.setCell (p := ⟨w.heap.size, k, none⟩) (Nat.le_refl _) _).drew⟩
            rw [← mix_set _ _ k (by rw [length_pairL]) (by rw [length_pairL]; simpa using hka) (f (a[k]'hka) (b[k]'hkb)) (pairL_get f _ _ k (by simpa using hka) (by simpa using hkb)).symm]
            exact (hrow.set_ (by rw [HL.out]; exact hka) _).drew
          case measure => simp [intOf]; omega
      · have hbk := hrow.back (P := Tryz.prog) 65 9 5 a.size cap hlen Tryz.underlying65 Tryz.underlying5 Tryz.underlying9
        clear hlen
        go_wp2
        go_ret
        exact ⟨ret_str (by rw [show k = min a.data.toList.length b.data.toList.length by simp at hlt hk ⊢; omega]; exact pairL_drop f _ _), hbel⟩

set_option maxHeartbeats 400000 in
theorem and_any (a b : ByteArray) (w : World) (ha : a.size ≤ 1000000000) (hb : b.size ≤ 1000000000) :
    Calls Tryz.prog 95 #[.string a, .string b] w fun e w' => e = .returned (.string ⟨(pairL (· &&& ·) a.data.toList b.data.toList).toArray⟩) ∧ Below w.heap.size w w' := by
  go_enter Tryz.func95, Tryz.ntmps95
  go_wp2_with fail
  refine (pairwise_any (· &&& ·) 112 (enters_of Tryz.func112 (by kernel_rfl) rfl) and1_any a b _ ha hb).mono ?_
  rintro e w' ⟨rfl, hb⟩
  go_wp2
  go_ret
  exact ⟨rfl, hb⟩
set_option maxHeartbeats 400000 in
theorem xor_any (a b : ByteArray) (w : World) (ha : a.size ≤ 1000000000) (hb : b.size ≤ 1000000000) :
    Calls Tryz.prog 94 #[.string a, .string b] w fun e w' => e = .returned (.string ⟨(pairL (· ^^^ ·) a.data.toList b.data.toList).toArray⟩) ∧ Below w.heap.size w w' := by
  go_enter Tryz.func94, Tryz.ntmps94
  go_wp2_with fail
  refine (pairwise_any (· ^^^ ·) 111 (enters_of Tryz.func111 (by kernel_rfl) rfl) xor1_any a b _ ha hb).mono ?_
  rintro e w' ⟨rfl, hb⟩
  go_wp2
  go_ret
  exact ⟨rfl, hb⟩
end Go.Proofs.YtipiioggdalkoaaGreatDoor
end
section
namespace Go.Proofs
open Go.Shelf
def Tryz.lays105_ren : Go.Shelf.Ren := ⟨fun | 105 => 85 | 212 => 84 | 99 => 102 | 165 => 103 | 166 => 104 | 170 => 105 | 169 => 106 | 263 => 100 | 264 => 101 | 206 => 116 | 240 => 117 | 241 => 118 | 276 => 123 | 277 => 124 | n => n, fun | 9 => 9 | 3 => 3 | 4 => 4 | 20 => 20 | 0 => 0 | 46 => 90 | 109 => 91 | 5 => 5 | 72 => 110 | 76 => 113 | 51 => 101 | 146 => 102 | 53 => 104 | 148 => 105 | 70 => 108 | 37 => 65 | 75 => 112 | 127 => 123 | 164 => 138 | 80 => 116 | n => n, fun | n => n⟩
theorem Tryz.lays105 : Go.Proofs.Lays.n105 Tryz.prog Tryz.lays105_ren := {
  mixed := by kernel_rfl
  f99 := Tryz.func102.trans (congrArg some (by kernel_rfl))
  f105 := Tryz.func85.trans (congrArg some (by kernel_rfl))
  f165 := Tryz.func103.trans (congrArg some (by kernel_rfl))
  f166 := Tryz.func104.trans (congrArg some (by kernel_rfl))
  f169 := Tryz.func106.trans (congrArg some (by kernel_rfl))
  f170 := Tryz.func105.trans (congrArg some (by kernel_rfl))
  f206 := Tryz.func116.trans (congrArg some (by kernel_rfl))
  f212 := Tryz.func84.trans (congrArg some (by kernel_rfl))
  f240 := Tryz.func117.trans (congrArg some (by kernel_rfl))
  f241 := Tryz.func118.trans (congrArg some (by kernel_rfl))
  f263 := Tryz.func100.trans (congrArg some (by kernel_rfl))
  f264 := Tryz.func101.trans (congrArg some (by kernel_rfl))
  f276 := Tryz.func123.trans (congrArg some (by kernel_rfl))
  f277 := Tryz.func124.trans (congrArg some (by kernel_rfl))
  t0 := Tryz.underlying0
  a0 := Tryz.isAgg0
  z0 := Tryz.sizeOf0
  v0 := Tryz.zeroValue0
  t3 := Tryz.underlying3
  a3 := Tryz.isAgg3
  z3 := Tryz.sizeOf3
  v3 := Tryz.zeroValue3
  t4 := Tryz.underlying4
  a4 := Tryz.isAgg4
  z4 := Tryz.sizeOf4
  v4 := Tryz.zeroValue4
  t5 := Tryz.underlying5
  a5 := Tryz.isAgg5
  z5 := Tryz.sizeOf5
  v5 := Tryz.zeroValue5
  t9 := Tryz.underlying9
  a9 := Tryz.isAgg9
  z9 := Tryz.sizeOf9
  v9 := Tryz.zeroValue9
  t20 := Tryz.underlying20
  a20 := Tryz.isAgg20
  z20 := Tryz.sizeOf20
  v20 := Tryz.zeroValue20
  t37 := Tryz.underlying65
  a37 := Tryz.isAgg65
  z37 := Tryz.sizeOf65
  v37 := Tryz.zeroValue65
  t46 := Tryz.underlying90
  a46 := Tryz.isAgg90
  z46 := Tryz.sizeOf90
  v46 := Tryz.zeroValue90
  t51 := Tryz.underlying101
  a51 := Tryz.isAgg101
  z51 := Tryz.sizeOf101
  v51 := Tryz.zeroValue101
  t53 := Tryz.underlying104
  a53 := Tryz.isAgg104
  z53 := Tryz.sizeOf104
  v53 := Tryz.zeroValue104
  t70 := Tryz.underlying108
  a70 := Tryz.isAgg108
  z70 := Tryz.sizeOf108
  v70 := Tryz.zeroValue108
  t72 := Tryz.underlying110
  a72 := Tryz.isAgg110
  z72 := Tryz.sizeOf110
  v72 := Tryz.zeroValue110
  t75 := Tryz.underlying112
  a75 := Tryz.isAgg112
  z75 := Tryz.sizeOf112
  v75 := Tryz.zeroValue112
  t76 := Tryz.underlying113
  a76 := Tryz.isAgg113
  z76 := Tryz.sizeOf113
  v76 := Tryz.zeroValue113
  t109 := Tryz.underlying91
  a109 := Tryz.isAgg91
  z109 := Tryz.sizeOf91
  v109 := Tryz.zeroValue91
  t127 := Tryz.underlying123
  a127 := Tryz.isAgg123
  z127 := Tryz.sizeOf123
  v127 := Tryz.zeroValue123
  t146 := Tryz.underlying102
  a146 := Tryz.isAgg102
  z146 := Tryz.sizeOf102
  v146 := Tryz.zeroValue102
  t148 := Tryz.underlying105
  a148 := Tryz.isAgg105
  z148 := Tryz.sizeOf105
  v148 := Tryz.zeroValue105
  t164 := Tryz.underlying138
  a164 := Tryz.isAgg138
  z164 := Tryz.sizeOf138
  v164 := Tryz.zeroValue138 }
theorem Tryz.Builder_Extra_105 : Builder.Extra Tryz.prog Tryz.lays105_ren := {
  sizeBuilder := by kernel_rfl
  liesBuilder := by kernel_rfl
  t5 := Tryz.underlying5
  a5 := Tryz.isAgg5
  z5 := Tryz.sizeOf5
  v5 := Tryz.zeroValue5
  infoByte := by kernel_rfl
  cellsByte := by kernel_rfl
  sizeByte := by kernel_rfl
  neB5 := by decide }
open Go.RowKit Go.Lib in
theorem Tryz.strings_Repeat (s : ByteArray) (c : Nat) (w : World) (hc : c ≤ 9223372036854775807) (hlen : s.size * c ≤ 140737488355328) :
    Calls Tryz.prog 85 #[.string s, .int .i64 c] w fun e w' => e = .returned (.string ⟨(Lib.repeatL s.data.toList c).toArray⟩) ∧ Below w.heap.size w w' := Any.strings_Repeat Tryz.lays105 Tryz.Builder_Extra_105 s c w hc hlen
def Tryz.lays111_ren : Go.Shelf.Ren := ⟨fun | 111 => 52 | n => n, fun | 28 => 29 | 3 => 3 | 4 => 4 | 0 => 0 | n => n, fun | n => n⟩
theorem Tryz.lays111 : Go.Proofs.Lays.n111 Tryz.prog Tryz.lays111_ren := {
  mixed := by kernel_rfl
  f111 := Tryz.func52.trans (congrArg some (by kernel_rfl))
  t0 := Tryz.underlying0
  a0 := Tryz.isAgg0
  z0 := Tryz.sizeOf0
  v0 := Tryz.zeroValue0
  t3 := Tryz.underlying3
  a3 := Tryz.isAgg3
  z3 := Tryz.sizeOf3
  v3 := Tryz.zeroValue3
  t4 := Tryz.underlying4
  a4 := Tryz.isAgg4
  z4 := Tryz.sizeOf4
  v4 := Tryz.zeroValue4
  t28 := Tryz.underlying29
  a28 := Tryz.isAgg29
  z28 := Tryz.sizeOf29
  v28 := Tryz.zeroValue29 }
open Go.RowKit Go.Lib in
theorem Tryz.slices_Equal_int (b1 o1 n c b2 o2 m d : Nat) (xs ys : List Int) (w : World) (hx : n ≤ xs.length) (hy : m ≤ ys.length) (hbig : n ≤ 9223372036854775807) (hbig2 : m ≤ 9223372036854775807) (hc1 : ∀ j, j < xs.length → w.cell? ⟨b1, o1 + j, none⟩ = some (.int .i64 (xs.getD j 0))) (hc2 : ∀ j, j < ys.length → w.cell? ⟨b2, o2 + j, none⟩ = some (.int .i64 (ys.getD j 0))) :
    Calls Tryz.prog 52 #[.slice (some ⟨b1, o1, none⟩) n c, .slice (some ⟨b2, o2, none⟩) m d] w fun e w' => e = .returned (.bool (xs.take n == ys.take m)) ∧ ∃ q, w' = w.drewN q := Any.slices_Equal_int Tryz.lays111 b1 o1 n c b2 o2 m d xs ys w hx hy hbig hbig2 hc1 hc2
open Go.RowKit Go.Lib in
theorem Tryz.slices_Equal_int_empty (a1 a2 : Option Addr) (c m d : Nat) (w : World) (hbig2 : m ≤ 9223372036854775807) :
    Calls Tryz.prog 52 #[.slice a1 0 c, .slice a2 m d] w fun e w' => e = .returned (.bool (decide (m = 0))) ∧ w' = w := Any.slices_Equal_int_empty Tryz.lays111 a1 a2 c m d w hbig2
def Tryz.lays193_ren : Go.Shelf.Ren := ⟨fun | 193 => 51 | n => n, fun | 31 => 26 | 9 => 9 | 4 => 4 | 3 => 3 | 0 => 0 | n => n, fun | n => n⟩
theorem Tryz.lays193 : Go.Proofs.Lays.n193 Tryz.prog Tryz.lays193_ren := {
  mixed := by kernel_rfl
  f193 := Tryz.func51.trans (congrArg some (by kernel_rfl))
  t0 := Tryz.underlying0
  a0 := Tryz.isAgg0
  z0 := Tryz.sizeOf0
  v0 := Tryz.zeroValue0
  t3 := Tryz.underlying3
  a3 := Tryz.isAgg3
  z3 := Tryz.sizeOf3
  v3 := Tryz.zeroValue3
  t4 := Tryz.underlying4
  a4 := Tryz.isAgg4
  z4 := Tryz.sizeOf4
  v4 := Tryz.zeroValue4
  t9 := Tryz.underlying9
  a9 := Tryz.isAgg9
  z9 := Tryz.sizeOf9
  v9 := Tryz.zeroValue9
  t31 := Tryz.underlying26
  a31 := Tryz.isAgg26
  z31 := Tryz.sizeOf26
  v31 := Tryz.zeroValue26 }
open Go.RowKit Go.Lib in
theorem Tryz.slices_Equal_string (b1 o1 n c b2 o2 m d : Nat) (xs ys : List ByteArray) (w : World) (hx : n ≤ xs.length) (hy : m ≤ ys.length) (hbig : n ≤ 9223372036854775807) (hbig2 : m ≤ 9223372036854775807) (hc1 : ∀ j, j < xs.length → w.cell? ⟨b1, o1 + j, none⟩ = some (.string (xs.getD j ByteArray.empty))) (hc2 : ∀ j, j < ys.length → w.cell? ⟨b2, o2 + j, none⟩ = some (.string (ys.getD j ByteArray.empty))) :
    Calls Tryz.prog 51 #[.slice (some ⟨b1, o1, none⟩) n c, .slice (some ⟨b2, o2, none⟩) m d] w fun e w' => e = .returned (.bool (decide (xs.take n = ys.take m))) ∧ ∃ q, w' = w.drewN q := Any.slices_Equal_string Tryz.lays193 b1 o1 n c b2 o2 m d xs ys w hx hy hbig hbig2 hc1 hc2
open Go.RowKit Go.Lib in
theorem Tryz.slices_Equal_string_empty (a1 a2 : Option Addr) (c m d : Nat) (w : World) (hbig2 : m ≤ 9223372036854775807) :
    Calls Tryz.prog 51 #[.slice a1 0 c, .slice a2 m d] w fun e w' => e = .returned (.bool (decide (m = 0))) ∧ w' = w := Any.slices_Equal_string_empty Tryz.lays193 a1 a2 c m d w hbig2
def Tryz.laysNm215_ren : Go.Shelf.Ren := ⟨fun | 15 => 67 | n => n, fun | 22 => 29 | 3 => 3 | 4 => 4 | n => n, fun | n => n⟩
theorem Tryz.laysNm215 : Go.Proofs.Lays2.n15 Tryz.prog Tryz.laysNm215_ren := {
  mixed := by kernel_rfl
  f15 := Tryz.func67.trans (congrArg some (by kernel_rfl))
  t3 := Tryz.underlying3
  a3 := Tryz.isAgg3
  z3 := Tryz.sizeOf3
  v3 := Tryz.zeroValue3
  t4 := Tryz.underlying4
  a4 := Tryz.isAgg4
  z4 := Tryz.sizeOf4
  v4 := Tryz.zeroValue4
  t22 := Tryz.underlying29
  a22 := Tryz.isAgg29
  z22 := Tryz.sizeOf29
  v22 := Tryz.zeroValue29
  i3 := by kernel_rfl }
open Go.RowKit Go.Lib in
theorem Tryz.slices_Clone_int (b off n c : Nat) (zs : List Int) (w : World) (hz : n ≤ zs.length) (hbig : n * 8 ≤ 140737488355328) (hc : ∀ j, j < zs.length → w.cell? ⟨b, off + j, none⟩ = some (.int .i64 (zs.getD j 0))) :
    Calls Tryz.prog 67 #[.slice (some ⟨b, off, none⟩) n c] w fun e w' => ∃ v', e = .returned v' ∧ w'.ownsRow w.heap.size 3 1 v' n ((zs.take n).map (Value.int .i64)) ∧ v' ≠ .slice none 0 0 ∧ Below w.heap.size w w' := Any.slices_Clone_int Tryz.laysNm215 b off n c zs w hz hbig hc
open Go.RowKit Go.Lib in
theorem Tryz.slices_Clone_int_nil (n c : Nat) (w : World) :
    Calls Tryz.prog 67 #[.slice none n c] w fun e w' => e = .returned (.slice none 0 0) ∧ w' = w := Any.slices_Clone_int_nil Tryz.laysNm215 n c w
def Tryz.laysNm216_ren : Go.Shelf.Ren := ⟨fun | 16 => 66 | n => n, fun | 24 => 26 | 9 => 9 | 4 => 4 | n => n, fun | n => n⟩
theorem Tryz.laysNm216 : Go.Proofs.Lays2.n16 Tryz.prog Tryz.laysNm216_ren := {
  mixed := by kernel_rfl
  f16 := Tryz.func66.trans (congrArg some (by kernel_rfl))
  t4 := Tryz.underlying4
  a4 := Tryz.isAgg4
  z4 := Tryz.sizeOf4
  v4 := Tryz.zeroValue4
  t9 := Tryz.underlying9
  a9 := Tryz.isAgg9
  z9 := Tryz.sizeOf9
  v9 := Tryz.zeroValue9
  t24 := Tryz.underlying26
  a24 := Tryz.isAgg26
  z24 := Tryz.sizeOf26
  v24 := Tryz.zeroValue26
  i9 := by kernel_rfl }
open Go.RowKit Go.Lib in
theorem Tryz.slices_Clone_string (b off n c : Nat) (zs : List ByteArray) (w : World) (hz : n ≤ zs.length) (hbig : n * 16 ≤ 140737488355328) (hc : ∀ j, j < zs.length → w.cell? ⟨b, off + j, none⟩ = some (.string (zs.getD j ByteArray.empty))) :
    Calls Tryz.prog 66 #[.slice (some ⟨b, off, none⟩) n c] w fun e w' => ∃ v', e = .returned v' ∧ w'.ownsRow w.heap.size 9 1 v' n ((zs.take n).map (Value.string)) ∧ v' ≠ .slice none 0 0 ∧ Below w.heap.size w w' := Any.slices_Clone_string Tryz.laysNm216 b off n c zs w hz hbig hc
open Go.RowKit Go.Lib in
theorem Tryz.slices_Clone_string_nil (n c : Nat) (w : World) :
    Calls Tryz.prog 66 #[.slice none n c] w fun e w' => e = .returned (.slice none 0 0) ∧ w' = w := Any.slices_Clone_string_nil Tryz.laysNm216 n c w
open Go.RowKit Go.Lib in
theorem Tryz.slices_Clone_int_zero (a : Addr) (c : Nat) (w : World) :
    Calls Tryz.prog 67 #[.slice (some a) 0 c] w fun e w' => ∃ v', e = .returned v' ∧ w'.ownsRow w.heap.size 3 1 v' 0 [] ∧ v' ≠ .slice none 0 0 ∧ Below w.heap.size w w' := Any.slices_Clone_int_zero Tryz.laysNm215 a c w
open Go.RowKit Go.Lib in
theorem Tryz.slices_Clone_string_zero (a : Addr) (c : Nat) (w : World) :
    Calls Tryz.prog 66 #[.slice (some a) 0 c] w fun e w' => ∃ v', e = .returned v' ∧ w'.ownsRow w.heap.size 9 1 v' 0 [] ∧ v' ≠ .slice none 0 0 ∧ Below w.heap.size w w' := Any.slices_Clone_string_zero Tryz.laysNm216 a c w
end Go.Proofs
end
section
namespace Go.Proofs.YtipiioggdalkoaaGreatDoor
open Go.RowKit
set_option linter.unusedVariables false

/-- So many bytes of ones alone; none, if the number is out of its range. -/
def onesL (n : Int) : List UInt8 := if 0 ≤ n ∧ n ≤ 100000 then List.replicate n.toNat 255 else []

theorem repeatL_ones /- over 85 -/ (n : Nat) : Lib.repeatL [255] n = List.replicate n 255 := by
  induction n with
  | zero => rfl
  | succ n ih => simp [Lib.repeatL, List.replicate_succ] at ih ⊢; try rw [ih]

set_option maxHeartbeats 400000 in
theorem ones_any (n : Int) (w : World) :
    Calls Tryz.prog 61 #[.int .i64 n] w fun e w' => e = .returned (.string ⟨(onesL n).toArray⟩) ∧ Below w.heap.size w w' := by
  by_cases h0 : n < 0
  · have e0 : onesL n = [] := by unfold onesL; rw [if_neg (by omega)]
    rw [e0]
    go_enter Tryz.func61, Tryz.ntmps61
    go_wp2
    go_ret
    exact ⟨rfl, Below.refl _ _⟩
  · have h0' : decide (n < 0) = false := by simpa using h0
    by_cases h1 : 100000 < n
    · have e0 : onesL n = [] := by unfold onesL; rw [if_neg (by omega)]
      rw [e0]
      go_enter Tryz.func61, Tryz.ntmps61
      go_wp2
      go_ret
      exact ⟨rfl, Below.refl _ _⟩
    · have h1' : decide (100000 < n) = false := by simpa using h1
      obtain ⟨m, rfl⟩ := Int.eq_ofNat_of_zero_le (show 0 ≤ n by omega)
      have e0 : onesL (m : Int) = List.replicate m 255 := by unfold onesL; rw [if_pos (by omega), Int.toNat_natCast]
      have E0 := Lib.hid e0
      clear e0
      go_enter Tryz.func61, Tryz.ntmps61
      go_wp2_with fail
      refine (Tryz.strings_Repeat ⟨#[255]⟩ m _ (by omega) (by show 1 * m ≤ _; omega)).mono ?_
      rintro e w' ⟨rfl, hb⟩
      go_wp2
      go_ret
      exact ⟨ret_str (by rw [E0.out]; exact repeatL_ones m), hb⟩

/-- How many bits are ones. -/
def popB (b : UInt8) : Nat := Lib.onesCount b.toNat
def countL : List UInt8 → Nat
  | [] => 0
  | b :: r => popB b + countL r

theorem countL_append (a b : List UInt8) : countL (a ++ b) = countL a + countL b := by
  induction a with
  | nil => simp [countL]
  | cons x r ih => simp [countL, ih]; omega

theorem popB_le (b : UInt8) : popB b ≤ 8 := by
  have h : ∀ n : Fin 256, Lib.onesCount n.val ≤ 8 := by decide +kernel
  exact h ⟨b.toNat, b.toNat_lt⟩

theorem countL_le (l : List UInt8) : countL l ≤ 8 * l.length := by
  induction l with
  | nil => simp [countL]
  | cons x r ih => have := popB_le x; simp [countL]; omega

theorem countL_take (s : ByteArray) (k : Nat) (h : k < s.size) : countL (s.data.toList.take (k + 1)) = countL (s.data.toList.take k) + popB s[k] := by
  rw [List.take_succ_eq_append_getElem (by simpa using h), countL_append]; simp [countL]; rfl

end Go.Proofs.YtipiioggdalkoaaGreatDoor
end
section
namespace Go.Proofs.YtipiioggdalkoaaGreatDoor
open Go.RowKit
set_option linter.unusedVariables false

/-- n in so many bytes, the lowest ones first. -/
def putL (n : Nat) : Nat → List UInt8
  | 0 => []
  | w + 1 => UInt8.ofNat n :: putL (n / 256) w

theorem length_putL : ∀ w n, (putL n w).length = w
  | 0, _ => rfl
  | w + 1, n => by simp [putL, length_putL w]

theorem putL_get : ∀ (w n k : Nat) (h : k < w), (putL n w)[k]'(by rw [length_putL]; exact h) = UInt8.ofNat (n / 256 ^ k)
  | w + 1, n, 0, _ => by simp [putL]
  | w + 1, n, k + 1, h => by
    have := putL_get w (n / 256) k (by omega)
    simp only [putL, List.getElem_cons_succ, this, Nat.div_div_eq_div_mul, Nat.pow_succ, Nat.mul_comm]

theorem pow8 (k : Nat) : 2 ^ (8 * k) = 256 ^ k := by rw [Nat.pow_mul]
theorem put_byte (m k : Nat) : ((m : Int) / 2 ^ (8 * k) % 256) = ((UInt8.ofNat (m / 256 ^ k)).toNat : Int) := by
  have e : ((2 : Int) ^ (8 * k)) = ((256 ^ k : Nat) : Int) := by rw [← pow8]; simp
  rw [e]
  simp

/-- Whether n is put in so many bytes. -/
def okPut (n width : Int) : Bool := isWidthB width && decide (0 ≤ n) && decide (n < 256 ^ width.toNat)

set_option maxHeartbeats 400000 in
theorem put_bad1 (n width : Int) (w : World) (h : isWidthB width = false) :
    Calls Tryz.prog 86 #[.int .i64 n, .int .i64 width] w fun e w' => e = .returned (.tuple #[.string ⟨#[]⟩, .int .i64 1]) ∧ w = w' := by
  go_enter Tryz.func86, Tryz.ntmps86
  go_wp2_with (go_at_call 97; refine (isWidth_any _ _).mono ?_; rintro e w' ⟨rfl, rfl⟩)
  go_ret2
  exact ⟨rfl, rfl⟩

set_option maxHeartbeats 400000 in
theorem put_bad2 (n width : Int) (w : World) (h : isWidthB width = true) (hn : n < 0) :
    Calls Tryz.prog 86 #[.int .i64 n, .int .i64 width] w fun e w' => e = .returned (.tuple #[.string ⟨#[]⟩, .int .i64 1]) ∧ w = w' := by
  go_enter Tryz.func86, Tryz.ntmps86
  go_wp2_with (go_at_call 97; refine (isWidth_any _ _).mono ?_; rintro e w' ⟨rfl, rfl⟩)
  go_ret2
  exact ⟨rfl, rfl⟩

set_option maxHeartbeats 400000 in
theorem put_bad3 (n width : Int) (w : World) (h : isWidthB width = true) (h1 : 1 ≤ width) (h7 : width ≤ 7) (hn : 0 ≤ n) (hz : (n / 2 ^ (8 * width).toNat != 0) = true) :
    Calls Tryz.prog 86 #[.int .i64 n, .int .i64 width] w fun e w' => e = .returned (.tuple #[.string ⟨#[]⟩, .int .i64 1]) ∧ w = w' := by
  have hn' : decide (n < 0) = false := by simp; omega
  go_enter Tryz.func86, Tryz.ntmps86
  go_wp2_with (go_at_call 97; refine (isWidth_any _ _).mono ?_; rintro e w' ⟨rfl, rfl⟩)
  go_ret2
  exact ⟨rfl, rfl⟩

set_option maxHeartbeats 400000 in
theorem put_ok (m wd : Nat) (w : World) (h : isWidthB (wd : Int) = true) (h1 : 1 ≤ wd) (h7 : wd ≤ 7) (hz : ((m : Int) / 2 ^ (8 * wd) != 0) = false) (hm : (m : Int) ≤ 9223372036854775807) :
    Calls Tryz.prog 86 #[.int .i64 (m : Int), .int .i64 (wd : Int)] w fun e w' => e = .returned (.tuple #[.string ⟨(putL m wd).toArray⟩, .int .i64 0]) ∧ Below w.heap.size w w' := by
  have hn' : decide ((m : Int) < 0) = false := by simp
  have hmk := fun W => run_make_row' (P := Tryz.prog) 65 5 (.int .u8 0) 1 Tryz.underlying65 Tryz.infoU8 rfl .i64 .i64 wd (by omega) (by omega) W
  go_enter Tryz.func86, Tryz.ntmps86
  go_wp2_with (go_at_call 97; refine (isWidth_any _ _).mono ?_; rintro e w' ⟨rfl, rfl⟩)
  clear hmk
  go_loopw [25] (fun i wr => ∃ k : Nat, k ≤ wd ∧ i = .int .i64 k ∧ BRow wr w.heap.size (mix (putL m wd) (List.replicate wd 0) k) ∧ Below w.heap.size w wr) (fun i _ => wd - (intOf i).toNat)
  case atStart => exact ⟨0, Nat.zero_le _, rfl, by rw [mix_zero]; exact BRow.made w 5 wd, (Below.refl _ _).alloc (Nat.le_refl _) _⟩
  case round =>
    obtain ⟨k, hk, rfl, hrow, hbel⟩ := hrel
    have hlen : (mix (putL m wd) (List.replicate wd 0) k).length = wd := by rw [length_mix _ _ _ (by simp [length_putL]), length_putL]
    by_cases hlt : k < wd
    · obtain ⟨v, hc⟩ := hrow.some_ (k := k) (by omega)
      have hf := hrow.free (k := k) (by omega)
      have HL := Lib.hid hlen
      clear hlen
      go_wp2
      go_roundw
      case rel =>
        go_light
        refine ⟨k + 1, by omega, by go_num, ?_, hbel.setCell (p := ⟨w.heap.size, k, none⟩) (Nat.le_refl _) _⟩
        rw [put_byte, ← mix_set _ _ k (by simp [length_putL]) (by rw [length_putL]; exact hlt) (UInt8.ofNat (m / 256 ^ k)) (putL_get wd m k hlt).symm]
        exact hrow.set_ (by rw [HL.out]; exact hlt) _
      case measure => simp [intOf]; omega
    · have hb := hrow.back (P := Tryz.prog) 65 9 5 wd wd hlen Tryz.underlying65 Tryz.underlying5 Tryz.underlying9
      clear hlen
      go_wp2
      go_ret2
      exact ⟨by rw [mix_all _ _ _ (by simp [length_putL]; omega) (by simp; omega)]; rfl, hbel⟩

def putS (n width : Int) : List UInt8 := if okPut n width = true then putL n.toNat width.toNat else []
def putE (n width : Int) : Int := if okPut n width = true then 0 else 1

theorem put_any (n width : Int) (w : World) (hm : n ≤ 9223372036854775807) :
    Calls Tryz.prog 86 #[.int .i64 n, .int .i64 width] w fun e w' => e = .returned (.tuple #[.string ⟨(putS n width).toArray⟩, .int .i64 (putE n width)]) ∧ Below w.heap.size w w' := by
  have bad : okPut n width = false → ∀ e w', (e = Ending.returned (.tuple #[.string ⟨#[]⟩, .int .i64 1]) ∧ w = w') → (e = .returned (.tuple #[.string ⟨(putS n width).toArray⟩, .int .i64 (putE n width)]) ∧ Below w.heap.size w w') := by
    rintro h e w' ⟨rfl, rfl⟩
    exact ⟨by simp [putS, putE, h], Below.refl _ _⟩
  cases h : isWidthB width with
  | false => exact (put_bad1 n width w h).mono (bad (by simp [okPut, h]))
  | true =>
    have hwd : 1 ≤ width ∧ width ≤ 7 := by simpa [isWidthB] using h
    by_cases hn : n < 0
    · exact (put_bad2 n width w h hn).mono (bad (by simp [okPut, h]; omega))
    · obtain ⟨m, rfl⟩ := Int.eq_ofNat_of_zero_le (show 0 ≤ n by omega)
      obtain ⟨wd, rfl⟩ := Int.eq_ofNat_of_zero_le (show 0 ≤ width by omega)
      have hlt : (m : Int) < 256 ^ wd ↔ m < 256 ^ wd := by
        rw [show ((256 : Int) ^ wd) = ((256 ^ wd : Nat) : Int) by simp]
        omega
      have e1 : ((m : Int) / 2 ^ (8 * wd)) = ((m / 256 ^ wd : Nat) : Int) := by
        rw [show ((2 : Int) ^ (8 * wd)) = ((256 ^ wd : Nat) : Int) by rw [← pow8]; simp]
        simp
      by_cases hz : m < 256 ^ wd
      · have hd : m / 256 ^ wd = 0 := Nat.div_eq_of_lt hz
        refine (put_ok m wd w h (by omega) (by omega) (by rw [e1, hd]; rfl) hm).mono ?_
        rintro e w' ⟨rfl, hb⟩
        have ok : okPut (m : Int) (wd : Int) = true := by
          simp only [okPut, h, Bool.true_and, Int.toNat_natCast, Bool.and_eq_true, decide_eq_true_eq]
          exact ⟨by omega, hlt.2 hz⟩
        exact ⟨by simp [putS, putE, ok], hb⟩
      · have hd : m / 256 ^ wd ≠ 0 := by
          have := Nat.div_pos (Nat.le_of_not_lt hz) (Nat.pow_pos (by omega))
          omega
        refine (put_bad3 m wd w h (by omega) (by omega) (by omega) ?_).mono (bad ?_)
        · rw [show (8 * (wd : Int)).toNat = 8 * wd by omega, e1]
          simp only [bne_iff_ne, ne_eq]
          omega
        · have hf : ¬ ((m : Int) < 256 ^ wd) := fun c => hz (hlt.1 c)
          simp only [okPut, h, Bool.true_and, Int.toNat_natCast, Bool.and_eq_false_iff, decide_eq_false_iff_not]
          exact .inr hf
end Go.Proofs.YtipiioggdalkoaaGreatDoor
end
section
namespace Go.Proofs.YtipiioggdalkoaaGreatDoor
open Go.RowKit Go.Shelf
set_option linter.unusedVariables false
attribute [local go_sem] Oper.semAt_some

/-- A digit: its place, below 7, and its byte. -/
abbrev Dig := Fin 7 × UInt8
def encDig (x : Dig) : Array Value := #[.int .i64 (8 * (x.1.val : Int)), .int .i64 (x.2.toNat : Int)]

def digAt (l : List UInt8) (h : l.length ≤ 7) (k : Nat) (hk : k < l.length) : Dig := (⟨k, by omega⟩, l[k])
/-- The first k digits. -/
def digs (l : List UInt8) (h : l.length ≤ 7) : Nat → List Dig
  | 0 => []
  | k + 1 => digs l h k ++ (if hk : k < l.length then [digAt l h k hk] else [])
theorem digs_succ (l : List UInt8) (h : l.length ≤ 7) (k : Nat) (hk : k < l.length) : digs l h (k + 1) = digs l h k ++ [digAt l h k hk] := by
  simp [digs, hk]
theorem length_digs (l : List UInt8) (h : l.length ≤ 7) : ∀ k, k ≤ l.length → (digs l h k).length = k
  | 0, _ => rfl
  | k + 1, hk => by rw [digs_succ l h k (by omega)]; simp [length_digs l h k (by omega)]

/-- The cell of the box stays. -/
def BoxKept (b : Nat) (W W' : World) : Prop := W'.cell? ⟨b, 0, none⟩ = W.cell? ⟨b, 0, none⟩

set_option maxRecDepth 100000 in
set_option maxHeartbeats 1000000 in
theorem digits1_in (F : Fence) (n : Nat) (hF : F.fn 113) (hro : F.round = none) (hn : 1 ≤ n) (l Bs : Nat) (s : ByteArray) (hs : s.data.toList.length ≤ 7) (J Jx : List Dig → World → Prop)
    (hY : ∀ pre x W, J pre W → pre.length < s.size → YieldAt F (n - 1) Tryz.prog l (encDig x) W fun e W' =>
      (e = .returned (.bool true) ∧ J (pre ++ [x]) W' ∧ BoxKept Bs W W') ∨ (e = .returned (.bool false) ∧ Jx (pre ++ [x]) W'))
    (W : World) (hBs : W.cell? ⟨Bs, 0, none⟩ = some (.string s)) (h0 : J [] W) :
    CallsIn F n Tryz.prog 113 #[.func (.yield l) #[] #[], .pointer (some ⟨Bs, 0, none⟩)] W fun e W' => (∃ v, e = .returned v) ∧
      ((∃ ys, ys = digs s.data.toList hs s.size ∧ J ys W') ∨ (∃ pre, True ∧ Jx pre W')) := by
  have hsz : s.size ≤ 7 := by simpa using hs
  refine callsIn_of_wp Tryz.func113 rfl hF ?_ hro
  simp only [Tryz.ntmps113, List.size_toArray, List.length_cons, List.length_nil, Nat.reduceAdd, Nat.reduceSub, Array.replicate_succ, Array.replicate_zero, List.push_toArray, List.append_toArray, List.nil_append, List.cons_append]
  gi_wp2
  gi_loopw [6] (fun i wr => ∃ k : Nat, k ≤ s.size ∧ i = .int .i64 k ∧ J (digs s.data.toList hs k) wr ∧ wr.cell? ⟨Bs, 0, none⟩ = some (.string s))
    (fun i _ => s.size - (intOf i).toNat)
  case atStart => exact ⟨0, Nat.zero_le _, rfl, h0, hBs⟩
  case round =>
    obtain ⟨k, hk, rfl, hJs, hcx⟩ := hrel
    by_cases hlt : k < s.size
    · obtain ⟨fn, tmps, assign, body, hy, hR⟩ := hY _ (⟨k, by omega⟩, s[k]'hlt) wr hJs (by rw [length_digs _ _ _ (by simpa using hk)]; exact hlt)
      simp only [encDig] at hy
      have hbt : (s[k]'hlt).toNat < 256 := UInt8.toNat_lt _
      gi_wp2
      refine hR.mono ?_
      rintro e W3 (⟨rfl, hJ3, hk3⟩ | ⟨rfl, hJx3⟩)
      · have hc3 := hk3.trans hcx
        gi_wp2
        go_roundw
        case rel => exact ⟨k + 1, by omega, by go_num, by rw [digs_succ _ _ _ (by simpa using hlt)]; exact hJ3, hc3⟩
        case measure => simp [intOf]; omega
      · gi_wp2
        refine bodyPost_ret (results_none rfl _ _ _) rfl ?_
        exact ⟨⟨_, rfl⟩, .inr ⟨_, trivial, hJx3⟩⟩
    · obtain rfl : k = s.size := by omega
      gi_wp2
      go_end0
      exact ⟨⟨_, rfl⟩, .inl ⟨_, rfl, hJs⟩⟩
end Go.Proofs.YtipiioggdalkoaaGreatDoor
end
section
namespace Go.Proofs.YtipiioggdalkoaaGreatDoor
open Go.RowKit Go.Shelf
set_option linter.unusedVariables false
attribute [local go_sem] Oper.semAt_some

set_option maxHeartbeats 1000000 in
theorem digits_in (F : Fence) (n : Nat) (hF : F.fn 98) (hro : F.round = none) (s : ByteArray) (w : World) :
    CallsIn F n Tryz.prog 98 #[.string s] w fun e w' => e = .returned (.func (.func 113) #[] #[.pointer (some ⟨w.heap.size, 0, none⟩)]) ∧ w' = w.alloc (.cells #[.string s] 9) := by
  refine callsIn_of_wp Tryz.func98 rfl hF ?_ hro
  simp only [Tryz.ntmps98, List.size_toArray, List.length_cons, List.length_nil, Nat.reduceAdd, Nat.reduceSub, Array.replicate_succ, Array.replicate_zero, List.push_toArray, List.append_toArray, List.nil_append, List.cons_append]
  gi_wp2
  go_ret
  exact ⟨rfl, rfl⟩

theorem newCell (W : World) (v : Value) (t : TypeId) : (W.alloc (.cells #[v] t)).cell? ⟨W.heap.size, 0, none⟩ = some v ∧ (W.alloc (.cells #[v] t)).frozen? ⟨W.heap.size, 0, none⟩ = false :=
  ⟨by rw [World.cell?_alloc_new]; rfl, World.frozen?_alloc_new W _ _ _⟩
theorem oldCell {W : World} {a : Addr} {v : Value} (o : Obj) (h : W.cell? a = some v) : (W.alloc o).cell? a = some v :=
  cell_kept h (World.grownBy_alloc W o none) (fun r e => by cases e)
theorem oldFree {W : World} {a : Addr} {v : Value} (o : Obj) (h : W.cell? a = some v) (hf : W.frozen? a = false) : (W.alloc o).frozen? a = false :=
  (frozen_kept h (World.grownBy_alloc W o none) (fun r e => by cases e)).trans hf

/-- The digits, put together one by one. -/
def valOf (pre : List Dig) : Nat := pre.foldl (fun n x => n ||| (x.2.toNat <<< (8 * x.1.val))) 0
theorem valOf_snoc (pre : List Dig) (x : Dig) : valOf (pre ++ [x]) = valOf pre ||| (x.2.toNat <<< (8 * x.1.val)) := by simp [valOf]
theorem dig_lt (x : Dig) : x.2.toNat <<< (8 * x.1.val) < 2 ^ 56 := by
  have h1 := x.2.toNat_lt
  have h2 := x.1.isLt
  rw [Nat.shiftLeft_eq]
  calc x.2.toNat * 2 ^ (8 * x.1.val) < 2 ^ 8 * 2 ^ (8 * x.1.val) := Nat.mul_lt_mul_of_pos_right h1 (Nat.pow_pos (by omega))
    _ = 2 ^ (8 + 8 * x.1.val) := by rw [Nat.pow_add]
    _ ≤ 2 ^ 56 := Nat.pow_le_pow_right (by omega) (by omega)
theorem valOf_lt (pre : List Dig) : valOf pre < 2 ^ 56 := by
  have h : ∀ (pre : List Dig) (n : Nat), n < 2 ^ 56 → pre.foldl (fun n x => n ||| (x.2.toNat <<< (8 * x.1.val))) n < 2 ^ 56 := by
    intro pre
    induction pre with
    | nil => intro n hn; exact hn
    | cons x r ih => intro n hn; exact ih _ (Nat.or_lt_two_pow hn (dig_lt x))
  exact h pre 0 (by decide)

theorem i64_or_nat (a b : Nat) (ha : a < 2 ^ 56) (hb : b < 2 ^ 56) : bits .or .i64 (a : Int) (b : Int) = ((a ||| b : Nat) : Int) := by
  have hab : a ||| b < 2 ^ 56 := Nat.or_lt_two_pow ha hb
  have e1 : (BitVec.ofInt 64 (a : Int) ||| BitVec.ofInt 64 (b : Int)).toNat = a ||| b := by
    rw [BitVec.toNat_or, ofInt_u64 a (by omega), ofInt_u64 b (by omega)]
  show IntKind.i64.wrap (((BitVec.ofInt 64 (a : Int) ||| BitVec.ofInt 64 (b : Int)).toNat : Nat) : Int) = _
  rw [e1]
  exact IntWalk.i64_in _ (by omega)

theorem valOf_step (pre : List Dig) (x : Dig) :
    bits .or .i64 (valOf pre : Int) (IntKind.i64.wrap ((x.2.toNat : Int) * 2 ^ (8 * (x.1.val : Int)).toNat)) = (valOf (pre ++ [x]) : Int) := by
  have e : ((x.2.toNat : Int) * 2 ^ (8 * (x.1.val : Int)).toNat) = ((x.2.toNat <<< (8 * x.1.val) : Nat) : Int) := by
    rw [show (8 * (x.1.val : Int)).toNat = 8 * x.1.val by omega, Nat.shiftLeft_eq]
    simp
  have h := dig_lt x
  rw [valOf_snoc, e]
  generalize x.2.toNat <<< (8 * x.1.val) = q at h ⊢
  rw [IntWalk.i64_in _ (by omega), i64_or_nat _ _ (valOf_lt pre) h]

theorem boxKept_t (b : Nat) {A B C : World} (h : BoxKept b A B) (k : BoxKept b B C) : BoxKept b A C := k.trans h
theorem boxKept_put (b m : Nat) (hb : b < m) (W : World) (l : Nat) (o o' : Obj) (h : m ≤ l) (_ : W.heap[l]? = some o) (_ : o.isCells = false) (_ : o.isWalk = false) : BoxKept b W (W.putObj l o') := by
  refine World.cell?_of_block (w := W) ?_
  simp [World.putObj, Array.getElem?_setIfInBounds]
  omega

theorem digits_stops (F : Fence) (n : Nat) (hF : F.fn 113) (hro : F.round = none) (hn : 1 ≤ n) (Bs : Nat) (s : ByteArray) (hs : s.data.toList.length ≤ 7) (w : World) (hB : Bs < w.heap.size) (hBs : w.cell? ⟨Bs, 0, none⟩ = some (.string s)) :
    SeqStopsK F n Tryz.prog 113 #[.pointer (some ⟨Bs, 0, none⟩)] encDig (BoxKept Bs) (fun ys => ys = digs s.data.toList hs s.size) (fun _ => True) s.size w := fun l J Jx W hW _ _ hY h0 =>
  digits1_in F n hF hro hn l Bs s hs J Jx hY W ((hW.cell (p := ⟨Bs, 0, none⟩) hB).trans hBs) h0

theorem mixed : Tryz.prog.follows .mixedOrders = true := by kernel_rfl

set_option maxRecDepth 100000 in
set_option maxHeartbeats 1000000 in
theorem get_in (F : Fence) (n : Nat) (hF0 : F.fn 82) (hF1 : F.fn 98) (hF2 : F.fn 113) (hF3 : F.fn 97) (hw : F = Fence.wide) (hro : F.round = none) (hn : 3 ≤ n)
    (s : ByteArray) (at_ wd : Nat) (hs : s.size ≤ 1000000000) (h1 : 1 ≤ wd) (h7 : wd ≤ 7) (hfit : at_ + wd ≤ s.size) (w : World) (hwd : isWidthB (wd : Int) = true) (hcut : (s.extract at_ (at_ + wd)).data.toList.length ≤ 7) :
    CallsIn F n Tryz.prog 82 #[.string s, .int .i64 (at_ : Int), .int .i64 (wd : Int)] w fun e W' =>
      e = .returned (.tuple #[.int .i64 (valOf (digs (s.extract at_ (at_ + wd)).data.toList hcut (s.extract at_ (at_ + wd)).size) : Int), .int .i64 0]) ∧ Below w.heap.size w W' := by
  have hn1 : 1 ≤ n := by omega
  have hd0 : decide ((at_ : Int) < 0) = false := by simp
  have hd1 : decide ((s.size : Int) - (wd : Int) < (at_ : Int)) = false := by simp; omega
  refine callsIn_of_wp_marks Tryz.func82 rfl hF0 ?_ hro
  simp only [Tryz.ntmps82, List.size_toArray, List.length_cons, List.length_nil, Nat.reduceAdd, Nat.reduceSub, Array.replicate_succ, Array.replicate_zero, List.push_toArray, List.append_toArray, List.nil_append, List.cons_append]
  subst hw
  gi_wp2_with (first | (gi_at_call 97; refine (callsIn_wide.2 (isWidth_any _ _)).mono ?_; rintro e w' ⟨rfl, rfl⟩) | (gi_at_call 98; refine (digits_in Fence.wide (n - 1) hF1 hro _ _).mono ?_; rintro e w' ⟨rfl, rfl⟩))
  generalize s.extract at_ (at_ + wd) = c at hcut ⊢
  have cn := newCell w (.int .i64 0) 3
  have cb := newCell (w.alloc (.cells #[.int .i64 0] 3)) (.string c) 9
  rw [World.size_alloc] at cb
  have hB0 : Below w.heap.size w ((w.alloc (.cells #[.int .i64 0] 3)).alloc (.cells #[.string c] 9)) := ((Below.refl _ w).alloc (Nat.le_refl _) _).alloc (by simp) _
  refine wpIn_rangeFunc_ownF hro hn1 (gf := 113) (lb := #[.pointer (some ⟨w.heap.size + 1, 0, none⟩)]) rfl hF2 (enters_of Tryz.func113 (by kernel_rfl) rfl)
    (digits_stops Fence.wide (n - 1) hF2 hro (by omega) (w.heap.size + 1) c hcut _ (by simp) cb.1) (boxKept_t _) (boxKept_put _ _ (by simp)) (Below.refl _ _) (fun _ => rfl)
    (fun pre W => (W.cell? ⟨w.heap.size, 0, none⟩ = some (.int .i64 (valOf pre : Int)) ∧ W.frozen? ⟨w.heap.size, 0, none⟩ = false) ∧ Below w.heap.size w W)
    (fun _ _ _ => False)
    (OwnFrom.and (Own.from (fun s A B row hs hg hr => ⟨cell_kept hs.1 hg hr, (frozen_kept hs.1 hg hr).trans hs.2⟩) _) (ownFrom_below (Nat.le_refl _) (by simp; omega)))
    (fun _ _ _ _ _ hs _ _ => hs)
    ⟨⟨oldCell _ cn.1, oldFree _ cn.1 cn.2⟩, hB0⟩
    (fun x => { tmps := #[Value.string s, Value.int IntKind.i64 ↑at_, Value.int IntKind.i64 ↑wd, undef, undef, undef,
          Value.int IntKind.i64 0, Value.int IntKind.i64 0, Value.pointer (some { block := w.heap.size, off := 0 }),
          .int .i64 (8 * (x.1.val : Int)), .int .i64 (x.2.toNat : Int), Value.int IntKind.i64 ↑wd, Value.bool true, Value.bool false, Value.int IntKind.i64 ↑at_,
          Value.bool false, Value.bool false, Value.int IntKind.i64 ↑at_, Value.string s, Value.int IntKind.i64 ↑s.size,
          Value.int IntKind.i64 ↑wd, Value.int IntKind.i64 (↑s.size - ↑wd), Value.bool false, Value.bool false,
          Value.string s, Value.int IntKind.i64 ↑at_, Value.int IntKind.i64 ↑at_, Value.int IntKind.i64 ↑wd,
          Value.int IntKind.i64 (↑at_ + ↑wd), Value.string c,
          Value.func (Fn.func 113) #[] #[Value.pointer (some { block := w.heap.size + 1, off := 0 })], .int .i64 (8 * (x.1.val : Int)), .int .i64 (x.2.toNat : Int),
          undef, undef, undef, undef, undef, undef], defers := [] }) ?assign ?body ?done ?stop
  case assign =>
    intro l x W K hK
    simp only [encDig]
    gi_wp2
    exact hK
  case body =>
    rintro l pre x W ⟨⟨hc, hf⟩, hB⟩ _
    have hv := valOf_lt pre
    have hx1 := x.1.isLt
    have hx2 : x.2.toNat < 256 := x.2.toNat_lt
    clear cn cb hB0
    have hmix : Tryz.prog.follows .mixedOrders = true := mixed
    gi_wp2
    gi_region_with_o (fail)
    all_goals gi_wp2
    all_goals
      go_light
      rw [valOf_step]
      exact ⟨(KeepsOthers.setCell _ _ _).trans (KeepsOthers.drew _), World.cell?_setCell_other _ _ _ _ (by intro h; injection h; omega), ⟨World.cell?_setCell_same' _ _ _ (by rw [hc]; rfl), by rw [World.frozen?_drew, World.frozen?_setCell]; exact hf⟩, (hB.setCell (p := ⟨w.heap.size, 0, none⟩) (Nat.le_refl _) _).drew⟩
  case done =>
    rintro D ys W hD rfl ⟨⟨hc, _⟩, hB⟩ hK
    gi_wp2
    refine ⟨by simp, .inl ⟨_, _, rfl, run_takeDeferred hK, ?_⟩⟩
    exact ⟨_, results_tmp2 rfl _ _ _, rfl, hB.trans (belowK_b (w := w) (Nat.le_refl _) W D _ _ (by simp at hD; omega) hK rfl rfl)⟩
  case stop =>
    rintro D c pre W _ _ h _
    exact h.elim

/-- The number that bytes are, the lowest ones first. -/
def getN : List UInt8 → Nat
  | [] => 0
  | b :: r => b.toNat + 256 * getN r

theorem getN_lt : ∀ l : List UInt8, getN l < 256 ^ l.length
  | [] => by simp [getN]
  | b :: r => by
    have h := getN_lt r
    have hb := b.toNat_lt
    simp only [getN, List.length_cons, Nat.pow_succ]
    omega

theorem getN_append : ∀ a b : List UInt8, getN (a ++ b) = getN a + 256 ^ a.length * getN b
  | [], b => by simp [getN]
  | x :: a, b => by
    simp only [List.cons_append, getN, getN_append a b, List.length_cons, Nat.pow_succ, Nat.mul_add]
    rw [show 256 ^ a.length * 256 * getN b = 256 * (256 ^ a.length * getN b) by rw [Nat.mul_comm (256 ^ a.length) 256, Nat.mul_assoc]]
    omega

theorem valOf_digs (l : List UInt8) (h : l.length ≤ 7) : ∀ k, k ≤ l.length → valOf (digs l h k) = getN (l.take k)
  | 0, _ => rfl
  | k + 1, hk => by
    have ih := valOf_digs l h k (by omega)
    have hlt := getN_lt (l.take k)
    rw [digs_succ l h k (by omega), valOf_snoc, ih, List.take_succ_eq_append_getElem (by omega), getN_append]
    have hl : (l.take k).length = k := by simp; omega
    rw [hl] at hlt ⊢
    simp only [digAt, getN, Nat.mul_zero, Nat.add_zero]
    rw [Nat.shiftLeft_eq, Nat.or_comm, nat_join (8 * k) _ _ (by simp) (by rw [pow8]; exact hlt), pow8, Nat.mul_comm (l[k].toNat)]
    omega

def okGet (s : ByteArray) (at_ wd : Int) : Bool := decide (0 ≤ at_) && decide (at_ ≤ (s.size : Int) - wd)
def getV (s : ByteArray) (at_ wd : Int) : Int := if isWidthB wd = true ∧ okGet s at_ wd = true then (getN ((s.data.toList.drop at_.toNat).take wd.toNat) : Int) else 0
def getE (s : ByteArray) (at_ wd : Int) : Int := if isWidthB wd = true then (if okGet s at_ wd = true then 0 else 2) else 1

set_option maxHeartbeats 400000 in
theorem get_bad1 (s : ByteArray) (at_ wd : Int) (w : World) (h : isWidthB wd = false) :
    Calls Tryz.prog 82 #[.string s, .int .i64 at_, .int .i64 wd] w fun e w' => e = .returned (.tuple #[.int .i64 0, .int .i64 1]) ∧ w = w' := by
  go_enter Tryz.func82, Tryz.ntmps82
  go_wp2_with (go_at_call 97; refine (isWidth_any _ _).mono ?_; rintro e w' ⟨rfl, rfl⟩)
  go_ret2
  exact ⟨rfl, rfl⟩
set_option maxHeartbeats 400000 in
theorem get_bad2 (s : ByteArray) (at_ wd : Int) (w : World) (h : isWidthB wd = true) (ha : at_ < 0) :
    Calls Tryz.prog 82 #[.string s, .int .i64 at_, .int .i64 wd] w fun e w' => e = .returned (.tuple #[.int .i64 0, .int .i64 2]) ∧ w = w' := by
  go_enter Tryz.func82, Tryz.ntmps82
  go_wp2_with (go_at_call 97; refine (isWidth_any _ _).mono ?_; rintro e w' ⟨rfl, rfl⟩)
  go_ret2
  exact ⟨rfl, rfl⟩
set_option maxHeartbeats 400000 in
theorem get_bad3 (s : ByteArray) (at_ wd : Int) (w : World) (hs : s.size ≤ 1000000000) (h : isWidthB wd = true) (h1 : 1 ≤ wd) (h7 : wd ≤ 7) (ha : 0 ≤ at_) (hb : (s.size : Int) - wd < at_) :
    Calls Tryz.prog 82 #[.string s, .int .i64 at_, .int .i64 wd] w fun e w' => e = .returned (.tuple #[.int .i64 0, .int .i64 2]) ∧ w = w' := by
  have ha' : decide (at_ < 0) = false := by simp; omega
  go_enter Tryz.func82, Tryz.ntmps82
  go_wp2_with (go_at_call 97; refine (isWidth_any _ _).mono ?_; rintro e w' ⟨rfl, rfl⟩)
  go_ret2
  exact ⟨rfl, rfl⟩

theorem get_any (s : ByteArray) (at_ wd : Int) (w : World) (hs : s.size ≤ 1000000000) :
    Calls Tryz.prog 82 #[.string s, .int .i64 at_, .int .i64 wd] w fun e w' => e = .returned (.tuple #[.int .i64 (getV s at_ wd), .int .i64 (getE s at_ wd)]) ∧ Below w.heap.size w w' := by
  cases h : isWidthB wd with
  | false =>
    refine (get_bad1 s at_ wd w h).mono ?_
    rintro e w' ⟨rfl, rfl⟩
    exact ⟨by simp [getV, getE, h], Below.refl _ _⟩
  | true =>
    have hwd : 1 ≤ wd ∧ wd ≤ 7 := by simpa [isWidthB] using h
    by_cases ha : at_ < 0
    · refine (get_bad2 s at_ wd w h ha).mono ?_
      rintro e w' ⟨rfl, rfl⟩
      have ok : okGet s at_ wd = false := by simp [okGet]; omega
      exact ⟨by simp [getV, getE, h, ok], Below.refl _ _⟩
    · by_cases hb : (s.size : Int) - wd < at_
      · refine (get_bad3 s at_ wd w hs h hwd.1 hwd.2 (by omega) hb).mono ?_
        rintro e w' ⟨rfl, rfl⟩
        have ok : okGet s at_ wd = false := by simp [okGet]; omega
        exact ⟨by simp [getV, getE, h, ok], Below.refl _ _⟩
      · have ok : okGet s at_ wd = true := by simp [okGet]; omega
        obtain ⟨a, rfl⟩ := Int.eq_ofNat_of_zero_le (show 0 ≤ at_ by omega)
        obtain ⟨b, rfl⟩ := Int.eq_ofNat_of_zero_le (show 0 ≤ wd by omega)
        have e1 : (s.extract a (a + b)).data.toList = (s.data.toList.drop a).take b := by
          rw [ByteArray.data_extract, Array.toList_extract, List.extract_eq_take_drop]
          simp
        have e2 : (s.extract a (a + b)).data.toList.length = b := by rw [e1]; simp; omega
        have e3 : (s.extract a (a + b)).size = b := by have h : (s.extract a (a + b)).size = (s.extract a (a + b)).data.toList.length := by rw [Array.length_toList]; rfl
                                                       rw [h, e2]
        refine (callsIn_wide.1 (get_in Fence.wide 3 trivial trivial trivial trivial rfl rfl (by omega) s a b hs (by omega) (by omega) (by omega) w h (by omega))).mono ?_
        rintro e w' ⟨rfl, hbel⟩
        refine ⟨?_, hbel⟩
        have e4 := valOf_digs (s.extract a (a + b)).data.toList (by omega) (s.extract a (a + b)).size (by omega)
        rw [e4]
        simp only [getV, getE, h, ok, Int.toNat_natCast, if_true, and_self]
        rw [e3, e1, List.take_of_length_le (by rw [List.length_take]; omega)]
end Go.Proofs.YtipiioggdalkoaaGreatDoor
end
section
namespace Go.Proofs.YtipiioggdalkoaaGreatDoor
set_option linter.unusedVariables false

theorem not_and8 (x y : UInt8) : ~~~(x &&& y) = ~~~x ||| ~~~y := by
  apply UInt8.toBitVec_inj.1
  simp only [UInt8.toBitVec_not, UInt8.toBitVec_and, UInt8.toBitVec_or]
  exact BitVec.not_and
theorem not_or8 (x y : UInt8) : ~~~(x ||| y) = ~~~x &&& ~~~y := by
  apply UInt8.toBitVec_inj.1
  simp only [UInt8.toBitVec_not, UInt8.toBitVec_and, UInt8.toBitVec_or]
  exact BitVec.not_or
theorem notL_notL (l : List UInt8) : notL (notL l) = l := by
  simp [notL, Function.comp_def]
theorem pairL_twice (f : UInt8 → UInt8 → UInt8) (h : ∀ x y, f (f x y) y = x) : ∀ a b, pairL f (pairL f a b) b = a
  | [], _ => rfl
  | x :: r, [] => rfl
  | x :: r, y :: q => by simp [pairL, h, pairL_twice f h r q]
theorem pairL_self (f : UInt8 → UInt8 → UInt8) (h : ∀ x, f x x = x) : ∀ a, pairL f a a = a
  | [] => rfl
  | x :: r => by simp [pairL, h, pairL_self f h r]
theorem pairL_comm (f : UInt8 → UInt8 → UInt8) (h : ∀ x y, f x y = f y x) : ∀ a b, a.length = b.length → pairL f a b = pairL f b a
  | [], [], _ => rfl
  | x :: r, y :: q, e => by simp only [pairL]; rw [h x y, pairL_comm f h r q (by simpa using e)]
theorem notL_pairL (f g : UInt8 → UInt8 → UInt8) (h : ∀ x y, ~~~(f x y) = g (~~~x) (~~~y)) : ∀ a b, a.length = b.length → notL (pairL f a b) = pairL g (notL a) (notL b)
  | [], [], _ => rfl
  | x :: r, y :: q, e => by
    have := notL_pairL f g h r q (by simpa using e)
    simp only [notL, pairL, List.map_cons] at this ⊢
    rw [this, h]
theorem pairL_append (f : UInt8 → UInt8 → UInt8) : ∀ a b c d, a.length = b.length → pairL f (a ++ c) (b ++ d) = pairL f a b ++ pairL f c d
  | [], [], c, d, _ => rfl
  | x :: r, y :: q, c, d, e => by simp [pairL, pairL_append f r q c d (by simpa using e)]
theorem notL_append (a b : List UInt8) : notL (a ++ b) = notL a ++ notL b := by simp [notL]
theorem absorb (f g : UInt8 → UInt8 → UInt8) (h : ∀ x y, f x (g x y) = x) : ∀ a b, a.length = b.length → pairL f a (pairL g a b) = a
  | [], [], _ => rfl
  | x :: r, y :: q, e => by simp [pairL, h, absorb f g h r q (by simpa using e)]
theorem distr (f g : UInt8 → UInt8 → UInt8) (h : ∀ x y z, f x (g y z) = g (f x y) (f x z)) : ∀ a b c, a.length = b.length → a.length = c.length → pairL f a (pairL g b c) = pairL g (pairL f a b) (pairL f a c)
  | [], [], [], _, _ => rfl
  | x :: r, y :: q, z :: s, e1, e2 => by simp [pairL, h, distr f g h r q s (by simpa using e1) (by simpa using e2)]

theorem pop_bits (x : UInt8) : popB x = (x.toNat.testBit 0).toNat + (x.toNat.testBit 1).toNat + (x.toNat.testBit 2).toNat + (x.toNat.testBit 3).toNat + (x.toNat.testBit 4).toNat + (x.toNat.testBit 5).toNat + (x.toNat.testBit 6).toNat + (x.toNat.testBit 7).toNat := by
  have h : ∀ n : Fin 256, Lib.onesCount n.val = (n.val.testBit 0).toNat + (n.val.testBit 1).toNat + (n.val.testBit 2).toNat + (n.val.testBit 3).toNat + (n.val.testBit 4).toNat + (n.val.testBit 5).toNat + (n.val.testBit 6).toNat + (n.val.testBit 7).toNat := by decide +kernel
  exact h ⟨x.toNat, x.toNat_lt⟩
theorem bool_and_or (a b : Bool) : (a && b).toNat + (a || b).toNat = a.toNat + b.toNat := by cases a <;> cases b <;> rfl
theorem bool_xor (a b : Bool) : (a ^^ b).toNat + (a && b).toNat = (a || b).toNat := by cases a <;> cases b <;> rfl
theorem pop_and_or (x y : UInt8) : popB (x &&& y) + popB (x ||| y) = popB x + popB y := by
  simp only [pop_bits, UInt8.toNat_and, UInt8.toNat_or, Nat.testBit_and, Nat.testBit_or]
  have := fun i => bool_and_or (x.toNat.testBit i) (y.toNat.testBit i)
  have h0 := this 0; have h1 := this 1; have h2 := this 2; have h3 := this 3; have h4 := this 4; have h5 := this 5; have h6 := this 6; have h7 := this 7
  omega
theorem pop_xor (x y : UInt8) : popB (x ^^^ y) + popB (x &&& y) = popB (x ||| y) := by
  simp only [pop_bits, UInt8.toNat_and, UInt8.toNat_or, UInt8.toNat_xor, Nat.testBit_and, Nat.testBit_or, Nat.testBit_xor]
  have := fun i => bool_xor (x.toNat.testBit i) (y.toNat.testBit i)
  have h0 := this 0; have h1 := this 1; have h2 := this 2; have h3 := this 3; have h4 := this 4; have h5 := this 5; have h6 := this 6; have h7 := this 7
  omega
theorem pop_not (x : UInt8) : popB x + popB (~~~x) = 8 := by
  have h : ∀ n : Fin 256, Lib.onesCount n.val + Lib.onesCount (255 - n.val) = 8 := by decide +kernel
  have := h ⟨x.toNat, x.toNat_lt⟩
  have e : (~~~x).toNat = 255 - x.toNat := by rw [UInt8.toNat_not]; simp only [UInt8.size]
  unfold popB
  rw [e]
  exact this
theorem count_and_or : ∀ a b : List UInt8, a.length = b.length → countL (pairL (· &&& ·) a b) + countL (pairL (· ||| ·) a b) = countL a + countL b
  | [], [], _ => rfl
  | x :: r, y :: q, e => by
    have := count_and_or r q (by simpa using e)
    have h := pop_and_or x y
    simp only [pairL, countL]
    omega
theorem count_xor : ∀ a b : List UInt8, a.length = b.length → countL (pairL (· ^^^ ·) a b) + countL (pairL (· &&& ·) a b) = countL (pairL (· ||| ·) a b)
  | [], [], _ => rfl
  | x :: r, y :: q, e => by
    have := count_xor r q (by simpa using e)
    have h := pop_xor x y
    simp only [pairL, countL]
    omega
theorem count_not : ∀ a : List UInt8, countL a + countL (notL a) = 8 * a.length
  | [] => rfl
  | x :: r => by
    have := count_not r
    have h := pop_not x
    simp only [notL, List.map_cons, countL, List.length_cons] at this ⊢
    omega
theorem count_ones (n : Nat) : countL (List.replicate n 255) = 8 * n := by
  induction n with
  | zero => rfl
  | succ n ih =>
    have h : popB 255 = 8 := by decide +kernel
    simp only [List.replicate_succ, countL, ih, h]
    omega
end Go.Proofs.YtipiioggdalkoaaGreatDoor
end
section
namespace Go.Proofs.YtipiioggdalkoaaGreatDoor
open Go.RowKit
set_option linter.unusedVariables false

theorem str_eta (a : ByteArray) : a = ⟨a.data.toList.toArray⟩ := by cases a; simp
theorem size_mk (l : List UInt8) : (ByteArray.mk l.toArray).size = l.length := by simp [ByteArray.size]

theorem and_l (a b : List UInt8) (w : World) (ha : a.length ≤ 1000000000) (hb : b.length ≤ 1000000000) :
    Calls Tryz.prog 95 #[.string ⟨a.toArray⟩, .string ⟨b.toArray⟩] w fun e w' => e = .returned (.string ⟨(pairL (· &&& ·) a b).toArray⟩) ∧ Below w.heap.size w w' :=
  and_any _ _ w (by rw [size_mk]; exact ha) (by rw [size_mk]; exact hb)
theorem xor_l (a b : List UInt8) (w : World) (ha : a.length ≤ 1000000000) (hb : b.length ≤ 1000000000) :
    Calls Tryz.prog 94 #[.string ⟨a.toArray⟩, .string ⟨b.toArray⟩] w fun e w' => e = .returned (.string ⟨(pairL (· ^^^ ·) a b).toArray⟩) ∧ Below w.heap.size w w' :=
  xor_any _ _ w (by rw [size_mk]; exact ha) (by rw [size_mk]; exact hb)
theorem not_l (a : List UInt8) (w : World) (ha : a.length ≤ 1000000000) :
    Calls Tryz.prog 56 #[.string ⟨a.toArray⟩] w fun e w' => e = .returned (.string ⟨(notL a).toArray⟩) ∧ Below w.heap.size w w' :=
  not_any _ w (by rw [size_mk]; exact ha)
end Go.Proofs.YtipiioggdalkoaaGreatDoor
end
section
namespace Go.Proofs.YtipiioggdalkoaaGreatDoor
open Go.RowKit
set_option linter.unusedVariables false

theorem getN_putL : ∀ (w n : Nat), n < 256 ^ w → getN (putL n w) = n
  | 0, n, h => by simp at h; simp [putL, getN, h]
  | w + 1, n, h => by
    have h1 : n / 256 < 256 ^ w := by rw [Nat.pow_succ] at h; omega
    have h2 := getN_putL w (n / 256) h1
    have h3 : (UInt8.ofNat n).toNat = n % 256 := by simp
    simp only [putL, getN, h2, h3]
    omega
theorem putL_getN : ∀ l : List UInt8, putL (getN l) l.length = l
  | [] => rfl
  | b :: r => by
    have h := putL_getN r
    have hb := b.toNat_lt
    have h1 : (b.toNat + 256 * getN r) / 256 = getN r := by omega
    have h2 : UInt8.ofNat (b.toNat + 256 * getN r) = b := by
      apply UInt8.toNat_inj.1
      simp
    simp only [getN, List.length_cons, putL, h1, h2, h]

theorem pow_le (wd : Nat) (h : wd ≤ 7) : 256 ^ wd ≤ 72057594037927936 := by
  have := Nat.pow_le_pow_right (n := 256) (by omega) h
  simpa using this

theorem put_yes (m wd : Nat) (w : World) (h1 : 1 ≤ wd) (h7 : wd ≤ 7) (hz : m < 256 ^ wd) :
    Calls Tryz.prog 86 #[.int .i64 (m : Int), .int .i64 (wd : Int)] w fun e w' => e = .returned (.tuple #[.string ⟨(putL m wd).toArray⟩, .int .i64 0]) ∧ Below w.heap.size w w' := by
  have hp := pow_le wd h7
  refine (put_any m wd w (by omega)).mono ?_
  rintro e w' ⟨rfl, hb⟩
  have hi : isWidthB (wd : Int) = true := by simp [isWidthB]; omega
  have ok : okPut (m : Int) (wd : Int) = true := by
    simp only [okPut, hi, Bool.true_and, Int.toNat_natCast, Bool.and_eq_true, decide_eq_true_eq]
    refine ⟨by omega, ?_⟩
    rw [show ((256 : Int) ^ wd) = ((256 ^ wd : Nat) : Int) by simp]
    omega
  exact ⟨by simp [putS, putE, ok], hb⟩
theorem put_no (n width : Int) (w : World) (hm : n ≤ 9223372036854775807) (h : okPut n width = false) :
    Calls Tryz.prog 86 #[.int .i64 n, .int .i64 width] w fun e w' => e = .returned (.tuple #[.string ⟨#[]⟩, .int .i64 1]) ∧ Below w.heap.size w w' := by
  refine (put_any n width w hm).mono ?_
  rintro e w' ⟨rfl, hb⟩
  exact ⟨by simp [putS, putE, h], hb⟩
theorem okPut_nat {n width : Int} (h : okPut n width = true) : ∃ m wd : Nat, n = m ∧ width = wd ∧ 1 ≤ wd ∧ wd ≤ 7 ∧ m < 256 ^ wd := by
  simp only [okPut, isWidthB, Bool.and_eq_true, decide_eq_true_eq] at h
  obtain ⟨⟨⟨h1, h7⟩, h0⟩, hz⟩ := h
  obtain ⟨m, rfl⟩ := Int.eq_ofNat_of_zero_le h0
  obtain ⟨wd, rfl⟩ := Int.eq_ofNat_of_zero_le (show 0 ≤ width by omega)
  refine ⟨m, wd, rfl, rfl, by omega, by omega, ?_⟩
  rw [Int.toNat_natCast, show ((256 : Int) ^ wd) = ((256 ^ wd : Nat) : Int) by simp] at hz
  omega
theorem get_yes (l : List UInt8) (at_ wd : Nat) (w : World) (hl : l.length ≤ 1000000000) (h1 : 1 ≤ wd) (h7 : wd ≤ 7) (hf : at_ + wd ≤ l.length) :
    Calls Tryz.prog 82 #[.string ⟨l.toArray⟩, .int .i64 (at_ : Int), .int .i64 (wd : Int)] w fun e w' => e = .returned (.tuple #[.int .i64 (getN ((l.drop at_).take wd) : Int), .int .i64 0]) ∧ Below w.heap.size w w' := by
  refine (get_any _ at_ wd w (by rw [size_mk]; exact hl)).mono ?_
  rintro e w' ⟨rfl, hb⟩
  have hi : isWidthB (wd : Int) = true := by simp [isWidthB]; omega
  have ok : okGet ⟨l.toArray⟩ (at_ : Int) (wd : Int) = true := by simp only [okGet, size_mk, Bool.and_eq_true, decide_eq_true_eq]; omega
  exact ⟨by simp [getV, getE, hi, ok], hb⟩
/-- Whether Get answers. -/
def fitsGet (l : List UInt8) (at_ wd : Int) : Bool := decide (1 ≤ wd) && decide (wd ≤ 7) && decide (0 ≤ at_) && decide (at_ + wd ≤ l.length)
theorem get_no (l : List UInt8) (at_ wd : Int) (w : World) (hl : l.length ≤ 1000000000) (h : fitsGet l at_ wd = false) :
    Calls Tryz.prog 82 #[.string ⟨l.toArray⟩, .int .i64 at_, .int .i64 wd] w fun e w' => ∃ k : Int, (k == 0) = false ∧ k = getE ⟨l.toArray⟩ at_ wd ∧ e = .returned (.tuple #[.int .i64 0, .int .i64 k]) ∧ Below w.heap.size w w' := by
  refine (get_any _ at_ wd w (by rw [size_mk]; exact hl)).mono ?_
  rintro e w' ⟨rfl, hb⟩
  have hn : ¬ (isWidthB wd = true ∧ okGet ⟨l.toArray⟩ at_ wd = true) := by
    rintro ⟨h1, h2⟩
    simp only [isWidthB, okGet, size_mk, Bool.and_eq_true, decide_eq_true_eq] at h1 h2
    simp only [fitsGet, Bool.and_eq_false_iff, decide_eq_false_iff_not] at h
    omega
  refine ⟨getE ⟨l.toArray⟩ at_ wd, ?_, rfl, by simp only [getV, if_neg hn], hb⟩
  unfold getE
  split
  · rename_i hi
    rw [if_neg (fun ho => hn ⟨hi, ho⟩)]
    rfl
  · rfl
theorem fitsGet_nat {l : List UInt8} {at_ wd : Int} (h : fitsGet l at_ wd = true) : ∃ a b : Nat, at_ = a ∧ wd = b ∧ 1 ≤ b ∧ b ≤ 7 ∧ a + b ≤ l.length := by
  simp only [fitsGet, Bool.and_eq_true, decide_eq_true_eq] at h
  obtain ⟨a, rfl⟩ := Int.eq_ofNat_of_zero_le h.1.2
  obtain ⟨b, rfl⟩ := Int.eq_ofNat_of_zero_le (show 0 ≤ wd by omega)
  exact ⟨a, b, rfl, rfl, by omega, by omega, by omega⟩
end Go.Proofs.YtipiioggdalkoaaGreatDoor
end
section
namespace Go.Proofs.YtipiioggdalkoaaGreatDoor
set_option linter.unusedVariables false

/-- Behind one bit: of a number whose lowest bit is already turned by it. -/
def stp (n : Nat) : Nat := if n % 2 = 1 then (n / 2) ^^^ 3988292384 else n / 2
/-- So many steps. -/
def stps : Nat → Nat → Nat
  | 0, n => n
  | k + 1, n => stps k (stp n)
/-- Behind the eight bits of a byte. -/
@[irreducible] def stp8 (n : Nat) : Nat := stps 8 n
theorem stp8_eq (n : Nat) : stp8 n = stps 8 n := by unfold stp8; rfl
/-- Behind a text. -/
def onL : Nat → List UInt8 → Nat
  | n, [] => n
  | n, b :: l => onL (stp8 (n ^^^ b.toNat)) l
/-- The sum of what has a sum, and a text behind it. -/
def addN (sum : Nat) (l : List UInt8) : Nat := 4294967295 - onL (4294967295 - sum) l
def sumN (l : List UInt8) : Nat := addN 0 l
def sealL (l : List UInt8) : List UInt8 := l ++ putL (sumN l) 4
/-- Does it open? -/
def opens (l : List UInt8) : Bool := decide (4 ≤ l.length) && decide (getN (l.drop (l.length - 4)) = sumN (l.take (l.length - 4)))

theorem xor_two (a b : Nat) : (a ^^^ b) % 2 = (a % 2 + b % 2) % 2 := by
  have h := Nat.testBit_xor (x := a) (y := b) (i := 0)
  simp only [Nat.testBit_zero] at h
  rcases Nat.mod_two_eq_zero_or_one a with ha | ha <;> rcases Nat.mod_two_eq_zero_or_one b with hb | hb <;> rcases Nat.mod_two_eq_zero_or_one (a ^^^ b) with hc | hc <;> simp_all
theorem xor_half (a b : Nat) : (a ^^^ b) / 2 = a / 2 ^^^ b / 2 := by
  apply Nat.eq_of_testBit_eq
  intro i
  simp [Nat.testBit_xor, ← Nat.testBit_succ]

theorem stp_xor (a b : Nat) : stp (a ^^^ b) = stp a ^^^ stp b := by
  unfold stp
  rw [xor_two, xor_half]
  rcases Nat.mod_two_eq_zero_or_one a with ha | ha <;> rcases Nat.mod_two_eq_zero_or_one b with hb | hb <;> simp only [ha, hb] <;> simp
  · rw [Nat.xor_assoc]
  · rw [Nat.xor_assoc, Nat.xor_assoc, Nat.xor_comm 3988292384]
  · rw [Nat.xor_assoc, Nat.xor_comm 3988292384, Nat.xor_assoc, Nat.xor_self, Nat.xor_zero]
theorem stp_lt {n : Nat} (h : n < 4294967296) : stp n < 4294967296 := by
  unfold stp
  split
  · exact Nat.xor_lt_two_pow (n := 32) (by omega) (by decide)
  · omega
theorem stp_nil {n : Nat} (h : n < 4294967296) (e : stp n = 0) : n = 0 := by
  unfold stp at e
  split at e
  · have : n / 2 = 3988292384 := by
      have := congrArg (· ^^^ 3988292384) e
      simpa [Nat.xor_assoc] using this
    omega
  · omega
theorem stp_twice {c : Nat} : stp (2 * c) = c := by unfold stp; rw [if_neg (by omega)]; omega

theorem stps_xor : ∀ (k a b : Nat), stps k (a ^^^ b) = stps k a ^^^ stps k b
  | 0, _, _ => rfl
  | k + 1, a, b => by simp only [stps]; rw [stp_xor, stps_xor k]
theorem stps_lt : ∀ (k : Nat) {n : Nat}, n < 4294967296 → stps k n < 4294967296
  | 0, _, h => h
  | k + 1, _, h => stps_lt k (stp_lt h)
theorem stps_zero : ∀ k : Nat, stps k 0 = 0
  | 0 => rfl
  | k + 1 => by simp only [stps]; exact stps_zero k
theorem stps_nil : ∀ (k : Nat) {n : Nat}, n < 4294967296 → stps k n = 0 → n = 0
  | 0, _, _, e => e
  | k + 1, n, h, e => stp_nil h (stps_nil k (stp_lt h) e)
theorem stps_add : ∀ (j k n : Nat), stps (j + k) n = stps k (stps j n)
  | 0, k, n => by simp [stps]
  | j + 1, k, n => by rw [show j + 1 + k = (j + k) + 1 by omega]; simp only [stps]; exact stps_add j k _
theorem stps_inj (k : Nat) {a b : Nat} (ha : a < 4294967296) (hb : b < 4294967296) (e : stps k a = stps k b) : a = b := by
  have h := stps_nil k (n := a ^^^ b) (Nat.xor_lt_two_pow (n := 32) ha hb) (by rw [stps_xor, e, Nat.xor_self])
  have := congrArg (· ^^^ b) h
  simpa [Nat.xor_assoc] using this
theorem stps_shl : ∀ (k c : Nat), stps k (2 ^ k * c) = c
  | 0, c => by simp [stps]
  | k + 1, c => by
    simp only [stps]
    rw [show 2 ^ (k + 1) * c = 2 * (2 ^ k * c) by rw [Nat.pow_succ, Nat.mul_comm (2 ^ k) 2, Nat.mul_assoc], stp_twice]
    exact stps_shl k c

theorem onL_cons (n : Nat) (b : UInt8) (l : List UInt8) : onL n (b :: l) = onL (stp8 (n ^^^ b.toNat)) l := rfl
theorem onL_append : ∀ (a b : List UInt8) (n : Nat), onL n (a ++ b) = onL (onL n a) b
  | [], _, _ => rfl
  | x :: a, b, n => by rw [List.cons_append, onL_cons, onL_cons, onL_append a b]
theorem byte_lt (b : UInt8) : b.toNat < 4294967296 := by have := b.toNat_lt; omega
theorem x32 {a b : Nat} (ha : a < 4294967296) (hb : b < 4294967296) : a ^^^ b < 4294967296 := Nat.xor_lt_two_pow (n := 32) ha hb
theorem onL_lt : ∀ (l : List UInt8) {n : Nat}, n < 4294967296 → onL n l < 4294967296
  | [], _, h => h
  | b :: l, n, h => onL_lt l (by rw [stp8_eq]; exact stps_lt 8 (x32 h (byte_lt b)))
theorem not_x32 {n : Nat} (h : n < 4294967296) : 4294967295 - n = 4294967295 ^^^ n := by
  apply Nat.eq_of_testBit_eq
  intro i
  have h3 := Nat.testBit_two_pow_sub_succ (x := n) (n := 32) h i
  rw [show (4294967295 : Nat) - n = 2 ^ 32 - (n + 1) by omega, h3, Nat.testBit_xor]
  rw [show (4294967295 : Nat) = 2 ^ 32 - 1 by decide, Nat.testBit_two_pow_sub_one]
  by_cases hi : i < 32
  · simp [hi]
  · have : n.testBit i = false := Nat.testBit_lt_two_pow (Nat.lt_of_lt_of_le h (Nat.pow_le_pow_right (n := 2) (by omega) (by omega : 32 ≤ i)))
    simp [hi, this]
theorem addN_lt (n : Nat) (l : List UInt8) : addN n l < 4294967296 := by unfold addN; omega
theorem sumN_lt (l : List UInt8) : sumN l < 4294967296 := addN_lt 0 l
theorem sumN_eq (l : List UInt8) : sumN l = 4294967295 ^^^ onL 4294967295 l := by
  unfold sumN addN
  exact not_x32 (onL_lt l (by omega))
theorem addN_addN (n : Nat) (a b : List UInt8) (h : n < 4294967296) : addN (addN n a) b = addN n (a ++ b) := by
  unfold addN
  rw [onL_append]
  have := onL_lt a (n := 4294967295 - n) (by omega)
  rw [show 4294967295 - (4294967295 - onL (4294967295 - n) a) = onL (4294967295 - n) a by omega]

/-! ### What is turned in four bytes comes to something -/
theorem stp8_xor (a b : Nat) : stp8 (a ^^^ b) = stp8 a ^^^ stp8 b := by rw [stp8_eq, stp8_eq, stp8_eq, stps_xor]
theorem xors (a b c d : Nat) : (a ^^^ b) ^^^ (c ^^^ d) = (a ^^^ c) ^^^ (b ^^^ d) := by
  rw [Nat.xor_assoc, Nat.xor_assoc, ← Nat.xor_assoc b c d, Nat.xor_comm b c, Nat.xor_assoc c b d]
theorem onL_xor : ∀ (a b : List UInt8) (m n : Nat), a.length = b.length → onL (m ^^^ n) (pairL (· ^^^ ·) a b) = onL m a ^^^ onL n b
  | [], [], _, _, _ => rfl
  | [], _ :: _, _, _, h => by simp at h
  | _ :: _, [], _, _, h => by simp at h
  | x :: a, y :: b, m, n, h => by
    rw [pairL, onL_cons, onL_cons, onL_cons, UInt8.toNat_xor, xors, stp8_xor]
    exact onL_xor a b _ _ (by simpa using h)
theorem onL_zeros : ∀ (k n : Nat), onL n (List.replicate k 0) = stps (8 * k) n
  | 0, n => rfl
  | k + 1, n => by
    rw [List.replicate_succ, onL_cons, onL_zeros k, show (0 : UInt8).toNat = 0 from rfl, Nat.xor_zero, stp8_eq, ← stps_add, Nat.mul_add, Nat.add_comm]
theorem xor_add (a c : Nat) (h : a < 256) : a ^^^ (256 * c) = a + 256 * c := by
  have := Nat.two_pow_add_eq_or_of_lt (i := 8) (by simpa using h) c
  rw [show 256 * c = 2 ^ 8 * c by rfl, Nat.add_comm, this]
  apply Nat.eq_of_testBit_eq
  intro i
  rw [Nat.testBit_xor, Nat.testBit_or, Nat.testBit_two_pow_mul]
  by_cases hi : 8 ≤ i
  · have : a.testBit i = false := Nat.testBit_lt_two_pow (Nat.lt_of_lt_of_le h (Nat.pow_le_pow_right (n := 2) (by omega) hi))
    simp [this]
  · simp [hi]
/-- Bytes that stand next to each other, as a number, are turned into it at once. -/
theorem onL_getN : ∀ (l : List UInt8) (n : Nat), onL n l = stps (8 * l.length) (n ^^^ getN l)
  | [], n => by simp [onL, stps, getN]
  | b :: l, n => by
    have hb := b.toNat_lt
    rw [onL_cons, onL_getN l, stp8_eq]
    have h : getN (b :: l) = b.toNat ^^^ 256 * getN l := by rw [xor_add _ _ hb]; simp [getN]; try omega
    rw [h, show 8 * (b :: l).length = 8 + 8 * l.length by simp; omega, stps_add, ← Nat.xor_assoc, stps_xor 8 (n ^^^ b.toNat), show 256 * getN l = 2 ^ 8 * getN l by rfl, stps_shl]
end Go.Proofs.YtipiioggdalkoaaGreatDoor
end
section
namespace Go.Proofs.YtipiioggdalkoaaGreatDoor
open Go.RowKit
set_option linter.unusedVariables false

theorem low_bit {n : Nat} (h : n < 4294967296) : bits .and .u32 (n : Int) 1 = ((n % 2 : Nat) : Int) := by
  have := u32_and_nat n 1 h (by omega)
  rw [show ((1 : Nat) : Int) = 1 from rfl] at this
  rw [this, Nat.and_one_is_mod]

set_option maxHeartbeats 400000 in
theorem afterBits_any (n : Nat) (w : World) (hn : n < 4294967296) :
    Calls Tryz.prog 122 #[.int .u32 (n : Int)] w fun e w' => e = .returned (.int .u32 (stp8 n : Int)) ∧ w = w' := by
  go_enter Tryz.func122, Tryz.ntmps122
  go_wp2
  go_loop [0, 4] (fun x i => ∃ k q : Nat, k ≤ 8 ∧ q < 4294967296 ∧ i = .int .i64 k ∧ x = .int .u32 (q : Int) ∧ Hid (stps (8 - k) q = stps 8 n)) (fun _ i => 8 - (intOf i).toNat)
  case atStart => exact ⟨0, n, by omega, hn, rfl, rfl, Lib.hid rfl⟩
  case round =>
    obtain ⟨k, q, hk, hq, rfl, rfl, HR⟩ := hrel
    by_cases hlt : k < 8
    · have hand := low_bit hq
      have hxor := u32_xor_nat (q / 2) 3988292384 (by omega) (by omega)
      have HS := Lib.hid (show stps (8 - k) q = stps (8 - (k + 1)) (stp q) by rw [show 8 - k = (8 - (k + 1)) + 1 by omega]; rfl)
      have hsl := stp_lt hq
      by_cases hodd : q % 2 = 1
      · have HE := Lib.hid (show stp q = q / 2 ^^^ 3988292384 by unfold stp; rw [if_pos hodd])
        go_wp2
        go_round
        case rel => exact ⟨k + 1, stp q, by omega, hsl, by go_num, by rw [HE.out, ← hxor]; go_num, Lib.hid (by rw [← HS.out]; exact HR.out)⟩
        case measure => simp [intOf]; omega
      · have hev : q % 2 = 0 := by omega
        have HE := Lib.hid (show stp q = q / 2 by unfold stp; rw [if_neg hodd])
        go_wp2
        go_round
        case rel => exact ⟨k + 1, stp q, by omega, hsl, by go_num, by rw [HE.out]; go_num, Lib.hid (by rw [← HS.out]; exact HR.out)⟩
        case measure => simp [intOf]; omega
    · obtain rfl : k = 8 := by omega
      go_wp2
      go_ret
      exact ⟨ret_int (by rw [stp8_eq, ← HR.out]; rfl), rfl⟩

theorem onL_take (n : Nat) (l : List UInt8) (k : Nat) (h : k < l.length) : onL n (l.take (k + 1)) = stp8 (onL n (l.take k) ^^^ (l[k]).toNat) := by
  rw [List.take_succ_eq_append_getElem h, onL_append, onL_cons]; rfl

set_option maxHeartbeats 400000 in
theorem byBits_any (n : Nat) (l : List UInt8) (w : World) (hn : n < 4294967296) (hl : l.length ≤ 1000000) :
    Calls Tryz.prog 115 #[.int .u32 (n : Int), .string ⟨l.toArray⟩] w fun e w' => e = .returned (.int .u32 (onL n l : Int)) ∧ w = w' := by
  go_enter Tryz.func115, Tryz.ntmps115
  have hsz : (⟨l.toArray⟩ : ByteArray).size = l.length := size_mk l
  go_wp2
  go_loop [0, 8] (fun x i => ∃ k : Nat, k ≤ l.length ∧ i = .int .i64 k ∧ x = .int .u32 (onL n (l.take k) : Int)) (fun _ i => l.length - (intOf i).toNat)
  case atStart => exact ⟨0, Nat.zero_le _, rfl, rfl⟩
  case round =>
    obtain ⟨k, hk, rfl, rfl⟩ := hrel
    have ho := onL_lt (l.take k) hn
    by_cases hlt : k < l.length
    · have HT := Lib.hid (onL_take n l k hlt)
      have hb := byte_lt l[k]
      have hget : (⟨l.toArray⟩ : ByteArray).data[k]? = some l[k] := by simp [hlt]
      have hx := x32 ho hb
      have hb2 := (l[k]).toNat_lt
      have HX := Lib.hid (show bits .xor .u32 (onL n (l.take k) : Int) ((((⟨l.toArray⟩ : ByteArray)[k]'(by rw [hsz]; exact hlt)).toNat : Int) % 4294967296) = ((onL n (l.take k) ^^^ (l[k]).toNat : Nat) : Int) by
        rw [← u32_xor_nat _ _ ho hb]; congr 1; change (((l[k]).toNat : Nat) : Int) % 4294967296 = _; omega)
      generalize onL n (l.take k) = q at *
      go_wp2_with fail
      rw [HX.out]
      refine (afterBits_any _ _ hx).mono ?_
      rintro e w' ⟨rfl, rfl⟩
      go_wp2
      go_round
      case rel => exact ⟨k + 1, by omega, by go_num, by rw [HT.out]⟩
      case measure => simp [intOf]; omega
    · go_wp2
      go_ret
      exact ⟨ret_int (by rw [List.take_of_length_le (by omega)]), rfl⟩

theorem turned_u32 {n : Nat} (h : n < 4294967296) : bits .xor .u32 IntKind.u32.max (n : Int) = ((4294967295 - n : Nat) : Int) := by
  rw [not_x32 h, ← u32_xor_nat _ _ (by omega) h]; rfl

set_option maxHeartbeats 400000 in
theorem extend_any (n : Nat) (l : List UInt8) (w : World) (hn : n < 4294967296) (hl : l.length ≤ 1024) :
    Calls Tryz.prog 99 #[.int .i64 (n : Int), .string ⟨l.toArray⟩] w fun e w' => e = .returned (.int .i64 (addN n l : Int)) ∧ w = w' := by
  have ho := onL_lt l (n := 4294967295 - n) (by omega)
  have HA := Lib.hid (show addN n l = 4294967295 - onL (4294967295 - n) l from rfl)
  have hsz : (⟨l.toArray⟩ : ByteArray).size = l.length := size_mk l
  have hc : decide (1024 < (l.length : Int)) = false := by simp; omega
  go_enter Tryz.func99, Tryz.ntmps99
  have h1 := turned_u32 hn
  have h2 := turned_u32 ho
  have hle : onL (4294967295 - n) l ≤ 4294967295 := by omega
  go_wp2_with fail
  refine (byBits_any _ l _ (by omega) (by omega)).mono ?_
  rintro e w' ⟨rfl, rfl⟩
  clear h1
  generalize onL (4294967295 - n) l = q at *
  go_wp2
  go_ret
  exact ⟨ret_int (by rw [HA.out]), rfl⟩

set_option maxHeartbeats 400000 in
theorem sum_any (l : List UInt8) (w : World) (hl : l.length ≤ 1024) :
    Calls Tryz.prog 83 #[.string ⟨l.toArray⟩] w fun e w' => e = .returned (.int .i64 (sumN l : Int)) ∧ w = w' := by
  go_enter Tryz.func83, Tryz.ntmps83
  go_wp2_with fail
  refine (extend_any 0 l _ (by omega) hl).mono ?_
  rintro e w' ⟨rfl, rfl⟩
  go_wp2
  go_ret
  exact ⟨rfl, rfl⟩

theorem length_sealL (l : List UInt8) : (sealL l).length = l.length + 4 := by simp [sealL, length_putL]

set_option maxHeartbeats 400000 in
theorem seal_any (l : List UInt8) (w : World) (hl : l.length ≤ 1024) :
    Calls Tryz.prog 62 #[.string ⟨l.toArray⟩] w fun e w' => e = .returned (.string ⟨(sealL l).toArray⟩) ∧ Below w.heap.size w w' := by
  have hp := length_putL 4 (sumN l)
  have hcat := fun W => run_string_add_lists (P := Tryz.prog) W l (putL (sumN l) 4) (by omega) (by omega)
  have hs := sumN_lt l
  have HS := Lib.hid (show l ++ putL (sumN l) 4 = sealL l from rfl)
  go_enter Tryz.func62, Tryz.ntmps62
  go_wp2_with fail
  refine (sum_any l _ hl).mono ?_
  rintro e w' ⟨rfl, rfl⟩
  go_wp2_with fail
  refine (put_yes (sumN l) 4 _ (by omega) (by omega) (by omega)).mono ?_
  rintro e w' ⟨rfl, hB⟩
  generalize putL (sumN l) 4 = p at *
  go_wp2
  go_ret
  exact ⟨ret_str HS.out, hB⟩

/-- What opening answers. -/
def openS (l : List UInt8) : List UInt8 := if opens l then l.take (l.length - 4) else []
def openE (l : List UInt8) : Int := if opens l then 0 else 2

theorem ext_take' (l : List UInt8) (n : Nat) : (⟨l.toArray⟩ : ByteArray).extract 0 n = ⟨(l.take n).toArray⟩ := by
  apply ByteArray.ext
  apply Array.toList_inj.1
  rw [ByteArray.data_extract, Array.toList_extract, List.extract_eq_take_drop]
  simp

set_option maxHeartbeats 400000 in
theorem open_short (l : List UInt8) (w : World) (hl : l.length < 4) :
    Calls Tryz.prog 57 #[.string ⟨l.toArray⟩] w fun e w' => e = .returned (.tuple #[.string ⟨#[]⟩, .int .i64 2]) ∧ Below w.heap.size w w' := by
  have hsz : (⟨l.toArray⟩ : ByteArray).size = l.length := size_mk l
  have hf : fitsGet l ((l.length : Int) - 4) 4 = false := by
    cases h : fitsGet l ((l.length : Int) - 4) 4 with
    | false => rfl
    | true => obtain ⟨x, y, hx, _⟩ := fitsGet_nat h; omega
  go_enter Tryz.func57, Tryz.ntmps57
  go_wp2_with fail
  refine (get_no l _ _ _ (by omega) hf).mono ?_
  rintro e w2 ⟨k, hk, hke, rfl, hB⟩
  have hk' : (k != 0) = true := by simpa [bne] using hk
  clear hke
  go_wp2
  go_ret2
  exact ⟨rfl, hB⟩

set_option maxHeartbeats 400000 in
theorem open_long (l : List UInt8) (m : Nat) (w : World) (hm : l.length = m + 4) (hl : m ≤ 1024) (o : Bool) (ho : decide (getN (l.drop m) = sumN (l.take m)) = o) :
    Calls Tryz.prog 57 #[.string ⟨l.toArray⟩] w fun e w' => e = .returned (if o = true then .tuple #[.string ⟨(l.take m).toArray⟩, .int .i64 0] else .tuple #[.string ⟨#[]⟩, .int .i64 2]) ∧ Below w.heap.size w w' := by
  have hsz : (⟨l.toArray⟩ : ByteArray).size = m + 4 := by rw [size_mk l]; exact hm
  have hext := ext_take' l m
  have HD := Lib.hid (show (l.drop m).take 4 = l.drop m from List.take_of_length_le (by rw [List.length_drop]; omega))
  have HO := Lib.hid ho
  clear ho
  go_enter Tryz.func57, Tryz.ntmps57
  go_wp2_with fail
  refine (get_yes l m 4 _ (by omega) (by omega) (by omega) (by omega)).mono ?_
  rintro e w2 ⟨rfl, hB⟩
  rw [HD.out]
  go_wp2_with fail
  refine (sum_any (l.take m) _ (by rw [List.length_take]; omega)).mono ?_
  rintro e w' ⟨rfl, rfl⟩
  generalize getN (l.drop m) = g at *
  generalize sumN (l.take m) = u at *
  cases o with
  | true =>
    obtain rfl : g = u := by simpa using HO.out
    go_wp2
    go_ret2
    exact ⟨rfl, hB⟩
  | false =>
    have hne : ¬ g = u := by simpa using HO.out
    have hne2 : ¬ ((g : Int) = (u : Int)) := by omega
    go_wp2
    go_ret2
    exact ⟨rfl, hB⟩

theorem open_any (l : List UInt8) (w : World) (hl : l.length ≤ 1028) :
    Calls Tryz.prog 57 #[.string ⟨l.toArray⟩] w fun e w' => e = .returned (.tuple #[.string ⟨(openS l).toArray⟩, .int .i64 (openE l)]) ∧ Below w.heap.size w w' := by
  by_cases h : l.length < 4
  · have e1 : opens l = false := by unfold opens; rw [decide_eq_false (by omega)]; rfl
    have e2 : openS l = [] := by unfold openS; rw [e1]; rfl
    have e3 : openE l = 2 := by unfold openE; rw [e1]; rfl
    rw [e2, e3]
    exact open_short l w h
  · have e0 : opens l = decide (getN (l.drop (l.length - 4)) = sumN (l.take (l.length - 4))) := by unfold opens; rw [decide_eq_true (by omega)]; rfl
    refine (open_long l (l.length - 4) w (by omega) (by omega) (opens l) e0.symm).mono ?_
    rintro e w' ⟨rfl, hB⟩
    refine ⟨?_, hB⟩
    unfold openS openE
    cases opens l <;> rfl
end Go.Proofs.YtipiioggdalkoaaGreatDoor
end
section
namespace Go.Proofs.YtipiioggdalkoaaGreatDoor
set_option linter.unusedVariables false

theorem take_seal (l : List UInt8) : (sealL l).take l.length = l := by simp [sealL]
theorem drop_seal (l : List UInt8) : (sealL l).drop l.length = putL (sumN l) 4 := by simp [sealL]
theorem opens_app (a p : List UInt8) (hp : p.length = 4) : opens (a ++ p) = decide (getN p = sumN a) := by
  unfold opens
  rw [List.length_append, hp, Nat.add_sub_cancel, decide_eq_true (by omega), Bool.true_and]
  simp
theorem opens_seal (l : List UInt8) : opens (sealL l) = true := by
  unfold sealL
  rw [opens_app _ _ (length_putL 4 _), getN_putL 4 _ (sumN_lt l)]
  simp
theorem openS_seal (l : List UInt8) : openS (sealL l) = l := by
  unfold openS
  rw [opens_seal, if_pos rfl, length_sealL, Nat.add_sub_cancel, take_seal]
theorem openE_seal (l : List UInt8) : openE (sealL l) = 0 := by unfold openE; rw [opens_seal]; rfl
theorem cut4 (l : List UInt8) (h : 4 ≤ l.length) : ∃ a p : List UInt8, l = a ++ p ∧ p.length = 4 :=
  ⟨l.take (l.length - 4), l.drop (l.length - 4), (List.take_append_drop _ _).symm, by rw [List.length_drop]; omega⟩
theorem seal_open (l : List UInt8) (h : opens l = true) : sealL (openS l) = l := by
  have h4 : 4 ≤ l.length := by unfold opens at h; simp at h; exact h.1
  obtain ⟨a, p, rfl, hp⟩ := cut4 l h4
  rw [opens_app a p hp] at h
  have hg : getN p = sumN a := by simpa using h
  unfold openS
  rw [opens_app a p hp, h, if_pos rfl, List.length_append, hp, Nat.add_sub_cancel, List.take_left]
  unfold sealL
  rw [← hg, ← hp, putL_getN]
theorem openE_cases (l : List UInt8) : (opens l = true ∧ openE l = 0) ∨ (opens l = false ∧ openE l = 2 ∧ openS l = []) := by
  unfold openE openS
  cases opens l <;> simp

/-- What is sealed comes to one number, and nothing else does. -/
theorem opens_on (l : List UInt8) (h4 : 4 ≤ l.length) : opens l = decide (onL 4294967295 l = stps 32 4294967295) := by
  obtain ⟨a, p, rfl, hp⟩ := cut4 l h4
  rw [opens_app a p hp, onL_append, onL_getN p, hp]
  have ha := onL_lt a (n := 4294967295) (by omega)
  have hg : getN p < 4294967296 := by have := getN_lt p; rw [hp] at this; exact this
  have hs := sumN_eq a
  generalize onL 4294967295 a = q at *
  rw [Bool.eq_iff_iff, decide_eq_true_iff, decide_eq_true_iff]
  constructor
  · intro e
    rw [e, hs, ← Nat.xor_assoc, Nat.xor_comm q, Nat.xor_assoc, Nat.xor_self, Nat.xor_zero]
  · intro e
    have := stps_inj _ (x32 ha hg) (by omega) e
    rw [hs, ← this, Nat.xor_comm q, Nat.xor_assoc, Nat.xor_self, Nat.xor_zero]

theorem pairL_pad : ∀ (a b : List UInt8), pairL (· ^^^ ·) a b = pairL (· ^^^ ·) a (b ++ List.replicate (a.length - b.length) 0)
  | [], _ => by simp [pairL]
  | x :: a, [] => by
    have : ∀ l : List UInt8, pairL (· ^^^ ·) l (List.replicate l.length 0) = l := by
      intro l
      induction l with
      | nil => rfl
      | cons y l ih => simp [pairL, List.replicate_succ]; exact ih
    rw [List.nil_append, List.length_nil, Nat.sub_zero, this]; rfl
  | x :: a, y :: b => by
    rw [List.cons_append, pairL, pairL, List.length_cons, List.length_cons, Nat.add_sub_add_right, ← pairL_pad a b]
theorem pairL_none : ∀ (a : List UInt8) (k : Nat), pairL (· ^^^ ·) a (List.replicate k 0) = a
  | [], _ => by simp [pairL]
  | x :: a, 0 => rfl
  | x :: a, k + 1 => by rw [List.replicate_succ, pairL, pairL_none a k]; simp

/-- What is turned in four bytes that stand next to each other comes to nothing where nothing is turned alone. -/
theorem turned (n : Nat) (t q : List UInt8) (k : Nat) (hq : q.length = 4) (hk : k + 4 ≤ t.length) (hn : n < 4294967296) :
    (onL n (pairL (· ^^^ ·) t (List.replicate k 0 ++ q)) = onL n t) ↔ getN q = 0 := by
  rw [pairL_pad]
  have hlen : t.length = (List.replicate k 0 ++ q ++ List.replicate (t.length - (List.replicate k (0 : UInt8) ++ q).length) 0).length := by
    simp [hq]; omega
  have h := onL_xor t _ n 0 hlen
  rw [Nat.xor_zero] at h
  rw [h]
  generalize t.length - (List.replicate k (0 : UInt8) ++ q).length = r
  rw [onL_append, onL_append, onL_zeros k, stps_zero, onL_getN q, onL_zeros r, hq, Nat.zero_xor, ← stps_add]
  have hg : getN q < 4294967296 := by have := getN_lt q; rw [hq] at this; exact this
  have ht := onL_lt t hn
  constructor
  · intro e
    have e2 := congrArg (onL n t ^^^ ·) e
    simp only [← Nat.xor_assoc, Nat.xor_self, Nat.zero_xor] at e2
    exact stps_nil _ hg e2
  · intro e
    rw [e, stps_zero, Nat.xor_zero]
theorem same_iff (t q : List UInt8) (k : Nat) (hq : q.length = 4) (hk : k + 4 ≤ t.length) :
    (pairL (· ^^^ ·) t (List.replicate k 0 ++ q) = t) ↔ getN q = 0 := by
  constructor
  · intro e
    refine (turned 0 t q k hq hk (by omega)).1 ?_
    rw [e]
  · intro e
    have h : q = List.replicate 4 0 := by
      have := putL_getN q
      rw [e, hq] at this
      rw [← this]; rfl
    rw [h, List.replicate_append_replicate, pairL_none]
theorem sum_inj {a b : List UInt8} : sumN a = sumN b ↔ onL 4294967295 a = onL 4294967295 b := by
  have ha := onL_lt a (n := 4294967295) (by omega)
  have hb := onL_lt b (n := 4294967295) (by omega)
  have e1 : sumN a = 4294967295 - onL 4294967295 a := rfl
  have e2 : sumN b = 4294967295 - onL 4294967295 b := rfl
  rw [e1, e2]
  omega
theorem sum_mix (s t u : List UInt8) (h1 : t.length = s.length) (h2 : u.length = s.length) :
    sumN (pairL (· ^^^ ·) (pairL (· ^^^ ·) s t) u) = sumN s ^^^ sumN t ^^^ sumN u := by
  have a := onL_xor s t 4294967295 4294967295 h1.symm
  have b := onL_xor (pairL (· ^^^ ·) s t) u (4294967295 ^^^ 4294967295) 4294967295 (by rw [length_pairL, h2])
  rw [a, Nat.xor_self, Nat.zero_xor] at b
  rw [sumN_eq, sumN_eq, sumN_eq, sumN_eq, b]
  generalize onL 4294967295 s = x
  generalize onL 4294967295 t = y
  generalize onL 4294967295 u = z
  rw [xors 4294967295 x 4294967295 y, Nat.xor_self, Nat.zero_xor, ← Nat.xor_assoc, ← Nat.xor_assoc, ← Nat.xor_assoc, Nat.xor_comm (x ^^^ y) 4294967295, ← Nat.xor_assoc]
theorem sum_app (a b : List UInt8) : addN (sumN a) b = sumN (a ++ b) := addN_addN 0 a b (by omega)
end Go.Proofs.YtipiioggdalkoaaGreatDoor
end
section
namespace Go.Proofs.YtipiioggdalkoaaGreatDoor
open Go.RowKit Go.Shelf
set_option linter.unusedVariables false
attribute [local go_sem] Oper.semAt_some

def encOne (x : UInt8) : Array Value := #[.int .u8 (x.toNat : Int)]

set_option maxRecDepth 100000 in
set_option maxHeartbeats 1000000 in
theorem bytesOf1_in (F : Fence) (n : Nat) (hF : F.fn 79) (hro : F.round = none) (hn : 1 ≤ n) (l Bs : Nat) (s : ByteArray) (hs : s.size ≤ 1000000000) (J Jx : List UInt8 → World → Prop)
    (hY : ∀ pre x W, J pre W → pre.length < s.size → YieldAt F (n - 1) Tryz.prog l (encOne x) W fun e W' =>
      (e = .returned (.bool true) ∧ J (pre ++ [x]) W' ∧ BoxKept Bs W W') ∨ (e = .returned (.bool false) ∧ Jx (pre ++ [x]) W'))
    (W : World) (hBs : W.cell? ⟨Bs, 0, none⟩ = some (.string s)) (h0 : J [] W) :
    CallsIn F n Tryz.prog 79 #[.func (.yield l) #[] #[], .pointer (some ⟨Bs, 0, none⟩)] W fun e W' => (∃ v, e = .returned v) ∧
      ((∃ ys, ys = s.data.toList ∧ J ys W') ∨ (∃ pre, pre <+: s.data.toList ∧ Jx pre W')) := by
  refine callsIn_of_wp Tryz.func79 rfl hF ?_ hro
  simp only [Tryz.ntmps79, List.size_toArray, List.length_cons, List.length_nil, Nat.reduceAdd, Nat.reduceSub, Array.replicate_succ, Array.replicate_zero, List.push_toArray, List.append_toArray, List.nil_append, List.cons_append]
  gi_wp2
  gi_loopw [6] (fun i wr => ∃ k : Nat, k ≤ s.size ∧ i = .int .i64 k ∧ J (s.data.toList.take k) wr ∧ wr.cell? ⟨Bs, 0, none⟩ = some (.string s))
    (fun i _ => s.size - (intOf i).toNat)
  case atStart => exact ⟨0, Nat.zero_le _, rfl, h0, hBs⟩
  case round =>
    obtain ⟨k, hk, rfl, hJs, hcx⟩ := hrel
    by_cases hlt : k < s.size
    · obtain ⟨fn, tmps, assign, body, hy, hR⟩ := hY _ (s[k]'hlt) wr hJs (by rw [List.length_take]; simp; omega)
      simp only [encOne] at hy
      have hbt : (s[k]'hlt).toNat < 256 := UInt8.toNat_lt _
      have ht : s.data.toList.take k ++ [s[k]'hlt] = s.data.toList.take (k + 1) := by
        rw [List.take_succ_eq_append_getElem (by simpa using hlt)]; rfl
      rw [ht] at hR
      have HT := Lib.hid ht
      clear ht
      gi_wp2
      refine hR.mono ?_
      rintro e W3 (⟨rfl, hJ3, hk3⟩ | ⟨rfl, hJx3⟩)
      · have hc3 := hk3.trans hcx
        gi_wp2
        go_roundw
        case rel => exact ⟨k + 1, by omega, by go_num, hJ3, hc3⟩
        case measure => simp [intOf]; omega
      · gi_wp2
        refine bodyPost_ret (results_none rfl _ _ _) rfl ?_
        exact ⟨⟨_, rfl⟩, .inr ⟨_, List.take_prefix _ _, hJx3⟩⟩
    · obtain rfl : k = s.size := by omega
      gi_wp2
      go_end0
      refine ⟨⟨_, rfl⟩, .inl ⟨_, rfl, ?_⟩⟩
      rwa [List.take_of_length_le (by simp)] at hJs

set_option maxHeartbeats 1000000 in
theorem bytesOf_in (F : Fence) (n : Nat) (hF : F.fn 53) (hro : F.round = none) (s : ByteArray) (w : World) :
    CallsIn F n Tryz.prog 53 #[.string s] w fun e w' => e = .returned (.func (.func 79) #[] #[.pointer (some ⟨w.heap.size, 0, none⟩)]) ∧ w' = w.alloc (.cells #[.string s] 9) := by
  refine callsIn_of_wp Tryz.func53 rfl hF ?_ hro
  simp only [Tryz.ntmps53, List.size_toArray, List.length_cons, List.length_nil, Nat.reduceAdd, Nat.reduceSub, Array.replicate_succ, Array.replicate_zero, List.push_toArray, List.append_toArray, List.nil_append, List.cons_append]
  gi_wp2
  go_ret
  exact ⟨rfl, rfl⟩

theorem bytesOf_stops (F : Fence) (n : Nat) (hF : F.fn 79) (hro : F.round = none) (hn : 1 ≤ n) (Bs : Nat) (s : ByteArray) (hs : s.size ≤ 1000000000) (w : World) (hB : Bs < w.heap.size) (hBs : w.cell? ⟨Bs, 0, none⟩ = some (.string s)) :
    SeqStopsK F n Tryz.prog 79 #[.pointer (some ⟨Bs, 0, none⟩)] encOne (BoxKept Bs) (fun ys => ys = s.data.toList) (fun pre => pre <+: s.data.toList) s.size w := fun l J Jx W hW _ _ hY h0 =>
  bytesOf1_in F n hF hro hn l Bs s hs J Jx hY W ((hW.cell (p := ⟨Bs, 0, none⟩) hB).trans hBs) h0

def clearL (s : List UInt8) : Bool := s.all fun b => decide (b = 255)

set_option maxRecDepth 100000 in
set_option maxHeartbeats 1000000 in
theorem clear_in (F : Fence) (n : Nat) (hF0 : F.fn 28) (hF1 : F.fn 53) (hF2 : F.fn 79) (hro : F.round = none) (hn : 3 ≤ n) (s : ByteArray) (hs : s.size ≤ 1000000000) (w : World) :
    CallsIn F n Tryz.prog 28 #[.string s] w fun e W' => e = .returned (.bool (clearL s.data.toList)) ∧ Below w.heap.size w W' := by
  have hn1 : 1 ≤ n := by omega
  refine callsIn_of_wp_marks Tryz.func28 rfl hF0 ?_ hro
  simp only [Tryz.ntmps28, List.size_toArray, List.length_cons, List.length_nil, Nat.reduceAdd, Nat.reduceSub, Array.replicate_succ, Array.replicate_zero, List.push_toArray, List.append_toArray, List.nil_append, List.cons_append]
  gi_wp2_with (gi_at_call 53; refine (bytesOf_in F (n - 1) hF1 hro _ _).mono ?_; rintro e w' ⟨rfl, rfl⟩)
  have cn := newCell w (.bool false) 4
  have cb := newCell (w.alloc (.cells #[.bool false] 4)) (.string s) 9
  rw [World.size_alloc] at cb
  have hB0 : Below w.heap.size w ((w.alloc (.cells #[.bool false] 4)).alloc (.cells #[.string s] 9)) := ((Below.refl _ w).alloc (Nat.le_refl _) _).alloc (by simp) _
  refine wpIn_rangeFunc_ownF hro hn1 (gf := 79) (lb := #[.pointer (some ⟨w.heap.size + 1, 0, none⟩)]) rfl hF2 (enters_of Tryz.func79 (by kernel_rfl) rfl)
    (bytesOf_stops F (n - 1) hF2 hro (by omega) (w.heap.size + 1) s hs _ (by simp) cb.1) (boxKept_t _) (boxKept_put _ _ (by simp)) (Below.refl _ _) (fun _ => rfl)
    (fun pre W => ((∀ y ∈ pre, y = 255) ∧ W.cell? ⟨w.heap.size, 0, none⟩ = some (.bool false) ∧ W.frozen? ⟨w.heap.size, 0, none⟩ = false) ∧ Below w.heap.size w W)
    (fun c pre W => (c = .ret ∧ (∃ y ∈ pre, y ≠ 255) ∧ W.cell? ⟨w.heap.size, 0, none⟩ = some (.bool false)) ∧ Below w.heap.size w W)
    (OwnFrom.and (Own.from (fun s A B row hs hg hr => ⟨hs.1, cell_kept hs.2.1 hg hr, (frozen_kept hs.2.1 hg hr).trans hs.2.2⟩) _) (ownFrom_below (Nat.le_refl _) (by simp; omega)))
    (fun c => OwnFrom.and (Own.from (fun s A B row hs hg hr => ⟨hs.1, hs.2.1, cell_kept hs.2.2 hg hr⟩) _) (ownFrom_below (Nat.le_refl _) (by simp; omega)))
    ⟨⟨by simp, oldCell _ cn.1, oldFree _ cn.1 cn.2⟩, hB0⟩
    (fun x => { tmps := #[Value.string s, undef, Value.pointer (some { block := w.heap.size, off := 0 }), .int .u8 (x.toNat : Int), Value.string s,
          Value.func (Fn.func 79) #[] #[Value.pointer (some { block := w.heap.size + 1, off := 0 })], .int .u8 (x.toNat : Int), undef, undef], defers := [] }) ?assign ?body ?done ?stop
  case assign =>
    intro l x W K hK
    simp only [encOne]
    gi_wp2
    exact hK
  case body =>
    rintro l pre x W ⟨⟨hp, hcr, hfr⟩, hB⟩ _
    clear cn cb hB0
    have hx2 : x.toNat < 256 := x.toNat_lt
    by_cases hx : x = 255
    · have hd : ((x.toNat : Int) != 255) = false := by subst hx; rfl
      gi_wp2
      exact ⟨KeepsOthers.refl _, rfl, ⟨fun y hy => (List.mem_append.1 hy).elim (hp y) (fun e => by simp at e; rw [e]; exact hx), hcr, hfr⟩, hB⟩
    · have hne : x.toNat ≠ 255 := fun e => hx (UInt8.toNat_inj.1 e)
      have hd : ((x.toNat : Int) != 255) = true := by simp; omega
      gi_wp2
      exact ⟨KeepsOthers.setCell _ _ _, ⟨rfl, ⟨x, by simp, hx⟩, World.cell?_setCell_same' _ _ _ (by rw [hcr]; rfl)⟩, hB.setCell (p := ⟨w.heap.size, 0, none⟩) (Nat.le_refl _) _⟩
  case done =>
    rintro D ys W hD rfl ⟨⟨hne, hcr, hfr⟩, hB⟩ hK
    gi_wp2
    have hK' := (KeepsOthers.setCell W ⟨w.heap.size, 0, none⟩ (.bool true)).same D _ hK rfl
    refine ⟨by simp, .inl ⟨_, _, rfl, run_takeDeferred hK', ?_⟩⟩
    have hc5 := cell_kept (World.cell?_setCell_same' W ⟨w.heap.size, 0, none⟩ (.bool true) (by rw [hcr]; rfl)) (grownBy_putObj' _ D (.deferred none)) (fun r e => by cases e; exact ⟨_, hK', rfl⟩)
    have hcl : clearL s.data.toList = true := by unfold clearL; rw [List.all_eq_true]; intro b hb; simpa using hne b hb
    refine ⟨.bool true, ?_, by rw [hcl], (hB.setCell (p := ⟨w.heap.size, 0, none⟩) (Nat.le_refl _) _).trans (belowK_b (w := w) (Nat.le_refl _) _ D _ _ (by simp at hD; omega) hK' rfl rfl)⟩
    simp [results, Tryz.f28, go_sem, hc5]
  case stop =>
    rintro D c pre W hD hpre ⟨⟨rfl, ⟨y, hy, hyn⟩, hcr⟩, hB⟩ hK
    gi_wp2
    refine ⟨by simp, .inl ⟨_, _, rfl, run_takeDeferred hK, ?_⟩⟩
    have hc5 := cell_kept hcr (grownBy_putObj' _ D (.deferred none)) (fun r e => by cases e; exact ⟨_, hK, rfl⟩)
    have hcl : clearL s.data.toList = false := by
      cases h : clearL s.data.toList with
      | false => rfl
      | true =>
        unfold clearL at h
        rw [List.all_eq_true] at h
        have := h y (hpre.subset hy)
        simp at this
        exact absurd this hyn
    refine ⟨.bool false, ?_, by rw [hcl], hB.trans (belowK_b (w := w) (Nat.le_refl _) W D _ _ (by simp at hD; omega) hK rfl rfl)⟩
    simp [results, Tryz.f28, go_sem, hc5]
theorem clear_any (s : ByteArray) (w : World) (hs : s.size ≤ 1000000000) :
    Calls Tryz.prog 28 #[.string s] w fun e w' => e = .returned (.bool (clearL s.data.toList)) ∧ Below w.heap.size w w' :=
  callsIn_wide.1 (clear_in Fence.wide 3 trivial trivial trivial rfl (by omega) s hs w)
end Go.Proofs.YtipiioggdalkoaaGreatDoor
end
section
namespace Go.Proofs.YtipiioggdalkoaaGreatDoor
set_option linter.unusedVariables false

/-- A payload's record. -/
def recL (a : List UInt8) : List UInt8 := sealL a ++ notL (sealL a)
/-- Whether the back half is the front one turned. -/
def halfB (s : List UInt8) : Bool := decide (notL (s.take (s.length / 2)) = s.drop (s.length / 2))
def readS (s : List UInt8) : List UInt8 := if halfB s = true then openS (s.take (s.length / 2)) else []
def readE (s : List UInt8) : Int := if halfB s = true then openE (s.take (s.length / 2)) else 2
def sizeN (n : Int) : Int := if n < 0 ∨ 4000 < n then 0 else 2 * (n + 4)

theorem length_recL (a : List UInt8) : (recL a).length = 2 * (a.length + 4) := by
  unfold recL; rw [List.length_append, length_notL, length_sealL]; omega
theorem half_two (f b : List UInt8) (h : b.length = f.length) : (f ++ b).length / 2 = f.length := by rw [List.length_append, h]; omega
theorem half_app (f b : List UInt8) (h : b.length = f.length) : halfB (f ++ b) = decide (notL f = b) := by
  unfold halfB; rw [half_two f b h, List.take_left, List.drop_left]
theorem readS_app (f b : List UInt8) (h : b.length = f.length) : readS (f ++ b) = if notL f = b then openS f else [] := by
  unfold readS; rw [half_app f b h, half_two f b h, List.take_left]; simp
theorem readE_app (f b : List UInt8) (h : b.length = f.length) : readE (f ++ b) = if notL f = b then openE f else 2 := by
  unfold readE; rw [half_app f b h, half_two f b h, List.take_left]; simp
theorem readS_rec (a : List UInt8) : readS (recL a) = a := by
  unfold recL; rw [readS_app _ _ (length_notL _), if_pos rfl, openS_seal]
theorem readE_rec (a : List UInt8) : readE (recL a) = 0 := by
  unfold recL; rw [readE_app _ _ (length_notL _), if_pos rfl, openE_seal]
theorem readE_cases (t : List UInt8) : (readE t = 0 ∧ recL (readS t) = t) ∨ (readE t = 2 ∧ readS t = []) := by
  unfold readE readS
  cases hh : halfB t with
  | false => exact .inr ⟨rfl, rfl⟩
  | true =>
    rw [if_pos rfl, if_pos rfl]
    have hn : notL (t.take (t.length / 2)) = t.drop (t.length / 2) := of_decide_eq_true hh
    rcases openE_cases (t.take (t.length / 2)) with ⟨h1, h2⟩ | ⟨h1, h2, h3⟩
    · refine .inl ⟨h2, ?_⟩
      unfold recL
      rw [seal_open _ h1, hn, List.take_append_drop]
    · exact .inr ⟨h2, h3⟩
theorem readS_len (t : List UInt8) : (readS t).length ≤ t.length := by
  unfold readS openS
  split
  · split
    · rw [List.length_take, List.length_take]; omega
    · simp
  · simp
theorem recL_inj {a b : List UInt8} (h : recL a = recL b) : a = b := by rw [← readS_rec a, h, readS_rec]

/- Cleared in part. -/
theorem byte_ext {x y : UInt8} (h : ∀ i, i < 8 → x.toBitVec.getLsbD i = y.toBitVec.getLsbD i) : x = y :=
  UInt8.toBitVec_inj.1 (BitVec.eq_of_getLsbD_eq fun i hi => h i hi)
theorem or_part (x p q : UInt8) (h : ~~~(x ||| p) = ~~~x ||| q) : x ||| p = x := by
  refine byte_ext fun i hi => ?_
  have := congrArg (fun z : UInt8 => z.toBitVec.getLsbD i) h
  simp only [UInt8.toBitVec_not, UInt8.toBitVec_or, BitVec.getLsbD_not, BitVec.getLsbD_or, hi, decide_true, Bool.true_and] at this ⊢
  revert this
  cases x.toBitVec.getLsbD i <;> cases p.toBitVec.getLsbD i <;> cases q.toBitVec.getLsbD i <;> simp
theorem or_part0 (x p : UInt8) (h : ~~~(x ||| p) = ~~~x) : x ||| p = x := by
  have := or_part x p (~~~x) (by rw [h]; simp)
  exact this
theorem and_part (x y : UInt8) (h : ~~~(x &&& y) = ~~~x &&& ~~~y) : x = y := by
  refine byte_ext fun i hi => ?_
  have := congrArg (fun z : UInt8 => z.toBitVec.getLsbD i) h
  simp only [UInt8.toBitVec_not, UInt8.toBitVec_and, BitVec.getLsbD_not, BitVec.getLsbD_and, hi, decide_true, Bool.true_and] at this ⊢
  revert this
  cases x.toBitVec.getLsbD i <;> cases y.toBitVec.getLsbD i <;> simp
theorem pairL_nil (f : UInt8 → UInt8 → UInt8) (a : List UInt8) : pairL f a [] = a := by cases a <;> rfl
/-- What is cut is done part by part. -/
theorem pairL_cut (f : UInt8 → UInt8 → UInt8) : ∀ a c s : List UInt8, pairL f (a ++ c) s = pairL f a (s.take a.length) ++ pairL f c (s.drop a.length)
  | [], c, s => by simp [pairL]
  | x :: a, c, [] => by simp [pairL_nil]
  | x :: a, c, y :: s => by simp [pairL, pairL_cut f a c s]
theorem orL_part : ∀ (f p q : List UInt8), notL (pairL (· ||| ·) f p) = pairL (· ||| ·) (notL f) q → pairL (· ||| ·) f p = f
  | [], p, q, _ => by simp [pairL]
  | x :: f, [], q, _ => rfl
  | x :: f, y :: p, [], h => by
    simp only [pairL, notL, List.map_cons, List.cons.injEq] at h ⊢
    exact ⟨or_part0 x y h.1, orL_part f p [] (by rw [pairL_nil]; exact h.2)⟩
  | x :: f, y :: p, z :: q, h => by
    simp only [pairL, notL, List.map_cons, List.cons.injEq] at h ⊢
    exact ⟨or_part x y z h.1, orL_part f p q h.2⟩
theorem part_reads (a some : List UInt8) (h : readE (pairL (· ||| ·) (recL a) some) = 0) : pairL (· ||| ·) (recL a) some = recL a := by
  unfold recL at h ⊢
  rw [pairL_cut] at h ⊢
  generalize some.take (sealL a).length = p at h ⊢
  generalize some.drop (sealL a).length = q at h ⊢
  rw [readE_app _ _ (by rw [length_pairL, length_pairL, length_notL])] at h
  split at h
  · rename_i hn
    have h1 := orL_part _ _ _ hn
    rw [h1] at hn ⊢
    rw [← hn]
  · exact absurd h (by decide)
theorem part_iff (a some : List UInt8) : (readE (pairL (· ||| ·) (recL a) some) = 0) ↔ pairL (· ||| ·) (recL a) some = recL a :=
  ⟨part_reads a some, fun h => by rw [h]; exact readE_rec a⟩

/- One over the other. -/
theorem andL_part : ∀ (f g : List UInt8), f.length = g.length → notL (pairL (· &&& ·) f g) = pairL (· &&& ·) (notL f) (notL g) → f = g
  | [], [], _, _ => rfl
  | x :: f, y :: g, e, h => by
    simp only [pairL, notL, List.map_cons, List.cons.injEq] at h ⊢
    exact ⟨and_part x y h.1, andL_part f g (by simpa using e) h.2⟩
theorem sealL_inj {a b : List UInt8} (h : sealL a = sealL b) : a = b := by rw [← openS_seal a, h, openS_seal]
theorem both_iff (a b : List UInt8) (e : b.length = a.length) : (readE (pairL (· &&& ·) (recL a) (recL b)) = 0) ↔ a = b := by
  constructor
  · intro h
    unfold recL at h
    rw [pairL_append _ _ _ _ _ (by rw [length_sealL, length_sealL, e]), readE_app _ _ (by rw [length_pairL, length_pairL, length_notL])] at h
    split at h
    · rename_i hn
      exact sealL_inj (andL_part _ _ (by rw [length_sealL, length_sealL, e]) hn)
    · exact absurd h (by decide)
  · rintro rfl
    rw [pairL_self _ (fun x => by simp), readE_rec]

/- Turned in four bytes. -/
theorem not_xor8 (x y : UInt8) : ~~~(x ^^^ y) = ~~~x ^^^ y := by
  refine byte_ext fun i hi => ?_
  simp only [UInt8.toBitVec_not, UInt8.toBitVec_xor, BitVec.getLsbD_not, BitVec.getLsbD_xor, hi, decide_true, Bool.true_and]
  cases x.toBitVec.getLsbD i <;> cases y.toBitVec.getLsbD i <;> rfl
theorem notL_xor : ∀ (f p : List UInt8), notL (pairL (· ^^^ ·) f p) = pairL (· ^^^ ·) (notL f) p
  | [], p => by simp [pairL, notL]
  | x :: f, [] => rfl
  | x :: f, y :: p => by
    have := notL_xor f p
    simp only [pairL, notL, List.map_cons, List.cons.injEq] at this ⊢
    exact ⟨not_xor8 x y, this⟩
theorem xorL_inj : ∀ (f p q : List UInt8), p.length = f.length → q.length = f.length → pairL (· ^^^ ·) f p = pairL (· ^^^ ·) f q → p = q
  | [], [], [], _, _, _ => rfl
  | x :: f, y :: p, z :: q, e1, e2, h => by
    simp only [pairL, List.cons.injEq] at h ⊢
    refine ⟨?_, xorL_inj f p q (by simpa using e1) (by simpa using e2) h.2⟩
    have := congrArg (x ^^^ ·) h.1
    simpa [← UInt8.xor_assoc] using this
/-- The list of turned bits, filled up with nothing. -/
def padL (k n : Nat) (q : List UInt8) : List UInt8 := List.replicate k 0 ++ q ++ List.replicate (n - (k + q.length)) 0
theorem length_padL (k n : Nat) (q : List UInt8) (h : k + q.length ≤ n) : (padL k n q).length = n := by simp [padL]; omega
theorem padL_out (k n : Nat) (q : List UInt8) (i : Nat) (hi : i < k ∨ k + q.length ≤ i) (h : i < n) : (padL k n q)[i]? = some 0 ∨ (padL k n q)[i]? = none := by
  unfold padL
  rw [List.append_assoc]
  rcases hi with hi | hi
  · left
    rw [List.getElem?_append_left (by simpa using hi)]
    simp [hi]
  · rw [List.getElem?_append_right (by simp; omega), List.getElem?_append_right (by simp; omega)]
    simp only [List.length_replicate, List.getElem?_replicate]
    split
    · exact .inl rfl
    · exact .inr rfl
theorem rot_halves (h : Nat) (hh : 4 ≤ h) (k : Nat) (q : List UInt8) (hq : q.length = 4) (hk : k + 4 ≤ 2 * h) (e : (padL k (2 * h) q).take h = (padL k (2 * h) q).drop h) : padL k (2 * h) q = List.replicate (2 * h) 0 := by
  have hlen := length_padL k (2 * h) q (by omega)
  have at_ : ∀ j, j < h → (padL k (2 * h) q)[j]? = (padL k (2 * h) q)[h + j]? := by
    intro j hj
    have := congrArg (fun l : List UInt8 => l[j]?) e
    simpa [List.getElem?_take, hj, List.getElem?_drop] using this
  have zero : ∀ j, j < h → (padL k (2 * h) q)[j]? = some 0 := by
    intro j hj
    by_cases hin : k ≤ j ∧ j < k + 4
    · rcases padL_out k (2 * h) q (h + j) (by omega) (by omega) with h2 | h2
      · rw [at_ j hj, h2]
      · rw [List.getElem?_eq_none_iff] at h2; omega
    · rcases padL_out k (2 * h) q j (by omega) (by omega) with h2 | h2
      · exact h2
      · rw [List.getElem?_eq_none_iff] at h2; omega
  refine List.ext_getElem? fun i => ?_
  by_cases hi : i < 2 * h
  · rw [List.getElem?_replicate, if_pos hi]
    by_cases hl : i < h
    · exact zero i hl
    · have := at_ (i - h) (by omega)
      rw [show h + (i - h) = i by omega] at this
      rw [← this]
      exact zero _ (by omega)
  · rw [List.getElem?_eq_none (by omega), List.getElem?_eq_none (by simp; omega)]
theorem rot_reads (a q : List UInt8) (k : Nat) (hq : q.length = 4) (hk : k + 4 ≤ (recL a).length) (h : readE (pairL (· ^^^ ·) (recL a) (List.replicate k 0 ++ q)) = 0) : pairL (· ^^^ ·) (recL a) (List.replicate k 0 ++ q) = recL a := by
  have hs := length_sealL a
  have hr := length_recL a
  have hpad : pairL (· ^^^ ·) (recL a) (List.replicate k 0 ++ q) = pairL (· ^^^ ·) (recL a) (padL k (2 * (sealL a).length) q) := by
    rw [pairL_pad]
    unfold padL
    rw [hr, hs]
    simp
  have hl := length_padL k (2 * (sealL a).length) q (by omega)
  rw [hpad] at h ⊢
  have hrot := rot_halves (sealL a).length (by omega) k q hq (by omega)
  generalize padL k (2 * (sealL a).length) q = p at *
  unfold recL at h ⊢
  rw [pairL_cut] at h ⊢
  rw [readE_app _ _ (by rw [length_pairL, length_pairL, length_notL])] at h
  split at h
  · rename_i hn
    rw [notL_xor] at hn
    have := hrot (xorL_inj (notL (sealL a)) _ _ (by rw [length_notL, List.length_take]; omega) (by rw [length_notL, List.length_drop]; omega) hn)
    rw [this, List.take_replicate, List.drop_replicate, pairL_none, pairL_none]
  · exact absurd h (by decide)
theorem rots_iff (a q : List UInt8) (k : Nat) (hq : q.length = 4) (hk : k + 4 ≤ (recL a).length) : (readE (pairL (· ^^^ ·) (recL a) (List.replicate k 0 ++ q)) = 0) ↔ getN q = 0 := by
  rw [← same_iff (recL a) q k hq hk]
  exact ⟨rot_reads a q k hq hk, fun h => by rw [h]; exact readE_rec a⟩

/- Halves of ones. -/
theorem count_rec (a : List UInt8) : countL (recL a) = 4 * (recL a).length := by
  have := count_not (sealL a)
  rw [length_recL]
  unfold recL
  rw [countL_append, this, length_sealL]
  omega
theorem clearL_ones (n : Nat) : clearL (List.replicate n 255) = true := by simp [clearL]
theorem not_full (x : UInt8) (h : x = 255) : ~~~x ≠ 255 := by subst h; decide
theorem clearL_rec (a : List UInt8) : clearL (recL a) = false := by
  have hs := length_sealL a
  unfold recL
  cases hl : sealL a with
  | nil => rw [hl] at hs; simp at hs
  | cons x l =>
    simp only [clearL, notL, List.all_append, List.all_cons, List.map_cons]
    by_cases hx : x = 255
    · have := not_full x hx
      simp [this]
    · simp [hx]
theorem readE_ones (n : Nat) : readE (List.replicate n 255) = 2 := by
  unfold readE
  cases hh : halfB (List.replicate n 255) with
  | false => rfl
  | true =>
    rw [if_pos rfl]
    have hn : notL ((List.replicate n 255).take ((List.replicate n (255 : UInt8)).length / 2)) = (List.replicate n 255).drop ((List.replicate n (255 : UInt8)).length / 2) := of_decide_eq_true hh
    simp only [List.length_replicate, List.take_replicate, List.drop_replicate, notL, List.map_replicate] at hn ⊢
    have hlen := congrArg List.length hn
    simp only [List.length_replicate] at hlen
    by_cases h0 : n / 2 = 0
    · have : n = 0 := by omega
      subst this
      rfl
    · exfalso
      have := congrArg (fun l : List UInt8 => l[0]?) hn
      simp only [List.getElem?_replicate] at this
      rw [if_pos (by omega), if_pos (by omega)] at this
      simp at this
theorem clear_iff (s : List UInt8) : clearL s = decide (s = List.replicate s.length 255) := by
  rw [Bool.eq_iff_iff, decide_eq_true_iff]
  unfold clearL
  rw [List.all_eq_true]
  constructor
  · intro h
    exact List.eq_replicate_iff.2 ⟨rfl, fun b hb => by simpa using h b hb⟩
  · intro h b hb
    rw [h] at hb
    simpa using (List.mem_replicate.1 hb).2
/-- Reading as the document says it. -/
theorem read_ref (s : List UInt8) (h8 : 8 ≤ s.length) (h2 : s.length % 2 = 0) : readE s = (if recL (s.take (s.length / 2 - 4)) = s then 0 else 2) ∧ readS s = if recL (s.take (s.length / 2 - 4)) = s then s.take (s.length / 2 - 4) else [] := by
  by_cases h : recL (s.take (s.length / 2 - 4)) = s
  · rw [if_pos h, if_pos h]
    have h1 := readE_rec (s.take (s.length / 2 - 4))
    have h3 := readS_rec (s.take (s.length / 2 - 4))
    rw [h] at h1 h3
    exact ⟨h1, h3⟩
  · rw [if_neg h, if_neg h]
    rcases readE_cases s with ⟨h1, h3⟩ | h1
    · exfalso
      apply h
      have hl := congrArg List.length h3
      rw [length_recL] at hl
      have h4 : s.take (s.length / 2 - 4) = readS s := by
        have e : s.take (readS s).length = (recL (readS s)).take (readS s).length := by rw [h3]
        rw [show s.length / 2 - 4 = (readS s).length by omega, e]
        unfold recL sealL
        rw [List.append_assoc, List.take_left]
      rw [h4, h3]
    · exact h1
theorem read_short (s : List UInt8) (h : s.length < 8 ∨ s.length % 2 = 1) : readE s = 2 ∧ readS s = [] := by
  rcases readE_cases s with ⟨h1, h3⟩ | h1
  · have hl := congrArg List.length h3
    rw [length_recL] at hl
    omega
  · exact h1
end Go.Proofs.YtipiioggdalkoaaGreatDoor
end
section
namespace Go.Proofs.YtipiioggdalkoaaGreatDoor
open Go.RowKit
set_option linter.unusedVariables false

abbrev VP := Value → World → Prop
/-- It stays true as memory grows. -/
def Stable (V : VP) : Prop := ∀ v w w', V v w → Below w.heap.size w w' → V v w'
def isVal (v : Value) : VP := fun x _ => x = v
theorem stable_val (v : Value) : Stable (isVal v) := fun _ _ _ h _ => h
/-- A slice of just these bytes, at the head of a block. -/
def isRow (l : List UInt8) : VP := fun x w => ∃ g, x = .slice (some ⟨g, 0, none⟩) l.length l.length ∧ g < w.heap.size ∧ BRow w g l
theorem stable_row (l : List UInt8) : Stable (isRow l) := fun _ w w' ⟨g, e, hg, hr⟩ hb =>
  ⟨g, e, Nat.lt_of_lt_of_le hg hb.size, fun j hj => ⟨(hb.cell (p := ⟨g, j, none⟩) hg).trans (hr j hj).1, (hb.frozen (p := ⟨g, j, none⟩) hg).trans (hr j hj).2⟩⟩

section
variable (P : Program) (ops : Array Oper) (base : World) (a0 : Act) (Q : Exit → Act → World → Prop)

/-- What operation j yielded is as it should be. -/
def FDone (kn : Nat → VP) (a : Act) (w : World) (j : Nat) : Prop := ∀ o, ops[j]? = some o → ∀ t, o.dst = some t → kn j (a.tmps.getD t undef) w
/-- What the region does not write is as it was. -/
def FKept (a : Act) : Prop := a.defers = a0.defers ∧ a.tmps.size = a0.tmps.size ∧ ∀ t, (ops.toList.all fun o => o.dst != some t) = true → a.tmps.getD t undef = a0.tmps.getD t undef

def FDeps (kn : Nat → VP) (i : Nat) (a : Act) (w : World) : Prop := ∀ o, ops[i]? = some o → ∀ e ∈ o.after.toList, Region.binds .any e = true → FDone ops kn a w e.on
def FStep (kn : Nat → VP) (i : Nat) (V : VP) : Prop := Stable V ∧ ∀ o, ops[i]? = some o → ∀ a w, FKept ops a0 a → Below base.heap.size base w → FDeps ops kn i a w →
  wpOp P ops Q i (fun a' w' => ∃ v, a' = a.put o.dst v ∧ V v w' ∧ Below w.heap.size w w') a w

def upd (kn : Nat → VP) (i : Nat) (V : VP) : Nat → VP := fun j => if j = i then V else kn j

/-- From operation i on, k operations more. -/
def FlowFrom : Nat → Nat → (Nat → VP) → Prop
  | 0, _, kn => ∀ a w, FKept ops a0 a → Below base.heap.size base w → (∀ j, j < ops.size → FDone ops kn a w j) → Q .normal a w
  | k + 1, i, kn => ∃ V, FStep P ops base a0 Q kn i V ∧ FlowFrom k (i + 1) (upd kn i V)

/-- Each waits for earlier ones alone; no two write one slot; all slots are there. -/
def flowOk (n : Nat) : Bool :=
  ((List.range ops.size).all fun i => (ops[i]?).all fun o => o.after.toList.all fun e => !Region.binds .any e || decide (e.on < i)) &&
  ((List.range ops.size).all fun i => (List.range ops.size).all fun j => i == j || match (ops[i]?).bind (·.dst), (ops[j]?).bind (·.dst) with
    | some s, some t => s != t
    | _, _ => true) &&
  (ops.toList.all fun o => match o.dst with | some t => decide (t < n) | none => true)
end

section
variable {P : Program} {ops : Array Oper} {base : World} {a0 : Act} {Q : Exit → Act → World → Prop}

theorem flowOk_spec {n : Nat} (h : flowOk ops n = true) :
    (∀ (i : Nat) (o : Oper), ops[i]? = some o → ∀ e ∈ o.after.toList, Region.binds .any e = true → e.on < i) ∧
    (∀ (i j : Nat) (oi oj : Oper) (s : Tmp), ops[i]? = some oi → ops[j]? = some oj → oi.dst = some s → oj.dst = some s → i = j) ∧
    (∀ (i : Nat) (o : Oper) (t : Tmp), ops[i]? = some o → o.dst = some t → t < n) := by
  unfold flowOk at h
  simp only [Bool.and_eq_true, List.all_eq_true, List.mem_range] at h
  obtain ⟨⟨h1, h2⟩, h3⟩ := h
  have lt : ∀ {i o}, ops[i]? = some o → i < ops.size := fun h => (Array.getElem?_eq_some_iff.1 h).1
  refine ⟨?_, ?_, ?_⟩
  · intro i o ho e he hb
    have := h1 i (lt ho)
    rw [ho] at this
    simp only [Option.all_some, List.all_eq_true] at this
    have := this e he
    rw [hb] at this
    simpa using this
  · intro i j oi oj s hi hj hs ht
    have := h2 i (lt hi) j (lt hj)
    rw [hi, hj] at this
    simp only [Option.bind_some, hs, ht] at this
    simpa using this
  · intro i o t ho ht
    have := h3 o (by rw [Array.mem_toList_iff]; exact Array.mem_of_getElem? ho)
    rw [ht] at this
    simpa using this

theorem fdone_congr {kn kn' : Nat → VP} {a : Act} {w : World} {j : Nat} (h : kn j = kn' j) (hd : FDone ops kn a w j) : FDone ops kn' a w j := by
  intro o ho t ht
  rw [← h]
  exact hd o ho t ht

theorem flow_family {n : Nat} (hok : flowOk ops n = true) : ∀ k i kn, i + k = ops.size → (∀ m, m < i → FStep P ops base a0 Q kn m (kn m)) → FlowFrom P ops base a0 Q k i kn →
    ∃ kn', (∀ m, m < ops.size → FStep P ops base a0 Q kn' m (kn' m)) ∧ FlowFrom P ops base a0 Q 0 ops.size kn'
  | 0, i, kn, hi, hs, hf => ⟨kn, fun m hm => hs m (by omega), hf⟩
  | k + 1, i, kn, hi, hs, ⟨V, hV, hf⟩ => by
    have agree : ∀ m, m ≠ i → upd kn i V m = kn m := fun m hm => by simp [upd, hm]
    have self : upd kn i V i = V := by simp [upd]
    have shift : ∀ m W, m ≤ i → FStep P ops base a0 Q kn m W → FStep P ops base a0 Q (upd kn i V) m W := by
      intro m W hm h
      refine ⟨h.1, fun o ho a w hk hb hd => h.2 o ho a w hk hb ?_⟩
      intro o' ho' e he hbd
      have hlt := (flowOk_spec hok).1 m o' ho' e he hbd
      exact fdone_congr (agree e.on (by omega)) (hd o' ho' e he hbd)
    refine flow_family hok k (i + 1) (upd kn i V) (by omega) (fun m hm => ?_) hf
    by_cases hmi : m = i
    · subst hmi; rw [self]; exact shift m V (Nat.le_refl _) hV
    · rw [agree m hmi]; exact shift m _ (by omega) (hs m (by omega))

theorem getD_put {a : Act} {s : Tmp} {v : Value} {t : Tmp} (h : t ≠ s) : (a.put (some s) v).tmps.getD t undef = a.tmps.getD t undef := by
  simp only [Act.put, Array.getD_eq_getD_getElem?, Array.getElem?_setIfInBounds]
  rw [if_neg (fun e => h e.symm)]
theorem getD_put_self {a : Act} {s : Tmp} {v : Value} (h : s < a.tmps.size) : (a.put (some s) v).tmps.getD s undef = v := by
  simp [Act.put, Array.getD_eq_getD_getElem?, h]
theorem size_put {a : Act} {d : Option Tmp} {v : Value} : (a.put d v).tmps.size = a.tmps.size := by
  cases d <;> simp [Act.put]
theorem defers_put {a : Act} {d : Option Tmp} {v : Value} : (a.put d v).defers = a.defers := by
  cases d <;> simp [Act.put]

theorem wpAny_flow (hok : flowOk ops a0.tmps.size = true) {kn : Nat → VP} (hs : ∀ m, m < ops.size → FStep P ops base a0 Q kn m (kn m)) (he : FlowFrom P ops base a0 Q 0 ops.size kn) :
    ∀ (fuel : Nat) (listed : Array Bool) (a : Act) (w : World), listed.size = ops.size → ((List.range ops.size).filter fun i => !listed.getD i true).length ≤ fuel → FKept ops a0 a → Below base.heap.size base w →
      (∀ j, listed.getD j false = true → FDone ops kn a w j) → wpAny P .any ops Q fuel listed a w := by
  obtain ⟨ok1, ok2, ok3⟩ := flowOk_spec hok
  have getF : ∀ (listed : Array Bool) (i : Nat), i < listed.size → listed.getD i true = listed.getD i false := by
    intro listed i hi; simp [Array.getD, hi]
  have fin : ∀ (listed : Array Bool) (a : Act) (w : World), listed.size = ops.size → FKept ops a0 a → Below base.heap.size base w → (∀ j, listed.getD j false = true → FDone ops kn a w j) → Region.ready .any ops listed = [] → Q .normal a w := by
    intro listed a w hl hk hb hd hr
    refine he a w hk hb (fun j hj => hd j ?_)
    have key : ∀ m, ∀ j, j ≤ m → j < ops.size → listed.getD j false = true := by
      intro m
      induction m with
      | zero =>
        intro j hjm hj
        obtain rfl : j = 0 := by omega
        cases h0 : listed.getD 0 false with
        | true => rfl
        | false =>
          exfalso
          have : 0 ∈ Region.ready .any ops listed := by
            obtain ⟨o, ho⟩ : ∃ o, ops[0]? = some o := ⟨_, Array.getElem?_eq_getElem hj⟩
            simp only [Region.ready, List.mem_filter, List.mem_range, ho, Option.map_some, Option.getD_some, Bool.and_eq_true, getF listed 0 (by omega), h0]
            refine ⟨hj, rfl, ?_⟩
            rw [Array.all_eq_true_iff_forall_mem]
            intro e he'
            cases hbe : Region.binds .any e with
            | false => rfl
            | true => exact absurd (ok1 0 o ho e (Array.mem_toList_iff.2 he') hbe) (by omega)
          rw [hr] at this
          cases this
      | succ m ih =>
        intro j hjm hj
        by_cases hlt : j ≤ m
        · exact ih j hlt hj
        · obtain rfl : j = m + 1 := by omega
          cases h0 : listed.getD (m + 1) false with
          | true => rfl
          | false =>
            exfalso
            have : (m + 1) ∈ Region.ready .any ops listed := by
              obtain ⟨o, ho⟩ : ∃ o, ops[m + 1]? = some o := ⟨_, Array.getElem?_eq_getElem hj⟩
              simp only [Region.ready, List.mem_filter, List.mem_range, ho, Option.map_some, Option.getD_some, Bool.and_eq_true, getF listed (m + 1) (by omega), h0]
              refine ⟨hj, rfl, ?_⟩
              rw [Array.all_eq_true_iff_forall_mem]
              intro e he'
              cases hbe : Region.binds .any e with
              | false => rfl
              | true =>
                have := ok1 (m + 1) o ho e (Array.mem_toList_iff.2 he') hbe
                rw [ih e.on (by omega) (by omega)]
                rfl
            rw [hr] at this
            cases this
    exact key j j (Nat.le_refl _) hj
  intro fuel
  induction fuel with
  | zero =>
    intro listed a w hl hf hk hb hd
    have hr : Region.ready .any ops listed = [] := by
      have h0 : ((List.range ops.size).filter fun i => !listed.getD i true) = [] := List.eq_nil_of_length_eq_zero (by omega)
      unfold Region.ready
      rw [List.filter_eq_nil_iff] at h0 ⊢
      intro i hi hc
      exact h0 i hi (by simp only [Bool.and_eq_true] at hc; exact hc.1)
    exact ⟨hr, fin listed a w hl hk hb hd hr⟩
  | succ fuel ih =>
    intro listed a w hl hf hk hb hd
    refine ⟨fun hr => fin listed a w hl hk hb hd hr, fun i hi => ?_⟩
    simp only [Region.ready, List.mem_filter, List.mem_range, Bool.and_eq_true] at hi
    obtain ⟨hilt, hun, hready⟩ := hi
    obtain ⟨o, ho⟩ : ∃ o, ops[i]? = some o := ⟨_, Array.getElem?_eq_getElem hilt⟩
    rw [ho] at hready
    simp only [Option.map_some, Option.getD_some, Array.all_eq_true_iff_forall_mem] at hready
    have hstep := (hs i hilt).2 o ho a w hk hb (by
      intro o' ho' e he' hbd
      rw [ho] at ho'
      cases ho'
      have := hready e (Array.mem_toList_iff.1 he')
      rw [hbd] at this
      exact hd e.on (by simpa using this))
    refine wpOp_mono ?_ hstep
    rintro a' w' ⟨v, rfl, hV, hbw⟩
    have hlt' : i < listed.size := by omega
    refine ih (listed.setIfInBounds i true) _ w' (by simpa using hl) ?_ ?_ (hb.trans (hbw.mono hb.size)) ?_
    · have hsub : ((List.range ops.size).filter fun j => !(listed.setIfInBounds i true).getD j true).length < ((List.range ops.size).filter fun j => !listed.getD j true).length := by
        have e1 : ((List.range ops.size).filter fun j => !(listed.setIfInBounds i true).getD j true) = ((List.range ops.size).filter fun j => !listed.getD j true).filter (fun j => j != i) := by
          rw [List.filter_filter]
          apply List.filter_congr
          intro j hj
          by_cases e : j = i
          · subst e; simp [Array.getD_eq_getD_getElem?, hlt']
          · have e' : ¬ i = j := fun h => e h.symm
            simp [Array.getD_eq_getD_getElem?, e, e']
        rw [e1]
        refine List.length_filter_lt_length_iff_exists.2 ⟨i, ?_, by simp⟩
        simp only [List.mem_filter, List.mem_range]
        exact ⟨hilt, hun⟩
      omega
    · refine ⟨by rw [defers_put]; exact hk.1, by rw [size_put]; exact hk.2.1, fun t ht => ?_⟩
      cases hdst : o.dst with
      | none => simp only [Act.put]; exact hk.2.2 t ht
      | some s =>
        have : s ≠ t := by
          rintro rfl
          have := List.all_eq_true.1 ht o (by rw [Array.mem_toList_iff]; exact Array.mem_of_getElem? ho)
          rw [hdst] at this
          simp at this
        rw [getD_put (fun h => this h.symm)]
        exact hk.2.2 t ht
    · intro j hj o' ho' t ht
      by_cases e : j = i
      · subst e
        rw [ho] at ho'
        cases ho'
        rw [ht, getD_put_self (by rw [hk.2.1]; exact ok3 j o t ho ht)]
        exact hV
      · have e' : ¬ i = j := fun h => e h.symm
        have hj' : listed.getD j false = true := by
          simpa [Array.getD_eq_getD_getElem?, Array.getElem?_setIfInBounds, e'] using hj
        have hne : o.dst ≠ some t := fun hh => e (ok2 j i o' o t ho' ho ht hh)
        have hold := hd j hj' o' ho' t ht
        have hslot : (a.put o.dst v).tmps.getD t undef = a.tmps.getD t undef := by
          cases hdst : o.dst with
          | none => rfl
          | some s => exact getD_put (fun h => hne (by rw [hdst, h]))
        rw [hslot]
        exact (hs j (by
          have := (Array.getElem?_eq_some_iff.1 ho').1
          exact this)).1 _ _ _ hold hbw

/-- THE LAW. -/
theorem wp_region_flow {id : Nat} {a : Act} {w : World} (hm : P.follows .mixedOrders = true) (hok : flowOk ops a.tmps.size = true)
    (h : FlowFrom P ops w a Q ops.size 0 (fun _ _ _ => False)) : (Code.region id ops true).wp P Q a w := by
  refine wp_region_any hm ?_
  obtain ⟨kn, hs, he⟩ := flow_family hok ops.size 0 _ (by omega) (fun m hm => absurd hm (by omega)) h
  refine wpAny_flow hok hs he ops.size _ a _ (by simp) ?_ ⟨rfl, rfl, fun _ _ => rfl⟩ ((Below.refl _ w).drew) ?_
  · exact Nat.le_trans (List.length_filter_le _ _) (by simp)
  · intro j hj
    simp [Array.getD_eq_getD_getElem?, Array.getElem?_replicate] at hj
    split at hj <;> simp at hj
end
end Go.Proofs.YtipiioggdalkoaaGreatDoor
end
section
namespace Go.Proofs.YtipiioggdalkoaaGreatDoor
open Go.RowKit
set_option linter.unusedVariables false

section
variable {P : Program} {ops : Array Oper} {base : World} {a0 : Act} {Q : Exit → Act → World → Prop} {kn : Nat → VP} {i : Nat} {V : VP}

/-- Operation i waits for operation j. -/
def waits (ops : Array Oper) (i j : Nat) : Bool := (ops[i]?).any fun o => o.after.toList.any fun e => e.on == j && Region.binds .any e

theorem waits_done {j : Nat} (h : waits ops i j = true) {a : Act} {w : World} (hd : FDeps ops kn i a w) : FDone ops kn a w j := by
  unfold waits at h
  cases ho : ops[i]? with
  | none => rw [ho] at h; simp at h
  | some o =>
    rw [ho] at h
    simp only [Option.any_some, List.any_eq_true, Bool.and_eq_true, beq_iff_eq] at h
    obtain ⟨e, he, rfl, hb⟩ := h
    exact hd o ho e he hb

/-- What an operand of operation i is. -/
def Knows (ops : Array Oper) (a0 : Act) (kn : Nat → VP) (i : Nat) (x : Operand) (V : VP) : Prop := ∀ a w, FKept ops a0 a → FDeps ops kn i a w → V (a.eval x) w

theorem knows_const (c : Value) : Knows ops a0 kn i (.const c) (isVal c) := fun _ _ _ _ => rfl
theorem knows_old (t : Tmp) (v : Value) (h : (ops.toList.all fun o => o.dst != some t) = true) (hv : a0.tmps.getD t undef = v) : Knows ops a0 kn i (.tmp t) (isVal v) := fun a w hk _ => (hk.2.2 t h).trans hv
theorem knows_new (t : Tmp) (j : Nat) (h : waits ops i j = true) (hj : (ops[j]?).bind (·.dst) = some t) (hV : kn j = V) : Knows ops a0 kn i (.tmp t) V := by
  intro a w _ hd
  cases ho : ops[j]? with
  | none => rw [ho] at hj; simp at hj
  | some o =>
    rw [ho] at hj
    rw [← hV]
    exact waits_done h hd o ho t (by simpa using hj)

/-- Operation i is carried out. -/
def Wanted (ops : Array Oper) (a0 : Act) (kn : Nat → VP) (i : Nat) : Prop := ∀ a w, FKept ops a0 a → FDeps ops kn i a w → ∀ o, ops[i]? = some o → Region.wanted o (yielded ops a.tmps) = true
theorem wanted_none (h : (ops[i]?).map (·.guard) = some none) : Wanted ops a0 kn i := by
  intro a w _ _ o ho
  rw [ho] at h
  simp only [Option.map_some, Option.some.injEq] at h
  simp [Region.wanted, h]
theorem yielded_of {j : Nat} {t : Tmp} {a : Act} {b : Bool} (hj : (ops[j]?).bind (·.dst) = some t) (hv : a.tmps.getD t undef = .bool b) : yielded ops a.tmps j = some b := by
  unfold yielded
  rw [hj]
  simp only [Option.bind_some]
  rw [Array.getD_eq_getD_getElem?] at hv
  cases h : a.tmps[t]? with
  | none => rw [h] at hv; simp [undef] at hv
  | some x => rw [h] at hv; simp only [Option.getD_some] at hv; subst hv; rfl
theorem wanted_some (j : Nat) (t : Tmp) (b : Bool) (h : (ops[i]?).map (·.guard) = some (some (j, b))) (hw : waits ops i j = true) (hj : (ops[j]?).bind (·.dst) = some t) (hV : kn j = isVal (.bool b)) : Wanted ops a0 kn i := by
  intro a w hk hd o ho
  have hv := knows_new (a0 := a0) t j hw hj hV a w hk hd
  rw [ho] at h
  simp only [Option.map_some, Option.some.injEq] at h
  simp only [Region.wanted, h]
  rw [yielded_of hj hv]
  simp
/-- Operation i is passed over. -/
theorem step_skip (j : Nat) (t : Tmp) (b c : Bool) (h : (ops[i]?).map (·.guard) = some (some (j, b))) (hw : waits ops i j = true) (hj : (ops[j]?).bind (·.dst) = some t) (hV : kn j = isVal (.bool c)) (hbc : (c == b) = false) :
    FStep P ops base a0 Q kn i (isVal undef) := by
  refine ⟨stable_val _, fun o ho a w hk hb hd => ?_⟩
  have hv := knows_new (a0 := a0) t j hw hj hV a w hk hd
  have h' := h
  rw [ho] at h'
  simp only [Option.map_some, Option.some.injEq] at h'
  have hwn : Region.wanted o (yielded ops a.tmps) = false := by
    simp only [Region.wanted, h']
    rw [yielded_of hj hv]
    simpa using hbc
  unfold wpOp
  simp only [ho, hwn]
  exact ⟨undef, rfl, rfl, Below.refl _ _⟩

theorem step_mk (hst : Stable V) (hw : Wanted ops a0 kn i)
    (h : ∀ o, ops[i]? = some o → ∀ a w, FKept ops a0 a → Below base.heap.size base w → FDeps ops kn i a w → o.wp P a w (fun a' w' => ∃ v, a' = a.put o.dst v ∧ V v w' ∧ Below w.heap.size w w') Q) : FStep P ops base a0 Q kn i V := by
  refine ⟨hst, fun o ho a w hk hb hd => ?_⟩
  have hwn := hw a w hk hd o ho
  unfold wpOp
  simp only [ho, hwn, if_true]
  exact .inl (h o ho a w hk hb hd)

theorem op_of {OP : Op} (hop : (ops[i]?).map (·.op) = some OP) {o : Oper} (ho : ops[i]? = some o) : o.op = OP := by
  rw [ho] at hop
  simpa using hop

theorem step_move (x : Operand) (hop : (ops[i]?).map (·.op) = some (.move x)) (hw : Wanted ops a0 kn i) (hst : Stable V) (hx : Knows ops a0 kn i x V) : FStep P ops base a0 Q kn i V :=
  step_mk hst hw fun o ho a w hk hb hd => by
    unfold Oper.wp execOp
    rw [op_of hop ho]
    exact ⟨_, rfl, hx a w hk hd, Below.refl _ _⟩
theorem step_assign (x : Operand) (hop : (ops[i]?).map (·.op) = some (.assign x)) (hw : Wanted ops a0 kn i) (hst : Stable V) (hx : Knows ops a0 kn i x V) : FStep P ops base a0 Q kn i V :=
  step_mk hst hw fun o ho a w hk hb hd => by
    unfold Oper.wp execOp
    rw [op_of hop ho]
    exact ⟨_, rfl, hx a w hk hd, Below.refl _ _⟩
theorem step_pick (c x y : Operand) (b : Bool) (hop : (ops[i]?).map (·.op) = some (.pick c x y)) (hw : Wanted ops a0 kn i) (hst : Stable V) (hc : Knows ops a0 kn i c (isVal (.bool b)))
    (hx : Knows ops a0 kn i (if b then x else y) V) : FStep P ops base a0 Q kn i V :=
  step_mk hst hw fun o ho a w hk hb hd => by
    have hcv : a.eval c = .bool b := hc a w hk hd
    have hxv := hx a w hk hd
    unfold Oper.wp execOp
    rw [op_of hop ho]
    simp only [hcv, asBool, Sem.run_bind, Sem.run_pure, Result.andThen_ok, Oper.upon]
    cases b
    · exact ⟨_, rfl, hxv, Below.refl _ _⟩
    · exact ⟨_, rfl, hxv, Below.refl _ _⟩

/-- An operation that reckons, and leaves memory alone. -/
theorem step_pure {OP : Op} (v : Value) (hop : (ops[i]?).map (·.op) = some OP) (hw : Wanted ops a0 kn i)
    (h : ∀ (o : Oper) (a : Act) (w : World), o.op = OP → FKept ops a0 a → FDeps ops kn i a w → (execOp a.eval o).run P w = .ok (.value v) w) : FStep P ops base a0 Q kn i (isVal v) :=
  step_mk (stable_val v) hw fun o ho a w hk hb hd => by
    unfold Oper.wp
    rw [h o a w (op_of hop ho) hk hd]
    exact ⟨_, rfl, rfl, Below.refl _ _⟩
theorem step_bin (b : BinOp) (t t2 : TypeId) (x y : Operand) (vx vy v : Value) (hop : (ops[i]?).map (·.op) = some (.binOp b t x y t2)) (hw : Wanted ops a0 kn i)
    (hx : Knows ops a0 kn i x (isVal vx)) (hy : Knows ops a0 kn i y (isVal vy)) (hg : ∀ w, (eqGuard b t x y vx vy).run P w = .ok () w) (hr : ∀ w, (binOp b t vx vy).run P w = .ok v w) : FStep P ops base a0 Q kn i (isVal v) :=
  step_pure v hop hw fun o a w ho hk hd => by
    have e1 : a.eval x = vx := hx a w hk hd
    have e2 : a.eval y = vy := hy a w hk hd
    unfold execOp
    rw [ho]
    simp only [e1, e2, Sem.run_bind, hg, hr, Result.andThen_ok, Sem.run_pure]
theorem step_un (b : UnOp) (t : TypeId) (x : Operand) (vx v : Value) (hop : (ops[i]?).map (·.op) = some (.unOp b t x)) (hw : Wanted ops a0 kn i)
    (hx : Knows ops a0 kn i x (isVal vx)) (hr : ∀ w, (Op.unary b vx).run P w = .ok v w) : FStep P ops base a0 Q kn i (isVal v) :=
  step_pure v hop hw fun o a w ho hk hd => by
    have e1 : a.eval x = vx := hx a w hk hd
    unfold execOp
    rw [ho]
    simp only [e1, Sem.run_bind, hr, Result.andThen_ok, Sem.run_pure]
theorem step_extract (x : Operand) (n : Nat) (vs : Array Value) (v : Value) (hop : (ops[i]?).map (·.op) = some (.extract x n)) (hw : Wanted ops a0 kn i)
    (hx : Knows ops a0 kn i x (isVal (.tuple vs))) (hv : vs[n]? = some v) : FStep P ops base a0 Q kn i (isVal v) :=
  step_pure v hop hw fun o a w ho hk hd => by
    have e1 : a.eval x = .tuple vs := hx a w hk hd
    unfold execOp
    rw [ho]
    simp only [e1, Instr.extract, hv, Sem.run_bind, Result.andThen_ok, Sem.run_pure]
theorem step_conv (s d : TypeId) (x : Operand) (vx v : Value) (hop : (ops[i]?).map (·.op) = some (.convert s d x)) (hw : Wanted ops a0 kn i)
    (hx : Knows ops a0 kn i x (isVal vx)) (hr : ∀ w, (convert s d vx).run P w = .ok v w) : FStep P ops base a0 Q kn i (isVal v) :=
  step_pure v hop hw fun o a w ho hk hd => by
    have e1 : a.eval x = vx := hx a w hk hd
    unfold execOp
    rw [ho]
    simp only [e1, Sem.run_bind, hr, Result.andThen_ok, Sem.run_pure]
/-- 'string(b)' of a row of bytes. -/
theorem step_convRow (s d e : TypeId) (x : Operand) (l : List UInt8) (hop : (ops[i]?).map (·.op) = some (.convert s d x)) (hw : Wanted ops a0 kn i) (hx : Knows ops a0 kn i x (isRow l))
    (hs : P.underlying s = some (.slice e)) (he : P.underlying e = some (.int .u8)) (hd' : P.underlying d = some .string) : FStep P ops base a0 Q kn i (isVal (.string ⟨l.toArray⟩)) :=
  step_pure _ hop hw fun o a w ho hk hd => by
    obtain ⟨g, e1, _, hr⟩ := hx a w hk hd
    unfold execOp
    rw [ho]
    simp only [e1, Sem.run_bind, hr.back (P := P) s d e l.length l.length rfl hs he hd', Result.andThen_ok, Sem.run_pure]
/-- A literal of bytes. -/
theorem step_row (t e : TypeId) (parts : Array (Nat × Operand)) (l : List UInt8) (ie : TypeInfo) (hop : (ops[i]?).map (·.op) = some (.buildSlice t l.length parts)) (hw : Wanted ops a0 kn i)
    (hu : P.underlying t = some (.slice e)) (hie : P.info? e = some ie) (hz : ie.zero = some (.int .u8 0)) (hsz : ie.size = 1) (hlen : 0 < l.length) (hlen2 : l.length ≤ 16777216)
    (hparts : parts.toList = (l.zipIdx 0).map fun x => (x.2, Operand.const (Value.int .u8 (x.1.toNat : Int)))) : FStep P ops base a0 Q kn i (isRow l) :=
  step_mk (stable_row l) hw fun o ho a w hk hb hd => by
    have hf : Instr.fill (fun i => some (i * ie.size, ie.size)) ((Array.range (l.length * ie.size)).map ((Value.int .u8 0).cells[· % (Value.int .u8 0).cells.size]!)) (parts.map fun (i, x) => (i, a.eval x)).toList = some (l.map fun b => Value.int .u8 (b.toNat : Int)).toArray := by
      have e1 : (parts.map fun (i, x) => (i, a.eval x)).toList = (((l.map fun b => (b.toNat : Int)).map (Value.int .u8)).zipIdx 0).map fun x => (x.2, x.1) := by
        refine parts_eval a parts .u8 (l.map fun b => (b.toNat : Int)) ?_
        rw [hparts, List.zipIdx_map, List.map_map]
        rfl
      rw [e1, hsz]
      rw [Great.fill_flat _ _ (fun v hv => by obtain ⟨n, _, rfl⟩ := List.mem_map.1 hv; rfl) (by simp)]
      rw [List.map_map]
      rfl
    refine wp_buildSlice t e l.length parts (op_of hop ho) _ ie (.int .u8 0) hu hie hz (by rw [hsz]; omega) (by rw [hsz]; omega) hf ?_
    refine ⟨_, rfl, ⟨w.heap.size, rfl, by simp, fun j hj => ⟨?_, World.frozen?_alloc_new w _ _ _⟩⟩, (Below.refl _ _).alloc (Nat.le_refl _) _⟩
    rw [World.cell?_alloc_new]
    simp [hj]
/-- A call of a function of the program. -/
theorem step_call (f : FuncId) (xs : Array Operand) (ts : Array TypeId) (vs : Array Value) (hop : (ops[i]?).map (·.op) = some (.call { callee := .value (.func f), args := xs, argTypes := ts })) (hw : Wanted ops a0 kn i) (hst : Stable V)
    (hx : ∀ a w, FKept ops a0 a → FDeps ops kn i a w → xs.map a.eval = vs) (hent : Enters P f)
    (hc : ∀ w, Below base.heap.size base w → Calls P f vs w fun e w' => ∃ v, e = .returned v ∧ V v w' ∧ Below w.heap.size w w') : FStep P ops base a0 Q kn i V :=
  step_mk hst hw fun o ho a w hk hb hd => by
    unfold Oper.wp execOp
    rw [op_of hop ho]
    have e1 : xs.map a.eval = vs := hx a w hk hd
    have e2 : a.eval (.func f) = .func (.func f) #[] #[] := rfl
    simp only [resolve, e1, e2, Deferred.ofValue, Sem.run_bind, Sem.run_pure, Result.andThen_ok, invoke, Array.append_empty, Array.empty_append]
    rw [hent]
    simp only [Oper.upon]
    refine (hc w hb).mono ?_
    rintro e w' ⟨v, rfl, hv, hbw⟩
    exact ⟨v, rfl, hv, hbw⟩
theorem args_nil : ∀ a w, FKept ops a0 a → FDeps ops kn i a w → (#[] : Array Operand).map a.eval = #[] := fun _ _ _ _ => by simp
theorem args1 (x : Operand) (v : Value) (hx : Knows ops a0 kn i x (isVal v)) : ∀ a w, FKept ops a0 a → FDeps ops kn i a w → #[x].map a.eval = #[v] := fun a w hk hd => by
  have := hx a w hk hd
  simp only [isVal] at this
  simp [this]
theorem args2 (x y : Operand) (v u : Value) (hx : Knows ops a0 kn i x (isVal v)) (hy : Knows ops a0 kn i y (isVal u)) : ∀ a w, FKept ops a0 a → FDeps ops kn i a w → #[x, y].map a.eval = #[v, u] := fun a w hk hd => by
  have h1 := hx a w hk hd
  have h2 := hy a w hk hd
  simp only [isVal] at h1 h2
  simp [h1, h2]
theorem args3 (x y z : Operand) (v u s : Value) (hx : Knows ops a0 kn i x (isVal v)) (hy : Knows ops a0 kn i y (isVal u)) (hz : Knows ops a0 kn i z (isVal s)) : ∀ a w, FKept ops a0 a → FDeps ops kn i a w → #[x, y, z].map a.eval = #[v, u, s] := fun a w hk hd => by
  have h1 := hx a w hk hd
  have h2 := hy a w hk hd
  have h3 := hz a w hk hd
  simp only [isVal] at h1 h2 h3
  simp [h1, h2, h3]
end

theorem eql_str {P : Program} (t : TypeId) (l m : List UInt8) (b : Bool) (h : (l == m) = b) (w : World) : (binOp .eql t (.string ⟨l.toArray⟩) (.string ⟨m.toArray⟩)).run P w = .ok (.bool b) w := by
  rw [binOp_string_eql, ByteArray.toList_mk, ByteArray.toList_mk, h]; rfl
theorem neq_str {P : Program} (t : TypeId) (l m : List UInt8) (b : Bool) (h : (l != m) = b) (w : World) : (binOp .neq t (.string ⟨l.toArray⟩) (.string ⟨m.toArray⟩)).run P w = .ok (.bool b) w := by
  have e : binOp .neq t (.string ⟨l.toArray⟩) (.string ⟨m.toArray⟩) = pure (.bool ((⟨l.toArray⟩ : ByteArray).toList != (⟨m.toArray⟩ : ByteArray).toList)) := by simp [binOp, Op.stringOp]; rfl
  rw [e, ByteArray.toList_mk, ByteArray.toList_mk, h]; rfl
theorem eql_int {P : Program} (t : TypeId) (k : IntKind) (x y : Int) (b : Bool) (h : (x == y) = b) (w : World) : (binOp .eql t (.int k x) (.int k y)).run P w = .ok (.bool b) w := by
  simp [go_sem, h]
theorem neq_int {P : Program} (t : TypeId) (k : IntKind) (x y : Int) (b : Bool) (h : (x != y) = b) (w : World) : (binOp .neq t (.int k x) (.int k y)).run P w = .ok (.bool b) w := by
  simp [go_sem, h]

/-- The operations of a region, out of a function's text. -/
def opsOf (n : Nat) : Code → Option (Array Oper)
  | .region k ops _ => if k = n then some ops else none
  | .seq a b => match opsOf n a with
    | some x => some x
    | none => opsOf n b
  | .cond _ a b => match opsOf n a with
    | some x => some x
    | none => opsOf n b
  | .block _ c => opsOf n c
  | .loop c => opsOf n c
  | .scope c => opsOf n c
  | _ => none
def regionOf (f : Func) (n : Nat) : Array Oper := (f.body.bind (opsOf n)).getD #[]
end Go.Proofs.YtipiioggdalkoaaGreatDoor
end
section
namespace Go.Proofs.YtipiioggdalkoaaGreatDoor
open Go.RowKit
set_option linter.unusedVariables false
set_option linter.unusedSimpArgs false

section
variable {P : Program} {ops : Array Oper} {base : World} {a0 : Act} {Q : Exit → Act → World → Prop} {kn : Nat → VP} {i : Nat} {V : VP}

/-- make([]byte, n) -/
theorem step_make (t e : TypeId) (x : Operand) (n : Nat) (hop : (ops[i]?).map (·.op) = some (.makeSlice t x x)) (hw : Wanted ops a0 kn i) (hx : Knows ops a0 kn i x (isVal (.int .i64 (n : Int))))
    (ht : P.underlying t = some (.slice e)) (hi : (P.info? e).map (fun i => (i.zero, i.size, i.bytes)) = some (some (.int .u8 0), 1, 1)) (hn : n ≤ 1000000) : FStep P ops base a0 Q kn i (isRow (List.replicate n 0)) :=
  step_mk (stable_row _) hw fun o ho a w hk hb hd => by
    have e1 : a.eval x = .int .i64 (n : Int) := hx a w hk hd
    have hr := run_make_row' (P := P) t e (.int .u8 0) 1 ht hi rfl .i64 .i64 n (by omega) (by omega) w
    unfold Oper.wp execOp
    rw [op_of hop ho]
    simp only [e1, Sem.run_bind, hr, Result.andThen_ok, Sem.run_pure]
    refine ⟨_, rfl, ⟨w.heap.size, by simp, by simp, BRow.made w e n⟩, (Below.refl _ _).alloc (Nat.le_refl _) _⟩

/-- A place in an array. -/
theorem step_at (t e : TypeId) (x : Operand) (n k g : Nat) (hop : (ops[i]?).map (·.op) = some (.indexAddr t x (.const (.int .i64 (k : Int))))) (hw : Wanted ops a0 kn i) (hx : Knows ops a0 kn i x (isVal (.pointer (some ⟨g, 0, none⟩))))
    (ht : P.underlying t = some (.array n e)) (hs : P.cellsOf e = 1) (hi : (P.info? e).map (·.size) = some 1) (hk : k < n) : FStep P ops base a0 Q kn i (isVal (.pointer (some (Addr.add ⟨g, 0, none⟩ k)))) :=
  step_pure _ hop hw fun o a w ho hk' hd => by
    have e1 : a.eval x = .pointer (some ⟨g, 0, none⟩) := hx a w hk' hd
    have e2 : a.eval (.const (.int .i64 (k : Int))) = .int .i64 (k : Int) := rfl
    unfold execOp
    rw [ho]
    simp only [e1, e2, Sem.run_bind]
    obtain ⟨ie, hie, hz⟩ := Option.map_eq_some_iff.1 hi
    have hsz : (sizeOf e).run P w = .ok 1 w := by simp [sizeOf, typeInfo, hie, hz]
    simp [Instr.indexAt, run_underlying ht, Instr.sureAddr, asIntOf, hsz, hk]

/-- What stands in a place that was there ahead of the region. -/
theorem step_cell (t : TypeId) (x : Operand) (p : Addr) (v : Value) (d : TypeDesc) (hop : (ops[i]?).map (·.op) = some (.load t x)) (hw : Wanted ops a0 kn i) (hx : Knows ops a0 kn i x (isVal (.pointer (some p))))
    (hc : base.cell? p = some v) (hp : p.block < base.heap.size) (hu : P.underlying t = some (.int .u8)) : FStep P ops base a0 Q kn i (isVal v) :=
  step_mk (stable_val _) hw fun o ho a w hk hb hd => by
    have e1 : a.eval x = .pointer (some p) := hx a w hk hd
    have e2 : w.cell? p = some v := (hb.cell hp).trans hc
    unfold Oper.wp execOp
    rw [op_of hop ho]
    simp only [e1, Instr.loadAt, Instr.sureAddr, Sem.run_bind, Sem.run_pure, Result.andThen_ok]
    simp [loadVar, isAgg, run_underlying hu, e2, Oper.upon]
    exact ⟨v, rfl, rfl, Below.refl _ _⟩

theorem step_whole (t e : TypeId) (x : Operand) (g : Nat) (n : Nat) (cs : Array Value) (t' : TypeId) (fr : Nat × Nat) (hop : (ops[i]?).map (·.op) = some (.load t x)) (hw : Wanted ops a0 kn i) (hx : Knows ops a0 kn i x (isVal (.pointer (some ⟨g, 0, none⟩))))
    (hc : base.heap[g]? = some (.cells cs t' fr)) (hu : P.underlying t = some (.array n e)) (hi : (P.info? t).map (·.size) = some cs.size) : FStep P ops base a0 Q kn i (isVal (.agg cs)) :=
  step_mk (stable_val _) hw fun o ho a w hk hb hd => by
    have e1 : a.eval x = .pointer (some ⟨g, 0, none⟩) := hx a w hk hd
    have hg : g < base.heap.size := (Array.getElem?_eq_some_iff.1 hc).1
    have e2 : w.heap[g]? = some (.cells cs t' fr) := (hb.block g hg).trans hc
    exact wp_load_row t x (op_of hop ho) g e1 t' cs fr _ e2 hu rfl hi ⟨_, rfl, rfl, Below.refl _ _⟩

theorem step_none (t : TypeId) (cs : Array Value) (hop : (ops[i]?).map (·.op) = some (.build t #[])) (hw : Wanted ops a0 kn i) (hb : P.built t [] = some cs) : FStep P ops base a0 Q kn i (isVal (.agg cs)) :=
  step_pure _ hop hw fun o a w ho hk hd => by
    unfold execOp
    rw [ho]
    simp only [Sem.run_bind]
    rw [run_build (P := P) w t _ cs (by simpa using hb)]
    rfl

/-- A literal of four bytes that were found out. -/
theorem step_row4 (t e : TypeId) (x0 x1 x2 x3 : Operand) (b0 b1 b2 b3 : UInt8) (hop : (ops[i]?).map (·.op) = some (.buildSlice t 4 #[(0, x0), (1, x1), (2, x2), (3, x3)])) (hw : Wanted ops a0 kn i)
    (h0 : Knows ops a0 kn i x0 (isVal (.int .u8 (b0.toNat : Int)))) (h1 : Knows ops a0 kn i x1 (isVal (.int .u8 (b1.toNat : Int)))) (h2 : Knows ops a0 kn i x2 (isVal (.int .u8 (b2.toNat : Int)))) (h3 : Knows ops a0 kn i x3 (isVal (.int .u8 (b3.toNat : Int))))
    (hu : P.underlying t = some (.slice e)) (hi : (P.info? e).map (fun i => (i.zero, i.size, i.bytes)) = some (some (.int .u8 0), 1, 1)) : FStep P ops base a0 Q kn i (isRow [b0, b1, b2, b3]) :=
  step_mk (stable_row _) hw fun o ho a w hk hb hd => by
    obtain ⟨ie, hie, hzz⟩ := Option.map_eq_some_iff.1 hi
    simp only [Prod.mk.injEq] at hzz
    obtain ⟨hz, hsz, _⟩ := hzz
    have e0 : a.eval x0 = _ := h0 a w hk hd
    have e1 : a.eval x1 = _ := h1 a w hk hd
    have e2 : a.eval x2 = _ := h2 a w hk hd
    have e3 : a.eval x3 = _ := h3 a w hk hd
    have hf : Instr.fill (fun i => some (i * ie.size, ie.size)) ((Array.range (4 * ie.size)).map ((Value.int .u8 0).cells[· % (Value.int .u8 0).cells.size]!)) (#[(0, x0), (1, x1), (2, x2), (3, x3)].map fun (i, x) => (i, a.eval x)).toList = some ([b0, b1, b2, b3].map fun b => Value.int .u8 (b.toNat : Int)).toArray := by
      have e4 : (#[(0, x0), (1, x1), (2, x2), (3, x3)].map fun (i, x) => (i, a.eval x)).toList = (([b0, b1, b2, b3].map fun b => Value.int .u8 (b.toNat : Int)).zipIdx 0).map fun x => (x.2, x.1) := by
        simp [e0, e1, e2, e3]
      rw [e4, hsz]
      exact Great.fill_flat _ _ (fun v hv => by obtain ⟨n, _, rfl⟩ := List.mem_map.1 hv; rfl) (by simp)
    refine wp_buildSlice t e 4 _ (op_of hop ho) _ ie (.int .u8 0) hu hie hz (by rw [hsz]; omega) (by rw [hsz]; omega) hf ?_
    refine ⟨_, rfl, ⟨w.heap.size, rfl, by simp, fun j hj => ⟨?_, World.frozen?_alloc_new w _ _ _⟩⟩, (Below.refl _ _).alloc (Nat.le_refl _) _⟩
    rw [World.cell?_alloc_new]
    simp only [List.getElem?_toArray, List.getElem?_map, List.getElem?_eq_getElem hj, Option.map_some]
end

/-- Four bytes are alike where each is. -/
theorem eql_four {P : Program} (t e : TypeId) (x0 x1 x2 x3 y0 y1 y2 y3 : Int) (b : Bool) (hu : P.underlying t = some (.array 4 e)) (he : P.underlying e = some (.int .u8)) (hi : (P.info? e).map (·.size) = some 1)
    (hb : (x0 == y0 && x1 == y1 && x2 == y2 && x3 == y3) = b) (w : World) :
    (binOp .eql t (.agg #[.int .u8 x0, .int .u8 x1, .int .u8 x2, .int .u8 x3]) (.agg #[.int .u8 y0, .int .u8 y1, .int .u8 y2, .int .u8 y3])).run P w = .ok (.bool b) w := by
  obtain ⟨ie, hie, hz⟩ := Option.map_eq_some_iff.1 hi
  have hc : P.cellsOf e = 1 := by simp [Program.cellsOf, hie, hz]
  rw [run_eql_struct, show (10000 : Nat) = 9999 + 1 from rfl, run_equalIn_array w 9999 _ _ hu hie, hc]
  have hsz : ∀ w, (sizeOf e).run P w = .ok 1 w := fun w => by simp [sizeOf, typeInfo, hie, hz]
  rw [show List.range 4 = [0, 1, 2, 3] from rfl, ← hb]
  have hp : ∀ (xs : Array Value) (off : Nat) (v : Value) (w : World), xs[off]? = some v → (part e xs off).run P w = .ok v w := fun xs off v w hx => by simp [part, isAgg, run_underlying he, hx]
  have heq : ∀ (x y : Int) (w : World), (Op.equalIn 9999 e (.int .u8 x) (.int .u8 y)).run P w = .ok (x == y) w := fun x y w => run_equalIn_int w 9998 e .u8 .u8 x y he
  simp only [Op.eqItems, Sem.run_bind, Nat.zero_mul, Nat.mul_one]
  rw [hp _ 0 (.int .u8 x0) w rfl]
  simp only [Result.andThen_ok]
  rw [hp _ 0 (.int .u8 y0) w rfl]
  simp only [Result.andThen_ok]
  rw [heq x0 y0]
  cases h0 : x0 == y0 with
  | false => simp
  | true =>
    simp only [Result.andThen_ok, Bool.not_true, Bool.false_eq_true, if_false, Sem.run_pure, Sem.run_bind]
    rw [hp _ 1 (.int .u8 x1) w rfl]
    simp only [Result.andThen_ok]
    rw [hp _ 1 (.int .u8 y1) w rfl]
    simp only [Result.andThen_ok]
    rw [heq x1 y1]
    cases h1 : x1 == y1 with
    | false => simp
    | true =>
      simp only [Result.andThen_ok, Bool.not_true, Bool.false_eq_true, if_false, Sem.run_pure, Sem.run_bind]
      rw [hp _ 2 (.int .u8 x2) w rfl]
      simp only [Result.andThen_ok]
      rw [hp _ 2 (.int .u8 y2) w rfl]
      simp only [Result.andThen_ok]
      rw [heq x2 y2]
      cases h2 : x2 == y2 with
      | false => simp
      | true =>
        simp only [Result.andThen_ok, Bool.not_true, Bool.false_eq_true, if_false, Sem.run_pure, Sem.run_bind]
        rw [hp _ 3 (.int .u8 x3) w rfl]
        simp only [Result.andThen_ok]
        rw [hp _ 3 (.int .u8 y3) w rfl]
        simp only [Result.andThen_ok]
        rw [heq x3 y3]
        cases h3 : x3 == y3 with
        | false => simp
        | true => simp
end Go.Proofs.YtipiioggdalkoaaGreatDoor
end
section
namespace Go.Proofs.YtipiioggdalkoaaGreatDoor
open Go.RowKit
set_option linter.unusedVariables false

/-- A slice of bytes that is read as this text, now and later. -/
def isTxt (l : List UInt8) : VP := fun v w => ∀ W, Below w.heap.size w W → (convert 65 9 v).run Tryz.prog W = .ok (.string ⟨l.toArray⟩) W
theorem stable_txt (l : List UInt8) : Stable (isTxt l) := fun v w w' h hb W hW => h W (hb.trans (hW.mono hb.size))
theorem isTxt_at {w : World} {g off cap : Nat} {l : List UInt8} (hg : g < w.heap.size) (hc : ∀ j (hj : j < l.length), w.cell? ⟨g, off + j, none⟩ = some (.int .u8 (l[j].toNat : Int))) : isTxt l (.slice (some ⟨g, off, none⟩) l.length cap) w := by
  intro W hb
  refine run_convert_bytes_back W 65 9 5 ⟨g, off, none⟩ cap l Tryz.underlying65 Tryz.underlying5 Tryz.underlying9 (fun j hj => ?_)
  have e : (⟨g, off, none⟩ : Addr).add j = ⟨g, off + j, none⟩ := by
    by_cases e0 : j = 0
    · subst e0; simp [Addr.add]
    · simp [Addr.add, e0]
  rw [e, hb.cell (p := ⟨g, off + j, none⟩) hg]
  exact hc j hj
set_option maxRecDepth 100000 in
set_option maxHeartbeats 400000 in
theorem halves_any (l : List UInt8) (w : World) (hl : l.length ≤ 1000000) :
    Calls Tryz.prog 55 #[.string ⟨l.toArray⟩] w fun e w' => ∃ v0 v1, e = .returned (.tuple #[v0, v1]) ∧ isTxt (l.take (l.length / 2)) v0 w' ∧ isTxt (l.drop (l.length / 2)) v1 w' ∧ Below w.heap.size w w' := by
  have hsz : (⟨l.toArray⟩ : ByteArray).size = l.length := size_mk l
  have hcv := fun W => Lib.run_convert_string_bytes (P := Tryz.prog) W 9 65 5 ⟨l.toArray⟩ Tryz.underlying9 Tryz.underlying65 Tryz.underlying5
  have hcap := grownCap_ge w l.length 0 5
  have hq : Int.tdiv (l.length : Int) 2 = ((l.length / 2 : Nat) : Int) := by rw [Int.tdiv_eq_ediv_of_nonneg (by omega)]; rfl
  go_enter Tryz.func55, Tryz.ntmps55
  go_wp2_with fail
  go_region
  have hrow : BRow (Lib.bytesWorld w 5 ⟨l.toArray⟩) w.heap.size l := by simpa using bytesWorld_row w 5 ⟨l.toArray⟩
  have hbw := bytesWorld_below w 5 ⟨l.toArray⟩
  have hg : w.heap.size < (Lib.bytesWorld w 5 ⟨l.toArray⟩).drew.heap.size := by show _ < (Lib.bytesWorld w 5 ⟨l.toArray⟩).heap.size; rw [Lib.bytesWorld_size]; omega
  have t0 := isTxt_at (w := (Lib.bytesWorld w 5 ⟨l.toArray⟩).drew) (off := 0) (cap := l.length / 2) (l := l.take (l.length / 2)) hg (fun j hj => by
    rw [List.length_take] at hj
    rw [Nat.zero_add]
    simpa using (hrow j (by omega)).1)
  have t1 := isTxt_at (w := (Lib.bytesWorld w 5 ⟨l.toArray⟩).drew) (off := l.length / 2) (cap := l.length - l.length / 2) (l := l.drop (l.length / 2)) hg (fun j hj => by
    rw [List.length_drop] at hj
    simpa using (hrow (l.length / 2 + j) (by omega)).1)
  rw [List.length_take, Nat.min_eq_left (by omega)] at t0
  rw [List.length_drop] at t1
  have T0 := Lib.hid t0
  have T1 := Lib.hid t1
  have HB := Lib.hid hbw.drew
  clear t0 t1 hbw hrow hg hcv
  generalize (Lib.bytesWorld w 5 ⟨l.toArray⟩).drew = W at *
  clear hq hsz hcap
  generalize grownCap w l.length 0 5 = cp at *
  generalize hcc : (if l.length = l.length / 2 then some (⟨w.heap.size, 0, none⟩ : Addr) else some ⟨w.heap.size, l.length / 2, none⟩) = ad at *
  have HC := Lib.hid hcc
  clear hcc
  have hmm : l.length / 2 ≤ l.length ∧ (l.length = l.length / 2 → l.length = 0) := ⟨by omega, by omega⟩
  have HM := Lib.hid hmm
  clear hmm
  obtain ⟨m, hm⟩ : ∃ m, m = l.length / 2 := ⟨_, rfl⟩
  rw [← hm] at T0 T1 HC HM ⊢
  have HE := Lib.hid hm
  clear hm
  go_wp2
  go_ret2
  rw [← HE.out]
  refine ⟨_, _, rfl, T0.out, ?_, HB.out⟩
  have hc := HC.out
  show isTxt (l.drop m) (.slice ad (l.length - m) (l.length - m)) W
  rw [← hc]
  by_cases h0 : l.length = m
  · have h2 := HM.out.2 h0
    have h3 : m = 0 := by omega
    rw [if_pos h0]
    have T1' := T1.out
    rw [h3] at T1' ⊢
    exact T1'
  · rw [if_neg h0]
    exact T1.out

theorem step_convTxt {ops : Array Oper} {base : World} {a0 : Act} {Q : Exit → Act → World → Prop} {kn : Nat → VP} {i : Nat} (x : Operand) (v : Value) (l : List UInt8) (hop : (ops[i]?).map (·.op) = some (.convert 65 9 x)) (hw : Wanted ops a0 kn i)
    (hx : Knows ops a0 kn i x (isVal v)) (ht : isTxt l v base) : FStep Tryz.prog ops base a0 Q kn i (isVal (.string ⟨l.toArray⟩)) :=
  step_mk (stable_val _) hw fun o ho a w hk hb hd => by
    have e1 : a.eval x = v := hx a w hk hd
    unfold Oper.wp execOp
    rw [op_of hop ho]
    simp only [e1, Sem.run_bind, ht w hb, Result.andThen_ok, Sem.run_pure]
    exact ⟨_, rfl, rfl, Below.refl _ _⟩
theorem call_not (t : List UInt8) (ht : t.length ≤ 1000000000) (w : World) :
    Calls Tryz.prog 56 #[.string ⟨t.toArray⟩] w fun e w' => ∃ v, e = .returned v ∧ isVal (.string ⟨(notL t).toArray⟩) v w' ∧ Below w.heap.size w w' :=
  (not_l t w ht).mono (by rintro e w' ⟨rfl, hb⟩; exact ⟨_, rfl, rfl, hb⟩)
noncomputable def readOps : Array Oper := regionOf Tryz.f30 3
set_option maxRecDepth 100000 in
set_option maxHeartbeats 1000000 in
theorem read_region (Q : Exit → Act → World → Prop) (a0 : Act) (w0 : World) (hsz : a0.tmps.size = 23) (t b : List UInt8) (v : Value) (z : Bool) (ht : t.length ≤ 1000000) (hz : (notL t != b) = z)
    (h6 : a0.tmps.getD 6 undef = .string ⟨t.toArray⟩) (h5 : a0.tmps.getD 5 undef = v) (hv : isTxt b v w0)
    (hQ : ∀ (a : Act) (w : World), a.defers = a0.defers → a.tmps.size = a0.tmps.size → (∀ t, (readOps.toList.all fun o => o.dst != some t) = true → a.tmps.getD t undef = a0.tmps.getD t undef) →
      a.tmps.getD 18 undef = .bool z → Below w0.heap.size w0 w → Q .normal a w) :
    (Code.region 3 readOps true).wp Tryz.prog Q a0 w0 := by
  refine wp_region_flow mixed (by rw [hsz]; kernel_rfl) ?_
  rw [show readOps.size = 5 by kernel_rfl]
  refine ⟨isVal (.string ⟨t.toArray⟩), step_move (.tmp 6) (by kernel_rfl) (wanted_none (by kernel_rfl)) (stable_val _) (knows_old 6 (.string ⟨t.toArray⟩) (by kernel_rfl) h6), ?_⟩
  refine ⟨isVal (.string ⟨(notL t).toArray⟩), step_call 56 #[.tmp 14] #[9] #[.string ⟨t.toArray⟩] (by kernel_rfl) (wanted_none (by kernel_rfl)) (stable_val _) (args1 (.tmp 14) (.string ⟨t.toArray⟩) (knows_new (V := isVal (.string ⟨t.toArray⟩)) 14 0 (by kernel_rfl) (by kernel_rfl) (by kernel_rfl))) (enters_of Tryz.func56 (by kernel_rfl) rfl) (by intro w hb; exact call_not t (by omega) w), ?_⟩
  refine ⟨isVal v, step_move (.tmp 5) (by kernel_rfl) (wanted_none (by kernel_rfl)) (stable_val _) (knows_old 5 v (by kernel_rfl) h5), ?_⟩
  refine ⟨isVal (.string ⟨b.toArray⟩), step_convTxt (.tmp 16) v b (by kernel_rfl) (wanted_none (by kernel_rfl)) (knows_new (V := isVal v) 16 2 (by kernel_rfl) (by kernel_rfl) (by kernel_rfl)) hv, ?_⟩
  refine ⟨isVal (.bool z), step_bin .neq 9 9 (.tmp 15) (.tmp 17) (.string ⟨(notL t).toArray⟩) (.string ⟨b.toArray⟩) (.bool z) (by kernel_rfl) (wanted_none (by kernel_rfl)) (knows_new (V := isVal (.string ⟨(notL t).toArray⟩)) 15 1 (by kernel_rfl) (by kernel_rfl) (by kernel_rfl)) (knows_new (V := isVal (.string ⟨b.toArray⟩)) 17 3 (by kernel_rfl) (by kernel_rfl) (by kernel_rfl)) (fun _ => rfl) (neq_str _ _ _ _ hz), ?_⟩
  intro a w hkp hb hd
  exact hQ a w hkp.1 hkp.2.1 hkp.2.2 (by
    obtain ⟨o, ho⟩ : ∃ o, readOps[4]? = some o := ⟨_, Array.getElem?_eq_getElem (by rw [show readOps.size = 5 by kernel_rfl]; decide)⟩
    have hdst : (readOps[4]?).bind (·.dst) = some 18 := by kernel_rfl
    exact hd 4 (by rw [show readOps.size = 5 by kernel_rfl]; decide) o ho 18 (by rw [ho] at hdst; simpa using hdst)) hb
theorem arr_eta (a : Array Value) {n : Nat} (h : a.size = n) : a = ((List.range n).map fun i => a.getD i undef).toArray := by
  subst h
  apply Array.ext
  · simp
  · intro i h1 h2
    simp [Array.getD, h1]

set_option maxRecDepth 100000 in
set_option maxHeartbeats 1000000 in
theorem read_any (l : List UInt8) (w : World) (hl : l.length ≤ 2056) :
    Calls Tryz.prog 30 #[.string ⟨l.toArray⟩] w fun e w' => e = .returned (.tuple #[.string ⟨(readS l).toArray⟩, .int .i64 (readE l)]) ∧ Below w.heap.size w w' := by
  have hlen : (l.take (l.length / 2)).length ≤ 1028 := by rw [List.length_take]; omega
  have HS := Lib.hid (show readS l = if halfB l = true then openS (l.take (l.length / 2)) else [] from rfl)
  have HE := Lib.hid (show readE l = if halfB l = true then openE (l.take (l.length / 2)) else 2 from rfl)
  have HH := Lib.hid (show (notL (l.take (l.length / 2)) != l.drop (l.length / 2)) = !halfB l by unfold halfB; by_cases h : notL (l.take (l.length / 2)) = l.drop (l.length / 2) <;> simp [h])
  obtain ⟨hb, ehb⟩ : ∃ hb, hb = halfB l := ⟨_, rfl⟩
  rw [← ehb] at HS HE HH
  clear ehb
  go_enter Tryz.func30, Tryz.ntmps30
  go_wp2_with fail
  refine (halves_any l _ (by omega)).mono ?_
  rintro e w1 ⟨v0, v1, rfl, t0, t1, hB⟩
  have hc0 := t0 w1 (Below.refl _ _)
  clear t0
  have T1 := Lib.hid t1
  clear t1
  generalize l.take (l.length / 2) = fr at *
  generalize l.drop (l.length / 2) = bk at *
  go_wp2_with fail
  refine read_region _ _ _ rfl fr bk v1 (!hb) (by omega) HH.out rfl rfl T1.out ?_
  intro act w3 hdf hsz hkeep hn18 hb3
  have hk0 : act.tmps.getD 0 undef = (.string ⟨l.toArray⟩) := (hkeep 0 (by kernel_rfl)).trans rfl
  have hk2 : act.tmps.getD 2 undef = (.string ⟨#[]⟩) := (hkeep 2 (by kernel_rfl)).trans rfl
  have hk3 : act.tmps.getD 3 undef = (.int .i64 0) := (hkeep 3 (by kernel_rfl)).trans rfl
  have hk6 : act.tmps.getD 6 undef = (.string ⟨fr.toArray⟩) := (hkeep 6 (by kernel_rfl)).trans rfl
  obtain ⟨tm, df⟩ := act
  obtain rfl : df = [] := hdf
  clear hkeep
  obtain ⟨f, rfl, hk0, hk2, hk3, hk6, hn18⟩ : ∃ f : Nat → Value, tm = ((List.range 23).map f).toArray ∧ f 0 = (.string ⟨l.toArray⟩) ∧ f 2 = (.string ⟨#[]⟩) ∧ f 3 = (.int .i64 0) ∧ f 6 = (.string ⟨fr.toArray⟩) ∧ f 18 = (.bool (!hb)) := ⟨fun i => tm.getD i undef, arr_eta tm hsz, hk0, hk2, hk3, hk6, hn18⟩
  rewrite [show ((List.range 23).map f).toArray = #[f 0, f 1, f 2, f 3, f 4, f 5, f 6, f 7, f 8, f 9, f 10, f 11, f 12, f 13, f 14, f 15, f 16, f 17, f 18, f 19, f 20, f 21, f 22] from rfl]
  rewrite [hk0, hk2, hk3, hk6, hn18]
  clear hsz hk0 hk2 hk3 hk6 hn18
  have hB2 := hB.trans (hb3.mono hB.size)
  clear hB hb3
  cases hb with
  | false =>
    go_wp2
    go_ret2
    exact ⟨by rw [HS.out, HE.out]; rfl, hB2⟩
  | true =>
    have hS := HS.out
    have hE := HE.out
    rw [if_pos rfl] at hS hE
    have HS2 := Lib.hid hS
    have HE2 := Lib.hid hE
    clear hS hE HS HE HH
    go_wp2_with fail
    (with_reducible refine (open_any fr _ hlen).mono ?_); rintro e w4 ⟨rfl, hb4⟩
    replace hB2 := hB2.trans (hb4.mono hB2.size); clear hb4
    go_wp2
    go_ret2
    exact ⟨by rw [HS2.out, HE2.out]; rfl, hB2⟩

theorem make_any (l : List UInt8) (w : World) (hl : l.length ≤ 1024) :
    Calls Tryz.prog 32 #[.string ⟨l.toArray⟩] w fun e w' => e = .returned (.string ⟨(recL l).toArray⟩) ∧ Below w.heap.size w w' := by
  have hsl := length_sealL l
  have hnl := length_notL (sealL l)
  have hcat := fun W => run_string_add_lists (P := Tryz.prog) W (sealL l) (notL (sealL l)) (by omega) (by omega)
  have HR := Lib.hid (show sealL l ++ notL (sealL l) = recL l from rfl)
  go_enter Tryz.func32, Tryz.ntmps32
  go_wp2_with fail
  refine (seal_any l _ hl).mono ?_
  rintro e w1 ⟨rfl, hB⟩
  go_wp2_with fail
  (with_reducible refine (not_l (sealL l) _ (by omega)).mono ?_); rintro e w2 ⟨rfl, hb2⟩
  replace hB := hB.trans (hb2.mono hB.size); clear hb2
  go_wp2
  go_ret
  exact ⟨ret_str HR.out, hB⟩

theorem size_any (n : Int) (w : World) :
    Calls Tryz.prog 27 #[.int .i64 n] w fun e w' => e = .returned (.int .i64 (sizeN n)) ∧ w = w' := by
  by_cases h1 : n < 0
  · have d1 : decide (n < 0) = true := by simpa using h1
    go_enter Tryz.func27, Tryz.ntmps27
    go_wp2
    go_ret
    exact ⟨by simp [sizeN, h1], rfl⟩
  · have d1 : decide (n < 0) = false := by simpa using h1
    by_cases h2 : 4000 < n
    · have d2 : decide (4000 < n) = true := by simpa using h2
      go_enter Tryz.func27, Tryz.ntmps27
      go_wp2
      go_ret
      exact ⟨by simp [sizeN, h2], rfl⟩
    · have d2 : decide (4000 < n) = false := by simpa using h2
      go_enter Tryz.func27, Tryz.ntmps27
      go_wp2
      go_ret
      exact ⟨ret_int (by unfold sizeN; rw [if_neg (by omega)]), rfl⟩
end Go.Proofs.YtipiioggdalkoaaGreatDoor
end
section
namespace Go.Proofs.YtipiioggdalkoaaGreatDoor
open Go.RowKit
set_option linter.unusedVariables false
set_option linter.unusedSimpArgs false

/-- How many bytes a place has. -/
def szN (n : Int) : Nat := (sizeN n).toNat
theorem szN_eq (n : Int) : sizeN n = (szN n : Int) := by unfold szN sizeN; split <;> omega
theorem szN_le (n : Int) : szN n ≤ 8008 := by unfold szN sizeN; split <;> omega
theorem szN_even (n : Int) : szN n % 2 = 0 := by unfold szN sizeN; split <;> omega
def roomN (s : List UInt8) (n : Int) : Nat := s.length / szN n
theorem roomN_zero (s : List UInt8) (n : Int) (h : szN n = 0) : roomN s n = 0 := by unfold roomN; rw [h]; simp
theorem roomN_le (s : List UInt8) (n : Int) : roomN s n * szN n ≤ s.length := Nat.div_mul_le_self _ _
theorem roomN_len (s : List UInt8) (n : Int) : roomN s n ≤ s.length := Nat.div_le_self _ _
/-- The bytes of a place. -/
def slotL (s : List UInt8) (n : Int) (i : Nat) : List UInt8 := (s.drop (i * szN n)).take (szN n)
def slotI (s : List UInt8) (n i : Int) : List UInt8 := if 0 ≤ i ∧ i < (roomN s n : Int) then slotL s n i.toNat else []
def slotsL (s : List UInt8) (n : Int) : List (List UInt8) := (List.range (roomN s n)).map (slotL s n)
theorem slotL_len {s : List UInt8} {n : Int} {i : Nat} (h : i < roomN s n) : (slotL s n i).length = szN n := by
  have h1 := roomN_le s n
  have h2 : (i + 1) * szN n ≤ roomN s n * szN n := Nat.mul_le_mul_right _ h
  rw [Nat.add_mul, Nat.one_mul] at h2
  simp only [slotL, List.length_take, List.length_drop]
  omega

set_option maxHeartbeats 1000000 in
theorem room_any (s : List UInt8) (n : Int) (w : World) (hs : s.length ≤ 1000000000) :
    Calls Tryz.prog 17 #[.string ⟨s.toArray⟩, .int .i64 n] w fun e w' => e = .returned (.int .i64 (roomN s n : Int)) ∧ w = w' := by
  have hsz : (⟨s.toArray⟩ : ByteArray).size = s.length := size_mk s
  have HE := Lib.hid (szN_eq n)
  have HZ := Lib.hid (roomN_zero s n)
  have HR := Lib.hid (show (roomN s n : Int) = (s.length : Int) / (szN n : Int) by unfold roomN; simp)
  have hle := szN_le n
  have hrl := roomN_len s n
  generalize szN n = z at *
  generalize roomN s n = r at *
  by_cases h0 : z = 0
  · have d0 : ((z : Int) == 0) = true := by simp [h0]
    go_enter Tryz.func17, Tryz.ntmps17
    go_wp2_with fail
    ((with_reducible refine (size_any n _).mono ?_); rintro e w' ⟨rfl, rfl⟩)
    rw [HE.out]
    go_wp2
    go_ret
    exact ⟨by rw [HZ.out h0]; rfl, rfl⟩
  · have d0 : ((z : Int) == 0) = false := by simp; omega
    have hz1 : 0 < z := by omega
    have hq0 : 0 ≤ (s.length : Int) / (z : Int) := by rw [← HR.out]; omega
    have hq1 : (s.length : Int) / (z : Int) ≤ 1000000000 := by rw [← HR.out]; omega
    go_enter Tryz.func17, Tryz.ntmps17
    go_wp2_with fail
    ((with_reducible refine (size_any n _).mono ?_); rintro e w' ⟨rfl, rfl⟩)
    rw [HE.out]
    go_wp2
    go_ret
    exact ⟨by rw [HR.out]; rfl, rfl⟩
theorem ext_mid (l : List UInt8) (a b : Nat) : (⟨l.toArray⟩ : ByteArray).extract a b = ⟨((l.drop a).take (b - a)).toArray⟩ := by
  have h : ((⟨l.toArray⟩ : ByteArray).extract a b).data = (⟨((l.drop a).take (b - a)).toArray⟩ : ByteArray).data := by
    rw [ByteArray.data_extract]
    simp [List.extract_toArray, List.extract_eq_take_drop]
  cases hh : (⟨l.toArray⟩ : ByteArray).extract a b
  rw [hh] at h
  exact congrArg ByteArray.mk h
set_option maxHeartbeats 1000000 in
theorem slot_no (s : List UInt8) (n i : Int) (w : World) (hs : s.length ≤ 1000000000) (h : i < 0 ∨ (roomN s n : Int) ≤ i) :
    Calls Tryz.prog 18 #[.string ⟨s.toArray⟩, .int .i64 n, .int .i64 i] w fun e w' => e = .returned (.string ⟨#[]⟩) ∧ w = w' := by
  by_cases h0 : i < 0
  · have d0 : decide (i < 0) = true := by simpa using h0
    go_enter Tryz.func18, Tryz.ntmps18
    go_wp2
    go_ret
    exact ⟨rfl, rfl⟩
  · have d0 : decide (i < 0) = false := by simpa using h0
    have d1 : decide ((roomN s n : Int) ≤ i) = true := by simp; omega
    go_enter Tryz.func18, Tryz.ntmps18
    go_wp2_with fail
    ((with_reducible refine (room_any s n _ hs).mono ?_); rintro e w' ⟨rfl, rfl⟩)
    go_wp2
    go_ret
    exact ⟨rfl, rfl⟩
set_option maxHeartbeats 1000000 in
theorem slot_yes (s : List UInt8) (n : Int) (i : Nat) (w : World) (hs : s.length ≤ 1000000000) (h : i < roomN s n) :
    Calls Tryz.prog 18 #[.string ⟨s.toArray⟩, .int .i64 n, .int .i64 (i : Int)] w fun e w' => e = .returned (.string ⟨(slotL s n i).toArray⟩) ∧ w = w' := by
  have hsz : (⟨s.toArray⟩ : ByteArray).size = s.length := size_mk s
  have d0 : decide ((i : Int) < 0) = false := by simp
  have d1 : decide ((roomN s n : Int) ≤ (i : Int)) = false := by simp; omega
  have d1' : decide (roomN s n ≤ i) = false := by simp; omega
  have h1 := roomN_le s n
  have h2 : (i + 1) * szN n ≤ roomN s n * szN n := Nat.mul_le_mul_right _ h
  have h3 : (i + 1) * szN n = i * szN n + szN n := by rw [Nat.add_mul, Nat.one_mul]
  rw [h3] at h2
  have HE := Lib.hid (szN_eq n)
  have hz := szN_le n
  have HS := Lib.hid (show slotL s n i = (s.drop (i * szN n)).take (szN n) from rfl)
  have HM := Lib.hid (show (i : Int) * (szN n : Int) = ((i * szN n : Nat) : Int) by simp)
  have HM1 := Lib.hid (show ((i : Int) + 1) * (szN n : Int) = ((i * szN n + szN n : Nat) : Int) by rw [← h3]; push_cast; rfl)
  have HX := Lib.hid (ext_mid s (i * szN n) (i * szN n + szN n))
  have hil : i ≤ 1000000000 := Nat.le_trans (Nat.le_of_lt h) (Nat.le_trans (roomN_len s n) hs)
  generalize hzz : szN n = z at *
  generalize hq : i * z = q at *
  clear h3 hzz
  have hm0 : 0 ≤ (i : Int) * (z : Int) := by rw [HM.out]; omega
  have hm1 : (i : Int) * (z : Int) ≤ 1000000000 := by rw [HM.out]; omega
  have hm2 : 0 ≤ ((i : Int) + 1) * (z : Int) := by rw [HM1.out]; omega
  have hm3 : ((i : Int) + 1) * (z : Int) ≤ 1000000000 := by rw [HM1.out]; omega
  have hm4 : ((i : Int) + 1) * (z : Int) ≤ (s.length : Int) := by rw [HM1.out]; omega
  have hm5 : (i : Int) * (z : Int) ≤ ((i : Int) + 1) * (z : Int) := by rw [HM.out, HM1.out]; omega
  have HR := Lib.hid (show (⟨s.toArray⟩ : ByteArray).extract ((i : Int) * (z : Int)).toNat (((i : Int) + 1) * (z : Int)).toNat = ⟨(slotL s n i).toArray⟩ by
    rw [HM.out, HM1.out, Int.toNat_natCast, Int.toNat_natCast, HX.out, HS.out, Nat.add_sub_cancel_left])
  clear hq HS HX HM HM1 h1 h2
  go_enter Tryz.func18, Tryz.ntmps18
  go_wp2_with fail
  ((with_reducible refine (room_any s n _ hs).mono ?_); rintro e w' ⟨rfl, rfl⟩)
  go_wp2_with fail
  ((with_reducible refine (size_any n _).mono ?_); rintro e w' ⟨rfl, rfl⟩)
  rw [HE.out]
  go_wp2
  go_ret
  exact ⟨by rw [← HR.out]; rfl, rfl⟩
theorem slot_any (s : List UInt8) (n i : Int) (w : World) (hs : s.length ≤ 1000000000) :
    Calls Tryz.prog 18 #[.string ⟨s.toArray⟩, .int .i64 n, .int .i64 i] w fun e w' => e = .returned (.string ⟨(slotI s n i).toArray⟩) ∧ w = w' := by
  by_cases h : 0 ≤ i ∧ i < (roomN s n : Int)
  · obtain ⟨k, rfl⟩ := Int.eq_ofNat_of_zero_le h.1
    have := slot_yes s n k w hs (by omega)
    rwa [show slotI s n (k : Int) = slotL s n k by unfold slotI; rw [if_pos h]; rfl]
  · have := slot_no s n i w hs (by omega)
    rwa [show slotI s n i = [] by unfold slotI; rw [if_neg h]]
end Go.Proofs.YtipiioggdalkoaaGreatDoor
end
section
namespace Go.Proofs.YtipiioggdalkoaaGreatDoor
open Go.RowKit Go.Shelf
set_option linter.unusedVariables false
attribute [local go_sem] Oper.semAt_some

def encPl (s : List UInt8) (n : Int) (x : Nat) : Array Value := #[.int .i64 (x : Int), .string ⟨(slotL s n x).toArray⟩]
/-- Two boxes stay. -/
def Box2 (b c : Nat) (W W' : World) : Prop := W'.cell? ⟨b, 0, none⟩ = W.cell? ⟨b, 0, none⟩ ∧ W'.cell? ⟨c, 0, none⟩ = W.cell? ⟨c, 0, none⟩
theorem box2_t (b c : Nat) {A B C : World} (h : Box2 b c A B) (k : Box2 b c B C) : Box2 b c A C := ⟨k.1.trans h.1, k.2.trans h.2⟩
theorem box2_put (b c m : Nat) (hb : b < m) (hc : c < m) (W : World) (l : Nat) (o o' : Obj) (h : m ≤ l) (h1 : W.heap[l]? = some o) (h2 : o.isCells = false) (h3 : o.isWalk = false) : Box2 b c W (W.putObj l o') :=
  ⟨boxKept_put b m hb W l o o' h h1 h2 h3, boxKept_put c m hc W l o o' h h1 h2 h3⟩

set_option maxRecDepth 100000 in
set_option maxHeartbeats 1000000 in
theorem places1_in (m : Nat) (hm : 1 ≤ m) (l Bs Bn : Nat) (s : List UInt8) (n : Int) (hs : s.length ≤ 1000000000) (J Jx : List Nat → World → Prop)
    (hY : ∀ pre x W, J pre W → x < roomN s n → pre.length < roomN s n → YieldAt Fence.wide (m - 1) Tryz.prog l (encPl s n x) W fun e W' =>
      (e = .returned (.bool true) ∧ J (pre ++ [x]) W' ∧ Box2 Bs Bn W W') ∨ (e = .returned (.bool false) ∧ Jx (pre ++ [x]) W'))
    (W : World) (hBs : W.cell? ⟨Bs, 0, none⟩ = some (.string ⟨s.toArray⟩)) (hBn : W.cell? ⟨Bn, 0, none⟩ = some (.int .i64 n)) (h0 : J [] W) :
    CallsIn Fence.wide m Tryz.prog 63 #[.func (.yield l) #[] #[], .pointer (some ⟨Bs, 0, none⟩), .pointer (some ⟨Bn, 0, none⟩)] W fun e W' => (∃ v, e = .returned v) ∧
      ((∃ ys, ys = List.range (roomN s n) ∧ J ys W') ∨ (∃ pre, pre <+: List.range (roomN s n) ∧ Jx pre W')) := by
  refine callsIn_of_wp Tryz.func63 rfl trivial ?_ rfl
  simp only [Tryz.ntmps63, List.size_toArray, List.length_cons, List.length_nil, Nat.reduceAdd, Nat.reduceSub, Array.replicate_succ, Array.replicate_zero, List.push_toArray, List.append_toArray, List.nil_append, List.cons_append]
  gi_wp2_with (refine ⟨trivial, (callsIn_wide.2 (room_any s n _ hs)).mono ?_⟩; rintro e w' ⟨rfl, rfl⟩)
  have hr1 : roomN s n ≤ 1000000000 := Nat.le_trans (roomN_len s n) hs
  gi_loopw [8] (fun i wr => ∃ k : Nat, k ≤ roomN s n ∧ i = .int .i64 k ∧ J (List.range k) wr ∧ wr.cell? ⟨Bs, 0, none⟩ = some (.string ⟨s.toArray⟩) ∧ wr.cell? ⟨Bn, 0, none⟩ = some (.int .i64 n))
    (fun i _ => roomN s n - (intOf i).toNat)
  case atStart => exact ⟨0, Nat.zero_le _, rfl, h0, hBs, hBn⟩
  case round =>
    obtain ⟨k, hk, rfl, hJs, hcs, hcn⟩ := hrel
    by_cases hlt : k < roomN s n
    · have d1 : decide ((k : Int) < (roomN s n : Int)) = true := by simpa using hlt
      obtain ⟨fn, tmps, assign, body, hy, hR⟩ := hY _ k wr hJs hlt (by simpa using hlt)
      simp only [encPl] at hy
      rw [← List.range_succ] at hR
      gi_wp2_with (refine ⟨trivial, (callsIn_wide.2 (slot_yes s n k _ hs hlt)).mono ?_⟩; rintro e w' ⟨rfl, rfl⟩)
      refine hR.mono ?_
      rintro e W3 (⟨rfl, hJ3, hk3⟩ | ⟨rfl, hJx3⟩)
      · have hc3 := hk3.1.trans hcs
        have hc4 := hk3.2.trans hcn
        gi_wp2
        go_roundw
        case rel => exact ⟨k + 1, by omega, by go_num, hJ3, hc3, hc4⟩
        case measure => simp [intOf]; omega
      · gi_wp2
        refine bodyPost_ret (results_none rfl _ _ _) rfl ?_
        refine ⟨⟨_, rfl⟩, .inr ⟨_, ?_, hJx3⟩⟩
        exact ⟨(List.range (roomN s n)).drop (k + 1), by
          conv => rhs; rw [← List.take_append_drop (k + 1) (List.range (roomN s n))]
          rw [List.take_range, Nat.min_eq_left (by omega)]⟩
    · have d1 : decide ((k : Int) < (roomN s n : Int)) = false := by simp; omega
      obtain rfl : k = roomN s n := by omega
      gi_wp2
      go_end0
      exact ⟨⟨_, rfl⟩, .inl ⟨_, rfl, hJs⟩⟩

set_option maxHeartbeats 1000000 in
theorem places_in (m : Nat) (s : List UInt8) (n : Int) (w : World) :
    CallsIn Fence.wide m Tryz.prog 34 #[.string ⟨s.toArray⟩, .int .i64 n] w fun e w' => e = .returned (.func (.func 63) #[] #[.pointer (some ⟨w.heap.size, 0, none⟩), .pointer (some ⟨w.heap.size + 1, 0, none⟩)]) ∧ w' = (w.alloc (.cells #[.string ⟨s.toArray⟩] 9)).alloc (.cells #[.int .i64 n] 3) := by
  refine callsIn_of_wp Tryz.func34 rfl trivial ?_ rfl
  simp only [Tryz.ntmps34, List.size_toArray, List.length_cons, List.length_nil, Nat.reduceAdd, Nat.reduceSub, Array.replicate_succ, Array.replicate_zero, List.push_toArray, List.append_toArray, List.nil_append, List.cons_append]
  gi_wp2
  go_ret
  exact ⟨by simp, rfl⟩
theorem places_stops (m : Nat) (hm : 1 ≤ m) (Bs Bn : Nat) (s : List UInt8) (n : Int) (hs : s.length ≤ 1000000000) (w : World) (hB : Bs < w.heap.size) (hBs : w.cell? ⟨Bs, 0, none⟩ = some (.string ⟨s.toArray⟩)) (hB2 : Bn < w.heap.size) (hBn : w.cell? ⟨Bn, 0, none⟩ = some (.int .i64 n)) :
    SeqStopsK Fence.wide m Tryz.prog 63 #[.pointer (some ⟨Bs, 0, none⟩), .pointer (some ⟨Bn, 0, none⟩)] (fun x : Fin (roomN s n) => encPl s n x.val) (Box2 Bs Bn) (fun ys => ys.map Fin.val = List.range (roomN s n)) (fun _ => True) (roomN s n) w := fun l J Jx W hW _ _ hY h0 =>
  (places1_in m hm l Bs Bn s n hs (fun ns W => ∃ p : List (Fin (roomN s n)), p.map Fin.val = ns ∧ J p W) (fun ns W => ∃ p : List (Fin (roomN s n)), p.map Fin.val = ns ∧ Jx p W)
    (fun pre x W ⟨p, hp, hJ⟩ hx h2 => (hY p ⟨x, hx⟩ W hJ (by rw [← hp, List.length_map] at h2; exact h2)).mono fun e W' h => by
      rcases h with ⟨rfl, h, hk⟩ | ⟨rfl, h⟩
      · exact .inl ⟨rfl, ⟨_, by simp [hp], h⟩, hk⟩
      · exact .inr ⟨rfl, ⟨_, by simp [hp], h⟩⟩) W ((hW.cell (p := ⟨Bs, 0, none⟩) hB).trans hBs) ((hW.cell (p := ⟨Bn, 0, none⟩) hB2).trans hBn) ⟨[], rfl, h0⟩).mono fun e W' ⟨he, h⟩ => by
    refine ⟨he, ?_⟩
    rcases h with ⟨ys, rfl, p, hp, hJ⟩ | ⟨pre, _, p, hp, hJ⟩
    · exact .inl ⟨p, hp, hJ⟩
    · exact .inr ⟨p, trivial, hJ⟩
end Go.Proofs.YtipiioggdalkoaaGreatDoor
end
section
namespace Go.Proofs.YtipiioggdalkoaaGreatDoor
open Go.RowKit
set_option linter.unusedVariables false
set_option linter.unusedSimpArgs false

section
variable (P : Program) (ops : Array Oper) (base : World) (a0 : Act) (Q : Exit → Act → World → Prop)

/-- The last operations, in their order. -/
def Tail : Nat → Nat → Act → World → Prop
  | 0, _, a, w => Q .normal a w
  | c + 1, i, a, w => wpOp P ops Q i (fun a' w' => Tail c (i + 1) a' w') a w

/-- From operation i on, k operations more, and then the last ones. -/
def FlowTail (k0 c : Nat) : Nat → Nat → (Nat → VP) → Prop
  | 0, _, kn => ∀ a w, FKept ops a0 a → Below base.heap.size base w → (∀ j, j < k0 → FDone ops kn a w j) → Tail P ops Q c k0 a w
  | k + 1, i, kn => ∃ V, FStep P ops base a0 Q kn i V ∧ FlowTail k0 c k (i + 1) (upd kn i V)

/-- The first of the last ones waits for all ahead of it, each other for the one ahead of it. -/
def tailOk (k0 : Nat) : Bool :=
  decide (k0 ≤ ops.size) && (List.range ops.size).all fun j => if j < k0 then true else if j = k0 then (List.range k0).all fun m => waits ops j m else waits ops j (j - 1)
end

section
variable {P : Program} {ops : Array Oper} {base : World} {a0 : Act} {Q : Exit → Act → World → Prop}

theorem waits_ready {listed : Array Bool} {i j : Nat} (hi : i ∈ Region.ready .any ops listed) (h : waits ops i j = true) : listed.getD j false = true := by
  simp only [Region.ready, List.mem_filter, List.mem_range, Bool.and_eq_true] at hi
  obtain ⟨hilt, hun, hready⟩ := hi
  unfold waits at h
  cases ho : ops[i]? with
  | none => rw [ho] at h; simp at h
  | some o =>
    rw [ho] at h hready
    simp only [Option.any_some, List.any_eq_true, Bool.and_eq_true, beq_iff_eq] at h
    simp only [Option.map_some, Option.getD_some, Array.all_eq_true_iff_forall_mem] at hready
    obtain ⟨e, he, rfl, hb⟩ := h
    have := hready e (Array.mem_toList_iff.1 he)
    rw [hb] at this
    simpa using this

theorem ready_of {listed : Array Bool} {n i : Nat} (hok : flowOk ops n = true) (hl : listed.size = ops.size) (hi : i < ops.size) (hu : listed.getD i false = false) (hd : ∀ j, j < i → listed.getD j false = true) : i ∈ Region.ready .any ops listed := by
  obtain ⟨o, ho⟩ : ∃ o, ops[i]? = some o := ⟨_, Array.getElem?_eq_getElem hi⟩
  have hu' : listed.getD i true = false := by
    have : i < listed.size := by omega
    simpa [Array.getD, this] using hu
  simp only [Region.ready, List.mem_filter, List.mem_range, ho, Option.map_some, Option.getD_some, Bool.and_eq_true, hu']
  refine ⟨hi, rfl, ?_⟩
  rw [Array.all_eq_true_iff_forall_mem]
  intro e he
  cases hbe : Region.binds .any e with
  | false => rfl
  | true => rw [hd e.on ((flowOk_spec hok).1 i o ho e (Array.mem_toList_iff.2 he) hbe)]; rfl

theorem ready_un {listed : Array Bool} {i : Nat} (hl : listed.size = ops.size) (hi : i ∈ Region.ready .any ops listed) : i < ops.size ∧ listed.getD i false = false := by
  simp only [Region.ready, List.mem_filter, List.mem_range, Bool.and_eq_true] at hi
  have : i < listed.size := by omega
  refine ⟨hi.1, ?_⟩
  have h := hi.2.1
  simpa [Array.getD, this] using h

theorem getD_set_same {listed : Array Bool} {i : Nat} (h : i < listed.size) : (listed.setIfInBounds i true).getD i false = true := by simp [Array.getD_eq_getD_getElem?, h]
theorem getD_set_ne {listed : Array Bool} {i j : Nat} (h : j ≠ i) : (listed.setIfInBounds i true).getD j false = listed.getD j false := by
  have h' : ¬ i = j := fun e => h e.symm
  simp [Array.getD_eq_getD_getElem?, Array.getElem?_setIfInBounds, h']

theorem wpAny_tail {n k0 : Nat} (hok : flowOk ops n = true) (ht : tailOk ops k0 = true) : ∀ (c i fuel : Nat) (listed : Array Bool) (a : Act) (w : World), i + c = ops.size → k0 ≤ i → c ≤ fuel → listed.size = ops.size →
    (∀ j, j < ops.size → listed.getD j false = decide (j < i)) → Tail P ops Q c i a w → wpAny P .any ops Q fuel listed a w := by
  have tk : ∀ j, j < ops.size → k0 < j → waits ops j (j - 1) = true := by
    intro j hj hk
    unfold tailOk at ht
    simp only [Bool.and_eq_true, List.all_eq_true, List.mem_range] at ht
    have := ht.2 j hj
    rwa [if_neg (by omega), if_neg (by omega)] at this
  intro c
  induction c with
  | zero =>
    intro i fuel listed a w hi hk hc hl hd h
    have hr : Region.ready .any ops listed = [] := by
      apply List.eq_nil_iff_forall_not_mem.2
      intro j hj
      have := ready_un hl hj
      rw [hd j this.1] at this
      simp at this
      omega
    cases fuel with
    | zero => exact ⟨hr, h⟩
    | succ fuel => exact ⟨fun _ => h, fun j hj => by rw [hr] at hj; cases hj⟩
  | succ c ih =>
    intro i fuel listed a w hi hk hc hl hd h
    cases fuel with
    | zero => omega
    | succ fuel =>
      have hmem : i ∈ Region.ready .any ops listed := ready_of hok hl (by omega) (by rw [hd i (by omega)]; simp) (fun j hj => by rw [hd j (by omega)]; simpa using hj)
      refine ⟨fun hr => (by rw [hr] at hmem; cases hmem), fun j hj => ?_⟩
      have hju := ready_un hl hj
      have hji : j = i := by
        rw [hd j hju.1] at hju
        have hge : i ≤ j := by simpa using hju.2
        by_cases e : j = i
        · exact e
        · exfalso
          have := waits_ready hj (tk j hju.1 (by omega))
          rw [hd (j - 1) (by omega)] at this
          simp at this
          omega
      subst hji
      refine wpOp_mono ?_ h
      intro a' w' h'
      refine ih (j + 1) fuel (listed.setIfInBounds j true) a' w' (by omega) (by omega) (by omega) (by simpa using hl) ?_ h'
      intro m hm
      by_cases e : m = j
      · subst e; rw [getD_set_same (by omega)]; simp
      · rw [getD_set_ne e, hd m hm, decide_eq_decide]; omega

theorem wpAny_flowTail {k0 : Nat} (hok : flowOk ops a0.tmps.size = true) (ht : tailOk ops k0 = true) {kn : Nat → VP} (hs : ∀ m, m < k0 → FStep P ops base a0 Q kn m (kn m))
    (he : FlowTail P ops base a0 Q k0 (ops.size - k0) 0 k0 kn) :
    ∀ (u fuel : Nat) (listed : Array Bool) (a : Act) (w : World), listed.size = ops.size → ((List.range k0).filter fun i => !listed.getD i false).length ≤ u → u + (ops.size - k0) ≤ fuel → (∀ j, k0 ≤ j → listed.getD j false = false) →
      FKept ops a0 a → Below base.heap.size base w → (∀ j, listed.getD j false = true → FDone ops kn a w j) → wpAny P .any ops Q fuel listed a w := by
  obtain ⟨ok1, ok2, ok3⟩ := flowOk_spec hok
  have hk0 : k0 ≤ ops.size := by unfold tailOk at ht; simp only [Bool.and_eq_true, decide_eq_true_eq] at ht; exact ht.1
  have tk : ∀ j, j < ops.size → k0 < j → waits ops j (j - 1) = true := by
    intro j hj hk
    unfold tailOk at ht
    simp only [Bool.and_eq_true, List.all_eq_true, List.mem_range] at ht
    have := ht.2 j hj
    rwa [if_neg (by omega), if_neg (by omega)] at this
  have tk0 : ∀ m, k0 < ops.size → m < k0 → waits ops k0 m = true := by
    intro m hj hk
    unfold tailOk at ht
    simp only [Bool.and_eq_true, List.all_eq_true, List.mem_range] at ht
    have := ht.2 k0 hj
    rw [if_neg (by omega), if_pos rfl] at this
    exact List.all_eq_true.1 this m (by simpa using hk)
  intro u
  induction u with
  | zero =>
    intro fuel listed a w hl hu hf htl hk hb hd
    have hall : ∀ j, j < k0 → listed.getD j false = true := by
      intro j hj
      have h0 : ((List.range k0).filter fun i => !listed.getD i false) = [] := List.eq_nil_of_length_eq_zero (by omega)
      rw [List.filter_eq_nil_iff] at h0
      have := h0 j (by simpa using hj)
      simpa using this
    refine wpAny_tail hok ht (ops.size - k0) k0 fuel listed a w (by omega) (Nat.le_refl _) (by omega) hl ?_ (he a w hk hb (fun j hj => hd j (hall j hj)))
    intro j hj
    by_cases e : j < k0
    · rw [hall j e]; simp [e]
    · rw [htl j (by omega)]; simp [e]
  | succ u ih =>
    intro fuel listed a w hl hu hf htl hk hb hd
    by_cases hall : ∀ j, j < k0 → listed.getD j false = true
    · refine wpAny_tail hok ht (ops.size - k0) k0 fuel listed a w (by omega) (Nat.le_refl _) (by omega) hl ?_ (he a w hk hb (fun j hj => hd j (hall j hj)))
      intro j hj
      by_cases e : j < k0
      · rw [hall j e]; simp [e]
      · rw [htl j (by omega)]; simp [e]
    · -- the least that is not yet done
      have hex : ∃ m, m < k0 ∧ listed.getD m false = false ∧ ∀ j, j < m → listed.getD j false = true := by
        have key : ∀ n, n ≤ k0 → (∀ j, j < n → listed.getD j false = true) ∨ ∃ m, m < n ∧ listed.getD m false = false ∧ ∀ j, j < m → listed.getD j false = true := by
          intro n
          induction n with
          | zero => intro _; exact .inl (fun j hj => absurd hj (by omega))
          | succ n ihn =>
            intro hn
            rcases ihn (by omega) with h | ⟨m, hm, h1, h2⟩
            · cases hc : listed.getD n false with
              | true => exact .inl (fun j hj => by by_cases e : j = n; exact e ▸ hc; exact h j (by omega))
              | false => exact .inr ⟨n, by omega, hc, h⟩
            · exact .inr ⟨m, by omega, h1, h2⟩
        rcases key k0 (Nat.le_refl _) with h | h
        · exact absurd h hall
        · exact h
      obtain ⟨m, hm, hmu, hmd⟩ := hex
      have hmem : m ∈ Region.ready .any ops listed := ready_of hok hl (by omega) hmu hmd
      cases fuel with
      | zero => omega
      | succ fuel =>
        refine ⟨fun hr => (by rw [hr] at hmem; cases hmem), fun i hi => ?_⟩
        have hiu := ready_un hl hi
        have hik : i < k0 := by
          by_cases e : i < k0
          · exact e
          · exfalso
            by_cases e2 : i = k0
            · subst e2
              have := waits_ready hi (tk0 m hiu.1 hm)
              rw [hmu] at this
              cases this
            · have := waits_ready hi (tk i hiu.1 (by omega))
              rw [htl (i - 1) (by omega)] at this
              cases this
        obtain ⟨o, ho⟩ : ∃ o, ops[i]? = some o := ⟨_, Array.getElem?_eq_getElem hiu.1⟩
        have hstep := (hs i hik).2 o ho a w hk hb (by
          intro o' ho' e he' hbd
          rw [ho] at ho'
          cases ho'
          refine hd e.on (waits_ready hi ?_)
          unfold waits
          rw [ho]
          simp only [Option.any_some, List.any_eq_true, Bool.and_eq_true, beq_iff_eq]
          exact ⟨e, he', rfl, hbd⟩)
        refine wpOp_mono ?_ hstep
        rintro a' w' ⟨v, rfl, hV, hbw⟩
        refine ih fuel (listed.setIfInBounds i true) _ w' (by simpa using hl) ?_ (by omega) ?_ ?_ (hb.trans (hbw.mono hb.size)) ?_
        · have hsub : ((List.range k0).filter fun j => !(listed.setIfInBounds i true).getD j false).length < ((List.range k0).filter fun j => !listed.getD j false).length := by
            have e1 : ((List.range k0).filter fun j => !(listed.setIfInBounds i true).getD j false) = ((List.range k0).filter fun j => !listed.getD j false).filter (fun j => j != i) := by
              rw [List.filter_filter]
              apply List.filter_congr
              intro j hj
              by_cases e : j = i
              · subst e; rw [getD_set_same (by omega)]; simp
              · rw [getD_set_ne e]; simp [e]
            rw [e1]
            refine List.length_filter_lt_length_iff_exists.2 ⟨i, ?_, by simp⟩
            simp only [List.mem_filter, List.mem_range]
            exact ⟨hik, by rw [hiu.2]; rfl⟩
          omega
        · intro j hj
          rw [getD_set_ne (by omega)]
          exact htl j hj
        · refine ⟨by rw [defers_put]; exact hk.1, by rw [size_put]; exact hk.2.1, fun t ht' => ?_⟩
          cases hdst : o.dst with
          | none => simp only [Act.put]; exact hk.2.2 t ht'
          | some s =>
            have : s ≠ t := by
              rintro rfl
              have := List.all_eq_true.1 ht' o (by rw [Array.mem_toList_iff]; exact Array.mem_of_getElem? ho)
              rw [hdst] at this
              simp at this
            rw [getD_put (fun h => this h.symm)]
            exact hk.2.2 t ht'
        · intro j hj o' ho' t ht'
          by_cases e : j = i
          · subst e
            rw [ho] at ho'
            cases ho'
            rw [ht', getD_put_self (by rw [hk.2.1]; exact ok3 j o t ho ht')]
            exact hV
          · rw [getD_set_ne e] at hj
            have hne : o.dst ≠ some t := fun hh => e (ok2 j i o' o t ho' ho ht' hh)
            have hold := hd j hj o' ho' t ht'
            have hslot : (a.put o.dst v).tmps.getD t undef = a.tmps.getD t undef := by
              cases hdst : o.dst with
              | none => rfl
              | some s => exact getD_put (fun h => hne (by rw [hdst, h]))
            rw [hslot]
            have hjk : j < k0 := by
              by_cases e2 : j < k0
              · exact e2
              · rw [htl j (by omega)] at hj; cases hj
            exact (hs j hjk).1 _ _ _ hold hbw

theorem flowTail_family {n k0 c : Nat} (hok : flowOk ops n = true) : ∀ k i kn, i + k = k0 → (∀ m, m < i → FStep P ops base a0 Q kn m (kn m)) → FlowTail P ops base a0 Q k0 c k i kn →
    ∃ kn', (∀ m, m < k0 → FStep P ops base a0 Q kn' m (kn' m)) ∧ FlowTail P ops base a0 Q k0 c 0 k0 kn'
  | 0, i, kn, hi, hs, hf => ⟨kn, fun m hm => hs m (by omega), hf⟩
  | k + 1, i, kn, hi, hs, ⟨V, hV, hf⟩ => by
    have agree : ∀ m, m ≠ i → upd kn i V m = kn m := fun m hm => by simp [upd, hm]
    have self : upd kn i V i = V := by simp [upd]
    have shift : ∀ m W, m ≤ i → FStep P ops base a0 Q kn m W → FStep P ops base a0 Q (upd kn i V) m W := by
      intro m W hm h
      refine ⟨h.1, fun o ho a w hk hb hd => h.2 o ho a w hk hb ?_⟩
      intro o' ho' e he hbd
      have hlt := (flowOk_spec hok).1 m o' ho' e he hbd
      exact fdone_congr (agree e.on (by omega)) (hd o' ho' e he hbd)
    refine flowTail_family hok k (i + 1) (upd kn i V) (by omega) (fun m hm => ?_) hf
    by_cases hmi : m = i
    · subst hmi; rw [self]; exact shift m V (Nat.le_refl _) hV
    · rw [agree m hmi]; exact shift m _ (by omega) (hs m (by omega))

/-- THE LAW. -/
theorem wp_region_tail (k0 : Nat) {id : Nat} {a : Act} {w : World} (hm : P.follows .mixedOrders = true) (hok : flowOk ops a.tmps.size = true) (ht : tailOk ops k0 = true)
    (h : FlowTail P ops w a Q k0 (ops.size - k0) k0 0 (fun _ _ _ => False)) : (Code.region id ops true).wp P Q a w := by
  refine wp_region_any hm ?_
  obtain ⟨kn, hs, he⟩ := flowTail_family hok k0 0 _ (by omega) (fun m hm => absurd hm (by omega)) h
  have hk0 : k0 ≤ ops.size := by unfold tailOk at ht; simp only [Bool.and_eq_true, decide_eq_true_eq] at ht; exact ht.1
  refine wpAny_flowTail hok ht hs he k0 ops.size _ a _ (by simp) ?_ (by omega) ?_ ⟨rfl, rfl, fun _ _ => rfl⟩ ((Below.refl _ w).drew) ?_
  · exact Nat.le_trans (List.length_filter_le _ _) (by simp)
  · intro j hj
    simp [Array.getD_eq_getD_getElem?, Array.getElem?_replicate]
    split <;> rfl
  · intro j hj
    simp [Array.getD_eq_getD_getElem?, Array.getElem?_replicate] at hj
    split at hj <;> simp at hj
end
end Go.Proofs.YtipiioggdalkoaaGreatDoor
end
