/- Joined texts: contracts of the program's functions, and the mathematics that they lean on. -/
import Derived.WalkKit
import Derived.WalkSpells
import Derived.WalkLawsBesides
import Derived.Lib.Hide
import Derived.Lib.ConvBytes
import Derived.Laws.BitsAllLaws
import Derived.IntWalk
import Derived.Deep.Light
import Derived.Deep.OwnRows
import Derived.Test.YtkjghoomdefbbaaGreatDoorRows
import Derived.RangeFuncNested
import Derived.RangeFuncBound
import Derived.RangeFuncCalls
import Derived.RangeFuncLeaves
import Derived.Shelf.Abstract
import Derived.Shelf.RegionOpen
import Derived.OwnWalkIn
import Derived.TacticsInMore
import Derived.LoopNIn
import Derived.LoopIn
import Derived.Orders
import Derived.Great.BuildSlice
import Derived.StillTailTactics
import Derived.Deep.RegionWith
import Derived.Deep.RegionHeld3
import Derived.Shelf.Strings.Builder1
import Derived.Shelf.Strings.Builder2
import Derived.Shelf.Strings.BuilderF
import Derived.Shelf.Strings.Prefix
import Derived.Shelf.Bits.Mul64
import Derived.Shelf.Strings.Repeat
import Derived.Shelf.Slices.Equal
import Derived.Ground.Names2Prog
import Derived.Shelf.Slices.Clone
import Derived.Shelf.Slices.Empties2
import Derived.Test.YtkjghoomdefbbaaGreatDoorProg
import Derived.Lib.BitFns
import Derived.Laws.ResultCell
section
namespace Go.Proofs.YtkjghoomdefbbaaGreatDoor
open Go.RowKit

/-- Block g begins with the bytes l, none of them frozen. -/
def BRow (w : World) (g : Nat) (l : List UInt8) : Prop :=
  ∀ j (h : j < l.length), w.cell? ⟨g, j, none⟩ = some (.int .u8 (l[j].toNat : Int)) ∧ w.frozen? ⟨g, j, none⟩ = false

theorem BRow.at_ {w : World} {g : Nat} {l : List UInt8} (h : BRow w g l) {k : Nat} (hk : k < l.length) :
    w.cell? ⟨g, k, none⟩ = some (.int .u8 (l[k].toNat : Int)) := (h k hk).1
theorem BRow.some_ {w : World} {g : Nat} {l : List UInt8} (h : BRow w g l) {k : Nat} (hk : k < l.length) :
    ∃ v, w.cell? ⟨g, k, none⟩ = some (.int .u8 v) := ⟨_, (h k hk).1⟩
theorem BRow.free {w : World} {g : Nat} {l : List UInt8} (h : BRow w g l) {k : Nat} (hk : k < l.length) :
    w.frozen? ⟨g, k, none⟩ = false := (h k hk).2

theorem BRow.set_ {w : World} {g : Nat} {l : List UInt8} (h : BRow w g l) {k : Nat} (hk : k < l.length) (b : UInt8) :
    BRow (w.setCell ⟨g, k, none⟩ (.int .u8 (b.toNat : Int))) g (l.set k b) := by
  intro j hj
  have hj' : j < l.length := by simpa using hj
  refine ⟨?_, by rw [World.frozen?_setCell]; exact (h j hj').2⟩
  by_cases e : k = j
  · subst e
    rw [World.cell?_setCell_same w _ _ (h k hk).1]
    simp
  · rw [World.cell?_setCell_other w _ _ _ (by intro h; injection h; contradiction), (h j hj').1]
    simp [List.getElem_set_ne e]

theorem BRow.drewN {w : World} {g : Nat} {l : List UInt8} (h : BRow w g l) (n : Nat) : BRow (w.drewN n) g l := h
theorem BRow.drew {w : World} {g : Nat} {l : List UInt8} (h : BRow w g l) : BRow w.drew g l := h

theorem madeCells_get (z : Value) (n j : Nat) (h : j < n) : (madeCells #[z] n)[j]? = some z := by
  simp [madeCells, h, Nat.mod_one]

theorem BRow.made (w : World) (e : TypeId) (n : Nat) : BRow (w.alloc (.cells (madeCells #[.int .u8 0] n) e)) w.heap.size (List.replicate n 0) := by
  intro j hj
  have hj' : j < n := by simpa using hj
  refine ⟨?_, World.frozen?_alloc_new w _ _ _⟩
  rw [World.cell?_alloc_new w, madeCells_get _ _ _ hj']
  simp

theorem BRow.back {P : Program} {w : World} {g : Nat} {l : List UInt8} (h : BRow w g l) (src dst e : TypeId) (n cap : Nat) (hn : l.length = n)
    (hs : P.underlying src = some (.slice e)) (he : P.underlying e = some (.int .u8)) (hd : P.underlying dst = some .string) :
    (convert src dst (.slice (some ⟨g, 0, none⟩) n cap)).run P w = .ok (.string ⟨l.toArray⟩) w := by
  subst hn
  refine run_convert_bytes_back w src dst e ⟨g, 0, none⟩ cap l hs he hd (fun j hj => ?_)
  have := (h j hj).1
  by_cases e0 : j = 0
  · subst e0; simpa [Addr.add] using this
  · simpa [Addr.add, e0] using this

/-- The first k of l, and behind them what stands in b there. -/
def mix (l b : List UInt8) (k : Nat) : List UInt8 := l.take k ++ b.drop k
theorem mix_zero (l b : List UInt8) : mix l b 0 = b := by simp [mix]
theorem mix_all (l b : List UInt8) (k : Nat) (hl : l.length ≤ k) (hb : b.length ≤ k) : mix l b k = l := by
  simp [mix, List.take_of_length_le hl, List.drop_eq_nil_of_le hb]
theorem length_mix (l b : List UInt8) (k : Nat) (h : b.length = l.length) : (mix l b k).length = l.length := by
  simp [mix]; omega
theorem mix_set (l b : List UInt8) (k : Nat) (h : b.length = l.length) (hk : k < l.length) (x : UInt8) (hx : x = l[k]) :
    (mix l b k).set k x = mix l b (k + 1) := by
  subst hx
  have hb : b.drop k = b[k]'(by omega) :: b.drop (k + 1) := List.drop_eq_getElem_cons (by omega)
  have e : (l.take k).length = k := by simp; omega
  unfold mix
  rw [hb, List.take_succ_eq_append_getElem hk, List.set_append_right _ _ (by omega), e, Nat.sub_self, List.set_cons_zero, List.append_assoc, List.singleton_append]

end Go.Proofs.YtkjghoomdefbbaaGreatDoor
end
section
namespace Go.Proofs.YtkjghoomdefbbaaGreatDoor
open Go.RowKit

theorem ret_int {k : IntKind} {a b : Int} (h : a = b) : Ending.returned (.int k a) = .returned (.int k b) := by rw [h]
theorem ret_str {a b : List UInt8} (h : a = b) : Ending.returned (.string ⟨a.toArray⟩) = .returned (.string ⟨b.toArray⟩) := by rw [h]

def isWidthB (n : Int) : Bool := decide (1 ≤ n) && decide (n ≤ 7)

set_option maxHeartbeats 400000 in
theorem isWidth_any (n : Int) (w : World) :
    Calls Tryz.prog 72 #[.int .i64 n] w fun e w' => e = .returned (.bool (isWidthB n)) ∧ w = w' := by
  by_cases h1 : 1 ≤ n
  · by_cases h2 : n ≤ 7
    · go_enter Tryz.func72, Tryz.ntmps72
      go_wp2
      go_ret
      exact ⟨by simp [isWidthB, h1, h2], rfl⟩
    · have h2' : decide (n ≤ 7) = false := by simpa using h2
      go_enter Tryz.func72, Tryz.ntmps72
      go_wp2
      go_ret
      exact ⟨by simp [isWidthB, h1, h2], rfl⟩
  · have h1' : decide (1 ≤ n) = false := by simpa using h1
    go_enter Tryz.func72, Tryz.ntmps72
    go_wp2
    go_ret
    exact ⟨by simp [isWidthB, h1'], rfl⟩

end Go.Proofs.YtkjghoomdefbbaaGreatDoor
end
section
namespace Go.Proofs.YtkjghoomdefbbaaGreatDoor
open Go.RowKit

theorem Tryz.infoU8 : (Tryz.prog.info? 5).map (fun i => (i.zero, i.size, i.bytes)) = some (some (.int .u8 0), 1, 1) := by kernel_rfl

/-- All bits turned. -/
def notL (l : List UInt8) : List UInt8 := l.map (fun b => ~~~b)

end Go.Proofs.YtkjghoomdefbbaaGreatDoor
end
section
namespace Go.Proofs.YtkjghoomdefbbaaGreatDoor
open Go.RowKit
set_option linter.unusedVariables false

/-- n in so many bytes, the lowest ones first. -/
def putL (n : Nat) : Nat → List UInt8
  | 0 => []
  | w + 1 => UInt8.ofNat n :: putL (n / 256) w

theorem length_putL : ∀ w n, (putL n w).length = w
  | 0, _ => rfl
  | w + 1, n => by simp [putL, length_putL w]

theorem putL_get : ∀ (w n k : Nat) (h : k < w), (putL n w)[k]'(by rw [length_putL]; exact h) = UInt8.ofNat (n / 256 ^ k)
  | w + 1, n, 0, _ => by simp [putL]
  | w + 1, n, k + 1, h => by
    have := putL_get w (n / 256) k (by omega)
    simp only [putL, List.getElem_cons_succ, this, Nat.div_div_eq_div_mul, Nat.pow_succ, Nat.mul_comm]

theorem pow8 (k : Nat) : 2 ^ (8 * k) = 256 ^ k := by rw [Nat.pow_mul]
theorem put_byte (m k : Nat) : ((m : Int) / 2 ^ (8 * k) % 256) = ((UInt8.ofNat (m / 256 ^ k)).toNat : Int) := by
  have e : ((2 : Int) ^ (8 * k)) = ((256 ^ k : Nat) : Int) := by rw [← pow8]; simp
  rw [e]
  simp

/-- Whether n is put in so many bytes. -/
def okPut (n width : Int) : Bool := isWidthB width && decide (0 ≤ n) && decide (n < 256 ^ width.toNat)

set_option maxHeartbeats 400000 in
theorem put_bad1 (n width : Int) (w : World) (h : isWidthB width = false) :
    Calls Tryz.prog 43 #[.int .i64 n, .int .i64 width] w fun e w' => e = .returned (.tuple #[.string ⟨#[]⟩, .int .i64 1]) ∧ w = w' := by
  go_enter Tryz.func43, Tryz.ntmps43
  go_wp2_with (go_at_call 72; refine (isWidth_any _ _).mono ?_; rintro e w' ⟨rfl, rfl⟩)
  go_ret2
  exact ⟨rfl, rfl⟩

set_option maxHeartbeats 400000 in
theorem put_bad2 (n width : Int) (w : World) (h : isWidthB width = true) (hn : n < 0) :
    Calls Tryz.prog 43 #[.int .i64 n, .int .i64 width] w fun e w' => e = .returned (.tuple #[.string ⟨#[]⟩, .int .i64 1]) ∧ w = w' := by
  go_enter Tryz.func43, Tryz.ntmps43
  go_wp2_with (go_at_call 72; refine (isWidth_any _ _).mono ?_; rintro e w' ⟨rfl, rfl⟩)
  go_ret2
  exact ⟨rfl, rfl⟩

set_option maxHeartbeats 400000 in
theorem put_bad3 (n width : Int) (w : World) (h : isWidthB width = true) (h1 : 1 ≤ width) (h7 : width ≤ 7) (hn : 0 ≤ n) (hz : (n / 2 ^ (8 * width).toNat != 0) = true) :
    Calls Tryz.prog 43 #[.int .i64 n, .int .i64 width] w fun e w' => e = .returned (.tuple #[.string ⟨#[]⟩, .int .i64 1]) ∧ w = w' := by
  have hn' : decide (n < 0) = false := by simp; omega
  go_enter Tryz.func43, Tryz.ntmps43
  go_wp2_with (go_at_call 72; refine (isWidth_any _ _).mono ?_; rintro e w' ⟨rfl, rfl⟩)
  go_ret2
  exact ⟨rfl, rfl⟩

set_option maxHeartbeats 400000 in
theorem put_ok (m wd : Nat) (w : World) (h : isWidthB (wd : Int) = true) (h1 : 1 ≤ wd) (h7 : wd ≤ 7) (hz : ((m : Int) / 2 ^ (8 * wd) != 0) = false) (hm : (m : Int) ≤ 9223372036854775807) :
    Calls Tryz.prog 43 #[.int .i64 (m : Int), .int .i64 (wd : Int)] w fun e w' => e = .returned (.tuple #[.string ⟨(putL m wd).toArray⟩, .int .i64 0]) ∧ Below w.heap.size w w' := by
  have hn' : decide ((m : Int) < 0) = false := by simp
  have hmk := fun W => run_make_row' (P := Tryz.prog) 63 5 (.int .u8 0) 1 Tryz.underlying63 Tryz.infoU8 rfl .i64 .i64 wd (by omega) (by omega) W
  go_enter Tryz.func43, Tryz.ntmps43
  go_wp2_with (go_at_call 72; refine (isWidth_any _ _).mono ?_; rintro e w' ⟨rfl, rfl⟩)
  clear hmk
  go_loopw [25] (fun i wr => ∃ k : Nat, k ≤ wd ∧ i = .int .i64 k ∧ BRow wr w.heap.size (mix (putL m wd) (List.replicate wd 0) k) ∧ Below w.heap.size w wr) (fun i _ => wd - (intOf i).toNat)
  case atStart => exact ⟨0, Nat.zero_le _, rfl, by rw [mix_zero]; exact BRow.made w 5 wd, (Below.refl _ _).alloc (Nat.le_refl _) _⟩
  case round =>
    obtain ⟨k, hk, rfl, hrow, hbel⟩ := hrel
    have hlen : (mix (putL m wd) (List.replicate wd 0) k).length = wd := by rw [length_mix _ _ _ (by simp [length_putL]), length_putL]
    by_cases hlt : k < wd
    · obtain ⟨v, hc⟩ := hrow.some_ (k := k) (by omega)
      have hf := hrow.free (k := k) (by omega)
      have HL := Lib.hid hlen
      clear hlen
      go_wp2
      go_roundw
      case rel =>
        go_light
        refine ⟨k + 1, by omega, by go_num, ?_, hbel.setCell (p := ⟨w.heap.size, k, none⟩) (Nat.le_refl _) _⟩
        rw [put_byte, ← mix_set _ _ k (by simp [length_putL]) (by rw [length_putL]; exact hlt) (UInt8.ofNat (m / 256 ^ k)) (putL_get wd m k hlt).symm]
        exact hrow.set_ (by rw [HL.out]; exact hlt) _
      case measure => simp [intOf]; omega
    · have hb := hrow.back (P := Tryz.prog) 63 9 5 wd wd hlen Tryz.underlying63 Tryz.underlying5 Tryz.underlying9
      clear hlen
      go_wp2
      go_ret2
      exact ⟨by rw [mix_all _ _ _ (by simp [length_putL]; omega) (by simp; omega)]; rfl, hbel⟩

def putS (n width : Int) : List UInt8 := if okPut n width = true then putL n.toNat width.toNat else []
def putE (n width : Int) : Int := if okPut n width = true then 0 else 1

theorem put_any (n width : Int) (w : World) (hm : n ≤ 9223372036854775807) :
    Calls Tryz.prog 43 #[.int .i64 n, .int .i64 width] w fun e w' => e = .returned (.tuple #[.string ⟨(putS n width).toArray⟩, .int .i64 (putE n width)]) ∧ Below w.heap.size w w' := by
  have bad : okPut n width = false → ∀ e w', (e = Ending.returned (.tuple #[.string ⟨#[]⟩, .int .i64 1]) ∧ w = w') → (e = .returned (.tuple #[.string ⟨(putS n width).toArray⟩, .int .i64 (putE n width)]) ∧ Below w.heap.size w w') := by
    rintro h e w' ⟨rfl, rfl⟩
    exact ⟨by simp [putS, putE, h], Below.refl _ _⟩
  cases h : isWidthB width with
  | false => exact (put_bad1 n width w h).mono (bad (by simp [okPut, h]))
  | true =>
    have hwd : 1 ≤ width ∧ width ≤ 7 := by simpa [isWidthB] using h
    by_cases hn : n < 0
    · exact (put_bad2 n width w h hn).mono (bad (by simp [okPut, h]; omega))
    · obtain ⟨m, rfl⟩ := Int.eq_ofNat_of_zero_le (show 0 ≤ n by omega)
      obtain ⟨wd, rfl⟩ := Int.eq_ofNat_of_zero_le (show 0 ≤ width by omega)
      have hlt : (m : Int) < 256 ^ wd ↔ m < 256 ^ wd := by
        rw [show ((256 : Int) ^ wd) = ((256 ^ wd : Nat) : Int) by simp]
        omega
      have e1 : ((m : Int) / 2 ^ (8 * wd)) = ((m / 256 ^ wd : Nat) : Int) := by
        rw [show ((2 : Int) ^ (8 * wd)) = ((256 ^ wd : Nat) : Int) by rw [← pow8]; simp]
        simp
      by_cases hz : m < 256 ^ wd
      · have hd : m / 256 ^ wd = 0 := Nat.div_eq_of_lt hz
        refine (put_ok m wd w h (by omega) (by omega) (by rw [e1, hd]; rfl) hm).mono ?_
        rintro e w' ⟨rfl, hb⟩
        have ok : okPut (m : Int) (wd : Int) = true := by
          simp only [okPut, h, Bool.true_and, Int.toNat_natCast, Bool.and_eq_true, decide_eq_true_eq]
          exact ⟨by omega, hlt.2 hz⟩
        exact ⟨by simp [putS, putE, ok], hb⟩
      · have hd : m / 256 ^ wd ≠ 0 := by
          have := Nat.div_pos (Nat.le_of_not_lt hz) (Nat.pow_pos (by omega))
          omega
        refine (put_bad3 m wd w h (by omega) (by omega) (by omega) ?_).mono (bad ?_)
        · rw [show (8 * (wd : Int)).toNat = 8 * wd by omega, e1]
          simp only [bne_iff_ne, ne_eq]
          omega
        · have hf : ¬ ((m : Int) < 256 ^ wd) := fun c => hz (hlt.1 c)
          simp only [okPut, h, Bool.true_and, Int.toNat_natCast, Bool.and_eq_false_iff, decide_eq_false_iff_not]
          exact .inr hf
end Go.Proofs.YtkjghoomdefbbaaGreatDoor
end
section
namespace Go.Proofs.YtkjghoomdefbbaaGreatDoor
open Go.RowKit Go.Shelf
set_option linter.unusedVariables false
attribute [local go_sem] Oper.semAt_some

/-- A digit: its place, below 7, and its byte. -/
abbrev Dig := Fin 7 × UInt8
def encDig (x : Dig) : Array Value := #[.int .i64 (8 * (x.1.val : Int)), .int .i64 (x.2.toNat : Int)]

def digAt (l : List UInt8) (h : l.length ≤ 7) (k : Nat) (hk : k < l.length) : Dig := (⟨k, by omega⟩, l[k])
/-- The first k digits. -/
def digs (l : List UInt8) (h : l.length ≤ 7) : Nat → List Dig
  | 0 => []
  | k + 1 => digs l h k ++ (if hk : k < l.length then [digAt l h k hk] else [])
theorem digs_succ (l : List UInt8) (h : l.length ≤ 7) (k : Nat) (hk : k < l.length) : digs l h (k + 1) = digs l h k ++ [digAt l h k hk] := by
  simp [digs, hk]
theorem length_digs (l : List UInt8) (h : l.length ≤ 7) : ∀ k, k ≤ l.length → (digs l h k).length = k
  | 0, _ => rfl
  | k + 1, hk => by rw [digs_succ l h k (by omega)]; simp [length_digs l h k (by omega)]

/-- The cell of the box stays. -/
def BoxKept (b : Nat) (W W' : World) : Prop := W'.cell? ⟨b, 0, none⟩ = W.cell? ⟨b, 0, none⟩

set_option maxRecDepth 100000 in
set_option maxHeartbeats 1000000 in
theorem digits1_in (F : Fence) (n : Nat) (hF : F.fn 99) (hro : F.round = none) (hn : 1 ≤ n) (l Bs : Nat) (s : ByteArray) (hs : s.data.toList.length ≤ 7) (J Jx : List Dig → World → Prop)
    (hY : ∀ pre x W, J pre W → pre.length < s.size → YieldAt F (n - 1) Tryz.prog l (encDig x) W fun e W' =>
      (e = .returned (.bool true) ∧ J (pre ++ [x]) W' ∧ BoxKept Bs W W') ∨ (e = .returned (.bool false) ∧ Jx (pre ++ [x]) W'))
    (W : World) (hBs : W.cell? ⟨Bs, 0, none⟩ = some (.string s)) (h0 : J [] W) :
    CallsIn F n Tryz.prog 99 #[.func (.yield l) #[] #[], .pointer (some ⟨Bs, 0, none⟩)] W fun e W' => (∃ v, e = .returned v) ∧
      ((∃ ys, ys = digs s.data.toList hs s.size ∧ J ys W') ∨ (∃ pre, True ∧ Jx pre W')) := by
  have hsz : s.size ≤ 7 := by simpa using hs
  refine callsIn_of_wp Tryz.func99 rfl hF ?_ hro
  simp only [Tryz.ntmps99, List.size_toArray, List.length_cons, List.length_nil, Nat.reduceAdd, Nat.reduceSub, Array.replicate_succ, Array.replicate_zero, List.push_toArray, List.append_toArray, List.nil_append, List.cons_append]
  gi_wp2
  gi_loopw [6] (fun i wr => ∃ k : Nat, k ≤ s.size ∧ i = .int .i64 k ∧ J (digs s.data.toList hs k) wr ∧ wr.cell? ⟨Bs, 0, none⟩ = some (.string s))
    (fun i _ => s.size - (intOf i).toNat)
  case atStart => exact ⟨0, Nat.zero_le _, rfl, h0, hBs⟩
  case round =>
    obtain ⟨k, hk, rfl, hJs, hcx⟩ := hrel
    by_cases hlt : k < s.size
    · obtain ⟨fn, tmps, assign, body, hy, hR⟩ := hY _ (⟨k, by omega⟩, s[k]'hlt) wr hJs (by rw [length_digs _ _ _ (by simpa using hk)]; exact hlt)
      simp only [encDig] at hy
      have hbt : (s[k]'hlt).toNat < 256 := UInt8.toNat_lt _
      gi_wp2
      refine hR.mono ?_
      rintro e W3 (⟨rfl, hJ3, hk3⟩ | ⟨rfl, hJx3⟩)
      · have hc3 := hk3.trans hcx
        gi_wp2
        go_roundw
        case rel => exact ⟨k + 1, by omega, by go_num, by rw [digs_succ _ _ _ (by simpa using hlt)]; exact hJ3, hc3⟩
        case measure => simp [intOf]; omega
      · gi_wp2
        refine bodyPost_ret (results_none rfl _ _ _) rfl ?_
        exact ⟨⟨_, rfl⟩, .inr ⟨_, trivial, hJx3⟩⟩
    · obtain rfl : k = s.size := by omega
      gi_wp2
      go_end0
      exact ⟨⟨_, rfl⟩, .inl ⟨_, rfl, hJs⟩⟩
end Go.Proofs.YtkjghoomdefbbaaGreatDoor
end
section
namespace Go.Proofs.YtkjghoomdefbbaaGreatDoor
open Go.RowKit Go.Shelf
set_option linter.unusedVariables false
attribute [local go_sem] Oper.semAt_some

set_option maxHeartbeats 1000000 in
theorem digits_in (F : Fence) (n : Nat) (hF : F.fn 73) (hro : F.round = none) (s : ByteArray) (w : World) :
    CallsIn F n Tryz.prog 73 #[.string s] w fun e w' => e = .returned (.func (.func 99) #[] #[.pointer (some ⟨w.heap.size, 0, none⟩)]) ∧ w' = w.alloc (.cells #[.string s] 9) := by
  refine callsIn_of_wp Tryz.func73 rfl hF ?_ hro
  simp only [Tryz.ntmps73, List.size_toArray, List.length_cons, List.length_nil, Nat.reduceAdd, Nat.reduceSub, Array.replicate_succ, Array.replicate_zero, List.push_toArray, List.append_toArray, List.nil_append, List.cons_append]
  gi_wp2
  go_ret
  exact ⟨rfl, rfl⟩

theorem newCell (W : World) (v : Value) (t : TypeId) : (W.alloc (.cells #[v] t)).cell? ⟨W.heap.size, 0, none⟩ = some v ∧ (W.alloc (.cells #[v] t)).frozen? ⟨W.heap.size, 0, none⟩ = false :=
  ⟨by rw [World.cell?_alloc_new]; rfl, World.frozen?_alloc_new W _ _ _⟩
theorem oldCell {W : World} {a : Addr} {v : Value} (o : Obj) (h : W.cell? a = some v) : (W.alloc o).cell? a = some v :=
  cell_kept h (World.grownBy_alloc W o none) (fun r e => by cases e)
theorem oldFree {W : World} {a : Addr} {v : Value} (o : Obj) (h : W.cell? a = some v) (hf : W.frozen? a = false) : (W.alloc o).frozen? a = false :=
  (frozen_kept h (World.grownBy_alloc W o none) (fun r e => by cases e)).trans hf

/-- The digits, put together one by one. -/
def valOf (pre : List Dig) : Nat := pre.foldl (fun n x => n ||| (x.2.toNat <<< (8 * x.1.val))) 0
theorem valOf_snoc (pre : List Dig) (x : Dig) : valOf (pre ++ [x]) = valOf pre ||| (x.2.toNat <<< (8 * x.1.val)) := by simp [valOf]
theorem dig_lt (x : Dig) : x.2.toNat <<< (8 * x.1.val) < 2 ^ 56 := by
  have h1 := x.2.toNat_lt
  have h2 := x.1.isLt
  rw [Nat.shiftLeft_eq]
  calc x.2.toNat * 2 ^ (8 * x.1.val) < 2 ^ 8 * 2 ^ (8 * x.1.val) := Nat.mul_lt_mul_of_pos_right h1 (Nat.pow_pos (by omega))
    _ = 2 ^ (8 + 8 * x.1.val) := by rw [Nat.pow_add]
    _ ≤ 2 ^ 56 := Nat.pow_le_pow_right (by omega) (by omega)
theorem valOf_lt (pre : List Dig) : valOf pre < 2 ^ 56 := by
  have h : ∀ (pre : List Dig) (n : Nat), n < 2 ^ 56 → pre.foldl (fun n x => n ||| (x.2.toNat <<< (8 * x.1.val))) n < 2 ^ 56 := by
    intro pre
    induction pre with
    | nil => intro n hn; exact hn
    | cons x r ih => intro n hn; exact ih _ (Nat.or_lt_two_pow hn (dig_lt x))
  exact h pre 0 (by decide)

theorem i64_or_nat (a b : Nat) (ha : a < 2 ^ 56) (hb : b < 2 ^ 56) : bits .or .i64 (a : Int) (b : Int) = ((a ||| b : Nat) : Int) := by
  have hab : a ||| b < 2 ^ 56 := Nat.or_lt_two_pow ha hb
  have e1 : (BitVec.ofInt 64 (a : Int) ||| BitVec.ofInt 64 (b : Int)).toNat = a ||| b := by
    rw [BitVec.toNat_or, ofInt_u64 a (by omega), ofInt_u64 b (by omega)]
  show IntKind.i64.wrap (((BitVec.ofInt 64 (a : Int) ||| BitVec.ofInt 64 (b : Int)).toNat : Nat) : Int) = _
  rw [e1]
  exact IntWalk.i64_in _ (by omega)

theorem valOf_step (pre : List Dig) (x : Dig) :
    bits .or .i64 (valOf pre : Int) (IntKind.i64.wrap ((x.2.toNat : Int) * 2 ^ (8 * (x.1.val : Int)).toNat)) = (valOf (pre ++ [x]) : Int) := by
  have e : ((x.2.toNat : Int) * 2 ^ (8 * (x.1.val : Int)).toNat) = ((x.2.toNat <<< (8 * x.1.val) : Nat) : Int) := by
    rw [show (8 * (x.1.val : Int)).toNat = 8 * x.1.val by omega, Nat.shiftLeft_eq]
    simp
  have h := dig_lt x
  rw [valOf_snoc, e]
  generalize x.2.toNat <<< (8 * x.1.val) = q at h ⊢
  rw [IntWalk.i64_in _ (by omega), i64_or_nat _ _ (valOf_lt pre) h]

theorem boxKept_t (b : Nat) {A B C : World} (h : BoxKept b A B) (k : BoxKept b B C) : BoxKept b A C := k.trans h
theorem boxKept_put (b m : Nat) (hb : b < m) (W : World) (l : Nat) (o o' : Obj) (h : m ≤ l) (_ : W.heap[l]? = some o) (_ : o.isCells = false) (_ : o.isWalk = false) : BoxKept b W (W.putObj l o') := by
  refine World.cell?_of_block (w := W) ?_
  simp [World.putObj, Array.getElem?_setIfInBounds]
  omega

theorem digits_stops (F : Fence) (n : Nat) (hF : F.fn 99) (hro : F.round = none) (hn : 1 ≤ n) (Bs : Nat) (s : ByteArray) (hs : s.data.toList.length ≤ 7) (w : World) (hB : Bs < w.heap.size) (hBs : w.cell? ⟨Bs, 0, none⟩ = some (.string s)) :
    SeqStopsK F n Tryz.prog 99 #[.pointer (some ⟨Bs, 0, none⟩)] encDig (BoxKept Bs) (fun ys => ys = digs s.data.toList hs s.size) (fun _ => True) s.size w := fun l J Jx W hW _ _ hY h0 =>
  digits1_in F n hF hro hn l Bs s hs J Jx hY W ((hW.cell (p := ⟨Bs, 0, none⟩) hB).trans hBs) h0

theorem mixed : Tryz.prog.follows .mixedOrders = true := by kernel_rfl

set_option maxRecDepth 100000 in
set_option maxHeartbeats 1000000 in
theorem get_in (F : Fence) (n : Nat) (hF0 : F.fn 45) (hF1 : F.fn 73) (hF2 : F.fn 99) (hF3 : F.fn 72) (hw : F = Fence.wide) (hro : F.round = none) (hn : 3 ≤ n)
    (s : ByteArray) (at_ wd : Nat) (hs : s.size ≤ 1000000000) (h1 : 1 ≤ wd) (h7 : wd ≤ 7) (hfit : at_ + wd ≤ s.size) (w : World) (hwd : isWidthB (wd : Int) = true) (hcut : (s.extract at_ (at_ + wd)).data.toList.length ≤ 7) :
    CallsIn F n Tryz.prog 45 #[.string s, .int .i64 (at_ : Int), .int .i64 (wd : Int)] w fun e W' =>
      e = .returned (.tuple #[.int .i64 (valOf (digs (s.extract at_ (at_ + wd)).data.toList hcut (s.extract at_ (at_ + wd)).size) : Int), .int .i64 0]) ∧ Below w.heap.size w W' := by
  have hn1 : 1 ≤ n := by omega
  have hd0 : decide ((at_ : Int) < 0) = false := by simp
  have hd1 : decide ((s.size : Int) - (wd : Int) < (at_ : Int)) = false := by simp; omega
  refine callsIn_of_wp_marks Tryz.func45 rfl hF0 ?_ hro
  simp only [Tryz.ntmps45, List.size_toArray, List.length_cons, List.length_nil, Nat.reduceAdd, Nat.reduceSub, Array.replicate_succ, Array.replicate_zero, List.push_toArray, List.append_toArray, List.nil_append, List.cons_append]
  subst hw
  gi_wp2_with (first | (gi_at_call 72; refine (callsIn_wide.2 (isWidth_any _ _)).mono ?_; rintro e w' ⟨rfl, rfl⟩) | (gi_at_call 73; refine (digits_in Fence.wide (n - 1) hF1 hro _ _).mono ?_; rintro e w' ⟨rfl, rfl⟩))
  generalize s.extract at_ (at_ + wd) = c at hcut ⊢
  have cn := newCell w (.int .i64 0) 3
  have cb := newCell (w.alloc (.cells #[.int .i64 0] 3)) (.string c) 9
  rw [World.size_alloc] at cb
  have hB0 : Below w.heap.size w ((w.alloc (.cells #[.int .i64 0] 3)).alloc (.cells #[.string c] 9)) := ((Below.refl _ w).alloc (Nat.le_refl _) _).alloc (by simp) _
  refine wpIn_rangeFunc_ownF hro hn1 (gf := 99) (lb := #[.pointer (some ⟨w.heap.size + 1, 0, none⟩)]) rfl hF2 (enters_of Tryz.func99 (by kernel_rfl) rfl)
    (digits_stops Fence.wide (n - 1) hF2 hro (by omega) (w.heap.size + 1) c hcut _ (by simp) cb.1) (boxKept_t _) (boxKept_put _ _ (by simp)) (Below.refl _ _) (fun _ => rfl)
    (fun pre W => (W.cell? ⟨w.heap.size, 0, none⟩ = some (.int .i64 (valOf pre : Int)) ∧ W.frozen? ⟨w.heap.size, 0, none⟩ = false) ∧ Below w.heap.size w W)
    (fun _ _ _ => False)
    (OwnFrom.and (Own.from (fun s A B row hs hg hr => ⟨cell_kept hs.1 hg hr, (frozen_kept hs.1 hg hr).trans hs.2⟩) _) (ownFrom_below (Nat.le_refl _) (by simp; omega)))
    (fun _ _ _ _ _ hs _ _ => hs)
    ⟨⟨oldCell _ cn.1, oldFree _ cn.1 cn.2⟩, hB0⟩
    (fun x => { tmps := #[Value.string s, Value.int IntKind.i64 ↑at_, Value.int IntKind.i64 ↑wd, undef, undef, undef,
          Value.int IntKind.i64 0, Value.int IntKind.i64 0, Value.pointer (some { block := w.heap.size, off := 0 }),
          .int .i64 (8 * (x.1.val : Int)), .int .i64 (x.2.toNat : Int), Value.int IntKind.i64 ↑wd, Value.bool true, Value.bool false, Value.int IntKind.i64 ↑at_,
          Value.bool false, Value.bool false, Value.int IntKind.i64 ↑at_, Value.string s, Value.int IntKind.i64 ↑s.size,
          Value.int IntKind.i64 ↑wd, Value.int IntKind.i64 (↑s.size - ↑wd), Value.bool false, Value.bool false,
          Value.string s, Value.int IntKind.i64 ↑at_, Value.int IntKind.i64 ↑at_, Value.int IntKind.i64 ↑wd,
          Value.int IntKind.i64 (↑at_ + ↑wd), Value.string c,
          Value.func (Fn.func 99) #[] #[Value.pointer (some { block := w.heap.size + 1, off := 0 })], .int .i64 (8 * (x.1.val : Int)), .int .i64 (x.2.toNat : Int),
          undef, undef, undef, undef, undef, undef], defers := [] }) ?assign ?body ?done ?stop
  case assign =>
    intro l x W K hK
    simp only [encDig]
    gi_wp2
    exact hK
  case body =>
    rintro l pre x W ⟨⟨hc, hf⟩, hB⟩ _
    have hv := valOf_lt pre
    have hx1 := x.1.isLt
    have hx2 : x.2.toNat < 256 := x.2.toNat_lt
    clear cn cb hB0
    have hmix : Tryz.prog.follows .mixedOrders = true := mixed
    gi_wp2
    gi_region_with_o (fail)
    all_goals gi_wp2
    all_goals
      go_light
      rw [valOf_step]
      exact ⟨(KeepsOthers.setCell _ _ _).trans (KeepsOthers.drew _), World.cell?_setCell_other _ _ _ _ (by intro h; injection h; omega), ⟨World.cell?_setCell_same' _ _ _ (by rw [hc]; rfl), by rw [World.frozen?_drew, World.frozen?_setCell]; exact hf⟩, (hB.setCell (p := ⟨w.heap.size, 0, none⟩) (Nat.le_refl _) _).drew⟩
  case done =>
    rintro D ys W hD rfl ⟨⟨hc, _⟩, hB⟩ hK
    gi_wp2
    refine ⟨by simp, .inl ⟨_, _, rfl, run_takeDeferred hK, ?_⟩⟩
    exact ⟨_, results_tmp2 rfl _ _ _, rfl, hB.trans (belowK_b (w := w) (Nat.le_refl _) W D _ _ (by simp at hD; omega) hK rfl rfl)⟩
  case stop =>
    rintro D c pre W _ _ h _
    exact h.elim

/-- The number that bytes are, the lowest ones first. -/
def getN : List UInt8 → Nat
  | [] => 0
  | b :: r => b.toNat + 256 * getN r

theorem getN_lt : ∀ l : List UInt8, getN l < 256 ^ l.length
  | [] => by simp [getN]
  | b :: r => by
    have h := getN_lt r
    have hb := b.toNat_lt
    simp only [getN, List.length_cons, Nat.pow_succ]
    omega

theorem getN_append : ∀ a b : List UInt8, getN (a ++ b) = getN a + 256 ^ a.length * getN b
  | [], b => by simp [getN]
  | x :: a, b => by
    simp only [List.cons_append, getN, getN_append a b, List.length_cons, Nat.pow_succ, Nat.mul_add]
    rw [show 256 ^ a.length * 256 * getN b = 256 * (256 ^ a.length * getN b) by rw [Nat.mul_comm (256 ^ a.length) 256, Nat.mul_assoc]]
    omega

theorem valOf_digs (l : List UInt8) (h : l.length ≤ 7) : ∀ k, k ≤ l.length → valOf (digs l h k) = getN (l.take k)
  | 0, _ => rfl
  | k + 1, hk => by
    have ih := valOf_digs l h k (by omega)
    have hlt := getN_lt (l.take k)
    rw [digs_succ l h k (by omega), valOf_snoc, ih, List.take_succ_eq_append_getElem (by omega), getN_append]
    have hl : (l.take k).length = k := by simp; omega
    rw [hl] at hlt ⊢
    simp only [digAt, getN, Nat.mul_zero, Nat.add_zero]
    rw [Nat.shiftLeft_eq, Nat.or_comm, nat_join (8 * k) _ _ (by simp) (by rw [pow8]; exact hlt), pow8, Nat.mul_comm (l[k].toNat)]
    omega

def okGet (s : ByteArray) (at_ wd : Int) : Bool := decide (0 ≤ at_) && decide (at_ ≤ (s.size : Int) - wd)
def getV (s : ByteArray) (at_ wd : Int) : Int := if isWidthB wd = true ∧ okGet s at_ wd = true then (getN ((s.data.toList.drop at_.toNat).take wd.toNat) : Int) else 0
def getE (s : ByteArray) (at_ wd : Int) : Int := if isWidthB wd = true then (if okGet s at_ wd = true then 0 else 2) else 1

set_option maxHeartbeats 400000 in
theorem get_bad1 (s : ByteArray) (at_ wd : Int) (w : World) (h : isWidthB wd = false) :
    Calls Tryz.prog 45 #[.string s, .int .i64 at_, .int .i64 wd] w fun e w' => e = .returned (.tuple #[.int .i64 0, .int .i64 1]) ∧ w = w' := by
  go_enter Tryz.func45, Tryz.ntmps45
  go_wp2_with (go_at_call 72; refine (isWidth_any _ _).mono ?_; rintro e w' ⟨rfl, rfl⟩)
  go_ret2
  exact ⟨rfl, rfl⟩
set_option maxHeartbeats 400000 in
theorem get_bad2 (s : ByteArray) (at_ wd : Int) (w : World) (h : isWidthB wd = true) (ha : at_ < 0) :
    Calls Tryz.prog 45 #[.string s, .int .i64 at_, .int .i64 wd] w fun e w' => e = .returned (.tuple #[.int .i64 0, .int .i64 2]) ∧ w = w' := by
  go_enter Tryz.func45, Tryz.ntmps45
  go_wp2_with (go_at_call 72; refine (isWidth_any _ _).mono ?_; rintro e w' ⟨rfl, rfl⟩)
  go_ret2
  exact ⟨rfl, rfl⟩
set_option maxHeartbeats 400000 in
theorem get_bad3 (s : ByteArray) (at_ wd : Int) (w : World) (hs : s.size ≤ 1000000000) (h : isWidthB wd = true) (h1 : 1 ≤ wd) (h7 : wd ≤ 7) (ha : 0 ≤ at_) (hb : (s.size : Int) - wd < at_) :
    Calls Tryz.prog 45 #[.string s, .int .i64 at_, .int .i64 wd] w fun e w' => e = .returned (.tuple #[.int .i64 0, .int .i64 2]) ∧ w = w' := by
  have ha' : decide (at_ < 0) = false := by simp; omega
  go_enter Tryz.func45, Tryz.ntmps45
  go_wp2_with (go_at_call 72; refine (isWidth_any _ _).mono ?_; rintro e w' ⟨rfl, rfl⟩)
  go_ret2
  exact ⟨rfl, rfl⟩

theorem get_any (s : ByteArray) (at_ wd : Int) (w : World) (hs : s.size ≤ 1000000000) :
    Calls Tryz.prog 45 #[.string s, .int .i64 at_, .int .i64 wd] w fun e w' => e = .returned (.tuple #[.int .i64 (getV s at_ wd), .int .i64 (getE s at_ wd)]) ∧ Below w.heap.size w w' := by
  cases h : isWidthB wd with
  | false =>
    refine (get_bad1 s at_ wd w h).mono ?_
    rintro e w' ⟨rfl, rfl⟩
    exact ⟨by simp [getV, getE, h], Below.refl _ _⟩
  | true =>
    have hwd : 1 ≤ wd ∧ wd ≤ 7 := by simpa [isWidthB] using h
    by_cases ha : at_ < 0
    · refine (get_bad2 s at_ wd w h ha).mono ?_
      rintro e w' ⟨rfl, rfl⟩
      have ok : okGet s at_ wd = false := by simp [okGet]; omega
      exact ⟨by simp [getV, getE, h, ok], Below.refl _ _⟩
    · by_cases hb : (s.size : Int) - wd < at_
      · refine (get_bad3 s at_ wd w hs h hwd.1 hwd.2 (by omega) hb).mono ?_
        rintro e w' ⟨rfl, rfl⟩
        have ok : okGet s at_ wd = false := by simp [okGet]; omega
        exact ⟨by simp [getV, getE, h, ok], Below.refl _ _⟩
      · have ok : okGet s at_ wd = true := by simp [okGet]; omega
        obtain ⟨a, rfl⟩ := Int.eq_ofNat_of_zero_le (show 0 ≤ at_ by omega)
        obtain ⟨b, rfl⟩ := Int.eq_ofNat_of_zero_le (show 0 ≤ wd by omega)
        have e1 : (s.extract a (a + b)).data.toList = (s.data.toList.drop a).take b := by
          rw [ByteArray.data_extract, Array.toList_extract, List.extract_eq_take_drop]
          simp
        have e2 : (s.extract a (a + b)).data.toList.length = b := by rw [e1]; simp; omega
        have e3 : (s.extract a (a + b)).size = b := by have h : (s.extract a (a + b)).size = (s.extract a (a + b)).data.toList.length := by rw [Array.length_toList]; rfl
                                                       rw [h, e2]
        refine (callsIn_wide.1 (get_in Fence.wide 3 trivial trivial trivial trivial rfl rfl (by omega) s a b hs (by omega) (by omega) (by omega) w h (by omega))).mono ?_
        rintro e w' ⟨rfl, hbel⟩
        refine ⟨?_, hbel⟩
        have e4 := valOf_digs (s.extract a (a + b)).data.toList (by omega) (s.extract a (a + b)).size (by omega)
        rw [e4]
        simp only [getV, getE, h, ok, Int.toNat_natCast, if_true, and_self]
        rw [e3, e1, List.take_of_length_le (by rw [List.length_take]; omega)]
end Go.Proofs.YtkjghoomdefbbaaGreatDoor
end
section
namespace Go.Proofs.YtkjghoomdefbbaaGreatDoor
open Go.RowKit
set_option linter.unusedVariables false

abbrev VP := Value → World → Prop
/-- It stays true as memory grows. -/
def Stable (V : VP) : Prop := ∀ v w w', V v w → Below w.heap.size w w' → V v w'
def isVal (v : Value) : VP := fun x _ => x = v
theorem stable_val (v : Value) : Stable (isVal v) := fun _ _ _ h _ => h
/-- A slice of just these bytes, at the head of a block. -/
def isRow (l : List UInt8) : VP := fun x w => ∃ g, x = .slice (some ⟨g, 0, none⟩) l.length l.length ∧ g < w.heap.size ∧ BRow w g l
section
variable (P : Program) (ops : Array Oper) (base : World) (a0 : Act) (Q : Exit → Act → World → Prop)

/-- What operation j yielded is as it should be. -/
def FDone (kn : Nat → VP) (a : Act) (w : World) (j : Nat) : Prop := ∀ o, ops[j]? = some o → ∀ t, o.dst = some t → kn j (a.tmps.getD t undef) w
/-- What the region does not write is as it was. -/
def FKept (a : Act) : Prop := a.defers = a0.defers ∧ a.tmps.size = a0.tmps.size ∧ ∀ t, (ops.toList.all fun o => o.dst != some t) = true → a.tmps.getD t undef = a0.tmps.getD t undef

def FDeps (kn : Nat → VP) (i : Nat) (a : Act) (w : World) : Prop := ∀ o, ops[i]? = some o → ∀ e ∈ o.after.toList, Region.binds .any e = true → FDone ops kn a w e.on
def FStep (kn : Nat → VP) (i : Nat) (V : VP) : Prop := Stable V ∧ ∀ o, ops[i]? = some o → ∀ a w, FKept ops a0 a → Below base.heap.size base w → FDeps ops kn i a w →
  wpOp P ops Q i (fun a' w' => ∃ v, a' = a.put o.dst v ∧ V v w' ∧ Below w.heap.size w w') a w

def upd (kn : Nat → VP) (i : Nat) (V : VP) : Nat → VP := fun j => if j = i then V else kn j

/-- From operation i on, k operations more. -/
def FlowFrom : Nat → Nat → (Nat → VP) → Prop
  | 0, _, kn => ∀ a w, FKept ops a0 a → Below base.heap.size base w → (∀ j, j < ops.size → FDone ops kn a w j) → Q .normal a w
  | k + 1, i, kn => ∃ V, FStep P ops base a0 Q kn i V ∧ FlowFrom k (i + 1) (upd kn i V)

/-- Each waits for earlier ones alone; no two write one slot; all slots are there. -/
def flowOk (n : Nat) : Bool :=
  ((List.range ops.size).all fun i => (ops[i]?).all fun o => o.after.toList.all fun e => !Region.binds .any e || decide (e.on < i)) &&
  ((List.range ops.size).all fun i => (List.range ops.size).all fun j => i == j || match (ops[i]?).bind (·.dst), (ops[j]?).bind (·.dst) with
    | some s, some t => s != t
    | _, _ => true) &&
  (ops.toList.all fun o => match o.dst with | some t => decide (t < n) | none => true)
end

section
variable {P : Program} {ops : Array Oper} {base : World} {a0 : Act} {Q : Exit → Act → World → Prop}

theorem flowOk_spec {n : Nat} (h : flowOk ops n = true) :
    (∀ (i : Nat) (o : Oper), ops[i]? = some o → ∀ e ∈ o.after.toList, Region.binds .any e = true → e.on < i) ∧
    (∀ (i j : Nat) (oi oj : Oper) (s : Tmp), ops[i]? = some oi → ops[j]? = some oj → oi.dst = some s → oj.dst = some s → i = j) ∧
    (∀ (i : Nat) (o : Oper) (t : Tmp), ops[i]? = some o → o.dst = some t → t < n) := by
  unfold flowOk at h
  simp only [Bool.and_eq_true, List.all_eq_true, List.mem_range] at h
  obtain ⟨⟨h1, h2⟩, h3⟩ := h
  have lt : ∀ {i o}, ops[i]? = some o → i < ops.size := fun h => (Array.getElem?_eq_some_iff.1 h).1
  refine ⟨?_, ?_, ?_⟩
  · intro i o ho e he hb
    have := h1 i (lt ho)
    rw [ho] at this
    simp only [Option.all_some, List.all_eq_true] at this
    have := this e he
    rw [hb] at this
    simpa using this
  · intro i j oi oj s hi hj hs ht
    have := h2 i (lt hi) j (lt hj)
    rw [hi, hj] at this
    simp only [Option.bind_some, hs, ht] at this
    simpa using this
  · intro i o t ho ht
    have := h3 o (by rw [Array.mem_toList_iff]; exact Array.mem_of_getElem? ho)
    rw [ht] at this
    simpa using this

theorem fdone_congr {kn kn' : Nat → VP} {a : Act} {w : World} {j : Nat} (h : kn j = kn' j) (hd : FDone ops kn a w j) : FDone ops kn' a w j := by
  intro o ho t ht
  rw [← h]
  exact hd o ho t ht

theorem flow_family {n : Nat} (hok : flowOk ops n = true) : ∀ k i kn, i + k = ops.size → (∀ m, m < i → FStep P ops base a0 Q kn m (kn m)) → FlowFrom P ops base a0 Q k i kn →
    ∃ kn', (∀ m, m < ops.size → FStep P ops base a0 Q kn' m (kn' m)) ∧ FlowFrom P ops base a0 Q 0 ops.size kn'
  | 0, i, kn, hi, hs, hf => ⟨kn, fun m hm => hs m (by omega), hf⟩
  | k + 1, i, kn, hi, hs, ⟨V, hV, hf⟩ => by
    have agree : ∀ m, m ≠ i → upd kn i V m = kn m := fun m hm => by simp [upd, hm]
    have self : upd kn i V i = V := by simp [upd]
    have shift : ∀ m W, m ≤ i → FStep P ops base a0 Q kn m W → FStep P ops base a0 Q (upd kn i V) m W := by
      intro m W hm h
      refine ⟨h.1, fun o ho a w hk hb hd => h.2 o ho a w hk hb ?_⟩
      intro o' ho' e he hbd
      have hlt := (flowOk_spec hok).1 m o' ho' e he hbd
      exact fdone_congr (agree e.on (by omega)) (hd o' ho' e he hbd)
    refine flow_family hok k (i + 1) (upd kn i V) (by omega) (fun m hm => ?_) hf
    by_cases hmi : m = i
    · subst hmi; rw [self]; exact shift m V (Nat.le_refl _) hV
    · rw [agree m hmi]; exact shift m _ (by omega) (hs m (by omega))

theorem getD_put {a : Act} {s : Tmp} {v : Value} {t : Tmp} (h : t ≠ s) : (a.put (some s) v).tmps.getD t undef = a.tmps.getD t undef := by
  simp only [Act.put, Array.getD_eq_getD_getElem?, Array.getElem?_setIfInBounds]
  rw [if_neg (fun e => h e.symm)]
theorem getD_put_self {a : Act} {s : Tmp} {v : Value} (h : s < a.tmps.size) : (a.put (some s) v).tmps.getD s undef = v := by
  simp [Act.put, Array.getD_eq_getD_getElem?, h]
theorem size_put {a : Act} {d : Option Tmp} {v : Value} : (a.put d v).tmps.size = a.tmps.size := by
  cases d <;> simp [Act.put]
theorem defers_put {a : Act} {d : Option Tmp} {v : Value} : (a.put d v).defers = a.defers := by
  cases d <;> simp [Act.put]

theorem wpAny_flow (hok : flowOk ops a0.tmps.size = true) {kn : Nat → VP} (hs : ∀ m, m < ops.size → FStep P ops base a0 Q kn m (kn m)) (he : FlowFrom P ops base a0 Q 0 ops.size kn) :
    ∀ (fuel : Nat) (listed : Array Bool) (a : Act) (w : World), listed.size = ops.size → ((List.range ops.size).filter fun i => !listed.getD i true).length ≤ fuel → FKept ops a0 a → Below base.heap.size base w →
      (∀ j, listed.getD j false = true → FDone ops kn a w j) → wpAny P .any ops Q fuel listed a w := by
  obtain ⟨ok1, ok2, ok3⟩ := flowOk_spec hok
  have getF : ∀ (listed : Array Bool) (i : Nat), i < listed.size → listed.getD i true = listed.getD i false := by
    intro listed i hi; simp [Array.getD, hi]
  have fin : ∀ (listed : Array Bool) (a : Act) (w : World), listed.size = ops.size → FKept ops a0 a → Below base.heap.size base w → (∀ j, listed.getD j false = true → FDone ops kn a w j) → Region.ready .any ops listed = [] → Q .normal a w := by
    intro listed a w hl hk hb hd hr
    refine he a w hk hb (fun j hj => hd j ?_)
    have key : ∀ m, ∀ j, j ≤ m → j < ops.size → listed.getD j false = true := by
      intro m
      induction m with
      | zero =>
        intro j hjm hj
        obtain rfl : j = 0 := by omega
        cases h0 : listed.getD 0 false with
        | true => rfl
        | false =>
          exfalso
          have : 0 ∈ Region.ready .any ops listed := by
            obtain ⟨o, ho⟩ : ∃ o, ops[0]? = some o := ⟨_, Array.getElem?_eq_getElem hj⟩
            simp only [Region.ready, List.mem_filter, List.mem_range, ho, Option.map_some, Option.getD_some, Bool.and_eq_true, getF listed 0 (by omega), h0]
            refine ⟨hj, rfl, ?_⟩
            rw [Array.all_eq_true_iff_forall_mem]
            intro e he'
            cases hbe : Region.binds .any e with
            | false => rfl
            | true => exact absurd (ok1 0 o ho e (Array.mem_toList_iff.2 he') hbe) (by omega)
          rw [hr] at this
          cases this
      | succ m ih =>
        intro j hjm hj
        by_cases hlt : j ≤ m
        · exact ih j hlt hj
        · obtain rfl : j = m + 1 := by omega
          cases h0 : listed.getD (m + 1) false with
          | true => rfl
          | false =>
            exfalso
            have : (m + 1) ∈ Region.ready .any ops listed := by
              obtain ⟨o, ho⟩ : ∃ o, ops[m + 1]? = some o := ⟨_, Array.getElem?_eq_getElem hj⟩
              simp only [Region.ready, List.mem_filter, List.mem_range, ho, Option.map_some, Option.getD_some, Bool.and_eq_true, getF listed (m + 1) (by omega), h0]
              refine ⟨hj, rfl, ?_⟩
              rw [Array.all_eq_true_iff_forall_mem]
              intro e he'
              cases hbe : Region.binds .any e with
              | false => rfl
              | true =>
                have := ok1 (m + 1) o ho e (Array.mem_toList_iff.2 he') hbe
                rw [ih e.on (by omega) (by omega)]
                rfl
            rw [hr] at this
            cases this
    exact key j j (Nat.le_refl _) hj
  intro fuel
  induction fuel with
  | zero =>
    intro listed a w hl hf hk hb hd
    have hr : Region.ready .any ops listed = [] := by
      have h0 : ((List.range ops.size).filter fun i => !listed.getD i true) = [] := List.eq_nil_of_length_eq_zero (by omega)
      unfold Region.ready
      rw [List.filter_eq_nil_iff] at h0 ⊢
      intro i hi hc
      exact h0 i hi (by simp only [Bool.and_eq_true] at hc; exact hc.1)
    exact ⟨hr, fin listed a w hl hk hb hd hr⟩
  | succ fuel ih =>
    intro listed a w hl hf hk hb hd
    refine ⟨fun hr => fin listed a w hl hk hb hd hr, fun i hi => ?_⟩
    simp only [Region.ready, List.mem_filter, List.mem_range, Bool.and_eq_true] at hi
    obtain ⟨hilt, hun, hready⟩ := hi
    obtain ⟨o, ho⟩ : ∃ o, ops[i]? = some o := ⟨_, Array.getElem?_eq_getElem hilt⟩
    rw [ho] at hready
    simp only [Option.map_some, Option.getD_some, Array.all_eq_true_iff_forall_mem] at hready
    have hstep := (hs i hilt).2 o ho a w hk hb (by
      intro o' ho' e he' hbd
      rw [ho] at ho'
      cases ho'
      have := hready e (Array.mem_toList_iff.1 he')
      rw [hbd] at this
      exact hd e.on (by simpa using this))
    refine wpOp_mono ?_ hstep
    rintro a' w' ⟨v, rfl, hV, hbw⟩
    have hlt' : i < listed.size := by omega
    refine ih (listed.setIfInBounds i true) _ w' (by simpa using hl) ?_ ?_ (hb.trans (hbw.mono hb.size)) ?_
    · have hsub : ((List.range ops.size).filter fun j => !(listed.setIfInBounds i true).getD j true).length < ((List.range ops.size).filter fun j => !listed.getD j true).length := by
        have e1 : ((List.range ops.size).filter fun j => !(listed.setIfInBounds i true).getD j true) = ((List.range ops.size).filter fun j => !listed.getD j true).filter (fun j => j != i) := by
          rw [List.filter_filter]
          apply List.filter_congr
          intro j hj
          by_cases e : j = i
          · subst e; simp [Array.getD_eq_getD_getElem?, hlt']
          · have e' : ¬ i = j := fun h => e h.symm
            simp [Array.getD_eq_getD_getElem?, e, e']
        rw [e1]
        refine List.length_filter_lt_length_iff_exists.2 ⟨i, ?_, by simp⟩
        simp only [List.mem_filter, List.mem_range]
        exact ⟨hilt, hun⟩
      omega
    · refine ⟨by rw [defers_put]; exact hk.1, by rw [size_put]; exact hk.2.1, fun t ht => ?_⟩
      cases hdst : o.dst with
      | none => simp only [Act.put]; exact hk.2.2 t ht
      | some s =>
        have : s ≠ t := by
          rintro rfl
          have := List.all_eq_true.1 ht o (by rw [Array.mem_toList_iff]; exact Array.mem_of_getElem? ho)
          rw [hdst] at this
          simp at this
        rw [getD_put (fun h => this h.symm)]
        exact hk.2.2 t ht
    · intro j hj o' ho' t ht
      by_cases e : j = i
      · subst e
        rw [ho] at ho'
        cases ho'
        rw [ht, getD_put_self (by rw [hk.2.1]; exact ok3 j o t ho ht)]
        exact hV
      · have e' : ¬ i = j := fun h => e h.symm
        have hj' : listed.getD j false = true := by
          simpa [Array.getD_eq_getD_getElem?, Array.getElem?_setIfInBounds, e'] using hj
        have hne : o.dst ≠ some t := fun hh => e (ok2 j i o' o t ho' ho ht hh)
        have hold := hd j hj' o' ho' t ht
        have hslot : (a.put o.dst v).tmps.getD t undef = a.tmps.getD t undef := by
          cases hdst : o.dst with
          | none => rfl
          | some s => exact getD_put (fun h => hne (by rw [hdst, h]))
        rw [hslot]
        exact (hs j (by
          have := (Array.getElem?_eq_some_iff.1 ho').1
          exact this)).1 _ _ _ hold hbw

/-- THE LAW. -/
theorem wp_region_flow {id : Nat} {a : Act} {w : World} (hm : P.follows .mixedOrders = true) (hok : flowOk ops a.tmps.size = true)
    (h : FlowFrom P ops w a Q ops.size 0 (fun _ _ _ => False)) : (Code.region id ops true).wp P Q a w := by
  refine wp_region_any hm ?_
  obtain ⟨kn, hs, he⟩ := flow_family hok ops.size 0 _ (by omega) (fun m hm => absurd hm (by omega)) h
  refine wpAny_flow hok hs he ops.size _ a _ (by simp) ?_ ⟨rfl, rfl, fun _ _ => rfl⟩ ((Below.refl _ w).drew) ?_
  · exact Nat.le_trans (List.length_filter_le _ _) (by simp)
  · intro j hj
    simp [Array.getD_eq_getD_getElem?, Array.getElem?_replicate] at hj
    split at hj <;> simp at hj
end
end Go.Proofs.YtkjghoomdefbbaaGreatDoor
end
section
namespace Go.Proofs.YtkjghoomdefbbaaGreatDoor
open Go.RowKit
set_option linter.unusedVariables false

section
variable {P : Program} {ops : Array Oper} {base : World} {a0 : Act} {Q : Exit → Act → World → Prop} {kn : Nat → VP} {i : Nat} {V : VP}

/-- Operation i waits for operation j. -/
def waits (ops : Array Oper) (i j : Nat) : Bool := (ops[i]?).any fun o => o.after.toList.any fun e => e.on == j && Region.binds .any e

theorem waits_done {j : Nat} (h : waits ops i j = true) {a : Act} {w : World} (hd : FDeps ops kn i a w) : FDone ops kn a w j := by
  unfold waits at h
  cases ho : ops[i]? with
  | none => rw [ho] at h; simp at h
  | some o =>
    rw [ho] at h
    simp only [Option.any_some, List.any_eq_true, Bool.and_eq_true, beq_iff_eq] at h
    obtain ⟨e, he, rfl, hb⟩ := h
    exact hd o ho e he hb

/-- What an operand of operation i is. -/
def Knows (ops : Array Oper) (a0 : Act) (kn : Nat → VP) (i : Nat) (x : Operand) (V : VP) : Prop := ∀ a w, FKept ops a0 a → FDeps ops kn i a w → V (a.eval x) w

theorem knows_const (c : Value) : Knows ops a0 kn i (.const c) (isVal c) := fun _ _ _ _ => rfl
theorem knows_old (t : Tmp) (v : Value) (h : (ops.toList.all fun o => o.dst != some t) = true) (hv : a0.tmps.getD t undef = v) : Knows ops a0 kn i (.tmp t) (isVal v) := fun a w hk _ => (hk.2.2 t h).trans hv
theorem knows_new (t : Tmp) (j : Nat) (h : waits ops i j = true) (hj : (ops[j]?).bind (·.dst) = some t) (hV : kn j = V) : Knows ops a0 kn i (.tmp t) V := by
  intro a w _ hd
  cases ho : ops[j]? with
  | none => rw [ho] at hj; simp at hj
  | some o =>
    rw [ho] at hj
    rw [← hV]
    exact waits_done h hd o ho t (by simpa using hj)

/-- Operation i is carried out. -/
def Wanted (ops : Array Oper) (a0 : Act) (kn : Nat → VP) (i : Nat) : Prop := ∀ a w, FKept ops a0 a → FDeps ops kn i a w → ∀ o, ops[i]? = some o → Region.wanted o (yielded ops a.tmps) = true
theorem wanted_none (h : (ops[i]?).map (·.guard) = some none) : Wanted ops a0 kn i := by
  intro a w _ _ o ho
  rw [ho] at h
  simp only [Option.map_some, Option.some.injEq] at h
  simp [Region.wanted, h]
theorem yielded_of {j : Nat} {t : Tmp} {a : Act} {b : Bool} (hj : (ops[j]?).bind (·.dst) = some t) (hv : a.tmps.getD t undef = .bool b) : yielded ops a.tmps j = some b := by
  unfold yielded
  rw [hj]
  simp only [Option.bind_some]
  rw [Array.getD_eq_getD_getElem?] at hv
  cases h : a.tmps[t]? with
  | none => rw [h] at hv; simp [undef] at hv
  | some x => rw [h] at hv; simp only [Option.getD_some] at hv; subst hv; rfl
theorem wanted_some (j : Nat) (t : Tmp) (b : Bool) (h : (ops[i]?).map (·.guard) = some (some (j, b))) (hw : waits ops i j = true) (hj : (ops[j]?).bind (·.dst) = some t) (hV : kn j = isVal (.bool b)) : Wanted ops a0 kn i := by
  intro a w hk hd o ho
  have hv := knows_new (a0 := a0) t j hw hj hV a w hk hd
  rw [ho] at h
  simp only [Option.map_some, Option.some.injEq] at h
  simp only [Region.wanted, h]
  rw [yielded_of hj hv]
  simp
/-- Operation i is passed over. -/
theorem step_skip (j : Nat) (t : Tmp) (b c : Bool) (h : (ops[i]?).map (·.guard) = some (some (j, b))) (hw : waits ops i j = true) (hj : (ops[j]?).bind (·.dst) = some t) (hV : kn j = isVal (.bool c)) (hbc : (c == b) = false) :
    FStep P ops base a0 Q kn i (isVal undef) := by
  refine ⟨stable_val _, fun o ho a w hk hb hd => ?_⟩
  have hv := knows_new (a0 := a0) t j hw hj hV a w hk hd
  have h' := h
  rw [ho] at h'
  simp only [Option.map_some, Option.some.injEq] at h'
  have hwn : Region.wanted o (yielded ops a.tmps) = false := by
    simp only [Region.wanted, h']
    rw [yielded_of hj hv]
    simpa using hbc
  unfold wpOp
  simp only [ho, hwn]
  exact ⟨undef, rfl, rfl, Below.refl _ _⟩

theorem step_mk (hst : Stable V) (hw : Wanted ops a0 kn i)
    (h : ∀ o, ops[i]? = some o → ∀ a w, FKept ops a0 a → Below base.heap.size base w → FDeps ops kn i a w → o.wp P a w (fun a' w' => ∃ v, a' = a.put o.dst v ∧ V v w' ∧ Below w.heap.size w w') Q) : FStep P ops base a0 Q kn i V := by
  refine ⟨hst, fun o ho a w hk hb hd => ?_⟩
  have hwn := hw a w hk hd o ho
  unfold wpOp
  simp only [ho, hwn, if_true]
  exact .inl (h o ho a w hk hb hd)

theorem op_of {OP : Op} (hop : (ops[i]?).map (·.op) = some OP) {o : Oper} (ho : ops[i]? = some o) : o.op = OP := by
  rw [ho] at hop
  simpa using hop

theorem step_move (x : Operand) (hop : (ops[i]?).map (·.op) = some (.move x)) (hw : Wanted ops a0 kn i) (hst : Stable V) (hx : Knows ops a0 kn i x V) : FStep P ops base a0 Q kn i V :=
  step_mk hst hw fun o ho a w hk hb hd => by
    unfold Oper.wp execOp
    rw [op_of hop ho]
    exact ⟨_, rfl, hx a w hk hd, Below.refl _ _⟩
theorem step_assign (x : Operand) (hop : (ops[i]?).map (·.op) = some (.assign x)) (hw : Wanted ops a0 kn i) (hst : Stable V) (hx : Knows ops a0 kn i x V) : FStep P ops base a0 Q kn i V :=
  step_mk hst hw fun o ho a w hk hb hd => by
    unfold Oper.wp execOp
    rw [op_of hop ho]
    exact ⟨_, rfl, hx a w hk hd, Below.refl _ _⟩
theorem step_pick (c x y : Operand) (b : Bool) (hop : (ops[i]?).map (·.op) = some (.pick c x y)) (hw : Wanted ops a0 kn i) (hst : Stable V) (hc : Knows ops a0 kn i c (isVal (.bool b)))
    (hx : Knows ops a0 kn i (if b then x else y) V) : FStep P ops base a0 Q kn i V :=
  step_mk hst hw fun o ho a w hk hb hd => by
    have hcv : a.eval c = .bool b := hc a w hk hd
    have hxv := hx a w hk hd
    unfold Oper.wp execOp
    rw [op_of hop ho]
    simp only [hcv, asBool, Sem.run_bind, Sem.run_pure, Result.andThen_ok, Oper.upon]
    cases b
    · exact ⟨_, rfl, hxv, Below.refl _ _⟩
    · exact ⟨_, rfl, hxv, Below.refl _ _⟩

/-- An operation that reckons, and leaves memory alone. -/
theorem step_pure {OP : Op} (v : Value) (hop : (ops[i]?).map (·.op) = some OP) (hw : Wanted ops a0 kn i)
    (h : ∀ (o : Oper) (a : Act) (w : World), o.op = OP → FKept ops a0 a → FDeps ops kn i a w → (execOp a.eval o).run P w = .ok (.value v) w) : FStep P ops base a0 Q kn i (isVal v) :=
  step_mk (stable_val v) hw fun o ho a w hk hb hd => by
    unfold Oper.wp
    rw [h o a w (op_of hop ho) hk hd]
    exact ⟨_, rfl, rfl, Below.refl _ _⟩
theorem step_bin (b : BinOp) (t t2 : TypeId) (x y : Operand) (vx vy v : Value) (hop : (ops[i]?).map (·.op) = some (.binOp b t x y t2)) (hw : Wanted ops a0 kn i)
    (hx : Knows ops a0 kn i x (isVal vx)) (hy : Knows ops a0 kn i y (isVal vy)) (hg : ∀ w, (eqGuard b t x y vx vy).run P w = .ok () w) (hr : ∀ w, (binOp b t vx vy).run P w = .ok v w) : FStep P ops base a0 Q kn i (isVal v) :=
  step_pure v hop hw fun o a w ho hk hd => by
    have e1 : a.eval x = vx := hx a w hk hd
    have e2 : a.eval y = vy := hy a w hk hd
    unfold execOp
    rw [ho]
    simp only [e1, e2, Sem.run_bind, hg, hr, Result.andThen_ok, Sem.run_pure]
theorem step_un (b : UnOp) (t : TypeId) (x : Operand) (vx v : Value) (hop : (ops[i]?).map (·.op) = some (.unOp b t x)) (hw : Wanted ops a0 kn i)
    (hx : Knows ops a0 kn i x (isVal vx)) (hr : ∀ w, (Op.unary b vx).run P w = .ok v w) : FStep P ops base a0 Q kn i (isVal v) :=
  step_pure v hop hw fun o a w ho hk hd => by
    have e1 : a.eval x = vx := hx a w hk hd
    unfold execOp
    rw [ho]
    simp only [e1, Sem.run_bind, hr, Result.andThen_ok, Sem.run_pure]
theorem step_extract (x : Operand) (n : Nat) (vs : Array Value) (v : Value) (hop : (ops[i]?).map (·.op) = some (.extract x n)) (hw : Wanted ops a0 kn i)
    (hx : Knows ops a0 kn i x (isVal (.tuple vs))) (hv : vs[n]? = some v) : FStep P ops base a0 Q kn i (isVal v) :=
  step_pure v hop hw fun o a w ho hk hd => by
    have e1 : a.eval x = .tuple vs := hx a w hk hd
    unfold execOp
    rw [ho]
    simp only [e1, Instr.extract, hv, Sem.run_bind, Result.andThen_ok, Sem.run_pure]
theorem step_conv (s d : TypeId) (x : Operand) (vx v : Value) (hop : (ops[i]?).map (·.op) = some (.convert s d x)) (hw : Wanted ops a0 kn i)
    (hx : Knows ops a0 kn i x (isVal vx)) (hr : ∀ w, (convert s d vx).run P w = .ok v w) : FStep P ops base a0 Q kn i (isVal v) :=
  step_pure v hop hw fun o a w ho hk hd => by
    have e1 : a.eval x = vx := hx a w hk hd
    unfold execOp
    rw [ho]
    simp only [e1, Sem.run_bind, hr, Result.andThen_ok, Sem.run_pure]
/-- A call of a function of the program. -/
theorem step_call (f : FuncId) (xs : Array Operand) (ts : Array TypeId) (vs : Array Value) (hop : (ops[i]?).map (·.op) = some (.call { callee := .value (.func f), args := xs, argTypes := ts })) (hw : Wanted ops a0 kn i) (hst : Stable V)
    (hx : ∀ a w, FKept ops a0 a → FDeps ops kn i a w → xs.map a.eval = vs) (hent : Enters P f)
    (hc : ∀ w, Below base.heap.size base w → Calls P f vs w fun e w' => ∃ v, e = .returned v ∧ V v w' ∧ Below w.heap.size w w') : FStep P ops base a0 Q kn i V :=
  step_mk hst hw fun o ho a w hk hb hd => by
    unfold Oper.wp execOp
    rw [op_of hop ho]
    have e1 : xs.map a.eval = vs := hx a w hk hd
    have e2 : a.eval (.func f) = .func (.func f) #[] #[] := rfl
    simp only [resolve, e1, e2, Deferred.ofValue, Sem.run_bind, Sem.run_pure, Result.andThen_ok, invoke, Array.append_empty, Array.empty_append]
    rw [hent]
    simp only [Oper.upon]
    refine (hc w hb).mono ?_
    rintro e w' ⟨v, rfl, hv, hbw⟩
    exact ⟨v, rfl, hv, hbw⟩
theorem args1 (x : Operand) (v : Value) (hx : Knows ops a0 kn i x (isVal v)) : ∀ a w, FKept ops a0 a → FDeps ops kn i a w → #[x].map a.eval = #[v] := fun a w hk hd => by
  have := hx a w hk hd
  simp only [isVal] at this
  simp [this]
theorem args2 (x y : Operand) (v u : Value) (hx : Knows ops a0 kn i x (isVal v)) (hy : Knows ops a0 kn i y (isVal u)) : ∀ a w, FKept ops a0 a → FDeps ops kn i a w → #[x, y].map a.eval = #[v, u] := fun a w hk hd => by
  have h1 := hx a w hk hd
  have h2 := hy a w hk hd
  simp only [isVal] at h1 h2
  simp [h1, h2]
theorem args3 (x y z : Operand) (v u s : Value) (hx : Knows ops a0 kn i x (isVal v)) (hy : Knows ops a0 kn i y (isVal u)) (hz : Knows ops a0 kn i z (isVal s)) : ∀ a w, FKept ops a0 a → FDeps ops kn i a w → #[x, y, z].map a.eval = #[v, u, s] := fun a w hk hd => by
  have h1 := hx a w hk hd
  have h2 := hy a w hk hd
  have h3 := hz a w hk hd
  simp only [isVal] at h1 h2 h3
  simp [h1, h2, h3]
end

theorem eql_int {P : Program} (t : TypeId) (k : IntKind) (x y : Int) (b : Bool) (h : (x == y) = b) (w : World) : (binOp .eql t (.int k x) (.int k y)).run P w = .ok (.bool b) w := by
  simp [go_sem, h]
theorem neq_int {P : Program} (t : TypeId) (k : IntKind) (x y : Int) (b : Bool) (h : (x != y) = b) (w : World) : (binOp .neq t (.int k x) (.int k y)).run P w = .ok (.bool b) w := by
  simp [go_sem, h]

/-- The operations of a region, out of a function's text. -/
def opsOf (n : Nat) : Code → Option (Array Oper)
  | .region k ops _ => if k = n then some ops else none
  | .seq a b => match opsOf n a with
    | some x => some x
    | none => opsOf n b
  | .cond _ a b => match opsOf n a with
    | some x => some x
    | none => opsOf n b
  | .block _ c => opsOf n c
  | .loop c => opsOf n c
  | .scope c => opsOf n c
  | _ => none
def regionOf (f : Func) (n : Nat) : Array Oper := (f.body.bind (opsOf n)).getD #[]
end Go.Proofs.YtkjghoomdefbbaaGreatDoor
end
section
namespace Go.Proofs.YtkjghoomdefbbaaGreatDoor
open Go.RowKit
set_option linter.unusedVariables false
set_option linter.unusedSimpArgs false

section
variable (P : Program) (ops : Array Oper) (base : World) (a0 : Act) (Q : Exit → Act → World → Prop)

/-- The last operations, in their order. -/
def Tail : Nat → Nat → Act → World → Prop
  | 0, _, a, w => Q .normal a w
  | c + 1, i, a, w => wpOp P ops Q i (fun a' w' => Tail c (i + 1) a' w') a w

/-- From operation i on, k operations more, and then the last ones. -/
def FlowTail (k0 c : Nat) : Nat → Nat → (Nat → VP) → Prop
  | 0, _, kn => ∀ a w, FKept ops a0 a → Below base.heap.size base w → (∀ j, j < k0 → FDone ops kn a w j) → Tail P ops Q c k0 a w
  | k + 1, i, kn => ∃ V, FStep P ops base a0 Q kn i V ∧ FlowTail k0 c k (i + 1) (upd kn i V)

/-- The first of the last ones waits for all ahead of it, each other for the one ahead of it. -/
def tailOk (k0 : Nat) : Bool :=
  decide (k0 ≤ ops.size) && (List.range ops.size).all fun j => if j < k0 then true else if j = k0 then (List.range k0).all fun m => waits ops j m else waits ops j (j - 1)
end

section
variable {P : Program} {ops : Array Oper} {base : World} {a0 : Act} {Q : Exit → Act → World → Prop}

theorem waits_ready {listed : Array Bool} {i j : Nat} (hi : i ∈ Region.ready .any ops listed) (h : waits ops i j = true) : listed.getD j false = true := by
  simp only [Region.ready, List.mem_filter, List.mem_range, Bool.and_eq_true] at hi
  obtain ⟨hilt, hun, hready⟩ := hi
  unfold waits at h
  cases ho : ops[i]? with
  | none => rw [ho] at h; simp at h
  | some o =>
    rw [ho] at h hready
    simp only [Option.any_some, List.any_eq_true, Bool.and_eq_true, beq_iff_eq] at h
    simp only [Option.map_some, Option.getD_some, Array.all_eq_true_iff_forall_mem] at hready
    obtain ⟨e, he, rfl, hb⟩ := h
    have := hready e (Array.mem_toList_iff.1 he)
    rw [hb] at this
    simpa using this

theorem ready_of {listed : Array Bool} {n i : Nat} (hok : flowOk ops n = true) (hl : listed.size = ops.size) (hi : i < ops.size) (hu : listed.getD i false = false) (hd : ∀ j, j < i → listed.getD j false = true) : i ∈ Region.ready .any ops listed := by
  obtain ⟨o, ho⟩ : ∃ o, ops[i]? = some o := ⟨_, Array.getElem?_eq_getElem hi⟩
  have hu' : listed.getD i true = false := by
    have : i < listed.size := by omega
    simpa [Array.getD, this] using hu
  simp only [Region.ready, List.mem_filter, List.mem_range, ho, Option.map_some, Option.getD_some, Bool.and_eq_true, hu']
  refine ⟨hi, rfl, ?_⟩
  rw [Array.all_eq_true_iff_forall_mem]
  intro e he
  cases hbe : Region.binds .any e with
  | false => rfl
  | true => rw [hd e.on ((flowOk_spec hok).1 i o ho e (Array.mem_toList_iff.2 he) hbe)]; rfl

theorem ready_un {listed : Array Bool} {i : Nat} (hl : listed.size = ops.size) (hi : i ∈ Region.ready .any ops listed) : i < ops.size ∧ listed.getD i false = false := by
  simp only [Region.ready, List.mem_filter, List.mem_range, Bool.and_eq_true] at hi
  have : i < listed.size := by omega
  refine ⟨hi.1, ?_⟩
  have h := hi.2.1
  simpa [Array.getD, this] using h

theorem getD_set_same {listed : Array Bool} {i : Nat} (h : i < listed.size) : (listed.setIfInBounds i true).getD i false = true := by simp [Array.getD_eq_getD_getElem?, h]
theorem getD_set_ne {listed : Array Bool} {i j : Nat} (h : j ≠ i) : (listed.setIfInBounds i true).getD j false = listed.getD j false := by
  have h' : ¬ i = j := fun e => h e.symm
  simp [Array.getD_eq_getD_getElem?, Array.getElem?_setIfInBounds, h']

theorem wpAny_tail {n k0 : Nat} (hok : flowOk ops n = true) (ht : tailOk ops k0 = true) : ∀ (c i fuel : Nat) (listed : Array Bool) (a : Act) (w : World), i + c = ops.size → k0 ≤ i → c ≤ fuel → listed.size = ops.size →
    (∀ j, j < ops.size → listed.getD j false = decide (j < i)) → Tail P ops Q c i a w → wpAny P .any ops Q fuel listed a w := by
  have tk : ∀ j, j < ops.size → k0 < j → waits ops j (j - 1) = true := by
    intro j hj hk
    unfold tailOk at ht
    simp only [Bool.and_eq_true, List.all_eq_true, List.mem_range] at ht
    have := ht.2 j hj
    rwa [if_neg (by omega), if_neg (by omega)] at this
  intro c
  induction c with
  | zero =>
    intro i fuel listed a w hi hk hc hl hd h
    have hr : Region.ready .any ops listed = [] := by
      apply List.eq_nil_iff_forall_not_mem.2
      intro j hj
      have := ready_un hl hj
      rw [hd j this.1] at this
      simp at this
      omega
    cases fuel with
    | zero => exact ⟨hr, h⟩
    | succ fuel => exact ⟨fun _ => h, fun j hj => by rw [hr] at hj; cases hj⟩
  | succ c ih =>
    intro i fuel listed a w hi hk hc hl hd h
    cases fuel with
    | zero => omega
    | succ fuel =>
      have hmem : i ∈ Region.ready .any ops listed := ready_of hok hl (by omega) (by rw [hd i (by omega)]; simp) (fun j hj => by rw [hd j (by omega)]; simpa using hj)
      refine ⟨fun hr => (by rw [hr] at hmem; cases hmem), fun j hj => ?_⟩
      have hju := ready_un hl hj
      have hji : j = i := by
        rw [hd j hju.1] at hju
        have hge : i ≤ j := by simpa using hju.2
        by_cases e : j = i
        · exact e
        · exfalso
          have := waits_ready hj (tk j hju.1 (by omega))
          rw [hd (j - 1) (by omega)] at this
          simp at this
          omega
      subst hji
      refine wpOp_mono ?_ h
      intro a' w' h'
      refine ih (j + 1) fuel (listed.setIfInBounds j true) a' w' (by omega) (by omega) (by omega) (by simpa using hl) ?_ h'
      intro m hm
      by_cases e : m = j
      · subst e; rw [getD_set_same (by omega)]; simp
      · rw [getD_set_ne e, hd m hm, decide_eq_decide]; omega

theorem wpAny_flowTail {k0 : Nat} (hok : flowOk ops a0.tmps.size = true) (ht : tailOk ops k0 = true) {kn : Nat → VP} (hs : ∀ m, m < k0 → FStep P ops base a0 Q kn m (kn m))
    (he : FlowTail P ops base a0 Q k0 (ops.size - k0) 0 k0 kn) :
    ∀ (u fuel : Nat) (listed : Array Bool) (a : Act) (w : World), listed.size = ops.size → ((List.range k0).filter fun i => !listed.getD i false).length ≤ u → u + (ops.size - k0) ≤ fuel → (∀ j, k0 ≤ j → listed.getD j false = false) →
      FKept ops a0 a → Below base.heap.size base w → (∀ j, listed.getD j false = true → FDone ops kn a w j) → wpAny P .any ops Q fuel listed a w := by
  obtain ⟨ok1, ok2, ok3⟩ := flowOk_spec hok
  have hk0 : k0 ≤ ops.size := by unfold tailOk at ht; simp only [Bool.and_eq_true, decide_eq_true_eq] at ht; exact ht.1
  have tk : ∀ j, j < ops.size → k0 < j → waits ops j (j - 1) = true := by
    intro j hj hk
    unfold tailOk at ht
    simp only [Bool.and_eq_true, List.all_eq_true, List.mem_range] at ht
    have := ht.2 j hj
    rwa [if_neg (by omega), if_neg (by omega)] at this
  have tk0 : ∀ m, k0 < ops.size → m < k0 → waits ops k0 m = true := by
    intro m hj hk
    unfold tailOk at ht
    simp only [Bool.and_eq_true, List.all_eq_true, List.mem_range] at ht
    have := ht.2 k0 hj
    rw [if_neg (by omega), if_pos rfl] at this
    exact List.all_eq_true.1 this m (by simpa using hk)
  intro u
  induction u with
  | zero =>
    intro fuel listed a w hl hu hf htl hk hb hd
    have hall : ∀ j, j < k0 → listed.getD j false = true := by
      intro j hj
      have h0 : ((List.range k0).filter fun i => !listed.getD i false) = [] := List.eq_nil_of_length_eq_zero (by omega)
      rw [List.filter_eq_nil_iff] at h0
      have := h0 j (by simpa using hj)
      simpa using this
    refine wpAny_tail hok ht (ops.size - k0) k0 fuel listed a w (by omega) (Nat.le_refl _) (by omega) hl ?_ (he a w hk hb (fun j hj => hd j (hall j hj)))
    intro j hj
    by_cases e : j < k0
    · rw [hall j e]; simp [e]
    · rw [htl j (by omega)]; simp [e]
  | succ u ih =>
    intro fuel listed a w hl hu hf htl hk hb hd
    by_cases hall : ∀ j, j < k0 → listed.getD j false = true
    · refine wpAny_tail hok ht (ops.size - k0) k0 fuel listed a w (by omega) (Nat.le_refl _) (by omega) hl ?_ (he a w hk hb (fun j hj => hd j (hall j hj)))
      intro j hj
      by_cases e : j < k0
      · rw [hall j e]; simp [e]
      · rw [htl j (by omega)]; simp [e]
    · -- the least that is not yet done
      have hex : ∃ m, m < k0 ∧ listed.getD m false = false ∧ ∀ j, j < m → listed.getD j false = true := by
        have key : ∀ n, n ≤ k0 → (∀ j, j < n → listed.getD j false = true) ∨ ∃ m, m < n ∧ listed.getD m false = false ∧ ∀ j, j < m → listed.getD j false = true := by
          intro n
          induction n with
          | zero => intro _; exact .inl (fun j hj => absurd hj (by omega))
          | succ n ihn =>
            intro hn
            rcases ihn (by omega) with h | ⟨m, hm, h1, h2⟩
            · cases hc : listed.getD n false with
              | true => exact .inl (fun j hj => by by_cases e : j = n; exact e ▸ hc; exact h j (by omega))
              | false => exact .inr ⟨n, by omega, hc, h⟩
            · exact .inr ⟨m, by omega, h1, h2⟩
        rcases key k0 (Nat.le_refl _) with h | h
        · exact absurd h hall
        · exact h
      obtain ⟨m, hm, hmu, hmd⟩ := hex
      have hmem : m ∈ Region.ready .any ops listed := ready_of hok hl (by omega) hmu hmd
      cases fuel with
      | zero => omega
      | succ fuel =>
        refine ⟨fun hr => (by rw [hr] at hmem; cases hmem), fun i hi => ?_⟩
        have hiu := ready_un hl hi
        have hik : i < k0 := by
          by_cases e : i < k0
          · exact e
          · exfalso
            by_cases e2 : i = k0
            · subst e2
              have := waits_ready hi (tk0 m hiu.1 hm)
              rw [hmu] at this
              cases this
            · have := waits_ready hi (tk i hiu.1 (by omega))
              rw [htl (i - 1) (by omega)] at this
              cases this
        obtain ⟨o, ho⟩ : ∃ o, ops[i]? = some o := ⟨_, Array.getElem?_eq_getElem hiu.1⟩
        have hstep := (hs i hik).2 o ho a w hk hb (by
          intro o' ho' e he' hbd
          rw [ho] at ho'
          cases ho'
          refine hd e.on (waits_ready hi ?_)
          unfold waits
          rw [ho]
          simp only [Option.any_some, List.any_eq_true, Bool.and_eq_true, beq_iff_eq]
          exact ⟨e, he', rfl, hbd⟩)
        refine wpOp_mono ?_ hstep
        rintro a' w' ⟨v, rfl, hV, hbw⟩
        refine ih fuel (listed.setIfInBounds i true) _ w' (by simpa using hl) ?_ (by omega) ?_ ?_ (hb.trans (hbw.mono hb.size)) ?_
        · have hsub : ((List.range k0).filter fun j => !(listed.setIfInBounds i true).getD j false).length < ((List.range k0).filter fun j => !listed.getD j false).length := by
            have e1 : ((List.range k0).filter fun j => !(listed.setIfInBounds i true).getD j false) = ((List.range k0).filter fun j => !listed.getD j false).filter (fun j => j != i) := by
              rw [List.filter_filter]
              apply List.filter_congr
              intro j hj
              by_cases e : j = i
              · subst e; rw [getD_set_same (by omega)]; simp
              · rw [getD_set_ne e]; simp [e]
            rw [e1]
            refine List.length_filter_lt_length_iff_exists.2 ⟨i, ?_, by simp⟩
            simp only [List.mem_filter, List.mem_range]
            exact ⟨hik, by rw [hiu.2]; rfl⟩
          omega
        · intro j hj
          rw [getD_set_ne (by omega)]
          exact htl j hj
        · refine ⟨by rw [defers_put]; exact hk.1, by rw [size_put]; exact hk.2.1, fun t ht' => ?_⟩
          cases hdst : o.dst with
          | none => simp only [Act.put]; exact hk.2.2 t ht'
          | some s =>
            have : s ≠ t := by
              rintro rfl
              have := List.all_eq_true.1 ht' o (by rw [Array.mem_toList_iff]; exact Array.mem_of_getElem? ho)
              rw [hdst] at this
              simp at this
            rw [getD_put (fun h => this h.symm)]
            exact hk.2.2 t ht'
        · intro j hj o' ho' t ht'
          by_cases e : j = i
          · subst e
            rw [ho] at ho'
            cases ho'
            rw [ht', getD_put_self (by rw [hk.2.1]; exact ok3 j o t ho ht')]
            exact hV
          · rw [getD_set_ne e] at hj
            have hne : o.dst ≠ some t := fun hh => e (ok2 j i o' o t ho' ho ht' hh)
            have hold := hd j hj o' ho' t ht'
            have hslot : (a.put o.dst v).tmps.getD t undef = a.tmps.getD t undef := by
              cases hdst : o.dst with
              | none => rfl
              | some s => exact getD_put (fun h => hne (by rw [hdst, h]))
            rw [hslot]
            have hjk : j < k0 := by
              by_cases e2 : j < k0
              · exact e2
              · rw [htl j (by omega)] at hj; cases hj
            exact (hs j hjk).1 _ _ _ hold hbw

theorem flowTail_family {n k0 c : Nat} (hok : flowOk ops n = true) : ∀ k i kn, i + k = k0 → (∀ m, m < i → FStep P ops base a0 Q kn m (kn m)) → FlowTail P ops base a0 Q k0 c k i kn →
    ∃ kn', (∀ m, m < k0 → FStep P ops base a0 Q kn' m (kn' m)) ∧ FlowTail P ops base a0 Q k0 c 0 k0 kn'
  | 0, i, kn, hi, hs, hf => ⟨kn, fun m hm => hs m (by omega), hf⟩
  | k + 1, i, kn, hi, hs, ⟨V, hV, hf⟩ => by
    have agree : ∀ m, m ≠ i → upd kn i V m = kn m := fun m hm => by simp [upd, hm]
    have self : upd kn i V i = V := by simp [upd]
    have shift : ∀ m W, m ≤ i → FStep P ops base a0 Q kn m W → FStep P ops base a0 Q (upd kn i V) m W := by
      intro m W hm h
      refine ⟨h.1, fun o ho a w hk hb hd => h.2 o ho a w hk hb ?_⟩
      intro o' ho' e he hbd
      have hlt := (flowOk_spec hok).1 m o' ho' e he hbd
      exact fdone_congr (agree e.on (by omega)) (hd o' ho' e he hbd)
    refine flowTail_family hok k (i + 1) (upd kn i V) (by omega) (fun m hm => ?_) hf
    by_cases hmi : m = i
    · subst hmi; rw [self]; exact shift m V (Nat.le_refl _) hV
    · rw [agree m hmi]; exact shift m _ (by omega) (hs m (by omega))

/-- THE LAW. -/
theorem wp_region_tail (k0 : Nat) {id : Nat} {a : Act} {w : World} (hm : P.follows .mixedOrders = true) (hok : flowOk ops a.tmps.size = true) (ht : tailOk ops k0 = true)
    (h : FlowTail P ops w a Q k0 (ops.size - k0) k0 0 (fun _ _ _ => False)) : (Code.region id ops true).wp P Q a w := by
  refine wp_region_any hm ?_
  obtain ⟨kn, hs, he⟩ := flowTail_family hok k0 0 _ (by omega) (fun m hm => absurd hm (by omega)) h
  have hk0 : k0 ≤ ops.size := by unfold tailOk at ht; simp only [Bool.and_eq_true, decide_eq_true_eq] at ht; exact ht.1
  refine wpAny_flowTail hok ht hs he k0 ops.size _ a _ (by simp) ?_ (by omega) ?_ ⟨rfl, rfl, fun _ _ => rfl⟩ ((Below.refl _ w).drew) ?_
  · exact Nat.le_trans (List.length_filter_le _ _) (by simp)
  · intro j hj
    simp [Array.getD_eq_getD_getElem?, Array.getElem?_replicate]
    split <;> rfl
  · intro j hj
    simp [Array.getD_eq_getD_getElem?, Array.getElem?_replicate] at hj
    split at hj <;> simp at hj
end
end Go.Proofs.YtkjghoomdefbbaaGreatDoor
end
section
namespace Go.Proofs.YtkjghoomdefbbaaGreatDoor
open Go.RowKit
set_option linter.unusedVariables false
set_option linter.unusedSimpArgs false

/-- What may happen to memory. -/
structure Pre (R : World → World → Prop) : Prop where
  refl : ∀ w, R w w
  trans : ∀ a b c, R a b → R b c → R a c
  grow : ∀ w w', Below w.heap.size w w' → R w w'
  drew : ∀ w, R w w.drew
/-- What the first k operations do not write is as it was. -/
def FKeptN (ops : Array Oper) (k : Nat) (a0 a : Act) : Prop := a.defers = a0.defers ∧ a.tmps.size = a0.tmps.size ∧ ∀ t, ((List.range k).all fun i => (ops[i]?).all fun o => o.dst != some t) = true → a.tmps.getD t undef = a0.tmps.getD t undef
theorem FKeptN.f {ops : Array Oper} {k : Nat} {a0 a : Act} (h : FKeptN ops k a0 a) : FKept ops a0 a := by
  refine ⟨h.1, h.2.1, fun t ht => h.2.2 t ?_⟩
  rw [List.all_eq_true]
  intro i _
  cases ho : ops[i]? with
  | none => rfl
  | some o => exact List.all_eq_true.1 ht o (by rw [Array.mem_toList_iff]; exact Array.mem_of_getElem? ho)
def StableR (R : World → World → Prop) (V : VP) : Prop := ∀ v w w', V v w → R w w' → V v w'

section
variable (R : World → World → Prop) (P : Program) (ops : Array Oper) (base : World) (a0 : Act) (Q : Exit → Act → World → Prop)
/-- What operation j yielded, or did, is as it should be. -/
def RDone (kn : Nat → VP) (a : Act) (w : World) (j : Nat) : Prop := ∀ o, ops[j]? = some o → kn j (match o.dst with | some t => a.tmps.getD t undef | none => undef) w
def RDeps (kn : Nat → VP) (i : Nat) (a : Act) (w : World) : Prop := ∀ o, ops[i]? = some o → ∀ e ∈ o.after.toList, Region.binds .any e = true → RDone ops kn a w e.on
def RStep (k0 : Nat) (kn : Nat → VP) (i : Nat) (V : VP) : Prop := StableR R V ∧ ∀ o, ops[i]? = some o → ∀ a w, FKeptN ops k0 a0 a → R base w → RDeps ops kn i a w →
  wpOp P ops Q i (fun a' w' => ∃ v, a' = a.put o.dst v ∧ (o.dst = none → v = undef) ∧ V v w' ∧ R w w') a w
def RelTail (k0 c : Nat) : Nat → Nat → (Nat → VP) → Prop
  | 0, _, kn => ∀ a w, FKeptN ops k0 a0 a → R base w → (∀ j, j < k0 → RDone ops kn a w j) → Tail P ops Q c k0 a w
  | k + 1, i, kn => ∃ V, RStep R P ops base a0 Q k0 kn i V ∧ RelTail k0 c k (i + 1) (upd kn i V)
end

section
variable {R : World → World → Prop} {P : Program} {ops : Array Oper} {base : World} {a0 : Act} {Q : Exit → Act → World → Prop}
theorem rdone_congr {kn kn' : Nat → VP} {a : Act} {w : World} {j : Nat} (h : kn j = kn' j) (hd : RDone ops kn a w j) : RDone ops kn' a w j := by
  intro o ho
  rw [← h]
  exact hd o ho
theorem rdone_f {kn : Nat → VP} {a : Act} {w : World} {j : Nat} (h : RDone ops kn a w j) : FDone ops kn a w j := by
  intro o ho t ht
  have := h o ho
  rwa [ht] at this
/-- An operation that only reads, or makes memory. -/
theorem RStep.of {k0 : Nat} {kn : Nat → VP} {i : Nat} {V : VP} (hR : Pre R) (hst : StableR R V) (hd : ((ops[i]?).bind (·.dst)).isSome = true) (h : ∀ w, R base w → FStep P ops w a0 Q kn i V) : RStep R P ops base a0 Q k0 kn i V := by
  refine ⟨hst, fun o ho a w hk hb hdp => ?_⟩
  refine wpOp_mono ?_ ((h w hb).2 o ho a w hk.f (Below.refl _ _) (fun o' ho' e he hbd => rdone_f (hdp o' ho' e he hbd)))
  rintro a' w' ⟨v, e, hV, hbw⟩
  refine ⟨v, e, fun hn => ?_, hV, hR.grow _ _ hbw⟩
  rw [ho] at hd
  simp [hn] at hd

end
end Go.Proofs.YtkjghoomdefbbaaGreatDoor
end
section
namespace Go.Proofs.YtkjghoomdefbbaaGreatDoor
open Go.RowKit
set_option linter.unusedVariables false
set_option linter.unusedSimpArgs false
/-- Each of the first ones is waited for by a later one of them, or by the first of the last ones; each other of these waits for the one ahead of it. -/
def tailOkC (ops : Array Oper) (k0 : Nat) : Bool :=
  decide (k0 ≤ ops.size) && (List.range ops.size).all fun j => if j < k0 then ((List.range (k0 + 1)).any fun i => decide (j < i) && waits ops i j) else if j = k0 then true else waits ops j (j - 1)
section
variable {P : Program} {ops : Array Oper} {base : World} {a0 : Act} {Q : Exit → Act → World → Prop}
theorem wpAny_tailC {n k0 : Nat} (hok : flowOk ops n = true) (ht : tailOkC ops k0 = true) : ∀ (c i fuel : Nat) (listed : Array Bool) (a : Act) (w : World), i + c = ops.size → k0 ≤ i → c ≤ fuel → listed.size = ops.size →
    (∀ j, j < ops.size → listed.getD j false = decide (j < i)) → Tail P ops Q c i a w → wpAny P .any ops Q fuel listed a w := by
  have tk : ∀ j, j < ops.size → k0 < j → waits ops j (j - 1) = true := by
    intro j hj hk
    unfold tailOkC at ht
    simp only [Bool.and_eq_true, List.all_eq_true, List.mem_range] at ht
    have := ht.2 j hj
    rwa [if_neg (by omega), if_neg (by omega)] at this
  intro c
  induction c with
  | zero =>
    intro i fuel listed a w hi hk hc hl hd h
    have hr : Region.ready .any ops listed = [] := by
      apply List.eq_nil_iff_forall_not_mem.2
      intro j hj
      have := ready_un hl hj
      rw [hd j this.1] at this
      simp at this
      omega
    cases fuel with
    | zero => exact ⟨hr, h⟩
    | succ fuel => exact ⟨fun _ => h, fun j hj => by rw [hr] at hj; cases hj⟩
  | succ c ih =>
    intro i fuel listed a w hi hk hc hl hd h
    cases fuel with
    | zero => omega
    | succ fuel =>
      have hmem : i ∈ Region.ready .any ops listed := ready_of hok hl (by omega) (by rw [hd i (by omega)]; simp) (fun j hj => by rw [hd j (by omega)]; simpa using hj)
      refine ⟨fun hr => (by rw [hr] at hmem; cases hmem), fun j hj => ?_⟩
      have hju := ready_un hl hj
      have hji : j = i := by
        rw [hd j hju.1] at hju
        have hge : i ≤ j := by simpa using hju.2
        by_cases e : j = i
        · exact e
        · exfalso
          have := waits_ready hj (tk j hju.1 (by omega))
          rw [hd (j - 1) (by omega)] at this
          simp at this
          omega
      subst hji
      refine wpOp_mono ?_ h
      intro a' w' h'
      refine ih (j + 1) fuel (listed.setIfInBounds j true) a' w' (by omega) (by omega) (by omega) (by simpa using hl) ?_ h'
      intro m hm
      by_cases e : m = j
      · subst e; rw [getD_set_same (by omega)]; simp
      · rw [getD_set_ne e, hd m hm, decide_eq_decide]; omega

theorem wpAny_flowTailC {k0 : Nat} (hok : flowOk ops a0.tmps.size = true) (ht : tailOkC ops k0 = true) {kn : Nat → VP} (hs : ∀ m, m < k0 → FStep P ops base a0 Q kn m (kn m))
    (he : FlowTail P ops base a0 Q k0 (ops.size - k0) 0 k0 kn) :
    ∀ (u fuel : Nat) (listed : Array Bool) (a : Act) (w : World), listed.size = ops.size → ((List.range k0).filter fun i => !listed.getD i false).length ≤ u → u + (ops.size - k0) ≤ fuel → (∀ j, k0 ≤ j → listed.getD j false = false) → (∀ j, listed.getD j false = true → ∀ m, waits ops j m = true → listed.getD m false = true) →
      FKept ops a0 a → Below base.heap.size base w → (∀ j, listed.getD j false = true → FDone ops kn a w j) → wpAny P .any ops Q fuel listed a w := by
  obtain ⟨ok1, ok2, ok3⟩ := flowOk_spec hok
  have hk0 : k0 ≤ ops.size := by unfold tailOkC at ht; simp only [Bool.and_eq_true, decide_eq_true_eq] at ht; exact ht.1
  have tk : ∀ j, j < ops.size → k0 < j → waits ops j (j - 1) = true := by
    intro j hj hk
    unfold tailOkC at ht
    simp only [Bool.and_eq_true, List.all_eq_true, List.mem_range] at ht
    have := ht.2 j hj
    rwa [if_neg (by omega), if_neg (by omega)] at this
  have tk0 : ∀ m, m < k0 → ∃ j, m < j ∧ j ≤ k0 ∧ waits ops j m = true := by
    intro m hk
    unfold tailOkC at ht
    simp only [Bool.and_eq_true, List.all_eq_true, List.mem_range] at ht
    have := ht.2 m (by omega)
    rw [if_pos hk, List.any_eq_true] at this
    obtain ⟨j, hj, h⟩ := this
    rw [Bool.and_eq_true, decide_eq_true_eq] at h
    exact ⟨j, h.1, by simpa [Nat.lt_succ_iff] using hj, h.2⟩
  intro u
  induction u with
  | zero =>
    intro fuel listed a w hl hu hf htl hcl hk hb hd
    have hall : ∀ j, j < k0 → listed.getD j false = true := by
      intro j hj
      have h0 : ((List.range k0).filter fun i => !listed.getD i false) = [] := List.eq_nil_of_length_eq_zero (by omega)
      rw [List.filter_eq_nil_iff] at h0
      have := h0 j (by simpa using hj)
      simpa using this
    refine wpAny_tailC hok ht (ops.size - k0) k0 fuel listed a w (by omega) (Nat.le_refl _) (by omega) hl ?_ (he a w hk hb (fun j hj => hd j (hall j hj)))
    intro j hj
    by_cases e : j < k0
    · rw [hall j e]; simp [e]
    · rw [htl j (by omega)]; simp [e]
  | succ u ih =>
    intro fuel listed a w hl hu hf htl hcl hk hb hd
    by_cases hall : ∀ j, j < k0 → listed.getD j false = true
    · refine wpAny_tailC hok ht (ops.size - k0) k0 fuel listed a w (by omega) (Nat.le_refl _) (by omega) hl ?_ (he a w hk hb (fun j hj => hd j (hall j hj)))
      intro j hj
      by_cases e : j < k0
      · rw [hall j e]; simp [e]
      · rw [htl j (by omega)]; simp [e]
    · -- the least that is not yet done
      have hex : ∃ m, m < k0 ∧ listed.getD m false = false ∧ ∀ j, j < m → listed.getD j false = true := by
        have key : ∀ n, n ≤ k0 → (∀ j, j < n → listed.getD j false = true) ∨ ∃ m, m < n ∧ listed.getD m false = false ∧ ∀ j, j < m → listed.getD j false = true := by
          intro n
          induction n with
          | zero => intro _; exact .inl (fun j hj => absurd hj (by omega))
          | succ n ihn =>
            intro hn
            rcases ihn (by omega) with h | ⟨m, hm, h1, h2⟩
            · cases hc : listed.getD n false with
              | true => exact .inl (fun j hj => by by_cases e : j = n; exact e ▸ hc; exact h j (by omega))
              | false => exact .inr ⟨n, by omega, hc, h⟩
            · exact .inr ⟨m, by omega, h1, h2⟩
        rcases key k0 (Nat.le_refl _) with h | h
        · exact absurd h hall
        · exact h
      obtain ⟨m, hm, hmu, hmd⟩ := hex
      have hmem : m ∈ Region.ready .any ops listed := ready_of hok hl (by omega) hmu hmd
      cases fuel with
      | zero => omega
      | succ fuel =>
        refine ⟨fun hr => (by rw [hr] at hmem; cases hmem), fun i hi => ?_⟩
        have hiu := ready_un hl hi
        have hik : i < k0 := by
          by_cases e : i < k0
          · exact e
          · exfalso
            by_cases e2 : i = k0
            · subst e2
              have cov : ∀ d m, m + d = i → 0 < d → listed.getD m false = true := by
                intro d
                induction d using Nat.strongRecOn with
                | _ d ihd =>
                  intro m' hm' hd'
                  obtain ⟨j, h1, h2, h3⟩ := tk0 m' (by omega)
                  by_cases e3 : j = i
                  · rw [e3] at h3; exact waits_ready hi h3
                  · exact hcl j (ihd (i - j) (by omega) j (by omega) (by omega)) m' h3
              have := cov (i - m) m (by omega) (by omega)
              rw [hmu] at this
              cases this
            · have := waits_ready hi (tk i hiu.1 (by omega))
              rw [htl (i - 1) (by omega)] at this
              cases this
        obtain ⟨o, ho⟩ : ∃ o, ops[i]? = some o := ⟨_, Array.getElem?_eq_getElem hiu.1⟩
        have hstep := (hs i hik).2 o ho a w hk hb (by
          intro o' ho' e he' hbd
          rw [ho] at ho'
          cases ho'
          refine hd e.on (waits_ready hi ?_)
          unfold waits
          rw [ho]
          simp only [Option.any_some, List.any_eq_true, Bool.and_eq_true, beq_iff_eq]
          exact ⟨e, he', rfl, hbd⟩)
        refine wpOp_mono ?_ hstep
        rintro a' w' ⟨v, rfl, hV, hbw⟩
        refine ih fuel (listed.setIfInBounds i true) _ w' (by simpa using hl) ?_ (by omega) ?_ ?_ ?_ (hb.trans (hbw.mono hb.size)) ?_
        · have hsub : ((List.range k0).filter fun j => !(listed.setIfInBounds i true).getD j false).length < ((List.range k0).filter fun j => !listed.getD j false).length := by
            have e1 : ((List.range k0).filter fun j => !(listed.setIfInBounds i true).getD j false) = ((List.range k0).filter fun j => !listed.getD j false).filter (fun j => j != i) := by
              rw [List.filter_filter]
              apply List.filter_congr
              intro j hj
              by_cases e : j = i
              · subst e; rw [getD_set_same (by omega)]; simp
              · rw [getD_set_ne e]; simp [e]
            rw [e1]
            refine List.length_filter_lt_length_iff_exists.2 ⟨i, ?_, by simp⟩
            simp only [List.mem_filter, List.mem_range]
            exact ⟨hik, by rw [hiu.2]; rfl⟩
          omega
        · intro j hj
          rw [getD_set_ne (by omega)]
          exact htl j hj
        · intro j hj m' hm'
          by_cases e4 : m' = i
          · subst e4; exact getD_set_same (by omega)
          · rw [getD_set_ne e4]
            by_cases e5 : j = i
            · subst e5; exact waits_ready hi hm'
            · rw [getD_set_ne e5] at hj; exact hcl j hj m' hm'
        · refine ⟨by rw [defers_put]; exact hk.1, by rw [size_put]; exact hk.2.1, fun t ht' => ?_⟩
          cases hdst : o.dst with
          | none => simp only [Act.put]; exact hk.2.2 t ht'
          | some s =>
            have : s ≠ t := by
              rintro rfl
              have := List.all_eq_true.1 ht' o (by rw [Array.mem_toList_iff]; exact Array.mem_of_getElem? ho)
              rw [hdst] at this
              simp at this
            rw [getD_put (fun h => this h.symm)]
            exact hk.2.2 t ht'
        · intro j hj o' ho' t ht'
          by_cases e : j = i
          · subst e
            rw [ho] at ho'
            cases ho'
            rw [ht', getD_put_self (by rw [hk.2.1]; exact ok3 j o t ho ht')]
            exact hV
          · rw [getD_set_ne e] at hj
            have hne : o.dst ≠ some t := fun hh => e (ok2 j i o' o t ho' ho ht' hh)
            have hold := hd j hj o' ho' t ht'
            have hslot : (a.put o.dst v).tmps.getD t undef = a.tmps.getD t undef := by
              cases hdst : o.dst with
              | none => rfl
              | some s => exact getD_put (fun h => hne (by rw [hdst, h]))
            rw [hslot]
            have hjk : j < k0 := by
              by_cases e2 : j < k0
              · exact e2
              · rw [htl j (by omega)] at hj; cases hj
            exact (hs j hjk).1 _ _ _ hold hbw

/-- THE LAW. -/
theorem wp_region_cov (k0 : Nat) {id : Nat} {a : Act} {w : World} (hm : P.follows .mixedOrders = true) (hok : flowOk ops a.tmps.size = true) (ht : tailOkC ops k0 = true)
    (h : FlowTail P ops w a Q k0 (ops.size - k0) k0 0 (fun _ _ _ => False)) : (Code.region id ops true).wp P Q a w := by
  refine wp_region_any hm ?_
  obtain ⟨kn, hs, he⟩ := flowTail_family hok k0 0 _ (by omega) (fun m hm => absurd hm (by omega)) h
  have hk0 : k0 ≤ ops.size := by unfold tailOkC at ht; simp only [Bool.and_eq_true, decide_eq_true_eq] at ht; exact ht.1
  refine wpAny_flowTailC hok ht hs he k0 ops.size _ a _ (by simp) ?_ (by omega) ?_ ?_ ⟨rfl, rfl, fun _ _ => rfl⟩ ((Below.refl _ w).drew) ?_
  · exact Nat.le_trans (List.length_filter_le _ _) (by simp)
  · intro j hj
    simp [Array.getD_eq_getD_getElem?, Array.getElem?_replicate]
    split <;> rfl
  · intro j hj
    simp [Array.getD_eq_getD_getElem?, Array.getElem?_replicate] at hj
    split at hj <;> simp at hj
  · intro j hj
    simp [Array.getD_eq_getD_getElem?, Array.getElem?_replicate] at hj
    split at hj <;> simp at hj
end
section
variable {R : World → World → Prop} {P : Program} {ops : Array Oper} {base : World} {a0 : Act} {Q : Exit → Act → World → Prop}
/-- Memory grows. -/
def Grows (w w' : World) : Prop := Below w.heap.size w w'
/-- What stood in a slot that the last ones alone write. -/
theorem RStep.old {k0 : Nat} {kn : Nat → VP} {i : Nat} (t : Tmp) (v : Value) (hop : (ops[i]?).map (fun o => (o.op, o.guard)) = some (.move (.tmp t), none)) (hd : ((ops[i]?).bind (·.dst)).isSome = true) (hk : ((List.range k0).all fun i => (ops[i]?).all fun o => o.dst != some t) = true)
    (hv : a0.tmps.getD t undef = v) : RStep Grows P ops base a0 Q k0 kn i (isVal v) := by
  refine ⟨fun _ _ _ h _ => h, fun o ho a w hkp hb hdp => ?_⟩
  rw [ho] at hop hd
  simp only [Option.map_some, Option.some.injEq, Prod.mk.injEq] at hop
  have e : a.eval (.tmp t) = v := (hkp.2.2 t hk).trans hv
  unfold wpOp
  simp only [ho]
  rw [show Region.wanted o (yielded ops a.tmps) = true by simp [Region.wanted, hop.2]]
  refine .inl ?_
  unfold Oper.wp execOp
  rw [hop.1]
  refine ⟨_, rfl, fun hn => ?_, e, Below.refl _ _⟩
  simp [hn] at hd
end
end Go.Proofs.YtkjghoomdefbbaaGreatDoor
end
section
namespace Go.Proofs.YtkjghoomdefbbaaGreatDoor
open Go.RowKit
set_option linter.unusedVariables false

theorem setAll_size (g : Nat → Value) : ∀ (L : List Nat) (t : Array Value), (L.foldl (fun t s => t.setIfInBounds s (g s)) t).size = t.size
  | [], t => rfl
  | s :: L, t => by rw [List.foldl_cons, setAll_size g L]; simp
theorem setAll_get (g : Nat → Value) : ∀ (L : List Nat) (t : Array Value) (i : Nat), i < t.size → (L.foldl (fun t s => t.setIfInBounds s (g s)) t)[i]? = if L.contains i then some (g i) else t[i]?
  | [], t, i, hi => by simp
  | s :: L, t, i, hi => by
    rw [List.foldl_cons, setAll_get g L _ i (by simpa using hi), List.contains_cons]
    by_cases h : L.contains i = true
    · rw [h, Bool.or_true]; simp only [if_true]
    · simp only [h, Bool.false_eq_true, if_false, Bool.or_false]
      by_cases e : i = s
      · subst e; simp [hi]
      · simp [Ne.symm e, e]
theorem act_of {a a0 : Act} (hd : a.defers = a0.defers) (hs : a.tmps.size = a0.tmps.size) (L : List Nat) (hk : ∀ t, L.contains t = false → a.tmps.getD t undef = a0.tmps.getD t undef) :
    a = { tmps := L.foldl (fun t s => t.setIfInBounds s (a.tmps.getD s undef)) a0.tmps, defers := a0.defers } := by
  obtain ⟨tm, df⟩ := a
  simp only at hd hs hk ⊢
  subst hd
  congr 1
  apply Array.ext_getElem?
  intro i
  by_cases hi : i < a0.tmps.size
  · rw [setAll_get _ _ _ _ hi]
    by_cases h : L.contains i = true
    · rw [if_pos h]; simp [show i < tm.size by omega]
    · rw [if_neg h]
      have := hk i (by simpa using h)
      simpa [Array.getD_eq_getD_getElem?, show i < tm.size by omega, hi] using this
  · rw [Array.getElem?_eq_none (by omega), Array.getElem?_eq_none (by rw [setAll_size]; omega)]
theorem kept_of {ops : Array Oper} {a0 a : Act} (h : FKept ops a0 a) (D : List (Option Nat)) (L : List Nat) (hD : ops.toList.map (·.dst) = D) (hL : D.filterMap id = L) :
    a = { tmps := L.foldl (fun t s => t.setIfInBounds s (a.tmps.getD s undef)) a0.tmps, defers := a0.defers } := by
  refine act_of h.1 h.2.1 L (fun t ht => h.2.2 t ?_)
  rw [List.all_eq_true]
  intro o ho
  have hm : o.dst ∈ D := by rw [← hD]; exact List.mem_map.2 ⟨o, ho, rfl⟩
  cases hdst : o.dst with
  | none => rfl
  | some s =>
    rw [hdst] at hm
    have : s ∈ L := by rw [← hL]; exact List.mem_filterMap.2 ⟨some s, hm, rfl⟩
    simp only [bne_iff_ne, ne_eq, Option.some.injEq]
    rintro rfl
    rw [List.contains_eq_mem] at ht
    simp [this] at ht
end Go.Proofs.YtkjghoomdefbbaaGreatDoor
end
section
namespace Go.Proofs.YtkjghoomdefbbaaGreatDoor
open Go.RowKit
set_option linter.unusedVariables false
set_option linter.unusedSimpArgs false

/-- Block g's first cell holds x, and may be written. -/
structure At (w : World) (g : Nat) (x : Value) : Prop where
  cell : w.cell? ⟨g, 0, none⟩ = some x
  free : w.frozen? ⟨g, 0, none⟩ = false
  lt : g < w.heap.size
/-- Block g's first cell has come to be x; no other block that was there has turned. -/
structure Wr (g : Nat) (x : Value) (w w' : World) : Prop where
  os : w'.os = w.os
  tape : w'.tape = w.tape
  output : w'.output = w.output
  size : w.heap.size ≤ w'.heap.size
  block : ∀ k, k < w.heap.size → k ≠ g → w'.heap[k]? = w.heap[k]?
  at_ : At w' g x
theorem At.keep {w w' : World} {g : Nat} {x : Value} (h : At w g x) (hb : Below w.heap.size w w') : At w' g x :=
  ⟨(hb.cell (p := ⟨g, 0, none⟩) h.lt).trans h.cell, (hb.frozen (p := ⟨g, 0, none⟩) h.lt).trans h.free, Nat.lt_of_lt_of_le h.lt hb.size⟩
theorem Wr.trans {g : Nat} {x y : Value} {a b c : World} (h : Wr g x a b) (k : Wr g y b c) : Wr g y a c :=
  ⟨k.os.trans h.os, k.tape.trans h.tape, k.output.trans h.output, Nat.le_trans h.size k.size, fun i hi hne => (k.block i (Nat.lt_of_lt_of_le hi h.size) hne).trans (h.block i hi hne), k.at_⟩
theorem Wr.then_ {g : Nat} {x : Value} {a b c : World} (h : Wr g x a b) (k : Below b.heap.size b c) : Wr g x a c :=
  ⟨k.os.trans h.os, k.tape.trans h.tape, k.output.trans h.output, Nat.le_trans h.size k.size, fun i hi hne => (k.block i (Nat.lt_of_lt_of_le hi h.size)).trans (h.block i hi hne), h.at_.keep k⟩
theorem Wr.behind {g : Nat} {x : Value} {a b c : World} (h : Below a.heap.size a b) (k : Wr g x b c) : Wr g x a c :=
  ⟨k.os.trans h.os, k.tape.trans h.tape, k.output.trans h.output, Nat.le_trans h.size k.size, fun i hi hne => (k.block i (Nat.lt_of_lt_of_le hi h.size) hne).trans (h.block i hi), k.at_⟩
theorem Wr.refl {g : Nat} {x : Value} {w : World} (h : At w g x) : Wr g x w w := ⟨rfl, rfl, rfl, Nat.le_refl _, fun _ _ _ => rfl, h⟩
theorem Wr.set {g : Nat} {x : Value} {w : World} (h : At w g x) (y : Value) : Wr g y w (w.setCell ⟨g, 0, none⟩ y) where
  os := rfl
  tape := rfl
  output := rfl
  size := by simp
  block k hk hne := Below.heap_setCell w _ y k hne
  at_ := ⟨World.cell?_setCell_same w _ _ h.cell, by rw [World.frozen?_setCell]; exact h.free, by simpa using h.lt⟩
/-- Seen from below g nothing has turned. -/
theorem Wr.below {g B : Nat} {x : Value} {w w' : World} (h : Wr g x w w') (hB : B ≤ g) (hs : B ≤ w.heap.size) : Below B w w' :=
  ⟨h.os, h.tape, h.output, h.size, fun k hk => h.block k (by omega) (by omega)⟩
theorem Wr.cell {g : Nat} {x : Value} {w w' : World} (h : Wr g x w w') {p : Addr} (hp : p.block < w.heap.size) (hne : p.block ≠ g) : w'.cell? p = w.cell? p := World.cell?_of_block (w := w) (h.block p.block hp hne)
theorem Wr.frozen {g : Nat} {x : Value} {w w' : World} (h : Wr g x w w') {p : Addr} (hp : p.block < w.heap.size) (hne : p.block ≠ g) : w'.frozen? p = w.frozen? p := World.frozen?_of_block (w := w) (h.block p.block hp hne)

theorem kept_ex {ops : Array Oper} {a0 a : Act} (h : FKept ops a0 a) (D : List (Option Nat)) (L : List Nat) (hD : ops.toList.map (·.dst) = D) (hL : D.filterMap id = L) : ∃ y : Nat → Value, a = { tmps := L.foldl (fun t s => t.setIfInBounds s (y s)) a0.tmps, defers := a0.defers } := ⟨fun s => a.tmps.getD s undef, kept_of h D L hD hL⟩
theorem put_kept {Q : Exit → Act → World → Prop} {a : Act} {d : Tmp} {v : Value} {t : Array Value} {ds : List Deferred} {w : World} (e : a = { tmps := t, defers := ds }) (h : Q .normal { tmps := t.setIfInBounds d v, defers := ds } w) : Q .normal (a.put (some d) v) w := by
  subst e
  exact h
section
variable {P : Program} {ops : Array Oper} {Q : Exit → Act → World → Prop} {i : Nat} {a : Act} {w : World} {c : Nat}
/-- A call among the last operations; its own world may turn as it likes. -/
theorem tail_call (f : FuncId) (xs : Array Operand) (ts : Array TypeId) (vs : Array Value) (d : Tmp) (hop : (ops[i]?).map (fun o => (o.op, o.guard)) = some (.call { callee := .value (.func f), args := xs, argTypes := ts }, none)) (hd : (ops[i]?).bind (·.dst) = some d)
    (hx : xs.map a.eval = vs) (hent : Enters P f) (h : Calls P f vs w fun e w' => ∃ v, e = .returned v ∧ Tail P ops Q c (i + 1) (a.put (some d) v) w') : Tail P ops Q (c + 1) i a w := by
  show wpOp P ops Q i (fun a' w' => Tail P ops Q c (i + 1) a' w') a w
  unfold wpOp
  cases ho : ops[i]? with
  | none => rw [ho] at hop; simp at hop
  | some o =>
    rw [ho] at hop hd
    simp only [Option.map_some, Option.some.injEq, Prod.mk.injEq] at hop
    simp only [Option.bind_some] at hd
    simp only []
    rw [show Region.wanted o (yielded ops a.tmps) = true by simp [Region.wanted, hop.2]]
    refine .inl ?_
    unfold Oper.wp execOp
    rw [hop.1]
    have e2 : a.eval (.func f) = .func (.func f) #[] #[] := rfl
    simp only [resolve, hx, e2, Deferred.ofValue, Sem.run_bind, Sem.run_pure, Result.andThen_ok, invoke, Array.append_empty, Array.empty_append]
    rw [hent]
    simp only [Oper.upon]
    refine h.mono ?_
    rintro e w' ⟨v, rfl, hv⟩
    rw [← hd] at hv
    exact hv
/-- A call of a function value. -/
theorem tail_callV (x : Operand) (f : FuncId) (first : Array Value) (xs : Array Operand) (ts : Array TypeId) (vs : Array Value) (d : Tmp) (hop : (ops[i]?).map (fun o => (o.op, o.guard)) = some (.call { callee := .value x, args := xs, argTypes := ts }, none)) (hd : (ops[i]?).bind (·.dst) = some d)
    (hv : a.eval x = .func (.func f) first #[]) (hx : xs.map a.eval = vs) (hent : Enters P f) (h : Calls P f (first ++ vs) w fun e w' => ∃ v, e = .returned v ∧ Tail P ops Q c (i + 1) (a.put (some d) v) w') : Tail P ops Q (c + 1) i a w := by
  show wpOp P ops Q i (fun a' w' => Tail P ops Q c (i + 1) a' w') a w
  unfold wpOp
  cases ho : ops[i]? with
  | none => rw [ho] at hop; simp at hop
  | some o =>
    rw [ho] at hop hd
    simp only [Option.map_some, Option.some.injEq, Prod.mk.injEq] at hop
    simp only [Option.bind_some] at hd
    simp only []
    rw [show Region.wanted o (yielded ops a.tmps) = true by simp [Region.wanted, hop.2]]
    refine .inl ?_
    unfold Oper.wp execOp
    rw [hop.1]
    simp only [resolve, hx, hv, Deferred.ofValue, Sem.run_bind, Sem.run_pure, Result.andThen_ok, invoke, Array.append_empty, Array.empty_append]
    rw [hent]
    simp only [Oper.upon]
    refine h.mono ?_
    rintro e w' ⟨v, rfl, hv⟩
    rw [← hd] at hv
    exact hv
end
end Go.Proofs.YtkjghoomdefbbaaGreatDoor
end
section
namespace Go.Proofs.YtkjghoomdefbbaaGreatDoor
open Go.RowKit
set_option linter.unusedVariables false

/-- f of both bytes, where the second text has one; else the first one's. -/
def pairL (f : UInt8 → UInt8 → UInt8) : List UInt8 → List UInt8 → List UInt8
  | [], _ => []
  | a :: r, [] => a :: r
  | a :: r, b :: q => f a b :: pairL f r q

end Go.Proofs.YtkjghoomdefbbaaGreatDoor
end
section
namespace Go.Proofs
open Go.Shelf
def Tryz.lays105_ren : Go.Shelf.Ren := ⟨fun | 105 => 107 | 212 => 120 | 99 => 121 | 165 => 122 | 166 => 123 | 170 => 124 | 169 => 125 | 263 => 130 | 264 => 131 | 206 => 132 | 240 => 133 | 241 => 134 | 276 => 139 | 277 => 140 | n => n, fun | 9 => 9 | 3 => 3 | 4 => 4 | 20 => 20 | 0 => 0 | 46 => 55 | 109 => 148 | 5 => 5 | 72 => 153 | 76 => 156 | 51 => 94 | 146 => 165 | 53 => 44 | 148 => 167 | 70 => 151 | 37 => 63 | 75 => 155 | 127 => 169 | 164 => 174 | 80 => 159 | n => n, fun | n => n⟩
theorem Tryz.lays105 : Go.Proofs.Lays.n105 Tryz.prog Tryz.lays105_ren := {
  mixed := by kernel_rfl
  f99 := Tryz.func121.trans (congrArg some (by kernel_rfl))
  f105 := Tryz.func107.trans (congrArg some (by kernel_rfl))
  f165 := Tryz.func122.trans (congrArg some (by kernel_rfl))
  f166 := Tryz.func123.trans (congrArg some (by kernel_rfl))
  f169 := Tryz.func125.trans (congrArg some (by kernel_rfl))
  f170 := Tryz.func124.trans (congrArg some (by kernel_rfl))
  f206 := Tryz.func132.trans (congrArg some (by kernel_rfl))
  f212 := Tryz.func120.trans (congrArg some (by kernel_rfl))
  f240 := Tryz.func133.trans (congrArg some (by kernel_rfl))
  f241 := Tryz.func134.trans (congrArg some (by kernel_rfl))
  f263 := Tryz.func130.trans (congrArg some (by kernel_rfl))
  f264 := Tryz.func131.trans (congrArg some (by kernel_rfl))
  f276 := Tryz.func139.trans (congrArg some (by kernel_rfl))
  f277 := Tryz.func140.trans (congrArg some (by kernel_rfl))
  t0 := Tryz.underlying0
  a0 := Tryz.isAgg0
  z0 := Tryz.sizeOf0
  v0 := Tryz.zeroValue0
  t3 := Tryz.underlying3
  a3 := Tryz.isAgg3
  z3 := Tryz.sizeOf3
  v3 := Tryz.zeroValue3
  t4 := Tryz.underlying4
  a4 := Tryz.isAgg4
  z4 := Tryz.sizeOf4
  v4 := Tryz.zeroValue4
  t5 := Tryz.underlying5
  a5 := Tryz.isAgg5
  z5 := Tryz.sizeOf5
  v5 := Tryz.zeroValue5
  t9 := Tryz.underlying9
  a9 := Tryz.isAgg9
  z9 := Tryz.sizeOf9
  v9 := Tryz.zeroValue9
  t20 := Tryz.underlying20
  a20 := Tryz.isAgg20
  z20 := Tryz.sizeOf20
  v20 := Tryz.zeroValue20
  t37 := Tryz.underlying63
  a37 := Tryz.isAgg63
  z37 := Tryz.sizeOf63
  v37 := Tryz.zeroValue63
  t46 := Tryz.underlying55
  a46 := Tryz.isAgg55
  z46 := Tryz.sizeOf55
  v46 := Tryz.zeroValue55
  t51 := Tryz.underlying94
  a51 := Tryz.isAgg94
  z51 := Tryz.sizeOf94
  v51 := Tryz.zeroValue94
  t53 := Tryz.underlying44
  a53 := Tryz.isAgg44
  z53 := Tryz.sizeOf44
  v53 := Tryz.zeroValue44
  t70 := Tryz.underlying151
  a70 := Tryz.isAgg151
  z70 := Tryz.sizeOf151
  v70 := Tryz.zeroValue151
  t72 := Tryz.underlying153
  a72 := Tryz.isAgg153
  z72 := Tryz.sizeOf153
  v72 := Tryz.zeroValue153
  t75 := Tryz.underlying155
  a75 := Tryz.isAgg155
  z75 := Tryz.sizeOf155
  v75 := Tryz.zeroValue155
  t76 := Tryz.underlying156
  a76 := Tryz.isAgg156
  z76 := Tryz.sizeOf156
  v76 := Tryz.zeroValue156
  t109 := Tryz.underlying148
  a109 := Tryz.isAgg148
  z109 := Tryz.sizeOf148
  v109 := Tryz.zeroValue148
  t127 := Tryz.underlying169
  a127 := Tryz.isAgg169
  z127 := Tryz.sizeOf169
  v127 := Tryz.zeroValue169
  t146 := Tryz.underlying165
  a146 := Tryz.isAgg165
  z146 := Tryz.sizeOf165
  v146 := Tryz.zeroValue165
  t148 := Tryz.underlying167
  a148 := Tryz.isAgg167
  z148 := Tryz.sizeOf167
  v148 := Tryz.zeroValue167
  t164 := Tryz.underlying174
  a164 := Tryz.isAgg174
  z164 := Tryz.sizeOf174
  v164 := Tryz.zeroValue174 }
theorem Tryz.Builder_Extra_105 : Builder.Extra Tryz.prog Tryz.lays105_ren := {
  sizeBuilder := by kernel_rfl
  liesBuilder := by kernel_rfl
  t5 := Tryz.underlying5
  a5 := Tryz.isAgg5
  z5 := Tryz.sizeOf5
  v5 := Tryz.zeroValue5
  infoByte := by kernel_rfl
  cellsByte := by kernel_rfl
  sizeByte := by kernel_rfl
  neB5 := by decide }
open Go.RowKit Go.Lib in
theorem Tryz.strings_Repeat (s : ByteArray) (c : Nat) (w : World) (hc : c ≤ 9223372036854775807) (hlen : s.size * c ≤ 140737488355328) :
    Calls Tryz.prog 107 #[.string s, .int .i64 c] w fun e w' => e = .returned (.string ⟨(Lib.repeatL s.data.toList c).toArray⟩) ∧ Below w.heap.size w w' := Any.strings_Repeat Tryz.lays105 Tryz.Builder_Extra_105 s c w hc hlen
def Tryz.lays111_ren : Go.Shelf.Ren := ⟨fun | 111 => 128 | n => n, fun | 28 => 23 | 3 => 3 | 4 => 4 | 0 => 0 | n => n, fun | n => n⟩
theorem Tryz.lays111 : Go.Proofs.Lays.n111 Tryz.prog Tryz.lays111_ren := {
  mixed := by kernel_rfl
  f111 := Tryz.func128.trans (congrArg some (by kernel_rfl))
  t0 := Tryz.underlying0
  a0 := Tryz.isAgg0
  z0 := Tryz.sizeOf0
  v0 := Tryz.zeroValue0
  t3 := Tryz.underlying3
  a3 := Tryz.isAgg3
  z3 := Tryz.sizeOf3
  v3 := Tryz.zeroValue3
  t4 := Tryz.underlying4
  a4 := Tryz.isAgg4
  z4 := Tryz.sizeOf4
  v4 := Tryz.zeroValue4
  t28 := Tryz.underlying23
  a28 := Tryz.isAgg23
  z28 := Tryz.sizeOf23
  v28 := Tryz.zeroValue23 }
open Go.RowKit Go.Lib in
theorem Tryz.slices_Equal_int (b1 o1 n c b2 o2 m d : Nat) (xs ys : List Int) (w : World) (hx : n ≤ xs.length) (hy : m ≤ ys.length) (hbig : n ≤ 9223372036854775807) (hbig2 : m ≤ 9223372036854775807) (hc1 : ∀ j, j < xs.length → w.cell? ⟨b1, o1 + j, none⟩ = some (.int .i64 (xs.getD j 0))) (hc2 : ∀ j, j < ys.length → w.cell? ⟨b2, o2 + j, none⟩ = some (.int .i64 (ys.getD j 0))) :
    Calls Tryz.prog 128 #[.slice (some ⟨b1, o1, none⟩) n c, .slice (some ⟨b2, o2, none⟩) m d] w fun e w' => e = .returned (.bool (xs.take n == ys.take m)) ∧ ∃ q, w' = w.drewN q := Any.slices_Equal_int Tryz.lays111 b1 o1 n c b2 o2 m d xs ys w hx hy hbig hbig2 hc1 hc2
open Go.RowKit Go.Lib in
theorem Tryz.slices_Equal_int_empty (a1 a2 : Option Addr) (c m d : Nat) (w : World) (hbig2 : m ≤ 9223372036854775807) :
    Calls Tryz.prog 128 #[.slice a1 0 c, .slice a2 m d] w fun e w' => e = .returned (.bool (decide (m = 0))) ∧ w' = w := Any.slices_Equal_int_empty Tryz.lays111 a1 a2 c m d w hbig2
def Tryz.laysNm215_ren : Go.Shelf.Ren := ⟨fun | 15 => 74 | n => n, fun | 22 => 23 | 3 => 3 | 4 => 4 | n => n, fun | n => n⟩
theorem Tryz.laysNm215 : Go.Proofs.Lays2.n15 Tryz.prog Tryz.laysNm215_ren := {
  mixed := by kernel_rfl
  f15 := Tryz.func74.trans (congrArg some (by kernel_rfl))
  t3 := Tryz.underlying3
  a3 := Tryz.isAgg3
  z3 := Tryz.sizeOf3
  v3 := Tryz.zeroValue3
  t4 := Tryz.underlying4
  a4 := Tryz.isAgg4
  z4 := Tryz.sizeOf4
  v4 := Tryz.zeroValue4
  t22 := Tryz.underlying23
  a22 := Tryz.isAgg23
  z22 := Tryz.sizeOf23
  v22 := Tryz.zeroValue23
  i3 := by kernel_rfl }
open Go.RowKit Go.Lib in
theorem Tryz.slices_Clone_int (b off n c : Nat) (zs : List Int) (w : World) (hz : n ≤ zs.length) (hbig : n * 8 ≤ 140737488355328) (hc : ∀ j, j < zs.length → w.cell? ⟨b, off + j, none⟩ = some (.int .i64 (zs.getD j 0))) :
    Calls Tryz.prog 74 #[.slice (some ⟨b, off, none⟩) n c] w fun e w' => ∃ v', e = .returned v' ∧ w'.ownsRow w.heap.size 3 1 v' n ((zs.take n).map (Value.int .i64)) ∧ v' ≠ .slice none 0 0 ∧ Below w.heap.size w w' := Any.slices_Clone_int Tryz.laysNm215 b off n c zs w hz hbig hc
open Go.RowKit Go.Lib in
theorem Tryz.slices_Clone_int_nil (n c : Nat) (w : World) :
    Calls Tryz.prog 74 #[.slice none n c] w fun e w' => e = .returned (.slice none 0 0) ∧ w' = w := Any.slices_Clone_int_nil Tryz.laysNm215 n c w
open Go.RowKit Go.Lib in
theorem Tryz.slices_Clone_int_zero (a : Addr) (c : Nat) (w : World) :
    Calls Tryz.prog 74 #[.slice (some a) 0 c] w fun e w' => ∃ v', e = .returned v' ∧ w'.ownsRow w.heap.size 3 1 v' 0 [] ∧ v' ≠ .slice none 0 0 ∧ Below w.heap.size w w' := Any.slices_Clone_int_zero Tryz.laysNm215 a c w
end Go.Proofs
end
section
namespace Go.Proofs.YtkjghoomdefbbaaGreatDoor
open Go.RowKit
set_option linter.unusedVariables false

/-- So many bytes of ones alone; none, if the number is out of its range. -/
def onesL (n : Int) : List UInt8 := if 0 ≤ n ∧ n ≤ 100000 then List.replicate n.toNat 255 else []

/-- How many bits are ones. -/
def popB (b : UInt8) : Nat := Lib.onesCount b.toNat
def countL : List UInt8 → Nat
  | [] => 0
  | b :: r => popB b + countL r

end Go.Proofs.YtkjghoomdefbbaaGreatDoor
end
section
namespace Go.Proofs.YtkjghoomdefbbaaGreatDoor
set_option linter.unusedVariables false

end Go.Proofs.YtkjghoomdefbbaaGreatDoor
end
section
namespace Go.Proofs.YtkjghoomdefbbaaGreatDoor
open Go.RowKit
set_option linter.unusedVariables false

theorem str_eta (a : ByteArray) : a = ⟨a.data.toList.toArray⟩ := by cases a; simp
theorem size_mk (l : List UInt8) : (ByteArray.mk l.toArray).size = l.length := by simp [ByteArray.size]

end Go.Proofs.YtkjghoomdefbbaaGreatDoor
end
section
namespace Go.Proofs.YtkjghoomdefbbaaGreatDoor
open Go.RowKit
set_option linter.unusedVariables false
set_option linter.unusedSimpArgs false

/-- A fact that the walk does not look at. -/
structure Kept (p : Prop) : Prop where
  out : p
/-- A slice of just these cells. -/
def isCells (cs : List Value) : VP := fun v w => (v = .slice none 0 0 ∧ cs = []) ∨ (∃ a cap, v = .slice (some a) 0 cap ∧ cs = []) ∨
  ∃ b off cap, v = .slice (some ⟨b, off, none⟩) cs.length cap ∧ b < w.heap.size ∧ ∀ (j : Nat) (x : Value), cs[j]? = some x → w.cell? ⟨b, off + j, none⟩ = some x
theorem stable_cells (cs : List Value) : Stable (isCells cs) := by
  intro v w w' h hb
  rcases h with h | h | ⟨b, off, cap, e, hlt, hc⟩
  · exact .inl h
  · exact .inr (.inl h)
  · exact .inr (.inr ⟨b, off, cap, e, Nat.lt_of_lt_of_le hlt hb.size, fun j x hx => (hb.cell (p := ⟨b, off + j, none⟩) hlt).trans (hc j x hx)⟩)
theorem isCells.len {cs : List Value} {v : Value} {w : World} (h : isCells cs v w) : ∃ a cap, v = .slice a cs.length cap := by
  rcases h with ⟨rfl, rfl⟩ | ⟨a, cap, rfl, rfl⟩ | ⟨b, off, cap, rfl, _⟩
  · exact ⟨_, _, rfl⟩
  · exact ⟨_, _, rfl⟩
  · exact ⟨_, _, rfl⟩
theorem isCells.some_ {cs : List Value} {v : Value} {w : World} (h : isCells cs v w) (h0 : 0 < cs.length) : ∃ b off cap, v = .slice (some ⟨b, off, none⟩) cs.length cap ∧ b < w.heap.size ∧ ∀ (j : Nat) (x : Value), cs[j]? = some x → w.cell? ⟨b, off + j, none⟩ = some x := by
  rcases h with ⟨rfl, rfl⟩ | ⟨a, cap, rfl, rfl⟩ | h
  · simp at h0
  · simp at h0
  · exact h
theorem isCells_own {w : World} {B : Nat} {e : TypeId} {v : Value} {n : Nat} {cs : List Value} (h : w.ownsRow B e 1 v n cs) : isCells cs v w := by
  obtain ⟨hl, h | ⟨g, cap, cur, rfl, hB, hg, hn, _, hs, ht⟩⟩ := h
  · obtain ⟨rfl, rfl⟩ := h
    exact .inl ⟨rfl, List.eq_nil_of_length_eq_zero (by simpa using hl)⟩
  · rw [Nat.mul_one] at hl
    subst hl
    refine .inr (.inr ⟨g, 0, cap, rfl, (Array.getElem?_eq_some_iff.1 hg).1, fun j x hx => ?_⟩)
    have hj := (List.getElem?_eq_some_iff.1 hx).1
    rw [← ht] at hx
    rw [Nat.mul_one, List.getElem?_take, if_pos hj] at hx
    simp only [World.cell?, hg]
    simpa using hx

def strC (l : List UInt8) : Value := .string ⟨l.toArray⟩
def intC (n : Int) : Value := .int .i64 n
theorem get_map {α : Type} (f : α → Value) (l : List α) (j : Nat) (h : j < l.length) : (l.map f)[j]? = some (f l[j]) := by simp [h]

/-- A device. -/
structure Fl where
  pages : List (List UInt8)
  wear : List Int
  fuse : Int
  torn : List UInt8
  dead : Bool
def isFl (F : Fl) : VP := fun v w => ∃ vp vw, v = .agg #[vp, vw, .int .i64 F.fuse, strC F.torn, .bool F.dead] ∧ isCells (F.pages.map strC) vp w ∧ isCells (F.wear.map intC) vw w
/-- The place of the first one, or -1. -/
def firstAt (p : Value → Bool) (cs : List Value) : Int := match cs.findIdx? p with | some i => (i : Int) | none => -1
end Go.Proofs.YtkjghoomdefbbaaGreatDoor
end
section
namespace Go.Proofs.YtkjghoomdefbbaaGreatDoor
open Go.RowKit
set_option linter.unusedVariables false
set_option linter.unusedSimpArgs false

theorem firstAt_some (p : Value → Bool) (cs : List Value) (k : Nat) (x : Value) (h : cs[k]? = some x) (hp : p x = true) (hb : ∀ (j : Nat) (y : Value), j < k → cs[j]? = some y → p y = false) : firstAt p cs = (k : Int) := by
  obtain ⟨hk, hx⟩ := List.getElem?_eq_some_iff.1 h
  have : cs.findIdx? p = some k := by
    rw [List.findIdx?_eq_some_iff_getElem]
    refine ⟨hk, by rw [hx]; exact hp, fun j hj => ?_⟩
    rw [hb j cs[j] hj (List.getElem?_eq_getElem _)]; simp
  unfold firstAt
  rw [this]
theorem firstAt_none (p : Value → Bool) (cs : List Value) (hb : ∀ (j : Nat) (y : Value), cs[j]? = some y → p y = false) : firstAt p cs = -1 := by
  have : cs.findIdx? p = none := by
    rw [List.findIdx?_eq_none_iff]
    intro x hx
    obtain ⟨j, hj⟩ := List.getElem?_of_mem hx
    exact hb j x hj
  unfold firstAt
  rw [this]
theorem firstAt_any (p : Value → Bool) (cs : List Value) : decide (0 ≤ firstAt p cs) = cs.any p := by
  unfold firstAt
  cases h : cs.findIdx? p with
  | none =>
    rw [List.findIdx?_eq_none_iff] at h
    show decide ((0 : Int) ≤ -1) = _
    rw [decide_eq_false (by omega)]
    symm
    rw [List.any_eq_false]
    intro x hx
    rw [h x hx]; simp
  | some k =>
    rw [List.findIdx?_eq_some_iff_getElem] at h
    obtain ⟨hk, hp, _⟩ := h
    show decide ((0 : Int) ≤ (k : Int)) = _
    rw [decide_eq_true (by omega)]
    symm
    rw [List.any_eq_true]
    exact ⟨cs[k], List.getElem_mem _, hp⟩

set_option maxRecDepth 20000 in
set_option maxHeartbeats 400000 in
theorem index_i (p : Value → Bool) (g : Nat) (caps : Array Value) (hent : Enters Tryz.prog g) (cs : List Value) (v : Value) (w : World) (hv : isCells cs v w) (hlen : cs.length ≤ 140737488355328)
    (HF0 : ∀ x ∈ cs, Calls Tryz.prog g (#[x] ++ caps) w fun e w' => e = .returned (.bool (p x)) ∧ w = w') :
    Calls Tryz.prog 200 #[v, .func (.func g) #[] caps] w fun e w' => e = .returned (.int .i64 (firstAt p cs)) ∧ w = w' := by
  have HF := Lib.hid HF0
  clear HF0
  obtain ⟨a, cap, rfl⟩ := hv.len
  have HV := Lib.hid hv
  clear hv
  go_enter Tryz.func200, Tryz.ntmps200
  go_wp2
  go_loop [8] (fun i => ∃ k : Nat, k ≤ cs.length ∧ i = .int .i64 k ∧ Hid (∀ (j : Nat) (y : Value), j < k → cs[j]? = some y → p y = false)) (fun i => cs.length - (intOf i).toNat)
  case atStart => exact ⟨0, Nat.zero_le _, rfl, Lib.hid (fun j y hj => absurd hj (by omega))⟩
  case round =>
    obtain ⟨k, hk, rfl, HB⟩ := hrel
    by_cases hlt : k < cs.length
    · obtain ⟨b, off, cap', hs, hb, hc⟩ := HV.out.some_ (by omega)
      injection hs with h1 h2 h3
      subst h1 h3
      obtain ⟨x, hx⟩ : ∃ x, cs[k]? = some x := ⟨_, List.getElem?_eq_getElem hlt⟩
      have hcell := hc k x hx
      have HC := Lib.hid hc
      have HX := Lib.hid hx
      clear hc hx
      go_wp2_with fail
      rw [hent]
      simp only [Oper.upon]
      refine (HF.out x (List.mem_of_getElem? HX.out)).mono ?_
      rintro e w' ⟨rfl, rfl⟩
      cases hp : p x with
      | true =>
        go_wp2
        go_ret
        exact ⟨ret_int (firstAt_some p cs k x HX.out hp HB.out).symm, rfl⟩
      | false =>
        go_wp2
        go_round
        case rel =>
          refine ⟨k + 1, by omega, by go_num, Lib.hid ?_⟩
          intro j y hj hy
          by_cases e : j = k
          · subst e; rw [HX.out] at hy; injection hy with hy; rw [← hy]; exact hp
          · exact HB.out j y (by omega) hy
        case measure => simp [intOf]; omega
    · go_wp2
      go_ret
      exact ⟨ret_int (firstAt_none p cs (fun j y hy => HB.out j y (by have := (List.getElem?_eq_some_iff.1 hy).1; omega) hy)).symm, rfl⟩

set_option maxHeartbeats 400000 in
theorem contains_i (p : Value → Bool) (g : Nat) (caps : Array Value) (hent : Enters Tryz.prog g) (cs : List Value) (v : Value) (w : World) (hv : isCells cs v w) (hlen : cs.length ≤ 140737488355328)
    (HF0 : ∀ x ∈ cs, Calls Tryz.prog g (#[x] ++ caps) w fun e w' => e = .returned (.bool (p x)) ∧ w = w') :
    Calls Tryz.prog 198 #[v, .func (.func g) #[] caps] w fun e w' => e = .returned (.bool (cs.any p)) ∧ w = w' := by
  have H := Lib.hid (firstAt_any p cs)
  have HF := Lib.hid HF0
  have HV := Lib.hid hv
  clear HF0 hv
  go_enter Tryz.func198, Tryz.ntmps198
  go_wp2_with fail
  refine (index_i p g caps hent cs v _ HV.out hlen HF.out).mono ?_
  rintro e w' ⟨rfl, rfl⟩
  go_wp2
  go_ret
  exact ⟨by rw [← H.out]; rfl, rfl⟩

end Go.Proofs.YtkjghoomdefbbaaGreatDoor
end
section
namespace Go.Proofs.YtkjghoomdefbbaaGreatDoor
open Go.RowKit
set_option linter.unusedVariables false
set_option linter.unusedSimpArgs false

def oneSize (pages : List (List UInt8)) : Bool := decide (1 ≤ ((pages.headD []).length : Int)) && decide (((pages.headD []).length : Int) ≤ 8192) && pages.all fun p => decide (p.length = (pages.headD []).length)
def okWear (wear : List Int) (n : Nat) : Bool := decide (wear.length = n) && wear.all fun x => decide (0 ≤ x) && decide (x ≤ 2147483647)
def mayB (F : Fl) : Bool := decide (1 ≤ (F.pages.length : Int)) && decide ((F.pages.length : Int) ≤ 6) && oneSize F.pages && okWear F.wear F.pages.length && decide ((F.torn.length : Int) ≤ 64)
def checkE (F : Fl) : Int := if mayB F then 0 else 1
def hasB (F : Fl) (n : Int) : Bool := mayB F && decide (0 ≤ n) && decide (n < F.pages.length)

/-- A block of five cells. -/
def Cells5 (w : World) (g : Nat) (v0 v1 v2 v3 v4 : Value) : Prop := g < w.heap.size ∧ w.cell? ⟨g, 0, none⟩ = some v0 ∧ w.cell? ⟨g, 1, none⟩ = some v1 ∧ w.cell? ⟨g, 2, none⟩ = some v2 ∧ w.cell? ⟨g, 3, none⟩ = some v3 ∧ w.cell? ⟨g, 4, none⟩ = some v4
theorem Cells5.keep {w w' : World} {g B : Nat} {v0 v1 v2 v3 v4 : Value} (h : Cells5 w g v0 v1 v2 v3 v4) (hb : Below B w w') (hB : g < B) : Cells5 w' g v0 v1 v2 v3 v4 := by
  obtain ⟨hg, h0, h1, h2, h3, h4⟩ := h
  exact ⟨Nat.lt_of_lt_of_le hg hb.size, (hb.cell (p := ⟨g, 0, none⟩) hB).trans h0, (hb.cell (p := ⟨g, 1, none⟩) hB).trans h1, (hb.cell (p := ⟨g, 2, none⟩) hB).trans h2, (hb.cell (p := ⟨g, 3, none⟩) hB).trans h3, (hb.cell (p := ⟨g, 4, none⟩) hB).trans h4⟩
def badWear : Value → Bool
  | .int .i64 x => !(decide (0 ≤ x) && decide (x ≤ 2147483647))
  | _ => false
def badPage (n : Nat) : Value → Bool
  | .string s => decide (s.size ≠ n)
  | _ => false
attribute [irreducible] badWear badPage

end Go.Proofs.YtkjghoomdefbbaaGreatDoor
end
section
namespace Go.Proofs.YtkjghoomdefbbaaGreatDoor
open Go.RowKit
set_option linter.unusedVariables false
set_option linter.unusedSimpArgs false

theorem clone_i (l : List Int) (v : Value) (w : World) (hv : isCells (l.map intC) v w) (hl : l.length * 8 ≤ 140737488355328) :
    Calls Tryz.prog 74 #[v] w fun e w' => ∃ v', e = .returned v' ∧ w'.ownsRow w.heap.size 3 1 v' l.length (l.map intC) ∧ Below w.heap.size w w' := by
  rcases hv with ⟨rfl, h⟩ | ⟨a, cap, rfl, h⟩ | ⟨b, off, cap, rfl, hb, hc⟩
  · obtain rfl : l = [] := by simpa using h
    refine (Tryz.slices_Clone_int_nil 0 0 w).mono ?_
    rintro e w' ⟨rfl, rfl⟩
    exact ⟨_, rfl, World.ownsRow_nil _ _ _ _, Below.refl _ _⟩
  · obtain rfl : l = [] := by simpa using h
    refine (Tryz.slices_Clone_int_zero a cap w).mono ?_
    rintro e w' ⟨v', rfl, h1, _, h2⟩
    exact ⟨_, rfl, h1, h2⟩
  · rw [List.length_map]
    refine (Tryz.slices_Clone_int b off l.length cap l w (Nat.le_refl _) hl (fun j hj => ?_)).mono ?_
    · rw [hc j _ (get_map intC l j hj)]
      simp [intC, List.getD_eq_getElem?_getD, hj]
    · rintro e w' ⟨v', rfl, h1, _, h2⟩
      refine ⟨_, rfl, ?_, h2⟩
      rw [List.take_of_length_le (Nat.le_refl _)] at h1
      exact h1

/-! ### More operations of a drawn region -/
section
variable {P : Program} {ops : Array Oper} {base : World} {a0 : Act} {Q : Exit → Act → World → Prop} {kn : Nat → VP} {i : Nat} {V : VP}
/-- A field's place. -/
theorem step_field (t : TypeId) (x : Operand) (k : Nat) (p q : Addr) (hop : (ops[i]?).map (·.op) = some (.fieldAddr t x k)) (hw : Wanted ops a0 kn i) (hx : Knows ops a0 kn i x (isVal (.pointer (some p))))
    (hr : ∀ w, (Instr.fieldAt t (.pointer (some p)) k).run P w = .ok (.pointer (some q)) w) : FStep P ops base a0 Q kn i (isVal (.pointer (some q))) :=
  step_pure _ hop hw fun o a w ho hk hd => by
    have e1 : a.eval x = .pointer (some p) := hx a w hk hd
    unfold execOp
    rw [ho]
    simp only [e1, Sem.run_bind, hr, Result.andThen_ok, Sem.run_pure]
/-- What stands in a place that was there ahead of the region. -/
theorem step_read (t : TypeId) (x : Operand) (p : Addr) (v : Value) (hop : (ops[i]?).map (·.op) = some (.load t x)) (hw : Wanted ops a0 kn i) (hx : Knows ops a0 kn i x (isVal (.pointer (some p))))
    (hc : base.cell? p = some v) (hp : p.block < base.heap.size) (hu : ∀ w, (isAgg t).run P w = .ok false w) : FStep P ops base a0 Q kn i (isVal v) :=
  step_mk (stable_val _) hw fun o ho a w hk hb hd => by
    have e1 : a.eval x = .pointer (some p) := hx a w hk hd
    have e2 : w.cell? p = some v := (hb.cell hp).trans hc
    unfold Oper.wp execOp
    rw [op_of hop ho]
    simp only [e1, Instr.loadAt, Instr.sureAddr, Sem.run_bind, Sem.run_pure, Result.andThen_ok, loadVar, hu]
    simp [e2, Oper.upon]
    exact ⟨v, rfl, rfl, Below.refl _ _⟩

/-! ### .. and of its tail -/
variable {a : Act} {w : World} {c : Nat}
theorem tail_op {OP : Op} (K : Act → World → Prop) (hop : (ops[i]?).map (fun o => (o.op, o.guard)) = some (OP, none)) (h : ∀ o, ops[i]? = some o → o.op = OP → o.wp P a w (fun a' w' => Tail P ops Q c (i + 1) a' w') Q) : Tail P ops Q (c + 1) i a w := by
  cases ho : ops[i]? with
  | none => rw [ho] at hop; simp at hop
  | some o =>
    rw [ho] at hop
    simp only [Option.map_some, Option.some.injEq, Prod.mk.injEq] at hop
    unfold Tail wpOp
    simp only [ho]
    rw [show Region.wanted o (yielded ops a.tmps) = true by simp [Region.wanted, hop.2]]
    exact .inl (h o ho hop.1)
theorem tail_store (t : TypeId) (x y : Operand) (p : Addr) (v old : Value) (hop : (ops[i]?).map (fun o => (o.op, o.guard)) = some (.store t x y, none)) (hdst : (ops[i]?).map (·.dst) = some none) (hx : a.eval x = .pointer (some p)) (hy : a.eval y = v)
    (hs : (P.info? t).map (·.size) = some 1) (hv : v.cells = #[v]) (hv1 : v.oneCell' = true) (hc : w.cell? p = some old) (hf : w.frozen? p = false) (h : Tail P ops Q c (i + 1) a (w.setCell p v)) : Tail P ops Q (c + 1) i a w :=
  tail_op (fun _ _ => True) hop fun o ho e => by
    obtain ⟨ie, hie, hz⟩ := Option.map_eq_some_iff.1 hs
    have hsz : (sizeOf t).run P w = .ok 1 w := by simp [sizeOf, typeInfo, hie, hz]
    unfold Oper.wp execOp
    rw [e]
    simp only [hx, hy, Instr.storeAt, Instr.sureAddr, Sem.run_bind, Sem.run_pure, Result.andThen_ok, storeVar, hsz, hv]
    have hst : (storeCells p [v]).run P w = .ok () (w.setCell p v) := by
      unfold storeCells
      rw [Sem.run_bind, show p.add 0 = p by simp [Addr.add], run_store P w p v _ hv1, hc]
      simp [hf, storeCells]
    rw [if_neg (by simp), hst]
    rw [ho] at hdst
    simp only [Option.map_some, Option.some.injEq] at hdst
    simp only [Result.andThen_ok, Oper.upon, hdst]
    exact h
end

theorem Cells5.set0 {w : World} {g : Nat} {v0 v1 v2 v3 v4 : Value} (h : Cells5 w g v0 v1 v2 v3 v4) (x : Value) : Cells5 (w.setCell ⟨g, 0, none⟩ x) g x v1 v2 v3 v4 := by
  obtain ⟨hg, h0, h1, h2, h3, h4⟩ := h
  refine ⟨by simpa using hg, World.cell?_setCell_same w _ _ h0, ?_, ?_, ?_, ?_⟩ <;> (rw [World.cell?_setCell_other w _ _ _ (by intro h; injection h; contradiction)]; assumption)
theorem Cells5.set1 {w : World} {g : Nat} {v0 v1 v2 v3 v4 : Value} (h : Cells5 w g v0 v1 v2 v3 v4) (x : Value) : Cells5 (w.setCell ⟨g, 1, none⟩ x) g v0 x v2 v3 v4 := by
  obtain ⟨hg, h0, h1, h2, h3, h4⟩ := h
  refine ⟨by simpa using hg, ?_, World.cell?_setCell_same w _ _ h1, ?_, ?_, ?_⟩ <;> (rw [World.cell?_setCell_other w _ _ _ (by intro h; injection h; contradiction)]; assumption)
theorem Cells5.set2 {w : World} {g : Nat} {v0 v1 v2 v3 v4 : Value} (h : Cells5 w g v0 v1 v2 v3 v4) (x : Value) : Cells5 (w.setCell ⟨g, 2, none⟩ x) g v0 v1 x v3 v4 := by
  obtain ⟨hg, h0, h1, h2, h3, h4⟩ := h
  refine ⟨by simpa using hg, ?_, ?_, World.cell?_setCell_same w _ _ h2, ?_, ?_⟩ <;> (rw [World.cell?_setCell_other w _ _ _ (by intro h; injection h; contradiction)]; assumption)
theorem Cells5.set4 {w : World} {g : Nat} {v0 v1 v2 v3 v4 : Value} (h : Cells5 w g v0 v1 v2 v3 v4) (x : Value) : Cells5 (w.setCell ⟨g, 4, none⟩ x) g v0 v1 v2 v3 x := by
  obtain ⟨hg, h0, h1, h2, h3, h4⟩ := h
  refine ⟨by simpa using hg, ?_, ?_, ?_, ?_, World.cell?_setCell_same w _ _ h4⟩ <;> (rw [World.cell?_setCell_other w _ _ _ (by intro h; injection h; contradiction)]; assumption)
theorem Cells5.apart {w : World} {g b o : Nat} {v0 v1 v2 v3 v4 : Value} (h : Cells5 w g v0 v1 v2 v3 v4) (x : Value) (hne : b ≠ g) : Cells5 (w.setCell ⟨b, o, none⟩ x) g v0 v1 v2 v3 v4 := by
  obtain ⟨hg, h0, h1, h2, h3, h4⟩ := h
  refine ⟨by simpa using hg, ?_, ?_, ?_, ?_, ?_⟩ <;> (rw [World.cell?_setCell_other w _ _ _ (by intro h; injection h; contradiction)]; assumption)
/-- No place of the block is frozen. -/
def Free5 (w : World) (g : Nat) : Prop := ∀ j, w.frozen? ⟨g, j, none⟩ = false
theorem Free5.keep {w w' : World} {g B : Nat} (h : Free5 w g) (hb : Below B w w') (hB : g < B) : Free5 w' g := fun j => (hb.frozen (p := ⟨g, j, none⟩) hB).trans (h j)
theorem Free5.set {w : World} {g : Nat} (h : Free5 w g) (p : Addr) (x : Value) : Free5 (w.setCell p x) g := fun j => by rw [World.frozen?_setCell]; exact h j
theorem free5_new (w : World) (cs : Array Value) (t : TypeId) : Free5 (w.alloc (.cells cs t)) w.heap.size := fun j => World.frozen?_alloc_new w _ _ _
/-- Five cells written at once. -/
def set5 (w : World) (g : Nat) (v0 v1 v2 v3 v4 : Value) : World := ((((w.setCell ⟨g, 0, none⟩ v0).setCell ⟨g, 1, none⟩ v1).setCell ⟨g, 2, none⟩ v2).setCell ⟨g, 3, none⟩ v3).setCell ⟨g, 4, none⟩ v4
theorem Cells5.set3 {w : World} {g : Nat} {v0 v1 v2 v3 v4 : Value} (h : Cells5 w g v0 v1 v2 v3 v4) (x : Value) : Cells5 (w.setCell ⟨g, 3, none⟩ x) g v0 v1 v2 x v4 := by
  obtain ⟨hg, h0, h1, h2, h3, h4⟩ := h
  refine ⟨by simpa using hg, ?_, ?_, ?_, World.cell?_setCell_same w _ _ h3, ?_⟩ <;> (rw [World.cell?_setCell_other w _ _ _ (by intro h; injection h; contradiction)]; assumption)
theorem Cells5.set5_ {w : World} {g : Nat} {o0 o1 o2 o3 o4 : Value} (h : Cells5 w g o0 o1 o2 o3 o4) (v0 v1 v2 v3 v4 : Value) : Cells5 (set5 w g v0 v1 v2 v3 v4) g v0 v1 v2 v3 v4 := ((((h.set0 v0).set1 v1).set2 v2).set3 v3).set4 v4
theorem Free5.set5_ {w : World} {g : Nat} (h : Free5 w g) (b : Nat) (v0 v1 v2 v3 v4 : Value) : Free5 (set5 w b v0 v1 v2 v3 v4) g := ((((h.set _ v0).set _ v1).set _ v2).set _ v3).set _ v4
theorem free5_at (w : World) (cs : Array Value) (t : TypeId) (n : Nat) (hn : n = w.heap.size) : Free5 (w.alloc (.cells cs t)) n := by subst hn; exact free5_new w cs t
theorem agg_ints (w : World) : (isAgg 23).run Tryz.prog w = .ok false w := by simp [isAgg, run_underlying Tryz.underlying23]
theorem agg_str (w : World) : (isAgg 9).run Tryz.prog w = .ok false w := by simp [isAgg, run_underlying Tryz.underlying9]
theorem agg_int (w : World) : (isAgg 3).run Tryz.prog w = .ok false w := by simp [isAgg, run_underlying Tryz.underlying3]
theorem agg_bool (w : World) : (isAgg 4).run Tryz.prog w = .ok false w := by simp [isAgg, run_underlying Tryz.underlying4]

/-- A row of the call's own. -/
def isOwn (B : Nat) (e : TypeId) (cs : List Value) : VP := fun v w => w.ownsRow B e 1 v cs.length cs
theorem stable_own (B : Nat) (e : TypeId) (cs : List Value) : Stable (isOwn B e cs) := by
  intro v w w' h hb
  obtain ⟨hl, h | ⟨g, cap, cur, hv, hB, hg, rest⟩⟩ := h
  · exact ⟨hl, .inl h⟩
  · exact ⟨hl, .inr ⟨g, cap, cur, hv, hB, (hb.block g (Array.getElem?_eq_some_iff.1 hg).1).trans hg, rest⟩⟩
theorem isOwn.low {B B' : Nat} {e : TypeId} {cs : List Value} {v : Value} {w : World} (h : isOwn B e cs v w) (hB : B' ≤ B) : isOwn B' e cs v w := by
  obtain ⟨hl, h | ⟨g, cap, cur, hv, hg, rest⟩⟩ := h
  · exact ⟨hl, .inl h⟩
  · exact ⟨hl, .inr ⟨g, cap, cur, hv, Nat.le_trans hB hg, rest⟩⟩
theorem isOwn.set {B : Nat} {e : TypeId} {cs : List Value} {v : Value} {w : World} (h : isOwn B e cs v w) {p : Addr} (hp : p.block < B) (u : Value) : isOwn B e cs v (w.setCell p u) := ownsRow_setCell_below h hp u
theorem isOwn.set5_ {B : Nat} {e : TypeId} {cs : List Value} {v : Value} {w : World} (h : isOwn B e cs v w) {g : Nat} (hg : g < B) (v0 v1 v2 v3 v4 : Value) : isOwn B e cs v (set5 w g v0 v1 v2 v3 v4) :=
  ((((h.set (p := ⟨g, 0, none⟩) hg v0).set (p := ⟨g, 1, none⟩) hg v1).set (p := ⟨g, 2, none⟩) hg v2).set (p := ⟨g, 3, none⟩) hg v3).set (p := ⟨g, 4, none⟩) hg v4
theorem isOwn.cells {B : Nat} {e : TypeId} {cs : List Value} {v : Value} {w : World} (h : isOwn B e cs v w) : isCells cs v w := isCells_own h
theorem isOwn.one {B : Nat} {e : TypeId} {cs : List Value} {v : Value} {w : World} (h : isOwn B e cs v w) : v.cells = #[v] ∧ v.oneCell' = true := by
  obtain ⟨hl, ⟨rfl, _⟩ | ⟨g, cap, cur, rfl, _⟩⟩ := h
  · exact ⟨rfl, rfl⟩
  · exact ⟨rfl, rfl⟩
theorem clone_i' (B : Nat) (l : List Int) (v : Value) (w : World) (hv : isCells (l.map intC) v w) (hl : l.length * 8 ≤ 140737488355328) (hB : B ≤ w.heap.size) :
    Calls Tryz.prog 74 #[v] w fun e w' => ∃ v', e = .returned v' ∧ isOwn B 3 (l.map intC) v' w' ∧ Below w.heap.size w w' :=
  (clone_i l v w hv hl).mono (by rintro e w' ⟨v', rfl, h1, h2⟩; exact ⟨v', rfl, isOwn.low (B := w.heap.size) (by unfold isOwn; rw [List.length_map]; exact h1) hB, h2⟩)
theorem fdone_of {ops : Array Oper} {kn : Nat → VP} {a : Act} {w : World} {j : Nat} {t : Tmp} {V : VP} (h : FDone ops kn a w j) (hd : (ops[j]?).bind (·.dst) = some t) (hV : kn j = V) : V (a.tmps.getD t undef) w := by
  cases ho : ops[j]? with
  | none => rw [ho] at hd; simp at hd
  | some o => rw [ho] at hd; rw [← hV]; exact h o ho t (by simpa using hd)
end Go.Proofs.YtkjghoomdefbbaaGreatDoor
end
section
namespace Go.Proofs.YtkjghoomdefbbaaGreatDoor
open Go.RowKit
set_option linter.unusedVariables false
set_option linter.unusedSimpArgs false

section
variable {P : Program} {ops : Array Oper} {base : World} {a0 : Act} {Q : Exit → Act → World → Prop} {kn : Nat → VP} {i : Nat} {V : VP}

theorem step_len (t : TypeId) (x : Operand) (v r : Value) (hop : (ops[i]?).map (·.op) = some (.call { callee := .builtin .len, args := #[x], argTypes := #[t] })) (hw : Wanted ops a0 kn i) (hx : Knows ops a0 kn i x (isVal v))
    (hr : ∀ ty w, (Builtin.len_ #[t] ty #[v]).run P w = .ok r w) : FStep P ops base a0 Q kn i (isVal r) :=
  step_pure r hop hw fun o a w ho hk hd => by
    have e1 : a.eval x = v := hx a w hk hd
    unfold execOp
    rw [ho]
    simp only [resolve, Sem.run_bind, Sem.run_pure, Result.andThen_ok, invoke, builtin, List.map_toArray, List.map_cons, List.map_nil, e1, hr]
/-- A place in a row. -/
theorem step_place (t e : TypeId) (x y : Operand) (b off n cap k : Nat) (hop : (ops[i]?).map (·.op) = some (.indexAddr t x y)) (hw : Wanted ops a0 kn i) (hx : Knows ops a0 kn i x (isVal (.slice (some ⟨b, off, none⟩) n cap))) (hy : Knows ops a0 kn i y (isVal (.int .i64 (k : Int))))
    (ht : P.underlying t = some (.slice e)) (hi : (P.info? e).map (·.size) = some 1) (hk : k < n) : FStep P ops base a0 Q kn i (isVal (.pointer (some ⟨b, off + k, none⟩))) :=
  step_pure _ hop hw fun o a w ho hk' hd => by
    have e1 : a.eval x = _ := hx a w hk' hd
    have e2 : a.eval y = _ := hy a w hk' hd
    obtain ⟨ie, hie, hz⟩ := Option.map_eq_some_iff.1 hi
    have hsz : (sizeOf e).run P w = .ok 1 w := by simp [sizeOf, typeInfo, hie, hz]
    unfold execOp
    rw [ho]
    simp only [e1, e2, Sem.run_bind]
    simp [Instr.indexAt, run_underlying ht, asIntOf, hsz, hk, Addr.add]
/-- A call by an interface. -/
theorem step_invoke (name : String) (r : Operand) (recv : Value) (f : FuncId) (xs : Array Operand) (ts : Array TypeId) (vs ws : Array Value) (hop : (ops[i]?).map (·.op) = some (.call { callee := .invoke r name, args := xs, argTypes := ts })) (hw : Wanted ops a0 kn i) (hst : Stable V)
    (hx : ∀ a w, FKept ops a0 a → FDeps ops kn i a w → xs.map a.eval = vs) (hrv : Knows ops a0 kn i r (isVal recv)) (hr : ∀ w, (invoke (.fn (.method name) #[]) (#[recv] ++ vs)).run P w = .ok (.enter f ws) w)
    (hc : ∀ w, Below base.heap.size base w → Calls P f ws w fun e w' => ∃ v, e = .returned v ∧ V v w' ∧ Below w.heap.size w w') : FStep P ops base a0 Q kn i V :=
  step_mk hst hw fun o ho a w hk hb hd => by
    unfold Oper.wp execOp
    rw [op_of hop ho]
    have e1 : xs.map a.eval = vs := hx a w hk hd
    have e2 : a.eval r = recv := hrv a w hk hd
    simp only [resolve, e1, e2, Sem.run_bind, Sem.run_pure, Result.andThen_ok, hr]
    simp only [Oper.upon]
    refine (hc w hb).mono ?_
    rintro e w' ⟨v, rfl, hv, hbw⟩
    exact ⟨v, rfl, hv, hbw⟩
end
theorem len_str (l : List UInt8) (ty : TypeId) (w : World) : (Builtin.len_ #[9] ty #[.string ⟨l.toArray⟩]).run Tryz.prog w = .ok (.int .i64 (l.length : Int)) w := by
  simp [Builtin.len_, run_underlying Tryz.underlying9, goInt]
  rw [size_mk]
end Go.Proofs.YtkjghoomdefbbaaGreatDoor
end
section
namespace Go.Proofs.YtkjghoomdefbbaaGreatDoor
open Go.RowKit
set_option linter.unusedVariables false
set_option linter.unusedSimpArgs false

abbrev ptr (g : Nat) : Value := .pointer (some ⟨g, 0, none⟩)
abbrev txt (l : List UInt8) : Value := .string ⟨l.toArray⟩
abbrev unitV : Value := .tuple #[]

set_option maxHeartbeats 800000 in
theorem add_any (g : Nat) (t s : List UInt8) (w : World) (h : At w g (txt t)) (ht : t.length ≤ 1000000) (hs : s.length ≤ 1000000) :
    Calls Tryz.prog 57 #[ptr g, txt s] w fun e w' => e = .returned unitV ∧ Wr g (txt (t ++ s)) w w' := by
  have hc := h.cell
  have hf := h.free
  have hcat := fun W => run_string_add_lists (P := Tryz.prog) W t s (by omega) (by omega)
  go_enter Tryz.func57, Tryz.ntmps57
  go_wp2
  go_end0
  exact ⟨rfl, Wr.set h _⟩

set_option maxHeartbeats 800000 in
theorem number_any (g : Nat) (t : List UInt8) (n width : Int) (w : World) (h : At w g (txt t)) (ht : t.length ≤ 1000) (hn : n ≤ 9223372036854775807) (hw : (putS n width).length ≤ 1000) :
    Calls Tryz.prog 56 #[ptr g, .int .i64 n, .int .i64 width] w fun e w' => e = .returned unitV ∧ Wr g (txt (t ++ putS n width)) w w' := by
  go_enter Tryz.func56, Tryz.ntmps56
  go_wp2_with fail
  refine (put_any n width w hn).mono ?_
  rintro e w1 ⟨rfl, hb⟩
  have h1 := Kept.mk (h.keep hb)
  generalize putE n width = pe
  go_wp2_with fail
  refine (add_any g t (putS n width) w1 h1.out (by omega) (by omega)).mono ?_
  rintro e w2 ⟨rfl, hw2⟩
  replace hw2 := Kept.mk (Wr.behind hb hw2)
  clear hb h1
  go_wp2
  go_end0
  exact ⟨rfl, hw2.out⟩

abbrev Gave : Ending := .panicked [{ v := .iface 35 (.int .i64 2), recovered := false }]
end Go.Proofs.YtkjghoomdefbbaaGreatDoor
end
section
namespace Go.Proofs.YtkjghoomdefbbaaGreatDoor
open Go.RowKit
set_option linter.unusedVariables false
set_option linter.unusedSimpArgs false
section
variable {P : Program} {ops : Array Oper} {base : World} {a0 : Act} {Q : Exit → Act → World → Prop} {kn : Nat → VP} {i : Nat} {V : VP}
theorem step_callP (f : FuncId) (xs : Array Operand) (ts : Array TypeId) (hop : (ops[i]?).map (·.op) = some (.call { callee := .value (.func f), args := xs, argTypes := ts })) (hw : Wanted ops a0 kn i) (hst : Stable V) (hent : Enters P f)
    (Pre : Array Value → World → Prop) (hx : ∀ a w, FKept ops a0 a → FDeps ops kn i a w → Pre (xs.map a.eval) w)
    (hc : ∀ vs w, Below base.heap.size base w → Pre vs w → Calls P f vs w fun e w' => ∃ v, e = .returned v ∧ V v w' ∧ Below w.heap.size w w') : FStep P ops base a0 Q kn i V :=
  step_mk hst hw fun o ho a w hk hb hd => by
    have hp := hx a w hk hd
    generalize hvs : xs.map a.eval = vs at hp
    unfold Oper.wp execOp
    rw [op_of hop ho]
    have e2 : a.eval (.func f) = .func (.func f) #[] #[] := rfl
    simp only [resolve, hvs, e2, Deferred.ofValue, Sem.run_bind, Sem.run_pure, Result.andThen_ok, invoke, Array.append_empty, Array.empty_append]
    rw [hent]
    simp only [Oper.upon]
    refine (hc vs w hb hp).mono ?_
    rintro e w' ⟨v, rfl, hv, hbw⟩
    exact ⟨v, rfl, hv, hbw⟩
theorem pre2 {x y : Operand} {V1 V2 : VP} (h1 : Knows ops a0 kn i x V1) (h2 : Knows ops a0 kn i y V2) : ∀ a w, FKept ops a0 a → FDeps ops kn i a w → (fun vs w => ∃ u v, vs = #[u, v] ∧ V1 u w ∧ V2 v w) (#[x, y].map a.eval) w := fun a w hk hd =>
  ⟨_, _, by simp, h1 a w hk hd, h2 a w hk hd⟩
theorem pre1 {x : Operand} {V1 : VP} (h1 : Knows ops a0 kn i x V1) : ∀ a w, FKept ops a0 a → FDeps ops kn i a w → (fun vs w => ∃ u, vs = #[u] ∧ V1 u w) (#[x].map a.eval) w := fun a w hk hd =>
  ⟨_, by simp, h1 a w hk hd⟩
theorem step_ints4 (t e : TypeId) (x0 x1 x2 x3 : Operand) (a0' a1 a2 a3 : Int) (ie : TypeInfo) (hop : (ops[i]?).map (·.op) = some (.buildSlice t 4 #[(0, x0), (1, x1), (2, x2), (3, x3)])) (hw : Wanted ops a0 kn i)
    (h0 : Knows ops a0 kn i x0 (isVal (.int .i64 a0'))) (h1 : Knows ops a0 kn i x1 (isVal (.int .i64 a1))) (h2 : Knows ops a0 kn i x2 (isVal (.int .i64 a2))) (h3 : Knows ops a0 kn i x3 (isVal (.int .i64 a3)))
    (hu : P.underlying t = some (.slice e)) (hie : P.info? e = some ie) (hz : ie.zero = some (.int .i64 0)) (hsz : ie.size = 1) : FStep P ops base a0 Q kn i (isCells [intC a0', intC a1, intC a2, intC a3]) :=
  step_mk (stable_cells _) hw fun o ho a w hk hb hd => by
    have e0 : a.eval x0 = intC a0' := h0 a w hk hd
    have e1 : a.eval x1 = intC a1 := h1 a w hk hd
    have e2 : a.eval x2 = intC a2 := h2 a w hk hd
    have e3 : a.eval x3 = intC a3 := h3 a w hk hd
    have hf : Instr.fill (fun i => some (i * ie.size, ie.size)) ((Array.range (4 * ie.size)).map ((Value.int .i64 0).cells[· % (Value.int .i64 0).cells.size]!)) ((#[(0, x0), (1, x1), (2, x2), (3, x3)] : Array (Nat × Operand)).map fun (i, x) => (i, a.eval x)).toList = some #[intC a0', intC a1, intC a2, intC a3] := by
      have e1 : ((#[(0, x0), (1, x1), (2, x2), (3, x3)] : Array (Nat × Operand)).map fun (i, x) => (i, a.eval x)).toList = (([intC a0', intC a1, intC a2, intC a3] : List Value).zipIdx 0).map fun x => (x.2, x.1) := by simp [e0, e1, e2, e3]
      rw [e1, hsz, Great.fill_flat _ _ (fun v hv => by simp only [List.mem_cons, List.not_mem_nil, or_false] at hv; rcases hv with rfl | rfl | rfl | rfl <;> rfl) (by simp)]
    refine wp_buildSlice t e 4 _ (op_of hop ho) _ ie (.int .i64 0) hu hie hz (by rw [hsz]; omega) (by rw [hsz]; omega) hf ?_
    refine ⟨_, rfl, .inr (.inr ⟨w.heap.size, 0, 4, rfl, by simp, fun j v hv => ?_⟩), (Below.refl _ _).alloc (Nat.le_refl _) _⟩
    rw [World.cell?_alloc_new]
    simpa using hv
end
end Go.Proofs.YtkjghoomdefbbaaGreatDoor
end
section
namespace Go.Proofs.YtkjghoomdefbbaaGreatDoor
open Go.RowKit
set_option linter.unusedVariables false
set_option linter.unusedSimpArgs false

theorem below_drewN (w : World) (q : Nat) : Below w.heap.size w (w.drewN q) := ⟨rfl, rfl, rfl, Nat.le_refl _, fun _ _ => rfl⟩

set_option maxHeartbeats 400000 in
theorem unlike_i (n m : Nat) (a b : Option Addr) (c d : Nat) (w : World) (h : n ≠ m) (hn : n ≤ 1000000000) (hm : m ≤ 1000000000) :
    Calls Tryz.prog 128 #[.slice a n c, .slice b m d] w fun e w' => e = .returned (.bool false) ∧ Below w.heap.size w w' := by
  have h' : ((n : Int) != (m : Int)) = true := by simp [bne]; omega
  have h2 : ((n : Int) == (m : Int)) = false := by simp; omega
  go_enter Tryz.func128, Tryz.ntmps128
  go_wp2
  go_ret
  exact ⟨rfl, Below.refl _ _⟩

theorem equal_i (l m : List Int) (v u : Value) (w : World) (hv : isCells (l.map intC) v w) (hu : isCells (m.map intC) u w) (h1 : l.length ≤ 1000000000) (h2 : m.length ≤ 1000000000) :
    Calls Tryz.prog 128 #[v, u] w fun e w' => e = .returned (.bool (decide (l = m))) ∧ Below w.heap.size w w' := by
  by_cases hlen : l.length = m.length
  · by_cases h0 : l = []
    · subst h0
      obtain rfl : m = [] := List.eq_nil_of_length_eq_zero (by simpa using hlen.symm)
      obtain ⟨a, cap, rfl⟩ := hv.len
      obtain ⟨b, cap2, rfl⟩ := hu.len
      refine (Tryz.slices_Equal_int_empty a b cap 0 cap2 w (by omega)).mono ?_
      rintro e w' ⟨rfl, rfl⟩
      exact ⟨by simp, Below.refl _ _⟩
    · have hl0 : 0 < l.length := List.length_pos_iff.2 h0
      obtain ⟨b, off, cap, hv', hb, hc⟩ := hv.some_ (by simpa using hl0)
      obtain ⟨b2, off2, cap2, hu', hb2, hc2⟩ := hu.some_ (by rw [List.length_map]; omega)
      rw [List.length_map] at hv' hu'
      subst hv' hu'
      refine (Tryz.slices_Equal_int b off l.length cap b2 off2 m.length cap2 l m w (Nat.le_refl _) (Nat.le_refl _) (by omega) (by omega) (fun j hj => ?_) (fun j hj => ?_)).mono ?_
      · rw [hc j _ (get_map intC l j hj)]
        simp [intC, List.getD_eq_getElem?_getD, hj]
      · rw [hc2 j _ (get_map intC m j hj)]
        simp [intC, List.getD_eq_getElem?_getD, hj]
      · rintro e w' ⟨rfl, q, rfl⟩
        refine ⟨?_, below_drewN w q⟩
        rw [List.take_of_length_le (Nat.le_refl _), List.take_of_length_le (Nat.le_refl _)]
        congr 2
        by_cases h : l = m <;> simp [h]
  · obtain ⟨a, cap, rfl⟩ := hv.len
    obtain ⟨b, cap2, rfl⟩ := hu.len
    rw [List.length_map, List.length_map]
    rw [show decide (l = m) = false by simp; rintro rfl; exact hlen rfl]
    exact unlike_i l.length m.length a b cap cap2 w hlen h1 h2

end Go.Proofs.YtkjghoomdefbbaaGreatDoor
end
section
namespace Go.Proofs.YtkjghoomdefbbaaGreatDoor
open Go.RowKit
set_option linter.unusedVariables false
set_option linter.unusedSimpArgs false

/-- Block g begins with just these cells. -/
def CellsN (w : World) (g : Nat) (l : List Value) : Prop := g < w.heap.size ∧ ∀ (j : Nat) (x : Value), l[j]? = some x → w.cell? ⟨g, j, none⟩ = some x
theorem CellsN.keep {w w' : World} {g B : Nat} {l : List Value} (h : CellsN w g l) (hb : Below B w w') (hB : g < B) : CellsN w' g l :=
  ⟨Nat.lt_of_lt_of_le h.1 hb.size, fun j x hx => (hb.cell (p := ⟨g, j, none⟩) hB).trans (h.2 j x hx)⟩
theorem cellsN_new (w : World) (t : TypeId) (l : List Value) : CellsN (w.alloc (.cells l.toArray t)) w.heap.size l := by
  refine ⟨by simp, fun j x hx => ?_⟩
  rw [World.cell?_alloc_new]
  simpa using hx
theorem cellsN_at (w : World) (t : TypeId) (l : List Value) (n : Nat) (hn : n = w.heap.size) : CellsN (w.alloc (.cells l.toArray t)) n l := by subst hn; exact cellsN_new w t l

/-- Cells written one behind the other. -/
def setN (w : World) (g : Nat) : Nat → List Value → World
  | _, [] => w
  | k, v :: r => setN (w.setCell ⟨g, k, none⟩ v) g (k + 1) r
theorem size_setN (g : Nat) : ∀ (l : List Value) (k : Nat) (w : World), (setN w g k l).heap.size = w.heap.size
  | [], _, _ => rfl
  | v :: r, k, w => by rw [setN, size_setN g r]; simp
theorem setN_other (g : Nat) : ∀ (l : List Value) (k : Nat) (w : World) (p : Addr), (p.block ≠ g ∨ p.off < k) → (setN w g k l).cell? p = w.cell? p
  | [], _, _, _, _ => rfl
  | v :: r, k, w, p, h => by
    rw [setN, setN_other g r (k + 1) _ p (by omega), World.cell?_setCell_other w _ _ _ (by rintro rfl; simp at h)]
theorem setN_cell (g : Nat) : ∀ (l : List Value) (k : Nat) (w : World), (∀ j, j < l.length → ∃ o, w.cell? ⟨g, k + j, none⟩ = some o) → ∀ (j : Nat) (x : Value), l[j]? = some x → (setN w g k l).cell? ⟨g, k + j, none⟩ = some x
  | [], _, _, _, j, x, hx => by simp at hx
  | v :: r, k, w, h, j, x, hx => by
    rw [setN]
    obtain ⟨o, ho⟩ := h 0 (by simp)
    cases j with
    | zero =>
      simp only [List.getElem?_cons_zero, Option.some.injEq] at hx
      subst hx
      rw [setN_other g r (k + 1) _ _ (.inr (by simp))]
      exact World.cell?_setCell_same w _ _ ho
    | succ j =>
      have e : k + (j + 1) = k + 1 + j := by omega
      rw [e]
      refine setN_cell g r (k + 1) _ (fun i hi => ?_) j x (by simpa using hx)
      obtain ⟨o', ho'⟩ := h (i + 1) (by simp; omega)
      refine ⟨o', ?_⟩
      rw [World.cell?_setCell_other w _ _ _ (by intro hh; injection hh; omega), show k + 1 + i = k + (i + 1) by omega]
      exact ho'
theorem setN_frozen (g : Nat) : ∀ (l : List Value) (k : Nat) (w : World) (p : Addr), (setN w g k l).frozen? p = w.frozen? p
  | [], _, _, _ => rfl
  | v :: r, k, w, p => by rw [setN, setN_frozen g r, World.frozen?_setCell]
theorem CellsN.setN_ {w : World} {g : Nat} {old : List Value} (h : CellsN w g old) (l : List Value) (hl : old.length = l.length) : CellsN (setN w g 0 l) g l := by
  refine ⟨by rw [size_setN]; exact h.1, fun j x hx => ?_⟩
  have := setN_cell g l 0 w (fun j hj => ⟨_, by rw [Nat.zero_add]; exact h.2 j _ (List.getElem?_eq_getElem (by omega))⟩) j x hx
  rwa [Nat.zero_add] at this
theorem CellsN.apartN {w : World} {g b : Nat} {old : List Value} (h : CellsN w g old) (k : Nat) (l : List Value) (hne : b ≠ g) : CellsN (setN w b k l) g old :=
  ⟨by rw [size_setN]; exact h.1, fun j x hx => (setN_other b l k w _ (.inl (by simpa using Ne.symm hne))).trans (h.2 j x hx)⟩
theorem Free5.setN_ {w : World} {g : Nat} (h : Free5 w g) (b k : Nat) (l : List Value) : Free5 (setN w b k l) g := fun j => by rw [setN_frozen]; exact h j
theorem below_setN {B : Nat} {w0 : World} {g : Nat} (hg : B ≤ g) : ∀ (l : List Value) (k : Nat) (w : World), Below B w0 w → Below B w0 (setN w g k l)
  | [], _, _, h => h
  | v :: r, k, w, h => by rw [setN]; exact below_setN hg r (k + 1) _ (h.setCell (p := ⟨g, k, none⟩) hg v)
theorem isOwn.setN_ {B : Nat} {e : TypeId} {cs : List Value} {v : Value} {g : Nat} (hg : g < B) : ∀ (l : List Value) (k : Nat) (w : World), isOwn B e cs v w → isOwn B e cs v (setN w g k l)
  | [], _, _, h => h
  | u :: r, k, w, h => by rw [setN]; exact isOwn.setN_ hg r (k + 1) _ (h.set (p := ⟨g, k, none⟩) hg u)

/-- Each is one cell. -/
def Ones : List Value → Prop
  | [] => True
  | v :: r => v.oneCell' = true ∧ Ones r
theorem storeCellsN {P : Program} (g : Nat) : ∀ (l : List Value) (k : Nat) (w : World), Ones l → (∀ j, j < l.length → ∃ o, w.cell? ⟨g, k + j, none⟩ = some o) → Free5 w g → (storeCells ⟨g, 0, none⟩ l k).run P w = .ok () (setN w g k l)
  | [], _, _, _, _, _ => rfl
  | v :: r, k, w, h1, h, hf => by
    obtain ⟨o, ho⟩ := h 0 (by simp)
    have ea : (⟨g, 0, none⟩ : Addr).add k = ⟨g, k, none⟩ := by
      by_cases e : k = 0
      · subst e; simp [Addr.add]
      · simp [Addr.add, e]
    unfold storeCells
    rw [Sem.run_bind, ea, run_store P w _ v _ h1.1, show w.cell? ⟨g, k, none⟩ = some o from ho]
    simp only [hf k, Bool.false_eq_true, if_false]
    rw [Result.andThen_ok, storeCellsN g r (k + 1) _ h1.2 (fun j hj => ?_) (hf.set _ _)]
    · rfl
    · obtain ⟨o', ho'⟩ := h (j + 1) (by simp; omega)
      refine ⟨o', ?_⟩
      rw [World.cell?_setCell_other w _ _ _ (by intro hh; injection hh; omega), show k + 1 + j = k + (j + 1) by omega]
      exact ho'
theorem storeN {P : Program} (t : TypeId) (g : Nat) (w : World) (old l : List Value) (hs : (P.info? t).map (·.size) = some l.length) (h : CellsN w g old) (hl : old.length = l.length) (hf : Free5 w g) (h1 : Ones l) :
    (Instr.storeAt t (.pointer (some ⟨g, 0, none⟩)) (.agg l.toArray)).run P w = .ok () (setN w g 0 l) := by
  obtain ⟨ie, hie, hz⟩ := Option.map_eq_some_iff.1 hs
  have hsz : (sizeOf t).run P w = .ok l.length w := by simp [sizeOf, typeInfo, hie, hz]
  simp only [Instr.storeAt, Instr.sureAddr, Sem.run_bind, Sem.run_pure, Result.andThen_ok, storeVar, hsz]
  rw [if_neg (show ¬ ((Value.agg l.toArray).cells.size ≠ l.length) by show ¬ (l.toArray.size ≠ l.length); simp)]
  show (storeCells ⟨g, 0, none⟩ l.toArray.toList 0).run P w = _
  exact storeCellsN g l 0 w h1 (fun j hj => ⟨_, by rw [Nat.zero_add]; exact h.2 j _ (List.getElem?_eq_getElem (by omega))⟩) hf
theorem wpList_storeN {P : Program} {ops : Array Oper} {rest : List Oper} {o : Oper} {a : Act} {w : World} {Q : Exit → Act → World → Prop} (t : TypeId) (hgd : o.guard = none) (x y : Operand) (ho : o.op = .store t x y)
    (g : Nat) (l : List Value) (hs : (P.info? t).map (·.size) = some l.length) (hx : a.eval x = .pointer (some ⟨g, 0, none⟩)) (hy : a.eval y = .agg l.toArray) {old : List Value} (h : CellsN w g old) (hl : old.length = l.length) (hf : Free5 w g) (h1 : Ones l)
    (hr : wpList P ops Q rest (a.put o.dst undef) (setN w g 0 l)) : wpList P ops Q (o :: rest) a w :=
  wpList_plain hgd fun K hK => by
    unfold Oper.wp execOp
    rw [ho]
    simp only [hx, hy, Sem.run_bind, storeN t g w old l hs h hl hf h1, Result.andThen_ok, Sem.run_pure, Oper.upon]
    exact hK _ _ hr
theorem loadCellsN {P : Program} (g : Nat) (w : World) : ∀ (l : List Value) (k : Nat) (acc : Array Value), (∀ j x, l[j]? = some x → w.cell? ⟨g, k + j, none⟩ = some x) → (loadCellsFrom ⟨g, 0, none⟩ k l.length acc).run P w = .ok (acc ++ l.toArray) w
  | [], k, acc, _ => by simp [loadCellsFrom]
  | v :: r, k, acc, h => by
    have ea : (⟨g, 0, none⟩ : Addr).add k = ⟨g, k, none⟩ := by
      by_cases e : k = 0
      · subst e; simp [Addr.add]
      · simp [Addr.add, e]
    have h0 : w.cell? ⟨g, k, none⟩ = some v := h 0 v rfl
    rw [List.length_cons]
    unfold loadCellsFrom
    rw [Sem.run_bind, ea]
    have hl : (load ⟨g, k, none⟩).run P w = .ok v w := by simp [h0]
    rw [hl, Result.andThen_ok, loadCellsN g w r (k + 1) (acc.push v) (fun j x hx => by rw [show k + 1 + j = k + (j + 1) by omega]; exact h (j + 1) x (by simpa using hx))]
    simp
theorem loadN {P : Program} (t : TypeId) (g : Nat) (w : World) (l : List Value) (hs : (P.info? t).map (·.size) = some l.length) (ha : ∀ w, (isAgg t).run P w = .ok true w) (h : CellsN w g l) : (loadVar t ⟨g, 0, none⟩).run P w = .ok (.agg l.toArray) w := by
  obtain ⟨ie, hie, hz⟩ := Option.map_eq_some_iff.1 hs
  have hsz : (sizeOf t).run P w = .ok l.length w := by simp [sizeOf, typeInfo, hie, hz]
  have hc := loadCellsN (P := P) g w l 0 #[] (fun j x hx => by rw [Nat.zero_add]; exact h.2 j x hx)
  simp only [loadVar, Sem.run_bind, ha, Result.andThen_ok, if_true, hsz, loadCells, hc, Sem.run_pure]
  simp
theorem resultsN1 {P : Program} {fn : Func} {p : Tmp} {t : TypeId} (h : fn.results = #[.cell p t]) (tmps : Array Value) (w : World) (g : Nat) (l : List Value) (hs : (P.info? t).map (·.size) = some l.length) (ha : ∀ w, (isAgg t).run P w = .ok true w) (hp : tmps.getD p undef = .pointer (some ⟨g, 0, none⟩)) (hc : CellsN w g l) :
    (results fn tmps).run P w = .ok (.agg l.toArray) w := by
  have hp' : tmps[p]?.getD undef = .pointer (some ⟨g, 0, none⟩) := by simpa using hp
  simp [results, h, hp', asAddr, loadN t g w l hs ha hc]
theorem resultsN2 {P : Program} {fn : Func} {p u : Tmp} {t : TypeId} (h : fn.results = #[.cell p t, .tmp u]) (tmps : Array Value) (w : World) (g : Nat) (l : List Value) (x : Value) (hs : (P.info? t).map (·.size) = some l.length) (ha : ∀ w, (isAgg t).run P w = .ok true w) (hp : tmps.getD p undef = .pointer (some ⟨g, 0, none⟩)) (hx : tmps.getD u undef = x) (hc : CellsN w g l) :
    (results fn tmps).run P w = .ok (.tuple #[.agg l.toArray, x]) w := by
  rw [results_cell_tmp h, hp, hx]
  simp [asAddr, loadN t g w l hs ha hc]
section
variable {P : Program} {ops : Array Oper} {base : World} {a0 : Act} {Q : Exit → Act → World → Prop} {kn : Nat → VP} {i : Nat} {V : VP}
theorem step_loadN (t : TypeId) (x : Operand) (g : Nat) (l : List Value) (hop : (ops[i]?).map (·.op) = some (.load t x)) (hw : Wanted ops a0 kn i) (hx : Knows ops a0 kn i x (isVal (.pointer (some ⟨g, 0, none⟩))))
    (hs : (P.info? t).map (·.size) = some l.length) (ha : ∀ w, (isAgg t).run P w = .ok true w) (hc : CellsN base g l) : FStep P ops base a0 Q kn i (isVal (.agg l.toArray)) :=
  step_mk (stable_val _) hw fun o ho a w hk hb hd => by
    have e1 : a.eval x = .pointer (some ⟨g, 0, none⟩) := hx a w hk hd
    unfold Oper.wp execOp
    rw [op_of hop ho]
    simp only [e1, Instr.loadAt, Instr.sureAddr, Sem.run_bind, Sem.run_pure, Result.andThen_ok, loadN t g w l hs ha (hc.keep hb hc.1), Oper.upon]
    exact ⟨_, rfl, rfl, Below.refl _ _⟩
/-- A struct put together out of what is known. -/
theorem step_buildP (t : TypeId) (parts : Array (Nat × Operand)) (hop : (ops[i]?).map (·.op) = some (.build t parts)) (hw : Wanted ops a0 kn i) (hst : Stable V)
    (hx : ∀ a w, FKept ops a0 a → FDeps ops kn i a w → ∃ cs, P.built t (parts.map fun (i, x) => (i, a.eval x)).toList = some cs ∧ V (.agg cs) w) : FStep P ops base a0 Q kn i V :=
  step_mk hst hw fun o ho a w hk hb hd => by
    obtain ⟨cs, h1, h2⟩ := hx a w hk hd
    unfold Oper.wp execOp
    rw [op_of hop ho]
    simp only [Sem.run_bind]
    rw [run_build (P := P) w t _ cs (by simpa using h1)]
    exact ⟨_, rfl, h2, Below.refl _ _⟩
variable {a : Act} {w : World} {c : Nat}
theorem tail_build (t : TypeId) (parts : Array (Nat × Operand)) (cs : Array Value) (d : Tmp) (hop : (ops[i]?).map (fun o => (o.op, o.guard)) = some (.build t parts, none)) (hd : (ops[i]?).bind (·.dst) = some d)
    (hb : P.built t (parts.map fun (i, x) => (i, a.eval x)).toList = some cs) (h : Tail P ops Q c (i + 1) (a.put (some d) (.agg cs)) w) : Tail P ops Q (c + 1) i a w :=
  tail_op (fun _ _ => True) hop fun o ho e => by
    rw [ho] at hd
    simp only [Option.bind_some] at hd
    unfold Oper.wp execOp
    rw [e]
    simp only [Sem.run_bind]
    rw [run_build (P := P) w t _ cs (by simpa using hb)]
    simp only [Result.andThen_ok, Sem.run_pure, Oper.upon, hd]
    exact h
theorem tail_storeN (t : TypeId) (x y : Operand) (g : Nat) (l old : List Value) (hop : (ops[i]?).map (fun o => (o.op, o.guard)) = some (.store t x y, none)) (hdst : (ops[i]?).map (·.dst) = some none) (hs : (P.info? t).map (·.size) = some l.length) (hx : a.eval x = .pointer (some ⟨g, 0, none⟩)) (hy : a.eval y = .agg l.toArray)
    (hc : CellsN w g old) (hl : old.length = l.length) (hf : Free5 w g) (h1 : Ones l) (h : Tail P ops Q c (i + 1) a (setN w g 0 l)) : Tail P ops Q (c + 1) i a w :=
  tail_op (fun _ _ => True) hop fun o ho e => by
    rw [ho] at hdst
    simp only [Option.map_some, Option.some.injEq] at hdst
    unfold Oper.wp execOp
    rw [e]
    simp only [hx, hy, Sem.run_bind, storeN t g w old l hs hc hl hf h1, Result.andThen_ok, Sem.run_pure, Oper.upon, hdst]
    exact h
end
end Go.Proofs.YtkjghoomdefbbaaGreatDoor
end
section
namespace Go.Proofs.YtkjghoomdefbbaaGreatDoor
set_option linter.unusedVariables false
set_option linter.unusedSimpArgs false

structure Va where
  kind : Int
  time : Int
  node : Int
  dead : Bool
  text : List UInt8
  plus : List Int
  minus : List Int
  flags : UInt64
  deriving DecidableEq

def zeroV : Va := ⟨0, 0, 0, false, [], [], [], 0⟩
def inReg (v : Va) : Bool := (decide (0 ≤ v.time) && decide (v.time ≤ 2147483647)) && (decide (0 ≤ v.node) && decide (v.node ≤ 7)) && decide ((v.text.length : Int) ≤ 8) && (!v.dead || v.text == [])
def okNum (x : Int) : Bool := decide (0 ≤ x) && decide (x ≤ 65535)
def okRow (l : List Int) : Bool := decide (l.length = 8) && l.all okNum
def inCount (v : Va) : Bool := okRow v.plus && okRow v.minus
def onlyReg (v : Va) : Va := ⟨1, v.time, v.node, v.dead, v.text, [], [], 0⟩
def onlyCount (v : Va) : Va := ⟨2, 0, 0, false, [], v.plus, v.minus, 0⟩
def onlyFlags (v : Va) : Va := ⟨3, 0, 0, false, [], [], [], v.flags⟩
/-- Its kind, if it is a value; else 0. -/
def kindN (v : Va) : Nat :=
  if v.kind = 1 then (if (inReg v && decide (v = onlyReg v)) = true then 1 else 0)
  else if v.kind = 2 then (if (inCount v && decide (v = onlyCount v)) = true then 2 else 0)
  else if v.kind = 3 then (if decide (v = onlyFlags v) = true then 3 else 0) else 0
def okV (v : Va) : Bool := decide (kindN v ≠ 0)
def cmpI (a b : Int) : Int := if a < b then -1 else if b < a then 1 else 0
def cmpT (a b : List UInt8) : Int := if Op.bytesLess a b = true then -1 else if a = b then 0 else 1
def rankI (b : Bool) : Int := if b = true then 1 else 0
def behindL : List Int → Bool
  | [] => false
  | x :: r => if x = 0 then behindL r else decide (0 < x)
def ordL (a b : Va) : List Int := [cmpI a.time b.time, cmpI a.node b.node, cmpI (rankI a.dead) (rankI b.dead), cmpT a.text b.text]
def behindB (a b : Va) : Bool := behindL (ordL a b)
def maxI (a b : Int) : Int := if b > a then b else a
def joinReg (a b : Va) : Va := if behindB a b = true then onlyReg a else onlyReg b
def joinCount (a b : Va) : Va := ⟨2, 0, 0, false, [], List.zipWith maxI a.plus b.plus, List.zipWith maxI a.minus b.minus, 0⟩
def joinFlags (a b : Va) : Va := ⟨3, 0, 0, false, [], [], [], a.flags ||| b.flags⟩
def joinV (a b : Va) : Va := if a.kind = 1 then joinReg a b else if a.kind = 2 then joinCount a b else joinFlags a b
def joinE (a b : Va) : Int := if (okV a && okV b) = true then (if a.kind = b.kind then 0 else 3) else 2
def joinF (a b : Va) : Va := if joinE a b = 0 then joinV a b else zeroV
def belowB (a b : Va) : Bool := decide (joinE a b = 0) && decide (joinF a b = b)
def leastF (k : Int) : Va := if k = 1 then ⟨1, 0, 0, false, [], [], [], 0⟩ else if k = 2 then ⟨2, 0, 0, false, [], List.replicate 8 0, List.replicate 8 0, 0⟩ else if k = 3 then ⟨3, 0, 0, false, [], [], [], 0⟩ else zeroV
def leastE (k : Int) : Int := if k = 1 ∨ k = 2 ∨ k = 3 then 0 else 3
def sumN (v : Va) : Int := if kindN v = 2 then v.plus.sum - v.minus.sum else 0

/-! ### Texts, byte by byte -/
theorem less_irrefl : ∀ a : List UInt8, Op.bytesLess a a = false
  | [] => rfl
  | x :: r => by unfold Op.bytesLess; rw [less_irrefl r]; simp
theorem less_trans : ∀ {a b c : List UInt8}, Op.bytesLess a b = true → Op.bytesLess b c = true → Op.bytesLess a c = true
  | _, _, [], _, h => by unfold Op.bytesLess at h; simp at h
  | [], _, _ :: _, _, _ => by unfold Op.bytesLess; rfl
  | _ :: _, [], _ :: _, h, _ => by unfold Op.bytesLess at h; simp at h
  | x :: a, y :: b, z :: c, h1, h2 => by
    unfold Op.bytesLess at h1 h2 ⊢
    simp only [Bool.or_eq_true, decide_eq_true_eq, Bool.and_eq_true, beq_iff_eq] at h1 h2 ⊢
    rcases h1 with h1 | ⟨rfl, h1⟩
    · rcases h2 with h2 | ⟨rfl, h2⟩
      · exact .inl (UInt8.lt_trans h1 h2)
      · exact .inl h1
    · rcases h2 with h2 | ⟨rfl, h2⟩
      · exact .inl h2
      · exact .inr ⟨rfl, less_trans h1 h2⟩
theorem less_total : ∀ (a b : List UInt8), Op.bytesLess a b = false → Op.bytesLess b a = false → a = b
  | [], [], _, _ => rfl
  | [], _ :: _, h, _ => by unfold Op.bytesLess at h; simp at h
  | _ :: _, [], _, h => by unfold Op.bytesLess at h; simp at h
  | x :: a, y :: b, h1, h2 => by
    unfold Op.bytesLess at h1 h2
    simp only [Bool.or_eq_false_iff, decide_eq_false_iff_not, Bool.and_eq_false_imp, beq_iff_eq] at h1 h2
    have e : x = y := by
      have a1 := h1.1
      have a2 := h2.1
      exact UInt8.le_antisymm (UInt8.not_lt.1 a2) (UInt8.not_lt.1 a1)
    subst e
    rw [less_total a b (h1.2 rfl) (h2.2 rfl)]
theorem less_asymm {a b : List UInt8} (h : Op.bytesLess a b = true) : Op.bytesLess b a = false := by
  cases h' : Op.bytesLess b a with
  | false => rfl
  | true => have := less_trans h h'; rw [less_irrefl] at this; cases this

/-! ### What is behind -/
theorem cmpI_zero {a b : Int} : cmpI a b = 0 ↔ a = b := by unfold cmpI; split <;> (try split) <;> omega
theorem cmpI_pos {a b : Int} : 0 < cmpI a b ↔ b < a := by unfold cmpI; split <;> (try split) <;> omega
theorem cmpT_zero {a b : List UInt8} : cmpT a b = 0 ↔ a = b := by
  unfold cmpT
  constructor
  · intro h
    split at h
    · simp at h
    · split at h
      · assumption
      · simp at h
  · rintro rfl; rw [less_irrefl]; simp
theorem cmpT_pos {a b : List UInt8} : 0 < cmpT a b ↔ Op.bytesLess b a = true := by
  unfold cmpT
  constructor
  · intro h
    split at h
    · simp at h
    · split at h
      · simp at h
      · rename_i h1 h2
        cases h' : Op.bytesLess b a with
        | true => rfl
        | false => exact absurd (less_total a b (by simpa using h1) h') h2
  · intro h
    rw [less_asymm h]
    have : a ≠ b := by rintro rfl; rw [less_irrefl] at h; cases h
    simp [this]
def Behind (a b : Va) : Prop := b.time < a.time ∨ (a.time = b.time ∧ (b.node < a.node ∨ (a.node = b.node ∧ (rankI b.dead < rankI a.dead ∨ (rankI a.dead = rankI b.dead ∧ Op.bytesLess b.text a.text = true)))))
theorem behindB_iff (a b : Va) : behindB a b = true ↔ Behind a b := by
  unfold behindB ordL Behind behindL behindL behindL behindL behindL
  by_cases h1 : cmpI a.time b.time = 0
  · rw [if_pos h1]
    have e1 := cmpI_zero.1 h1
    by_cases h2 : cmpI a.node b.node = 0
    · rw [if_pos h2]
      have e2 := cmpI_zero.1 h2
      by_cases h3 : cmpI (rankI a.dead) (rankI b.dead) = 0
      · rw [if_pos h3]
        have e3 := cmpI_zero.1 h3
        by_cases h4 : cmpT a.text b.text = 0
        · rw [if_pos h4]
          have e4 := cmpT_zero.1 h4
          rw [e4, less_irrefl]
          simp [e1, e2, e3]
        · rw [if_neg h4, decide_eq_true_eq, cmpT_pos]
          constructor
          · intro h; exact .inr ⟨e1, .inr ⟨e2, .inr ⟨e3, h⟩⟩⟩
          · rintro (h | ⟨_, h | ⟨_, h | ⟨_, h⟩⟩⟩)
            · omega
            · omega
            · omega
            · exact h
      · rw [if_neg h3, decide_eq_true_eq, cmpI_pos]
        have e3 : rankI a.dead ≠ rankI b.dead := fun e => h3 (cmpI_zero.2 e)
        constructor
        · intro h; exact .inr ⟨e1, .inr ⟨e2, .inl h⟩⟩
        · rintro (h | ⟨_, h | ⟨_, h | ⟨h, _⟩⟩⟩)
          · omega
          · omega
          · exact h
          · exact absurd h e3
    · rw [if_neg h2, decide_eq_true_eq, cmpI_pos]
      have e2 : a.node ≠ b.node := fun e => h2 (cmpI_zero.2 e)
      constructor
      · intro h; exact .inr ⟨e1, .inl h⟩
      · rintro (h | ⟨_, h | ⟨h, _⟩⟩)
        · omega
        · exact h
        · exact absurd h e2
  · rw [if_neg h1, decide_eq_true_eq, cmpI_pos]
    have e1 : a.time ≠ b.time := fun e => h1 (cmpI_zero.2 e)
    constructor
    · intro h; exact .inl h
    · rintro (h | ⟨h, _⟩)
      · exact h
      · exact absurd h e1
theorem behind_irrefl (a : Va) : ¬ Behind a a := by
  rintro (h | ⟨_, h | ⟨_, h | ⟨_, h⟩⟩⟩)
  · omega
  · omega
  · omega
  · rw [less_irrefl] at h; cases h
theorem behind_trans {a b c : Va} (h1 : Behind a b) (h2 : Behind b c) : Behind a c := by
  unfold Behind at *
  rcases h1 with h1 | ⟨e1, h1 | ⟨f1, h1 | ⟨g1, h1⟩⟩⟩ <;> rcases h2 with h2 | ⟨e2, h2 | ⟨f2, h2 | ⟨g2, h2⟩⟩⟩
  all_goals first
    | exact .inl (by omega)
    | exact .inr ⟨by omega, .inl (by omega)⟩
    | exact .inr ⟨by omega, .inr ⟨by omega, .inl (by omega)⟩⟩
    | exact .inr ⟨by omega, .inr ⟨by omega, .inr ⟨by omega, less_trans h2 h1⟩⟩⟩
theorem rankI_inj {a b : Bool} (h : rankI a = rankI b) : a = b := by cases a <;> cases b <;> simp [rankI] at h <;> rfl
theorem behind_total {a b : Va} (h1 : ¬ Behind a b) (h2 : ¬ Behind b a) : onlyReg a = onlyReg b := by
  unfold Behind at h1 h2
  have e1 : a.time = b.time := by omega
  have h1' := fun h => h1 (.inr ⟨e1, h⟩)
  have h2' := fun h => h2 (.inr ⟨e1.symm, h⟩)
  have e2 : a.node = b.node := by
    have := fun h => h1' (.inl h)
    have := fun h => h2' (.inl h)
    omega
  have h1'' := fun h => h1' (.inr ⟨e2, h⟩)
  have h2'' := fun h => h2' (.inr ⟨e2.symm, h⟩)
  have e3 : rankI a.dead = rankI b.dead := by
    have := fun h => h1'' (.inl h)
    have := fun h => h2'' (.inl h)
    omega
  have e4 : a.text = b.text := by
    refine less_total _ _ ?_ ?_
    · cases h : Op.bytesLess a.text b.text with
      | false => rfl
      | true => exact absurd (.inr ⟨e3.symm, h⟩) h2''
    · cases h : Op.bytesLess b.text a.text with
      | false => rfl
      | true => exact absurd (.inr ⟨e3, h⟩) h1''
  unfold onlyReg
  rw [e1, e2, e4, rankI_inj e3]

/-! ### What a value is -/
theorem ok_reg {v : Va} (h : okV v = true) (hk : v.kind = 1) : inReg v = true ∧ v = onlyReg v := by
  unfold okV kindN at h
  rw [if_pos hk] at h
  by_cases c : (inReg v && decide (v = onlyReg v)) = true
  · simpa using c
  · rw [if_neg c] at h; simp at h
theorem ok_count {v : Va} (h : okV v = true) (hk : v.kind = 2) : inCount v = true ∧ v = onlyCount v := by
  unfold okV kindN at h
  rw [if_neg (by omega), if_pos hk] at h
  by_cases c : (inCount v && decide (v = onlyCount v)) = true
  · simpa using c
  · rw [if_neg c] at h; simp at h
theorem ok_flags {v : Va} (h : okV v = true) (hk : v.kind = 3) : v = onlyFlags v := by
  unfold okV kindN at h
  rw [if_neg (by omega), if_neg (by omega), if_pos hk] at h
  by_cases c : decide (v = onlyFlags v) = true
  · simpa using c
  · rw [if_neg c] at h; simp at h
theorem ok_kind {v : Va} (h : okV v = true) : v.kind = 1 ∨ v.kind = 2 ∨ v.kind = 3 := by
  by_cases h1 : v.kind = 1
  · exact .inl h1
  · by_cases h2 : v.kind = 2
    · exact .inr (.inl h2)
    · by_cases h3 : v.kind = 3
      · exact .inr (.inr h3)
      · unfold okV kindN at h
        rw [if_neg h1, if_neg h2, if_neg h3] at h
        simp at h
theorem kindN_ok {v : Va} (h : okV v = true) : (kindN v : Int) = v.kind := by
  rcases ok_kind h with hk | hk | hk
  · have := ok_reg h hk
    unfold kindN
    rw [if_pos hk, if_pos (by simpa using this), hk]; rfl
  · have := ok_count h hk
    unfold kindN
    rw [if_neg (by omega), if_pos hk, if_pos (by simpa using this), hk]; rfl
  · have := ok_flags h hk
    unfold kindN
    rw [if_neg (by omega), if_neg (by omega), if_pos hk, if_pos (by simpa using this), hk]; rfl
theorem count_ok {v : Va} (hk : v.kind = 2) (h1 : inCount v = true) (h2 : v = onlyCount v) : okV v = true := by
  unfold okV kindN
  rw [if_neg (by omega), if_pos hk, if_pos (by rw [h1]; simpa using h2)]; rfl
theorem flags_ok {v : Va} (hk : v.kind = 3) (h2 : v = onlyFlags v) : okV v = true := by
  unfold okV kindN
  rw [if_neg (by omega), if_neg (by omega), if_pos hk, if_pos (by simpa using h2)]; rfl

/-! ### Numbers, place by place -/
theorem maxI_comm (a b : Int) : maxI a b = maxI b a := by unfold maxI; split <;> split <;> omega
theorem maxI_assoc (a b c : Int) : maxI (maxI a b) c = maxI a (maxI b c) := by unfold maxI; (repeat' split) <;> omega
theorem maxI_self (a : Int) : maxI a a = a := by unfold maxI; split <;> rfl
theorem zip_comm : ∀ (l m : List Int), List.zipWith maxI l m = List.zipWith maxI m l
  | [], [] => rfl
  | [], _ :: _ => rfl
  | _ :: _, [] => rfl
  | x :: l, y :: m => by rw [List.zipWith_cons_cons, List.zipWith_cons_cons, maxI_comm, zip_comm l m]
theorem zip_assoc : ∀ (l m n : List Int), List.zipWith maxI (List.zipWith maxI l m) n = List.zipWith maxI l (List.zipWith maxI m n)
  | [], _, _ => by simp
  | _ :: _, [], _ => by simp
  | _ :: _, _ :: _, [] => by simp
  | x :: l, y :: m, z :: n => by simp only [List.zipWith_cons_cons, maxI_assoc, zip_assoc l m n]
theorem zip_self : ∀ (l : List Int), List.zipWith maxI l l = l
  | [] => rfl
  | x :: l => by rw [List.zipWith_cons_cons, maxI_self, zip_self l]
theorem okRow_len {l : List Int} (h : okRow l = true) : l.length = 8 := by unfold okRow at h; simp only [Bool.and_eq_true, decide_eq_true_eq] at h; exact h.1
theorem all_zip : ∀ (l m : List Int), l.all okNum = true → m.all okNum = true → (List.zipWith maxI l m).all okNum = true
  | [], _, _, _ => by simp
  | _ :: _, [], _, _ => by simp
  | x :: l, y :: m, h1, h2 => by
    rw [List.all_cons, Bool.and_eq_true] at h1 h2
    rw [List.zipWith_cons_cons, List.all_cons, all_zip l m h1.2 h2.2, Bool.and_true]
    unfold maxI
    split
    · exact h2.1
    · exact h1.1
theorem okRow_zip {l m : List Int} (h1 : okRow l = true) (h2 : okRow m = true) : okRow (List.zipWith maxI l m) = true := by
  have l1 := okRow_len h1
  have l2 := okRow_len h2
  unfold okRow at *
  simp only [Bool.and_eq_true, decide_eq_true_eq] at *
  exact ⟨by rw [List.length_zipWith, l1, l2]; rfl, all_zip l m h1.2 h2.2⟩

/-! ### Joins -/
theorem joinE_zero {a b : Va} : joinE a b = 0 ↔ okV a = true ∧ okV b = true ∧ a.kind = b.kind := by
  unfold joinE
  constructor
  · intro h
    split at h
    · rename_i h1
      simp only [Bool.and_eq_true] at h1
      split at h
      · exact ⟨h1.1, h1.2, by assumption⟩
      · simp at h
    · simp at h
  · rintro ⟨h1, h2, h3⟩
    simp [h1, h2, h3]
theorem joinE_comm (a b : Va) : joinE a b = joinE b a := by
  unfold joinE
  rw [Bool.and_comm]
  by_cases h : a.kind = b.kind
  · simp [h]
  · simp [h, Ne.symm h]
theorem joinF_ok {a b : Va} (h : joinE a b = 0) : joinF a b = joinV a b := by unfold joinF; rw [if_pos h]
theorem joinV_reg {a b : Va} (h : a.kind = 1) : joinV a b = joinReg a b := by unfold joinV; rw [if_pos h]
theorem joinV_count {a b : Va} (h : a.kind = 2) : joinV a b = joinCount a b := by unfold joinV; rw [if_neg (by omega), if_pos h]
theorem joinV_flags {a b : Va} (h : a.kind = 3) : joinV a b = joinFlags a b := by unfold joinV; rw [if_neg (by omega), if_neg (by omega)]
theorem reg_either (a b : Va) (ha : a = onlyReg a) (hb : b = onlyReg b) : joinReg a b = a ∨ joinReg a b = b := by
  unfold joinReg
  split
  · exact .inl ha.symm
  · exact .inr hb.symm
theorem join_ok {a b : Va} (h : joinE a b = 0) : okV (joinF a b) = true ∧ (joinF a b).kind = a.kind := by
  obtain ⟨ha, hb, hk⟩ := joinE_zero.1 h
  rw [joinF_ok h]
  rcases ok_kind ha with k | k | k
  · rw [joinV_reg k]
    rcases reg_either a b (ok_reg ha k).2 (ok_reg hb (by omega)).2 with e | e
    · rw [e]; exact ⟨ha, rfl⟩
    · rw [e]; exact ⟨hb, hk.symm⟩
  · rw [joinV_count k]
    have h1 := (ok_count ha k).1
    have h2 := (ok_count hb (by omega)).1
    unfold inCount at h1 h2
    rw [Bool.and_eq_true] at h1 h2
    refine ⟨count_ok rfl ?_ rfl, k.symm⟩
    unfold inCount joinCount
    rw [Bool.and_eq_true]
    exact ⟨okRow_zip h1.1 h2.1, okRow_zip h1.2 h2.2⟩
  · rw [joinV_flags k]
    exact ⟨flags_ok rfl rfl, k.symm⟩
theorem join_comm {a b : Va} (h : joinE a b = 0) : joinF a b = joinF b a := by
  have h' : joinE b a = 0 := by rw [joinE_comm]; exact h
  obtain ⟨ha, hb, hk⟩ := joinE_zero.1 h
  rw [joinF_ok h, joinF_ok h']
  rcases ok_kind ha with k | k | k
  · rw [joinV_reg k, joinV_reg (by omega)]
    unfold joinReg
    by_cases c : behindB a b = true
    · have c' : ¬ behindB b a = true := fun c' => behind_irrefl a (behind_trans ((behindB_iff _ _).1 c) ((behindB_iff _ _).1 c'))
      rw [if_pos c, if_neg c']
    · rw [if_neg c]
      by_cases c' : behindB b a = true
      · rw [if_pos c']
      · rw [if_neg c']
        exact (behind_total (fun x => c ((behindB_iff _ _).2 x)) (fun x => c' ((behindB_iff _ _).2 x))).symm
  · rw [joinV_count k, joinV_count (by omega)]
    unfold joinCount
    rw [zip_comm a.plus, zip_comm a.minus]
  · rw [joinV_flags k, joinV_flags (by omega)]
    unfold joinFlags
    rw [UInt64.or_comm]
theorem join_self {a : Va} (h : okV a = true) : joinE a a = 0 ∧ joinF a a = a := by
  have h0 : joinE a a = 0 := joinE_zero.2 ⟨h, h, rfl⟩
  refine ⟨h0, ?_⟩
  rw [joinF_ok h0]
  rcases ok_kind h with k | k | k
  · rw [joinV_reg k]
    rcases reg_either a a (ok_reg h k).2 (ok_reg h k).2 with e | e <;> exact e
  · rw [joinV_count k]
    unfold joinCount
    rw [zip_self, zip_self]
    exact (ok_count h k).2.symm
  · rw [joinV_flags k]
    unfold joinFlags
    rw [UInt64.or_self]
    exact (ok_flags h k).symm
theorem joinReg_assoc (a b c : Va) (ha : a = onlyReg a) (hb : b = onlyReg b) (hc : c = onlyReg c) : joinReg (joinReg a b) c = joinReg a (joinReg b c) := by
  have key : ∀ x y : Va, behindB x y = false → behindB y x = false → x = onlyReg x → y = onlyReg y → x = y := fun x y h1 h2 hx hy => by
    rw [hx, hy]; exact behind_total (fun z => by rw [(behindB_iff _ _).2 z] at h1; cases h1) (fun z => by rw [(behindB_iff _ _).2 z] at h2; cases h2)
  have tr : ∀ x y z : Va, behindB x y = true → behindB y z = true → behindB x z = true := fun x y z h1 h2 => (behindB_iff _ _).2 (behind_trans ((behindB_iff _ _).1 h1) ((behindB_iff _ _).1 h2))
  have ir : ∀ x : Va, behindB x x = false := fun x => by cases h : behindB x x with | false => rfl | true => exact absurd ((behindB_iff _ _).1 h) (behind_irrefl x)
  have E : ∀ x y : Va, x = onlyReg x → y = onlyReg y → joinReg x y = if behindB x y = true then x else y := fun x y hx hy => by unfold joinReg; rw [← hx, ← hy]
  have ntr : ∀ x y z : Va, x = onlyReg x → y = onlyReg y → behindB x y = false → behindB y z = false → behindB x z = false := by
    intro x y z hx hy h1 h2
    cases h : behindB x z with
    | false => rfl
    | true =>
      cases h3 : behindB y x with
      | true => rw [tr y x z h3 h] at h2; cases h2
      | false => rw [key x y h1 h3 hx hy, h2] at h; cases h
  have or_ : ∀ x y : Va, x = onlyReg x → y = onlyReg y → joinReg x y = onlyReg (joinReg x y) := fun x y hx hy => by rcases reg_either x y hx hy with e | e <;> rw [e] <;> assumption
  rw [E _ _ (or_ a b ha hb) hc, E _ _ ha (or_ b c hb hc), E a b ha hb, E b c hb hc]
  cases h1 : behindB a b with
  | true =>
    rw [if_pos rfl]
    cases h2 : behindB b c with
    | true => rw [if_pos rfl, tr a b c h1 h2, h1]; simp
    | false => simp
  | false =>
    cases h2 : behindB b c with
    | true => simp [h1, h2]
    | false => simp [ntr a b c ha hb h1 h2, h2]
theorem join_assoc {a b c : Va} (h1 : joinE a b = 0) (h2 : joinE b c = 0) : joinE (joinF a b) c = 0 ∧ joinE a (joinF b c) = 0 ∧ joinF (joinF a b) c = joinF a (joinF b c) := by
  obtain ⟨ha, hb, hk1⟩ := joinE_zero.1 h1
  obtain ⟨_, hc, hk2⟩ := joinE_zero.1 h2
  obtain ⟨o1, k1⟩ := join_ok h1
  obtain ⟨o2, k2⟩ := join_ok h2
  have h3 : joinE (joinF a b) c = 0 := joinE_zero.2 ⟨o1, hc, by omega⟩
  have h4 : joinE a (joinF b c) = 0 := joinE_zero.2 ⟨ha, o2, by omega⟩
  refine ⟨h3, h4, ?_⟩
  rw [joinF_ok h3, joinF_ok h4]
  rcases ok_kind ha with k | k | k
  · rw [joinV_reg (by omega), joinV_reg k, joinF_ok h1, joinF_ok h2, joinV_reg k, joinV_reg (by omega)]
    exact joinReg_assoc a b c (ok_reg ha k).2 (ok_reg hb (by omega)).2 (ok_reg hc (by omega)).2
  · rw [joinV_count (by omega), joinV_count k, joinF_ok h1, joinF_ok h2, joinV_count k, joinV_count (by omega)]
    unfold joinCount
    simp only [zip_assoc]
  · rw [joinV_flags (by omega), joinV_flags k, joinF_ok h1, joinF_ok h2, joinV_flags k, joinV_flags (by omega)]
    unfold joinFlags
    simp only [UInt64.or_assoc]

/-! ### Below -/
theorem below_iff {a b : Va} : belowB a b = true ↔ joinE a b = 0 ∧ joinF a b = b := by unfold belowB; simp
theorem below_join {a b : Va} (h : joinE a b = 0) : belowB a (joinF a b) = true := by
  obtain ⟨ha, hb, hk⟩ := joinE_zero.1 h
  obtain ⟨s1, s2⟩ := join_self ha
  obtain ⟨e1, e2, e3⟩ := join_assoc s1 h
  rw [below_iff]
  exact ⟨e2, by rw [← e3, s2]⟩
theorem below_join2 {a b : Va} (h : joinE a b = 0) : belowB b (joinF a b) = true := by
  rw [join_comm h]; exact below_join (by rw [joinE_comm]; exact h)
end Go.Proofs.YtkjghoomdefbbaaGreatDoor
end
section
namespace Go.Proofs.YtkjghoomdefbbaaGreatDoor
open Go.RowKit
set_option linter.unusedVariables false

theorem pow_le (wd : Nat) (h : wd ≤ 7) : 256 ^ wd ≤ 72057594037927936 := by
  have := Nat.pow_le_pow_right (n := 256) (by omega) h
  simpa using this

theorem put_yes (m wd : Nat) (w : World) (h1 : 1 ≤ wd) (h7 : wd ≤ 7) (hz : m < 256 ^ wd) :
    Calls Tryz.prog 43 #[.int .i64 (m : Int), .int .i64 (wd : Int)] w fun e w' => e = .returned (.tuple #[.string ⟨(putL m wd).toArray⟩, .int .i64 0]) ∧ Below w.heap.size w w' := by
  have hp := pow_le wd h7
  refine (put_any m wd w (by omega)).mono ?_
  rintro e w' ⟨rfl, hb⟩
  have hi : isWidthB (wd : Int) = true := by simp [isWidthB]; omega
  have ok : okPut (m : Int) (wd : Int) = true := by
    simp only [okPut, hi, Bool.true_and, Int.toNat_natCast, Bool.and_eq_true, decide_eq_true_eq]
    refine ⟨by omega, ?_⟩
    rw [show ((256 : Int) ^ wd) = ((256 ^ wd : Nat) : Int) by simp]
    omega
  exact ⟨by simp [putS, putE, ok], hb⟩
theorem get_yes (l : List UInt8) (at_ wd : Nat) (w : World) (hl : l.length ≤ 1000000000) (h1 : 1 ≤ wd) (h7 : wd ≤ 7) (hf : at_ + wd ≤ l.length) :
    Calls Tryz.prog 45 #[.string ⟨l.toArray⟩, .int .i64 (at_ : Int), .int .i64 (wd : Int)] w fun e w' => e = .returned (.tuple #[.int .i64 (getN ((l.drop at_).take wd) : Int), .int .i64 0]) ∧ Below w.heap.size w w' := by
  refine (get_any _ at_ wd w (by rw [size_mk]; exact hl)).mono ?_
  rintro e w' ⟨rfl, hb⟩
  have hi : isWidthB (wd : Int) = true := by simp [isWidthB]; omega
  have ok : okGet ⟨l.toArray⟩ (at_ : Int) (wd : Int) = true := by simp only [okGet, size_mk, Bool.and_eq_true, decide_eq_true_eq]; omega
  exact ⟨by simp [getV, getE, hi, ok], hb⟩
/-- Whether Get answers. -/
def fitsGet (l : List UInt8) (at_ wd : Int) : Bool := decide (1 ≤ wd) && decide (wd ≤ 7) && decide (0 ≤ at_) && decide (at_ + wd ≤ l.length)
end Go.Proofs.YtkjghoomdefbbaaGreatDoor
end
section
namespace Go.Proofs.YtkjghoomdefbbaaGreatDoor
set_option linter.unusedVariables false
set_option linter.unusedSimpArgs false

structure En where
  key : List UInt8
  val : Va
  deriving DecidableEq

def zeroE : En := ⟨[], zeroV⟩
def zerosL (n : Nat) : List UInt8 := List.replicate n 0
def bitN (b : Bool) : Nat := if b = true then 1 else 0
def numsL : List Int → List UInt8
  | [] => []
  | n :: r => putL n.toNat 2 ++ numsL r
def dataL (v : Va) : List UInt8 :=
  if v.kind = 1 then putL v.time.toNat 4 ++ (putL v.node.toNat 1 ++ (putL (bitN v.dead) 1 ++ (putL v.text.length 1 ++ v.text)))
  else if v.kind = 2 then numsL v.plus ++ numsL v.minus
  else putL (v.flags.toNat % 4294967296) 4 ++ putL (v.flags.toNat / 4294967296) 4
def okE (E : En) : Bool := decide (1 ≤ E.key.length) && decide (E.key.length ≤ 8) && okV E.val
def headL (E : En) : List UInt8 := putL E.val.kind.toNat 1 ++ (putL E.key.length 1 ++ (E.key ++ zerosL (8 - E.key.length)))
def putEn (E : En) : List UInt8 := headL E ++ (dataL E.val ++ zerosL (32 - (dataL E.val).length))
def putF (E : En) : List UInt8 := if okE E = true then putEn E else []
def chkE (E : En) : Int := if okE E = true then 0 else 2
def lessE (a b : En) : Bool := if a.val.kind = b.val.kind then Op.bytesLess a.key b.key else decide (a.val.kind < b.val.kind)
def nameB (a b : En) : Bool := decide (a.val.kind = b.val.kind) && decide (a.key = b.key)
def joinEE (a b : En) : Int := if (okE a && okE b) = true then (if nameB a b = true then 0 else 3) else 2
def joinEF (a b : En) : En := if joinEE a b = 0 then ⟨a.key, joinV a.val b.val⟩ else zeroE

theorem length_zeros (n : Nat) : (zerosL n).length = n := by simp [zerosL]
theorem length_nums : ∀ l : List Int, (numsL l).length = 2 * l.length
  | [] => rfl
  | n :: r => by rw [numsL, List.length_append, length_putL, length_nums r, List.length_cons]; omega

/-! ### Bytes that are read -/
def numsOf : Nat → List UInt8 → List Int
  | 0, _ => []
  | n + 1, s => (getN (s.take 2) : Int) :: numsOf n (s.drop 2)
def restOf : Nat → List UInt8 → List UInt8
  | 0, s => s
  | n + 1, s => restOf n (s.drop 2)
def regV (s : List UInt8) : Va := ⟨1, (getN (s.take 4) : Int), (getN ((s.drop 4).take 1) : Int), decide (getN (((s.drop 4).drop 1).take 1) = 1),
  ((((s.drop 4).drop 1).drop 1).drop 1).take (getN ((((s.drop 4).drop 1).drop 1).take 1)), [], [], 0⟩
def padOk (z room : Nat) (s : List UInt8) : Prop := z ≤ room ∧ (s.drop z).take (room - z) = zerosL (room - z)
instance (z room : Nat) (s : List UInt8) : Decidable (padOk z room s) := by unfold padOk; infer_instance
def regZ (s : List UInt8) : Nat := getN ((((s.drop 4).drop 1).drop 1).take 1)
def regS (s : List UInt8) : List UInt8 := (((s.drop 4).drop 1).drop 1).drop 1
def regOk (s : List UInt8) : Prop := getN (((s.drop 4).drop 1).take 1) ≤ 1 ∧ padOk (regZ s) 8 (regS s)
instance (s : List UInt8) : Decidable (regOk s) := by unfold regOk; infer_instance
def regR (s : List UInt8) : List UInt8 := ((regS s).drop (regZ s)).drop (8 - regZ s)
def countV (s : List UInt8) : Va := ⟨2, 0, 0, false, [], numsOf 8 s, numsOf 8 (restOf 8 s), 0⟩
def flagsV (s : List UInt8) : Va := ⟨3, 0, 0, false, [], [], [], UInt64.ofNat (getN (s.take 4) + 4294967296 * getN ((s.drop 4).take 4))⟩
def rdVal (kind : Nat) (s : List UInt8) : Option (Va × List UInt8) :=
  if kind = 1 then (if regOk s then some (regV s, regR s) else none)
  else if kind = 2 then some (countV s, restOf 8 (restOf 8 s))
  else if kind = 3 then some (flagsV s, (s.drop 4).drop 4)
  else none
def keyZ (s : List UInt8) : Nat := getN ((s.drop 1).take 1)
def keyS (s : List UInt8) : List UInt8 := (s.drop 1).drop 1
def keyOf (s : List UInt8) : List UInt8 := (keyS s).take (keyZ s)
def valS (s : List UInt8) : List UInt8 := ((keyS s).drop (keyZ s)).drop (8 - keyZ s)
def rdEn (s : List UInt8) : Option En :=
  if s.length = 42 ∧ padOk (keyZ s) 8 (keyS s) then
    match rdVal (getN (s.take 1)) (valS s) with
    | none => none
    | some (v, r) => if r = zerosL r.length ∧ okE ⟨keyOf s, v⟩ = true then some ⟨keyOf s, v⟩ else none
  else none

theorem data_reg {v : Va} (h : v.kind = 1) : dataL v = putL v.time.toNat 4 ++ (putL v.node.toNat 1 ++ (putL (bitN v.dead) 1 ++ (putL v.text.length 1 ++ v.text))) := by rw [dataL, if_pos h]
theorem data_count {v : Va} (h : v.kind = 2) : dataL v = numsL v.plus ++ numsL v.minus := by rw [dataL, if_neg (by rw [h]; decide), if_pos h]
theorem data_flags {v : Va} (h : v.kind = 3) : dataL v = putL (v.flags.toNat % 4294967296) 4 ++ putL (v.flags.toNat / 4294967296) 4 := by rw [dataL, if_neg (by rw [h]; decide), if_neg (by rw [h]; decide)]

theorem length_data_le {v : Va} (h : okV v = true) : (dataL v).length ≤ 32 ∧ (v.kind = 1 → (dataL v).length = 7 + v.text.length ∧ v.text.length ≤ 8) ∧ (v.kind = 2 → (dataL v).length = 32) := by
  unfold okV kindN at h
  split at h
  · rename_i hk
    rw [data_reg hk]
    split at h
    · rename_i hi
      simp only [inReg, Bool.and_eq_true, decide_eq_true_eq] at hi
      have := hi.1.1.2
      simp only [List.length_append, length_putL]
      exact ⟨by omega, fun _ => ⟨by omega, by omega⟩, fun h2 => by rw [hk] at h2; exact absurd h2 (by decide)⟩
    · simp at h
  · split at h
    · rename_i hk
      rw [data_count hk]
      split at h
      · rename_i hi
        simp only [inCount, okRow, Bool.and_eq_true, decide_eq_true_eq] at hi
        have h1 := hi.1.1.1
        have h2 := hi.1.2.1
        simp only [List.length_append, length_nums, h1, h2]
        exact ⟨by omega, fun h1 => by rw [hk] at h1; exact absurd h1 (by decide), fun _ => trivial⟩
      · simp at h
    · split at h
      · rename_i h1 h2 hk
        rw [data_flags hk]
        simp only [List.length_append, length_putL]
        exact ⟨by omega, fun h => absurd h h1, fun h => absurd h h2⟩
      · simp at h

theorem length_head {E : En} (h : okE E = true) : (headL E).length = 10 := by
  simp only [okE, Bool.and_eq_true, decide_eq_true_eq] at h
  simp only [headL, List.length_append, length_putL, length_zeros]
  omega
theorem length_putEn {E : En} (h : okE E = true) : (putEn E).length = 42 := by
  have h1 := length_head h
  simp only [okE, Bool.and_eq_true, decide_eq_true_eq] at h
  have h2 := (length_data_le h.2).1
  simp only [putEn, List.length_append, length_zeros, h1]
  omega
theorem kind_lt {v : Va} (h : okV v = true) : 1 ≤ v.kind ∧ v.kind ≤ 3 := by
  unfold okV kindN at h
  split at h
  · omega
  · split at h
    · omega
    · split at h
      · omega
      · simp at h

def atN (s : List UInt8) (at_ w : Nat) : Nat := getN ((s.drop at_).take w)
def getsL (s : List UInt8) (at_ : Nat) : Nat → List Int
  | 0 => []
  | n + 1 => getsL s at_ n ++ [(atN s (at_ + 2 * n) 2 : Int)]
def readV (s : List UInt8) : Va :=
  if atN s 0 1 = 1 then ⟨1, atN s 10 4, atN s 14 1, decide (atN s 15 1 = 1), (s.drop 17).take (min (atN s 16 1) 8), [], [], 0⟩
  else if atN s 0 1 = 2 then ⟨2, 0, 0, false, [], getsL s 10 8, getsL s 26 8, 0⟩
  else if atN s 0 1 = 3 then ⟨3, 0, 0, false, [], [], [], UInt64.ofNat (atN s 10 4 + 4294967296 * atN s 14 4)⟩
  else ⟨atN s 0 1, 0, 0, false, [], [], [], 0⟩
def readE (s : List UInt8) : En := ⟨(s.drop 2).take (min (atN s 1 1) 8), readV s⟩
def getOk (s : List UInt8) : Bool := (rdEn s).isSome
def getEF (s : List UInt8) : En := (rdEn s).getD zeroE
def getEE (s : List UInt8) : Int := if getOk s = true then 0 else 2
end Go.Proofs.YtkjghoomdefbbaaGreatDoor
end
section
namespace Go.Proofs.YtkjghoomdefbbaaGreatDoor
open Go.RowKit
set_option linter.unusedVariables false
set_option linter.unusedSimpArgs false

theorem repeatL_zeros (n : Nat) : Lib.repeatL [0] n = zerosL n := by /- 87 -/
  induction n with
  | zero => rfl
  | succ n ih => simp [Lib.repeatL, zerosL, List.replicate_succ] at ih ⊢; try rw [ih]
set_option maxHeartbeats 800000 in
theorem zeros_any (n : Nat) (w : World) (hn : n ≤ 1000) : Calls Tryz.prog 87 #[.int .i64 (n : Int)] w fun e w' => e = .returned (txt (zerosL n)) ∧ Below w.heap.size w w' := by
  have E0 := Lib.hid (repeatL_zeros n)
  go_enter Tryz.func87, Tryz.ntmps87
  go_wp2_with fail
  refine (Tryz.strings_Repeat ⟨#[0]⟩ n _ (by omega) (by show 1 * n ≤ _; omega)).mono ?_
  rintro e w' ⟨rfl, hb⟩
  go_wp2
  go_ret
  exact ⟨ret_str E0.out, hb⟩
set_option maxHeartbeats 800000 in
theorem fill_any (g : Nat) (t : List UInt8) (n : Nat) (w : World) (h : At w g (txt t)) (ht : t.length ≤ n) (hn : n ≤ 1000) :
    Calls Tryz.prog 58 #[ptr g, .int .i64 (n : Int)] w fun e w' => e = .returned unitV ∧ Wr g (txt (t ++ zerosL (n - t.length))) w w' := by
  have hc := h.cell
  have hs : (⟨t.toArray⟩ : ByteArray).size = t.length := by simp [ByteArray.size]
  go_enter Tryz.func58, Tryz.ntmps58
  go_wp2_with fail
  have e : (n : Int) - (t.length : Int) = ((n - t.length : Nat) : Int) := by omega
  rw [e]
  refine (zeros_any (n - t.length) w (by omega)).mono ?_
  rintro e w1 ⟨rfl, hb⟩
  clear hc
  go_wp2_with fail
  refine (add_any g t (zerosL (n - t.length)) w1 (h.keep hb) (by omega) (by rw [length_zeros]; omega)).mono ?_
  rintro e w2 ⟨rfl, hw2⟩
  replace hw2 := Kept.mk (Wr.behind hb hw2)
  clear hb
  go_wp2
  go_end0
  exact ⟨rfl, hw2.out⟩
end Go.Proofs.YtkjghoomdefbbaaGreatDoor
end
section
namespace Go.Proofs.YtkjghoomdefbbaaGreatDoor
open Go.RowKit
set_option linter.unusedVariables false
set_option linter.unusedSimpArgs false

theorem within_any (n most : Int) (w : World) : Calls Tryz.prog 182 #[.int .i64 n, .int .i64 most] w fun e w' => e = .returned (.bool (decide (0 ≤ n) && decide (n ≤ most))) ∧ w = w' := by
  by_cases h1 : 0 ≤ n
  · have h1' : decide (0 ≤ n) = true := by simpa using h1
    go_enter Tryz.func182, Tryz.ntmps182
    go_wp2
    go_ret
    exact ⟨by simp [h1], rfl⟩
  · have h1' : decide (0 ≤ n) = false := by simpa using h1
    go_enter Tryz.func182, Tryz.ntmps182
    go_wp2
    go_ret
    exact ⟨by simp [h1], rfl⟩
theorem isNaN_i (x : Int) (w : World) : Calls Tryz.prog 187 #[.int .i64 x] w fun e w' => e = .returned (.bool false) ∧ w = w' := by
  go_enter Tryz.func187, Tryz.ntmps187
  go_wp2
  go_ret
  exact ⟨by simp, rfl⟩
theorem isNaN_s (x : List UInt8) (w : World) : Calls Tryz.prog 188 #[.string ⟨x.toArray⟩] w fun e w' => e = .returned (.bool false) ∧ w = w' := by
  go_enter Tryz.func188, Tryz.ntmps188
  go_wp2
  go_ret
  exact ⟨by simp, rfl⟩
theorem compare_i (x y : Int) (w : World) : Calls Tryz.prog 184 #[.int .i64 x, .int .i64 y] w fun e w' => e = .returned (.int .i64 (cmpI x y)) ∧ w = w' := by
  have HC := Kept.mk (show cmpI x y = if x < y then -1 else if y < x then 1 else 0 from rfl)
  by_cases h1 : x < y
  · have d1 : decide (x < y) = true := by simpa using h1
    have HR := Kept.mk (show cmpI x y = -1 by rw [HC.out, if_pos h1])
    clear h1
    go_enter Tryz.func184, Tryz.ntmps184
    go_wp2_with fail
    refine (isNaN_i x _).mono ?_; rintro e w' ⟨rfl, rfl⟩
    go_wp2_with fail
    refine (isNaN_i y _).mono ?_; rintro e w' ⟨rfl, rfl⟩
    go_wp2
    go_ret
    exact ⟨by rw [HR.out]; rfl, rfl⟩
  · have d1 : decide (x < y) = false := by simpa using h1
    by_cases h2 : y < x
    · have d2 : decide (y < x) = true := by simpa using h2
      have HR := Kept.mk (show cmpI x y = 1 by rw [HC.out, if_neg h1, if_pos h2])
      clear h1 h2
      go_enter Tryz.func184, Tryz.ntmps184
      go_wp2_with fail
      refine (isNaN_i x _).mono ?_; rintro e w' ⟨rfl, rfl⟩
      go_wp2_with fail
      refine (isNaN_i y _).mono ?_; rintro e w' ⟨rfl, rfl⟩
      go_wp2
      go_ret
      exact ⟨by rw [HR.out]; rfl, rfl⟩
    · have d2 : decide (y < x) = false := by simpa using h2
      have HR := Kept.mk (show cmpI x y = 0 by rw [HC.out, if_neg h1, if_neg h2])
      clear h1 h2
      go_enter Tryz.func184, Tryz.ntmps184
      go_wp2_with fail
      refine (isNaN_i x _).mono ?_; rintro e w' ⟨rfl, rfl⟩
      go_wp2_with fail
      refine (isNaN_i y _).mono ?_; rintro e w' ⟨rfl, rfl⟩
      go_wp2
      go_ret
      exact ⟨by rw [HR.out]; rfl, rfl⟩
theorem rank_any (b : Bool) (w : World) : Calls Tryz.prog 185 #[.bool b] w fun e w' => e = .returned (.int .i64 (rankI b)) ∧ w = w' := by
  cases b
  · go_enter Tryz.func185, Tryz.ntmps185
    go_wp2
    go_ret
    exact ⟨rfl, rfl⟩
  · go_enter Tryz.func185, Tryz.ntmps185
    go_wp2
    go_ret
    exact ⟨rfl, rfl⟩
set_option maxHeartbeats 400000 in
theorem compare_s (x y : List UInt8) (w : World) : Calls Tryz.prog 186 #[.string ⟨x.toArray⟩, .string ⟨y.toArray⟩] w fun e w' => e = .returned (.int .i64 (cmpT x y)) ∧ w = w' := by
  have HC := Kept.mk (show cmpT x y = if Op.bytesLess x y = true then -1 else if x = y then 0 else 1 from rfl)
  cases h1 : Op.bytesLess x y with
  | true =>
    have HR := Kept.mk (show cmpT x y = -1 by rw [HC.out, if_pos h1])
    go_enter Tryz.func186, Tryz.ntmps186
    go_wp2_with fail
    refine (isNaN_s x _).mono ?_; rintro e w' ⟨rfl, rfl⟩
    go_wp2_with fail
    refine (isNaN_s y _).mono ?_; rintro e w' ⟨rfl, rfl⟩
    go_wp2
    go_ret
    exact ⟨by rw [HR.out]; rfl, rfl⟩
  | false =>
    cases h2 : x == y with
    | true =>
      have HR := Kept.mk (show cmpT x y = 0 by rw [HC.out, h1, if_neg (by simp), if_pos (by simpa using h2)])
      go_enter Tryz.func186, Tryz.ntmps186
      go_wp2_with fail
      refine (isNaN_s x _).mono ?_; rintro e w' ⟨rfl, rfl⟩
      go_wp2_with fail
      refine (isNaN_s y _).mono ?_; rintro e w' ⟨rfl, rfl⟩
      go_wp2
      go_ret
      exact ⟨by rw [HR.out]; rfl, rfl⟩
    | false =>
      have HR := Kept.mk (show cmpT x y = 1 by rw [HC.out, h1, if_neg (by simp), if_neg (by simpa using h2)])
      go_enter Tryz.func186, Tryz.ntmps186
      go_wp2_with fail
      refine (isNaN_s x _).mono ?_; rintro e w' ⟨rfl, rfl⟩
      go_wp2_with fail
      refine (isNaN_s y _).mono ?_; rintro e w' ⟨rfl, rfl⟩
      go_wp2
      go_ret
      exact ⟨by rw [HR.out]; rfl, rfl⟩

theorem behindL_cons (x : Int) (r : List Int) : behindL (x :: r) = if x = 0 then behindL r else decide (0 < x) := rfl
set_option maxHeartbeats 400000 in
theorem isBehind_any (l : List Int) (v : Value) (w : World) (hv : isCells (l.map intC) v w) (hl : l.length ≤ 1000000) :
    Calls Tryz.prog 183 #[v] w fun e w' => e = .returned (.bool (behindL l)) ∧ w = w' := by
  obtain ⟨a, cap, hva⟩ := hv.len
  rw [List.length_map] at hva
  subst hva
  have HV := Kept.mk hv
  clear hv
  go_enter Tryz.func183, Tryz.ntmps183
  go_wp2
  go_loop [7] (fun i => ∃ k : Nat, k ≤ l.length ∧ i = .int .i64 (k : Int) ∧ Kept (behindL l = behindL (l.drop k))) (fun i => l.length - (intOf i).toNat)
  case atStart => exact ⟨0, Nat.zero_le _, rfl, ⟨rfl⟩⟩
  case round =>
    obtain ⟨k, hk, rfl, HB⟩ := hrel
    by_cases hlt : k < l.length
    · obtain ⟨b, off, cap', hs, hb, hc⟩ := HV.out.some_ (by rw [List.length_map]; omega)
      rw [List.length_map] at hs
      injection hs with h1 h2 h3
      subst h1 h3
      have hcell := hc k _ (get_map intC l k hlt)
      have HD := Kept.mk (show l.drop k = l[k] :: l.drop (k + 1) from List.drop_eq_getElem_cons hlt)
      obtain ⟨x, hx⟩ : ∃ x, x = l[k] := ⟨_, rfl⟩
      rw [← hx] at hcell HD
      unfold intC at hcell
      clear hc hx
      by_cases hz : x = 0
      · have d : (x == 0) = true := by simpa using hz
        have HR := Kept.mk (show behindL l = behindL (l.drop (k + 1)) by rw [HB.out, HD.out, behindL_cons, if_pos hz])
        clear hz
        go_wp2
        go_round
        case rel => exact ⟨k + 1, by omega, by go_num, HR⟩
        case measure => simp [intOf]; omega
      · have d : (x == 0) = false := by simpa using hz
        have HR := Kept.mk (show behindL l = decide (0 < x) by rw [HB.out, HD.out, behindL_cons, if_neg hz])
        clear hz
        go_wp2
        go_ret
        exact ⟨by rw [HR.out]; rfl, rfl⟩
    · have HR := Kept.mk (show behindL l = false by rw [HB.out, List.drop_eq_nil_of_le (by omega)]; rfl)
      go_wp2
      go_ret
      exact ⟨by rw [HR.out]; rfl, rfl⟩

theorem isRow1_any (x : Int) (w : World) : Calls Tryz.prog 199 #[.int .i64 x] w fun e w' => e = .returned (.bool (!okNum x)) ∧ w = w' := by
  have HO := Kept.mk (show okNum x = (decide (0 ≤ x) && decide (x ≤ 65535)) from rfl)
  go_enter Tryz.func199, Tryz.ntmps199
  go_wp2_with fail
  refine (within_any x 65535 _).mono ?_; rintro e w' ⟨rfl, rfl⟩
  obtain ⟨z, hz⟩ : ∃ z, z = (decide (0 ≤ x) && decide (x ≤ 65535)) := ⟨_, rfl⟩
  rw [← hz] at HO ⊢
  clear hz
  go_wp2
  go_ret
  exact ⟨by rw [HO.out]; rfl, rfl⟩
def badNum : Value → Bool
  | .int .i64 x => !okNum x
  | _ => false
theorem badNum_int (x : Int) : badNum (intC x) = !okNum x := rfl
theorem okNum_eq (l : List Int) : l.all okNum = !(l.map intC).any badNum := by
  induction l with
  | nil => rfl
  | cons x r ih => rw [List.all_cons, List.map_cons, List.any_cons, badNum_int, ih, Bool.not_or, Bool.not_not]
attribute [irreducible] badNum
set_option maxRecDepth 20000 in
theorem isRow_any (l : List Int) (v : Value) (w : World) (hv : isCells (l.map intC) v w) (hl : l.length ≤ 140737488355328) :
    Calls Tryz.prog 194 #[v] w fun e w' => e = .returned (.bool (okRow l)) ∧ w = w' := by
  have hen : Enters Tryz.prog 199 := enters_of Tryz.func199 (by kernel_rfl) rfl
  obtain ⟨a, cap, hva⟩ := hv.len
  rw [List.length_map] at hva
  subst hva
  have HV := Kept.mk hv
  clear hv
  by_cases h : l.length = 8
  · have h' : ((l.length : Int) == 8) = true := by simp; omega
    have HE := Kept.mk (show okRow l = !(l.map intC).any badNum by
      unfold okRow
      rw [decide_eq_true h, Bool.true_and, okNum_eq])
    clear h
    go_enter Tryz.func194, Tryz.ntmps194
    go_wp2_with fail
    refine (contains_i badNum 199 #[] hen (l.map intC) _ _ HV.out (by simpa using hl) ?_).mono ?_
    · intro x hx
      obtain ⟨y, _, rfl⟩ := List.mem_map.1 hx
      rw [badNum_int]
      exact isRow1_any y _
    rintro e w' ⟨rfl, rfl⟩
    generalize (l.map intC).any badNum = z at *
    go_wp2
    go_ret
    exact ⟨by rw [HE.out]; rfl, rfl⟩
  · have h' : ((l.length : Int) == 8) = false := by simp; omega
    have HE := Kept.mk (show okRow l = false by unfold okRow; rw [decide_eq_false h]; rfl)
    go_enter Tryz.func194, Tryz.ntmps194
    go_wp2
    go_ret
    exact ⟨by rw [HE.out]; rfl, rfl⟩
end Go.Proofs.YtkjghoomdefbbaaGreatDoor
end
section
namespace Go.Proofs.YtkjghoomdefbbaaGreatDoor
open Go.RowKit
set_option linter.unusedVariables false
set_option linter.unusedSimpArgs false

theorem Tryz.infoInt : (Tryz.prog.info? 3).map (fun i => (i.zero, i.size, i.bytes)) = some (some (.int .i64 0), 1, 8) := by kernel_rfl
set_option maxRecDepth 20000 in
set_option maxHeartbeats 400000 in
theorem row_any (f : Nat → Int) (g : Nat) (caps : Array Value) (hent : Enters Tryz.prog g) (w : World)
    (hf : ∀ (k : Nat) (w' : World), k < 8 → Below w.heap.size w w' → Calls Tryz.prog g (#[.int .i64 (k : Int)] ++ caps) w' fun e w'' => e = .returned (.int .i64 (f k)) ∧ Below w'.heap.size w' w'') :
    Calls Tryz.prog 195 #[.func (.func g) #[] caps] w fun e w' => e = .returned (.slice (some ⟨w.heap.size, 0, none⟩) 8 8) ∧ w'.rowIs w.heap.size 3 8 (fun j => intC (f j)) ∧ Below w.heap.size w w' := by
  have HF := Kept.mk hf
  clear hf
  have hmk : ∀ W : World, (Instr.makeSlice 23 (.int .i64 8) (.int .i64 8)).run Tryz.prog W = .ok (.slice (some ⟨W.heap.size, 0, none⟩) 8 8) (W.alloc (.cells (madeCells #[Value.int .i64 0] 8) 3)) := fun W => run_make_row' (P := Tryz.prog) 23 3 (.int .i64 0) 8 Tryz.underlying23 Tryz.infoInt rfl .i64 .i64 8 (by omega) (by omega) W
  have HB0 := Kept.mk (show Below w.heap.size w (w.alloc (.cells (madeCells #[Value.int .i64 0] 8) 3)) from (Below.refl _ _).alloc (Nat.le_refl _) _)
  have HR0 := Kept.mk (World.rowIs_made w (.int .i64 0) 8 3)
  go_enter Tryz.func195, Tryz.ntmps195
  go_wp2
  clear hmk
  generalize w.alloc (.cells (madeCells #[Value.int .i64 0] 8) 3) = w0 at *
  go_loopw [8] (fun i wr => ∃ k : Nat, k ≤ 8 ∧ i = .int .i64 (k : Int) ∧ Kept (wr.rowIs w.heap.size 3 8 (fun j => if j < k then intC (f j) else intC 0)) ∧ Kept (Below w.heap.size w wr)) (fun i _ => 8 - (intOf i).toNat)
  case atStart => exact ⟨0, by omega, rfl, ⟨HR0.out.congr (fun i _ => by simp [intC])⟩, HB0⟩
  case round =>
    clear HR0 HB0
    obtain ⟨k, hk, rfl, HR, HB⟩ := hrel
    by_cases hlt : k < 8
    · have d1 : decide ((k : Int) < 8) = true := by simp; omega
      go_wp2_with fail
      rw [hent]
      simp only [Oper.upon]
      refine (HF.out k _ hlt HB.out).mono ?_
      rintro e w2 ⟨rfl, hb2⟩
      have HR2 := HR.out.of_block (hb2.block _ HR.out.lt)
      have hcell := HR2.cell hlt
      have hfz := HR2.frozen k
      have HR3 := Kept.mk (HR2.set k (.int .i64 (f k)))
      have HB3 := Kept.mk ((HB.out.trans (hb2.mono HB.out.size)).setCell (p := ⟨w.heap.size, k, none⟩) (Nat.le_refl _) (.int .i64 (f k)))
      clear HR2 hb2
      rewrite [if_neg (by omega)] at hcell
      unfold intC at hcell
      go_wp2
      go_roundw
      case rel =>
        refine ⟨k + 1, by omega, by go_num, ⟨HR3.out.congr (fun j hj => ?_)⟩, HB3⟩
        by_cases e : j = k
        · subst e; simp [intC]
        · rw [if_neg e]
          by_cases l : j < k
          · rw [if_pos l, if_pos (by omega)]
          · rw [if_neg l, if_neg (by omega)]
      case measure => simp [intOf]; omega
    · have d1 : decide ((k : Int) < 8) = false := by simp; omega
      obtain rfl : k = 8 := by omega
      have HO := Kept.mk (HR.out.congr (g := fun j => intC (f j)) (fun j hj => by rw [if_pos hj]))
      go_wp2
      go_ret
      exact ⟨rfl, HO.out, HB.out⟩
theorem cells_of_row {w : World} {g n : Nat} {f : Nat → Value} {t : TypeId} (h : w.rowIs g t n f) : isCells ((List.range n).map f) (.slice (some ⟨g, 0, none⟩) n n) w := by
  have e : ((List.range n).map f).length = n := by simp
  have := (show isCells ((List.range n).map f) (.slice (some ⟨g, 0, none⟩) ((List.range n).map f).length n) w from .inr (.inr ⟨g, 0, n, rfl, h.lt, fun j x hx => by
    have hj : j < n := by have := (List.getElem?_eq_some_iff.1 hx).1; simpa using this
    rw [Nat.zero_add, h.cell hj]
    simpa [hj] using hx⟩))
  rwa [e] at this
end Go.Proofs.YtkjghoomdefbbaaGreatDoor
end
