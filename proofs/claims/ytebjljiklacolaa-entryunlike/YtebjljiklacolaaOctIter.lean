/- octet.digits and its closure: each byte, with how many bits it stands above the lowest one. -/
import Derived.Test.YtebjljiklacolaaOctPut
import Derived.RangeFuncNested
import Derived.RangeFuncBound
import Derived.RangeFuncCalls
import Derived.RangeFuncLeaves
import Derived.Shelf.Abstract
import Derived.Shelf.RegionOpen
import Derived.WalkKit
import Derived.OwnWalkIn
import Derived.TacticsInMore
import Derived.LoopNIn
import Derived.LoopIn
namespace Go.Proofs.Ytebjljiklacolaa
open Go.RowKit Go.Shelf
set_option linter.unusedVariables false
attribute [local go_sem] Oper.semAt_some

/-- A digit: its place, below 7, and its byte. -/
abbrev Dig := Fin 7 × UInt8
def encDig (x : Dig) : Array Value := #[.int .i64 (8 * (x.1.val : Int)), .int .i64 (x.2.toNat : Int)]

def digAt (l : List UInt8) (h : l.length ≤ 7) (k : Nat) (hk : k < l.length) : Dig := (⟨k, by omega⟩, l[k])
/-- The first k digits. -/
def digs (l : List UInt8) (h : l.length ≤ 7) : Nat → List Dig
  | 0 => []
  | k + 1 => digs l h k ++ (if hk : k < l.length then [digAt l h k hk] else [])
theorem digs_succ (l : List UInt8) (h : l.length ≤ 7) (k : Nat) (hk : k < l.length) : digs l h (k + 1) = digs l h k ++ [digAt l h k hk] := by
  simp [digs, hk]
theorem length_digs (l : List UInt8) (h : l.length ≤ 7) : ∀ k, k ≤ l.length → (digs l h k).length = k
  | 0, _ => rfl
  | k + 1, hk => by rw [digs_succ l h k (by omega)]; simp [length_digs l h k (by omega)]

/-- The cell of the box stays. -/
def BoxKept (b : Nat) (W W' : World) : Prop := W'.cell? ⟨b, 0, none⟩ = W.cell? ⟨b, 0, none⟩

set_option maxRecDepth 100000 in
set_option maxHeartbeats 1000000 in
theorem digits1_in (F : Fence) (n : Nat) (hF : F.fn 60) (hro : F.round = none) (hn : 1 ≤ n) (l Bs : Nat) (s : ByteArray) (hs : s.data.toList.length ≤ 7) (J Jx : List Dig → World → Prop)
    (hY : ∀ pre x W, J pre W → pre.length < s.size → YieldAt F (n - 1) Try.prog l (encDig x) W fun e W' =>
      (e = .returned (.bool true) ∧ J (pre ++ [x]) W' ∧ BoxKept Bs W W') ∨ (e = .returned (.bool false) ∧ Jx (pre ++ [x]) W'))
    (W : World) (hBs : W.cell? ⟨Bs, 0, none⟩ = some (.string s)) (h0 : J [] W) :
    CallsIn F n Try.prog 60 #[.func (.yield l) #[] #[], .pointer (some ⟨Bs, 0, none⟩)] W fun e W' => (∃ v, e = .returned v) ∧
      ((∃ ys, ys = digs s.data.toList hs s.size ∧ J ys W') ∨ (∃ pre, True ∧ Jx pre W')) := by
  have hsz : s.size ≤ 7 := by simpa using hs
  refine callsIn_of_wp Try.func60 rfl hF ?_ hro
  simp only [Try.ntmps60, List.size_toArray, List.length_cons, List.length_nil, Nat.reduceAdd, Nat.reduceSub, Array.replicate_succ, Array.replicate_zero, List.push_toArray, List.append_toArray, List.nil_append, List.cons_append]
  gi_wp2
  gi_loopw [6] (fun i wr => ∃ k : Nat, k ≤ s.size ∧ i = .int .i64 k ∧ J (digs s.data.toList hs k) wr ∧ wr.cell? ⟨Bs, 0, none⟩ = some (.string s))
    (fun i _ => s.size - (intOf i).toNat)
  case atStart => exact ⟨0, Nat.zero_le _, rfl, h0, hBs⟩
  case round =>
    obtain ⟨k, hk, rfl, hJs, hcx⟩ := hrel
    by_cases hlt : k < s.size
    · obtain ⟨fn, tmps, assign, body, hy, hR⟩ := hY _ (⟨k, by omega⟩, s[k]'hlt) wr hJs (by rw [length_digs _ _ _ (by simpa using hk)]; exact hlt)
      simp only [encDig] at hy
      have hbt : (s[k]'hlt).toNat < 256 := UInt8.toNat_lt _
      gi_wp2
      refine hR.mono ?_
      rintro e W3 (⟨rfl, hJ3, hk3⟩ | ⟨rfl, hJx3⟩)
      · have hc3 := hk3.trans hcx
        gi_wp2
        go_roundw
        case rel => exact ⟨k + 1, by omega, by go_num, by rw [digs_succ _ _ _ (by simpa using hlt)]; exact hJ3, hc3⟩
        case measure => simp [intOf]; omega
      · gi_wp2
        refine bodyPost_ret (results_none rfl _ _ _) rfl ?_
        exact ⟨⟨_, rfl⟩, .inr ⟨_, trivial, hJx3⟩⟩
    · obtain rfl : k = s.size := by omega
      gi_wp2
      go_end0
      exact ⟨⟨_, rfl⟩, .inl ⟨_, rfl, hJs⟩⟩
end Go.Proofs.Ytebjljiklacolaa
