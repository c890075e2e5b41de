/- Joined texts: contracts of the program's functions, and the mathematics that they lean on. -/
import Derived.Test.YtkjghoomdefbbaaGreatDoorPartE
import Derived.WideMake
import Derived.RangeFuncRecord
import Derived.RangeFuncCalls
import Derived.RegionTactic
import Derived.Laws.EntriesVeiled
section
namespace Go.Proofs.YtkjghoomdefbbaaGreatDoor
open Go.RowKit
set_option linter.unusedVariables false
set_option linter.unusedSimpArgs false
attribute [local irreducible] setN

def iv (l : List UInt8) (k : Nat) : Value := .int .i64 (getN ((l.drop (4 * k)).take 4) : Int)
/-- What stands in the variable behind k rounds. -/
def stG (l : List UInt8) : Nat → List Value
  | 0 => [.int .i64 0, .int .i64 0, .int .i64 0, .int .i64 0]
  | 1 => [iv l 0, .int .i64 0, .int .i64 0, .int .i64 0]
  | 2 => [iv l 0, iv l 1, .int .i64 0, .int .i64 0]
  | 3 => [iv l 0, iv l 1, iv l 2, .int .i64 0]
  | _ => [iv l 0, iv l 1, iv l 2, iv l 3]
theorem size_a4 : (Tryz.prog.info? 26).map (·.size) = some 4 := by kernel_rfl
theorem agg_a4 (w : World) : (isAgg 26).run Tryz.prog w = .ok true w := by simp [isAgg, run_underlying Tryz.underlying26]
def sums4 (l : List UInt8) : List Int := [(getN ((l.drop 0).take 4) : Int), (getN ((l.drop 4).take 4) : Int), (getN ((l.drop 8).take 4) : Int), (getN ((l.drop 12).take 4) : Int)]
set_option maxRecDepth 100000 in
set_option maxHeartbeats 2000000 in
theorem dgget_no (l : List UInt8) (w : World) (h : l.length ≠ 16) (hl : l.length ≤ 1000000000) : Calls Tryz.prog 22 #[.string ⟨l.toArray⟩] w fun e w' => e = .returned (.tuple #[.agg #[.int .i64 0, .int .i64 0, .int .i64 0, .int .i64 0], .int .i64 2]) ∧ Below w.heap.size w w' := by
  have B := Lib.hid (show Below w.heap.size w ((w.alloc (.cells #[.int .i64 0, .int .i64 0, .int .i64 0, .int .i64 0] 26)).alloc (.cells #[.int .i64 0, .int .i64 0, .int .i64 0, .int .i64 0] 26)) from ((Below.refl _ w).alloc (Nat.le_refl _) _).alloc (by simp) _)
  have BR := Lib.hid ((Blk.new w 26 [.int .i64 0, .int .i64 0, .int .i64 0, .int .i64 0] w.heap.size rfl).alloc (.cells #[.int .i64 0, .int .i64 0, .int .i64 0, .int .i64 0] 26))
  have BG := Lib.hid (Blk.new (w.alloc (.cells #[.int .i64 0, .int .i64 0, .int .i64 0, .int .i64 0] 26)) 26 [.int .i64 0, .int .i64 0, .int .i64 0, .int .i64 0] (w.heap.size + 1) (by simp))
  have hsz : (⟨l.toArray⟩ : ByteArray).size = l.length := size_mk l
  have hne : ((l.length : Int) != 16) = true := by simp; omega
  have hne2 : ¬ (l.length : Int) = 16 := by omega
  have k0 := BG.out.cells.2 0 _ rfl
  have k1 := BG.out.cells.2 1 _ rfl
  have k2 := BG.out.cells.2 2 _ rfl
  have k3 := BG.out.cells.2 3 _ rfl
  have KO : Hid (Ones [.int .i64 0, .int .i64 0, .int .i64 0, .int .i64 0]) := Lib.hid ⟨rfl, rfl, rfl, rfl, trivial⟩
  go_enter Tryz.func22, Tryz.ntmps22
  go_wp2_with (have hz0 := KO; refine wpList_storeN 26 rfl (.tmp 2) (.tmp 9) rfl w.heap.size [.int .i64 0, .int .i64 0, .int .i64 0, .int .i64 0] size_a4 rfl rfl BR.out.cells rfl BR.out.free KO.out ?_; clear hz0 KO k0 k1 k2 k3)
  exact bodyPost_ret (resultsN2 rfl _ _ w.heap.size [.int .i64 0, .int .i64 0, .int .i64 0, .int .i64 0] (.int .i64 2) size_a4 agg_a4 rfl rfl (BR.out.all_ (l := [.int .i64 0, .int .i64 0, .int .i64 0, .int .i64 0]) rfl).cells) rfl ⟨rfl, below_setN (Nat.le_refl _) _ 0 _ B.out⟩
set_option maxRecDepth 100000 in
set_option maxHeartbeats 2000000 in
theorem dgget_yes (l : List UInt8) (w : World) (h : l.length = 16) : Calls Tryz.prog 22 #[.string ⟨l.toArray⟩] w fun e w' => e = .returned (.tuple #[.agg ((sums4 l).map (fun x => Value.int .i64 x)).toArray, .int .i64 0]) ∧ Below w.heap.size w w' := by
  have B := Lib.hid (show Below w.heap.size w ((w.alloc (.cells #[.int .i64 0, .int .i64 0, .int .i64 0, .int .i64 0] 26)).alloc (.cells #[.int .i64 0, .int .i64 0, .int .i64 0, .int .i64 0] 26)) from ((Below.refl _ w).alloc (Nat.le_refl _) _).alloc (by simp) _)
  have BR := Lib.hid ((Blk.new w 26 [.int .i64 0, .int .i64 0, .int .i64 0, .int .i64 0] w.heap.size rfl).alloc (.cells #[.int .i64 0, .int .i64 0, .int .i64 0, .int .i64 0] 26))
  have BG := Lib.hid (Blk.new (w.alloc (.cells #[.int .i64 0, .int .i64 0, .int .i64 0, .int .i64 0] 26)) 26 [.int .i64 0, .int .i64 0, .int .i64 0, .int .i64 0] (w.heap.size + 1) (by simp))
  have hsz : (⟨l.toArray⟩ : ByteArray).size = 16 := (size_mk l).trans h
  go_enter Tryz.func22, Tryz.ntmps22
  go_wp2
  generalize ((w.alloc (.cells #[.int .i64 0, .int .i64 0, .int .i64 0, .int .i64 0] 26)).alloc (.cells #[.int .i64 0, .int .i64 0, .int .i64 0, .int .i64 0] 26)) = W0 at *
  clear hsz
  go_loopw [10] (fun i wr => ∃ k : Nat, k ≤ 4 ∧ i = .int .i64 (k : Int) ∧ Hid (Blk wr (w.heap.size + 1) (stG l k)) ∧ Hid (Blk wr w.heap.size [.int .i64 0, .int .i64 0, .int .i64 0, .int .i64 0]) ∧ Hid (Below w.heap.size w wr)) (fun i _ => 4 - (intOf i).toNat)
  case atStart => exact ⟨0, by omega, rfl, BG, BR, B⟩
  case round =>
    clear B BR BG
    obtain ⟨k, hk, rfl, BG, BR, B⟩ := hrel
    by_cases hlt : k < 4
    · have h4 : k = 0 ∨ k = 1 ∨ k = 2 ∨ k = 3 := by omega
      rcases h4 with rfl | rfl | rfl | rfl
      · have K := BG.out
        have hg := get_yes l 0 4 wr (by omega) (by omega) (by omega) (by omega)
        go_wp2_with fail
        refine hg.mono ?_
        rintro e w' ⟨rfl, hb⟩
        have BG2 := Lib.hid (((K : Blk wr _ [.int .i64 0, .int .i64 0, .int .i64 0, .int .i64 0]).keep hb).set 0 (iv l 0) (Nat.lt_of_lt_of_le (show 0 < 4 by decide) (Nat.le_refl 4)))
        have BR2 := Lib.hid (((BR.out : Blk wr _ [.int .i64 0, .int .i64 0, .int .i64 0, .int .i64 0]).keep hb).apart (show w.heap.size ≠ w.heap.size + 1 by omega) 0 (iv l 0))
        have B2 := Lib.hid ((B.out.trans (hb.mono B.out.size)).setCell (p := ⟨w.heap.size + 1, 0, none⟩) (show w.heap.size ≤ w.heap.size + 1 by omega) (iv l 0))
        have hf := (K.keep hb).free 0
        obtain ⟨x, hx⟩ : ∃ x, w'.cell? ⟨w.heap.size + 1, 0, none⟩ = some x := ⟨_, (K.keep hb).cells.2 0 _ rfl⟩
        clear hb K hg
        go_wp2
        go_roundw
        case rel => exact ⟨1, by omega, rfl, BG2, BR2, B2⟩
        case measure => simp [intOf]
      · have K := BG.out
        have hg := get_yes l 4 4 wr (by omega) (by omega) (by omega) (by omega)
        go_wp2_with fail
        refine hg.mono ?_
        rintro e w' ⟨rfl, hb⟩
        have BG2 := Lib.hid (((K : Blk wr _ [iv l 0, .int .i64 0, .int .i64 0, .int .i64 0]).keep hb).set 1 (iv l 1) (Nat.lt_of_lt_of_le (show 1 < 4 by decide) (Nat.le_refl 4)))
        have BR2 := Lib.hid (((BR.out : Blk wr _ [.int .i64 0, .int .i64 0, .int .i64 0, .int .i64 0]).keep hb).apart (show w.heap.size ≠ w.heap.size + 1 by omega) 1 (iv l 1))
        have B2 := Lib.hid ((B.out.trans (hb.mono B.out.size)).setCell (p := ⟨w.heap.size + 1, 1, none⟩) (show w.heap.size ≤ w.heap.size + 1 by omega) (iv l 1))
        have hf := (K.keep hb).free 1
        obtain ⟨x, hx⟩ : ∃ x, w'.cell? ⟨w.heap.size + 1, 1, none⟩ = some x := ⟨_, (K.keep hb).cells.2 1 _ rfl⟩
        clear hb K hg
        go_wp2
        go_roundw
        case rel => exact ⟨2, by omega, rfl, BG2, BR2, B2⟩
        case measure => simp [intOf]
      · have K := BG.out
        have hg := get_yes l 8 4 wr (by omega) (by omega) (by omega) (by omega)
        go_wp2_with fail
        refine hg.mono ?_
        rintro e w' ⟨rfl, hb⟩
        have BG2 := Lib.hid (((K : Blk wr _ [iv l 0, iv l 1, .int .i64 0, .int .i64 0]).keep hb).set 2 (iv l 2) (Nat.lt_of_lt_of_le (show 2 < 4 by decide) (Nat.le_refl 4)))
        have BR2 := Lib.hid (((BR.out : Blk wr _ [.int .i64 0, .int .i64 0, .int .i64 0, .int .i64 0]).keep hb).apart (show w.heap.size ≠ w.heap.size + 1 by omega) 2 (iv l 2))
        have B2 := Lib.hid ((B.out.trans (hb.mono B.out.size)).setCell (p := ⟨w.heap.size + 1, 2, none⟩) (show w.heap.size ≤ w.heap.size + 1 by omega) (iv l 2))
        have hf := (K.keep hb).free 2
        obtain ⟨x, hx⟩ : ∃ x, w'.cell? ⟨w.heap.size + 1, 2, none⟩ = some x := ⟨_, (K.keep hb).cells.2 2 _ rfl⟩
        clear hb K hg
        go_wp2
        go_roundw
        case rel => exact ⟨3, by omega, rfl, BG2, BR2, B2⟩
        case measure => simp [intOf]
      · have K := BG.out
        have hg := get_yes l 12 4 wr (by omega) (by omega) (by omega) (by omega)
        go_wp2_with fail
        refine hg.mono ?_
        rintro e w' ⟨rfl, hb⟩
        have BG2 := Lib.hid (((K : Blk wr _ [iv l 0, iv l 1, iv l 2, .int .i64 0]).keep hb).set 3 (iv l 3) (Nat.lt_of_lt_of_le (show 3 < 4 by decide) (Nat.le_refl 4)))
        have BR2 := Lib.hid (((BR.out : Blk wr _ [.int .i64 0, .int .i64 0, .int .i64 0, .int .i64 0]).keep hb).apart (show w.heap.size ≠ w.heap.size + 1 by omega) 3 (iv l 3))
        have B2 := Lib.hid ((B.out.trans (hb.mono B.out.size)).setCell (p := ⟨w.heap.size + 1, 3, none⟩) (show w.heap.size ≤ w.heap.size + 1 by omega) (iv l 3))
        have hf := (K.keep hb).free 3
        obtain ⟨x, hx⟩ : ∃ x, w'.cell? ⟨w.heap.size + 1, 3, none⟩ = some x := ⟨_, (K.keep hb).cells.2 3 _ rfl⟩
        clear hb K hg
        go_wp2
        go_roundw
        case rel => exact ⟨4, by omega, rfl, BG2, BR2, B2⟩
        case measure => simp [intOf]
    · have hk4 : k = 4 := by omega
      subst hk4
      have k0 := BG.out.cells.2 0 _ rfl
      have k1 := BG.out.cells.2 1 _ rfl
      have k2 := BG.out.cells.2 2 _ rfl
      have k3 := BG.out.cells.2 3 _ rfl
      have KO : Hid (Ones [iv l 0, iv l 1, iv l 2, iv l 3]) := Lib.hid ⟨rfl, rfl, rfl, rfl, trivial⟩
      go_wp2_with (have hz0 := KO; refine wpList_storeN 26 rfl (.tmp 2) (.tmp 23) rfl w.heap.size [iv l 0, iv l 1, iv l 2, iv l 3] size_a4 rfl rfl BR.out.cells rfl BR.out.free KO.out ?_; clear hz0 KO k0 k1 k2 k3)
      exact bodyPost_ret (resultsN2 rfl _ _ w.heap.size [iv l 0, iv l 1, iv l 2, iv l 3] (.int .i64 0) size_a4 agg_a4 rfl rfl (BR.out.all_ (l := [iv l 0, iv l 1, iv l 2, iv l 3]) rfl).cells) rfl ⟨rfl, below_setN (Nat.le_refl _) _ 0 _ B.out⟩
end Go.Proofs.YtkjghoomdefbbaaGreatDoor
end
section
namespace Go.Proofs.YtkjghoomdefbbaaGreatDoor
open Go.RowKit
set_option linter.unusedVariables false
set_option linter.unusedSimpArgs false

theorem run_insert {P : Program} (w : World) (mty kt et : TypeId) (r clock : Nat) (es : Array MapEntry) (k : Int) (val : Value) (hm : P.underlying mty = some (.map kt et)) (hk : P.underlying kt = some (.int .i64)) (hb : w.heap[r]? = some (.map es clock)) (hf : Instr.findNow (.int .i64) (.int .i64 k) es.toList 0 = some none) :
    (Instr.mapUpdate mty (.map (some r)) (.int .i64 k) val).run P w = .ok () (w.putObj r (.map (es.push { key := .int .i64 k, val := val, born := clock }) (clock + 1))) := by
  show _ = Result.ok () { w with heap := w.heap.setIfInBounds r (.map (es.push { key := .int .i64 k, val := val, born := clock }) (clock + 1)) }
  have hc : (Instr.checkKey false 10000 kt (.int .i64 k)).run P w = .ok () w := MapKept.run_checkKey (k := .int .i64 k) hk (by simp [MapKept.IsKey]) false 9999
  simp [Instr.mapUpdate, run_underlying hm, MapKept.run_getObj_map hb, hc, MapKept.run_findKey hk hf, MapKept.run_setObj_map _ hb, Result.andThen]
theorem run_find {P : Program} (w : World) (mty kt et : TypeId) (r clock i : Nat) (es : Array MapEntry) (k : Int) (val : Value) (hm : P.underlying mty = some (.map kt et)) (hk : P.underlying kt = some (.int .i64)) (hb : w.heap[r]? = some (.map es clock)) (hf : Instr.findNow (.int .i64) (.int .i64 k) es.toList 0 = some (some (i, val))) :
    (Instr.lookup mty (.map (some r)) (.int .i64 k) false).run P w = .ok val w := by
  have hc : (Instr.checkKey es.isEmpty 10000 kt (.int .i64 k)).run P w = .ok () w := MapKept.run_checkKey (k := .int .i64 k) hk (by simp [MapKept.IsKey]) _ 9999
  simp [Instr.lookup, run_underlying hm, MapKept.run_getObj_map hb, hc, MapKept.run_findKey hk hf, Result.andThen]
/-- The kinds' writers. -/
def kindsA (g : Nat) : Array MapEntry := #[{ key := .int .i64 1, val := .func (.func 88) #[ptr g] #[], born := 0 }, { key := .int .i64 2, val := .func (.func 89) #[ptr g] #[], born := 1 }, { key := .int .i64 3, val := .func (.func 90) #[ptr g] #[], born := 2 }]
def isKinds (g : Nat) : VP := fun v w => ∃ n, v = .map (some n) ∧ n < w.heap.size ∧ w.heap[n]? = some (.map (kindsA g) 3)
theorem stable_kinds (g : Nat) : Stable (isKinds g) := fun v w w' ⟨n, e, hn, hb⟩ h => ⟨n, e, Nat.lt_of_lt_of_le hn h.size, (h.block n hn).trans hb⟩
theorem put_below {B : Nat} {a w : World} (h : Below B a w) {r : Nat} (hr : B ≤ r) (o : Obj) : Below B a (w.putObj r o) :=
  ⟨h.os, h.tape, h.output, by simpa using h.size, fun k hk => by rw [World.putObj_heap_other (by omega)]; exact h.block k hk⟩
set_option maxRecDepth 100000 in
set_option maxHeartbeats 2000000 in
theorem kinds_any (g : Nat) (w : World) :
    Calls Tryz.prog 59 #[ptr g] w fun e w' => ∃ v, e = .returned v ∧ isKinds g v w' ∧ Below w.heap.size w w' := by
  have hmf : ∀ (fn : Fn) (first cap : Array Value) (w : World), (Instr.makeFunc fn first cap).run Tryz.prog w = .ok (.func fn first cap) w := fun _ _ _ _ => rfl
  have hmk := run_makeMap_plain (P := Tryz.prog) w 92
  have h1 : (w.alloc (.map #[] 0)).heap[w.heap.size]? = some (.map #[] 0) := (MapKept.heap_alloc w (.map #[] 0)).1
  have i1 : (Instr.mapUpdate 92 (.map (some w.heap.size)) (.int .i64 1) (.func (.func 88) #[ptr g] #[])).run Tryz.prog (w.alloc (.map #[] 0)) = .ok () ((w.alloc (.map #[] 0)).putObj w.heap.size (.map #[{ key := .int .i64 1, val := .func (.func 88) #[ptr g] #[], born := 0 }] 1)) := run_insert (P := Tryz.prog) (w.alloc (.map #[] 0)) 92 3 _ w.heap.size 0 #[] 1 (.func (.func 88) #[ptr g] #[]) Tryz.underlying92 Tryz.underlying3 h1 (by kernel_rfl)
  have h2 : ((w.alloc (.map #[] 0)).putObj w.heap.size (.map #[{ key := .int .i64 1, val := .func (.func 88) #[ptr g] #[], born := 0 }] 1)).heap[w.heap.size]? = some (.map #[{ key := .int .i64 1, val := .func (.func 88) #[ptr g] #[], born := 0 }] 1) := World.putObj_heap_same (by simp)
  have i2 : (Instr.mapUpdate 92 (.map (some w.heap.size)) (.int .i64 2) (.func (.func 89) #[ptr g] #[])).run Tryz.prog ((w.alloc (.map #[] 0)).putObj w.heap.size (.map #[{ key := .int .i64 1, val := .func (.func 88) #[ptr g] #[], born := 0 }] 1)) = .ok () (((w.alloc (.map #[] 0)).putObj w.heap.size (.map #[{ key := .int .i64 1, val := .func (.func 88) #[ptr g] #[], born := 0 }] 1)).putObj w.heap.size (.map #[{ key := .int .i64 1, val := .func (.func 88) #[ptr g] #[], born := 0 }, { key := .int .i64 2, val := .func (.func 89) #[ptr g] #[], born := 1 }] 2)) := run_insert (P := Tryz.prog) ((w.alloc (.map #[] 0)).putObj w.heap.size (.map #[{ key := .int .i64 1, val := .func (.func 88) #[ptr g] #[], born := 0 }] 1)) 92 3 _ w.heap.size 1 #[{ key := .int .i64 1, val := .func (.func 88) #[ptr g] #[], born := 0 }] 2 (.func (.func 89) #[ptr g] #[]) Tryz.underlying92 Tryz.underlying3 h2 (by kernel_rfl)
  have h3 : (((w.alloc (.map #[] 0)).putObj w.heap.size (.map #[{ key := .int .i64 1, val := .func (.func 88) #[ptr g] #[], born := 0 }] 1)).putObj w.heap.size (.map #[{ key := .int .i64 1, val := .func (.func 88) #[ptr g] #[], born := 0 }, { key := .int .i64 2, val := .func (.func 89) #[ptr g] #[], born := 1 }] 2)).heap[w.heap.size]? = some (.map #[{ key := .int .i64 1, val := .func (.func 88) #[ptr g] #[], born := 0 }, { key := .int .i64 2, val := .func (.func 89) #[ptr g] #[], born := 1 }] 2) := World.putObj_heap_same (by simp)
  have i3 : (Instr.mapUpdate 92 (.map (some w.heap.size)) (.int .i64 3) (.func (.func 90) #[ptr g] #[])).run Tryz.prog (((w.alloc (.map #[] 0)).putObj w.heap.size (.map #[{ key := .int .i64 1, val := .func (.func 88) #[ptr g] #[], born := 0 }] 1)).putObj w.heap.size (.map #[{ key := .int .i64 1, val := .func (.func 88) #[ptr g] #[], born := 0 }, { key := .int .i64 2, val := .func (.func 89) #[ptr g] #[], born := 1 }] 2)) = .ok () ((((w.alloc (.map #[] 0)).putObj w.heap.size (.map #[{ key := .int .i64 1, val := .func (.func 88) #[ptr g] #[], born := 0 }] 1)).putObj w.heap.size (.map #[{ key := .int .i64 1, val := .func (.func 88) #[ptr g] #[], born := 0 }, { key := .int .i64 2, val := .func (.func 89) #[ptr g] #[], born := 1 }] 2)).putObj w.heap.size (.map #[{ key := .int .i64 1, val := .func (.func 88) #[ptr g] #[], born := 0 }, { key := .int .i64 2, val := .func (.func 89) #[ptr g] #[], born := 1 }, { key := .int .i64 3, val := .func (.func 90) #[ptr g] #[], born := 2 }] 3)) := run_insert (P := Tryz.prog) (((w.alloc (.map #[] 0)).putObj w.heap.size (.map #[{ key := .int .i64 1, val := .func (.func 88) #[ptr g] #[], born := 0 }] 1)).putObj w.heap.size (.map #[{ key := .int .i64 1, val := .func (.func 88) #[ptr g] #[], born := 0 }, { key := .int .i64 2, val := .func (.func 89) #[ptr g] #[], born := 1 }] 2)) 92 3 _ w.heap.size 2 #[{ key := .int .i64 1, val := .func (.func 88) #[ptr g] #[], born := 0 }, { key := .int .i64 2, val := .func (.func 89) #[ptr g] #[], born := 1 }] 3 (.func (.func 90) #[ptr g] #[]) Tryz.underlying92 Tryz.underlying3 h3 (by kernel_rfl)
  have hf : ((((w.alloc (.map #[] 0)).putObj w.heap.size (.map #[{ key := .int .i64 1, val := .func (.func 88) #[ptr g] #[], born := 0 }] 1)).putObj w.heap.size (.map #[{ key := .int .i64 1, val := .func (.func 88) #[ptr g] #[], born := 0 }, { key := .int .i64 2, val := .func (.func 89) #[ptr g] #[], born := 1 }] 2)).putObj w.heap.size (.map #[{ key := .int .i64 1, val := .func (.func 88) #[ptr g] #[], born := 0 }, { key := .int .i64 2, val := .func (.func 89) #[ptr g] #[], born := 1 }, { key := .int .i64 3, val := .func (.func 90) #[ptr g] #[], born := 2 }] 3)).heap[w.heap.size]? = some (.map (kindsA g) 3) := World.putObj_heap_same (by simp)
  have hn : w.heap.size < ((((w.alloc (.map #[] 0)).putObj w.heap.size (.map #[{ key := .int .i64 1, val := .func (.func 88) #[ptr g] #[], born := 0 }] 1)).putObj w.heap.size (.map #[{ key := .int .i64 1, val := .func (.func 88) #[ptr g] #[], born := 0 }, { key := .int .i64 2, val := .func (.func 89) #[ptr g] #[], born := 1 }] 2)).putObj w.heap.size (.map #[{ key := .int .i64 1, val := .func (.func 88) #[ptr g] #[], born := 0 }, { key := .int .i64 2, val := .func (.func 89) #[ptr g] #[], born := 1 }, { key := .int .i64 3, val := .func (.func 90) #[ptr g] #[], born := 2 }] 3)).heap.size := by simp
  have HF := Kept.mk (show isKinds g (.map (some w.heap.size)) ((((w.alloc (.map #[] 0)).putObj w.heap.size (.map #[{ key := .int .i64 1, val := .func (.func 88) #[ptr g] #[], born := 0 }] 1)).putObj w.heap.size (.map #[{ key := .int .i64 1, val := .func (.func 88) #[ptr g] #[], born := 0 }, { key := .int .i64 2, val := .func (.func 89) #[ptr g] #[], born := 1 }] 2)).putObj w.heap.size (.map #[{ key := .int .i64 1, val := .func (.func 88) #[ptr g] #[], born := 0 }, { key := .int .i64 2, val := .func (.func 89) #[ptr g] #[], born := 1 }, { key := .int .i64 3, val := .func (.func 90) #[ptr g] #[], born := 2 }] 3)) from ⟨_, rfl, hn, hf⟩)
  have HB := Kept.mk (put_below (put_below (put_below ((Below.refl w.heap.size w).alloc (Nat.le_refl _) (.map #[] 0)) (Nat.le_refl _) _) (Nat.le_refl _) _) (Nat.le_refl _) _ : Below w.heap.size w ((((w.alloc (.map #[] 0)).putObj w.heap.size (.map #[{ key := .int .i64 1, val := .func (.func 88) #[ptr g] #[], born := 0 }] 1)).putObj w.heap.size (.map #[{ key := .int .i64 1, val := .func (.func 88) #[ptr g] #[], born := 0 }, { key := .int .i64 2, val := .func (.func 89) #[ptr g] #[], born := 1 }] 2)).putObj w.heap.size (.map #[{ key := .int .i64 1, val := .func (.func 88) #[ptr g] #[], born := 0 }, { key := .int .i64 2, val := .func (.func 89) #[ptr g] #[], born := 1 }, { key := .int .i64 3, val := .func (.func 90) #[ptr g] #[], born := 2 }] 3)))
  clear h1 h2 h3 hf hn
  generalize ((((w.alloc (.map #[] 0)).putObj w.heap.size (.map #[{ key := .int .i64 1, val := .func (.func 88) #[ptr g] #[], born := 0 }] 1)).putObj w.heap.size (.map #[{ key := .int .i64 1, val := .func (.func 88) #[ptr g] #[], born := 0 }, { key := .int .i64 2, val := .func (.func 89) #[ptr g] #[], born := 1 }] 2)).putObj w.heap.size (.map #[{ key := .int .i64 1, val := .func (.func 88) #[ptr g] #[], born := 0 }, { key := .int .i64 2, val := .func (.func 89) #[ptr g] #[], born := 1 }, { key := .int .i64 3, val := .func (.func 90) #[ptr g] #[], born := 2 }] 3)) = W3 at *
  generalize (((w.alloc (.map #[] 0)).putObj w.heap.size (.map #[{ key := .int .i64 1, val := .func (.func 88) #[ptr g] #[], born := 0 }] 1)).putObj w.heap.size (.map #[{ key := .int .i64 1, val := .func (.func 88) #[ptr g] #[], born := 0 }, { key := .int .i64 2, val := .func (.func 89) #[ptr g] #[], born := 1 }] 2)) = W2 at *
  generalize ((w.alloc (.map #[] 0)).putObj w.heap.size (.map #[{ key := .int .i64 1, val := .func (.func 88) #[ptr g] #[], born := 0 }] 1)) = W1 at *
  generalize (w.alloc (.map #[] 0)) = W0 at *
  go_enter Tryz.func59, Tryz.ntmps59
  go_wp2
  go_ret
  exact ⟨_, rfl, HF.out, HB.out⟩
end Go.Proofs.YtkjghoomdefbbaaGreatDoor
end
section
namespace Go.Proofs.YtkjghoomdefbbaaGreatDoor
open Go.RowKit
set_option linter.unusedVariables false
set_option linter.unusedSimpArgs false

theorem field_wr (g k : Nat) (hk : k < 1) (w : World) : (Instr.fieldAt 87 (.pointer (some ⟨g, 0, none⟩)) k).run Tryz.prog w = .ok (.pointer (some ⟨g, k, none⟩)) w := by
  obtain rfl : k = 0 := by omega
  simp [Instr.fieldAt, run_underlying Tryz.underlying87, Instr.sureAddr, fieldPlace, Addr.add]
theorem field_en (g k : Nat) (hk : k < 2) (w : World) : (Instr.fieldAt 48 (.pointer (some ⟨g, 0, none⟩)) k).run Tryz.prog w = .ok (.pointer (some ⟨g, k, none⟩)) w := by
  have h : k = 0 ∨ k = 1 := by omega
  rcases h with rfl | rfl <;> simp [Instr.fieldAt, run_underlying Tryz.underlying48, Instr.sureAddr, fieldPlace, Addr.add]
theorem field_va1 (g k : Nat) (hk : k < 8) (w : World) : (Instr.fieldAt 46 (.pointer (some ⟨g, 1, none⟩)) k).run Tryz.prog w = .ok (.pointer (some ⟨g, k + 1, none⟩)) w := by
  have h : k = 0 ∨ k = 1 ∨ k = 2 ∨ k = 3 ∨ k = 4 ∨ k = 5 ∨ k = 6 ∨ k = 7 := by omega
  rcases h with rfl | rfl | rfl | rfl | rfl | rfl | rfl | rfl <;> simp [Instr.fieldAt, run_underlying Tryz.underlying46, Instr.sureAddr, fieldPlace, Addr.add]
theorem loadCellsF {P : Program} (g o : Nat) (w : World) : ∀ (l : List Value) (k : Nat) (acc : Array Value), (∀ j x, l[j]? = some x → w.cell? ⟨g, o + (k + j), none⟩ = some x) → (loadCellsFrom ⟨g, o, none⟩ k l.length acc).run P w = .ok (acc ++ l.toArray) w
  | [], k, acc, _ => by simp [loadCellsFrom]
  | v :: r, k, acc, h => by
    have ea : (⟨g, o, none⟩ : Addr).add k = ⟨g, o + k, none⟩ := by
      by_cases e : k = 0
      · subst e; simp [Addr.add]
      · simp [Addr.add, e]
    have h0 : w.cell? ⟨g, o + k, none⟩ = some v := h 0 v rfl
    rw [List.length_cons]
    unfold loadCellsFrom
    rw [Sem.run_bind, ea]
    have hl : (load ⟨g, o + k, none⟩).run P w = .ok v w := by simp [h0]
    rw [hl, Result.andThen_ok, loadCellsF g o w r (k + 1) (acc.push v) (fun j x hx => by rw [show k + 1 + j = k + (j + 1) by omega]; exact h (j + 1) x (by simpa using hx))]
    simp
theorem loadO {P : Program} (t : TypeId) (g o : Nat) (w : World) (l : List Value) (hs : (P.info? t).map (·.size) = some l.length) (ha : ∀ w, (isAgg t).run P w = .ok true w) (h : ∀ (j : Nat) (x : Value), l[j]? = some x → w.cell? ⟨g, o + j, none⟩ = some x) : (loadVar t ⟨g, o, none⟩).run P w = .ok (.agg l.toArray) w := by
  obtain ⟨ie, hie, hz⟩ := Option.map_eq_some_iff.1 hs
  have hsz : (sizeOf t).run P w = .ok l.length w := by simp [sizeOf, typeInfo, hie, hz]
  have hc := loadCellsF (P := P) g o w l 0 #[] (fun j x hx => by rw [Nat.zero_add]; exact h j x hx)
  simp only [loadVar, Sem.run_bind, ha, Result.andThen_ok, if_true, hsz, loadCells, hc, Sem.run_pure]
  simp
section
variable {P : Program} {ops : Array Oper} {base : World} {a0 : Act} {Q : Exit → Act → World → Prop} {kn : Nat → VP} {i : Nat} {V : VP}
theorem step_nilP (x : Operand) (p : Addr) (hop : (ops[i]?).map (·.op) = some (.nilCheck x)) (hw : Wanted ops a0 kn i) (hx : Knows ops a0 kn i x (isVal (.pointer (some p)))) : FStep P ops base a0 Q kn i (isVal (.pointer (some p))) :=
  step_pure _ hop hw fun o a w ho hk' hd => by
    have e1 : a.eval x = _ := hx a w hk' hd
    unfold execOp
    rw [ho]
    simp [e1]
theorem step_loadO (t : TypeId) (x : Operand) (g : Nat) (y : Value) (l : List Value) (hop : (ops[i]?).map (·.op) = some (.load t x)) (hw : Wanted ops a0 kn i) (hx : Knows ops a0 kn i x (isVal (.pointer (some ⟨g, 1, none⟩))))
    (hs : (P.info? t).map (·.size) = some l.length) (ha : ∀ w, (isAgg t).run P w = .ok true w) (hc : CellsN base g (y :: l)) : FStep P ops base a0 Q kn i (isVal (.agg l.toArray)) :=
  step_mk (stable_val _) hw fun o ho a w hk hb hd => by
    have e1 : a.eval x = .pointer (some ⟨g, 1, none⟩) := hx a w hk hd
    have hc' := hc.keep hb hc.1
    have e2 := loadO (P := P) t g 1 w l hs ha (fun j x hx => by rw [Nat.add_comm]; exact hc'.2 (j + 1) x (by simpa using hx))
    unfold Oper.wp execOp
    rw [op_of hop ho]
    simp only [e1, Instr.loadAt, Instr.sureAddr, Sem.run_bind, Sem.run_pure, Result.andThen_ok, e2, Oper.upon]
    exact ⟨_, rfl, rfl, Below.refl _ _⟩
theorem step_find (t : TypeId) (x y : Operand) (g : Nat) (k : Int) (f : Value) (hop : (ops[i]?).map (·.op) = some (.lookup t x y false)) (hw : Wanted ops a0 kn i) (hx : Knows ops a0 kn i x (isKinds g)) (hy : Knows ops a0 kn i y (isVal (.int .i64 k)))
    (hr : ∀ v w, isKinds g v w → (Instr.lookup t v (.int .i64 k) false).run P w = .ok f w) : FStep P ops base a0 Q kn i (isVal f) :=
  step_mk (stable_val _) hw fun o ho a w hk hb hd => by
    have e1 : isKinds g (a.eval x) w := hx a w hk hd
    have e2 : a.eval y = .int .i64 k := hy a w hk hd
    unfold Oper.wp execOp
    rw [op_of hop ho]
    simp only [e2, Sem.run_bind, hr _ _ e1, Result.andThen_ok, Sem.run_pure, Oper.upon]
    exact ⟨_, rfl, rfl, Below.refl _ _⟩
end
theorem kind_at (g : Nat) (k : Int) (f : Value) (i : Nat) (hf : Instr.findNow (.int .i64) (.int .i64 k) (kindsA g).toList 0 = some (some (i, f))) : ∀ v w, isKinds g v w → (Instr.lookup 92 v (.int .i64 k) false).run Tryz.prog w = .ok f w := by
  rintro v w ⟨n, rfl, hn, hb⟩
  exact run_find w 92 3 _ n 3 i (kindsA g) k f Tryz.underlying92 Tryz.underlying3 hb hf
end Go.Proofs.YtkjghoomdefbbaaGreatDoor
end
section
namespace Go.Proofs.YtkjghoomdefbbaaGreatDoor
open Go.RowKit
set_option linter.unusedVariables false
set_option linter.unusedSimpArgs false
attribute [local irreducible] setN

theorem putS_nat (n : Int) (wd : Nat) (h0 : 0 ≤ n) (h1 : 1 ≤ wd) (h7 : wd ≤ 7) (hn : n.toNat < 256 ^ wd) : putS n (wd : Int) = putL n.toNat wd := by
  unfold putS okPut
  rw [if_pos, Int.toNat_natCast]
  simp only [isWidthB, Bool.and_eq_true, decide_eq_true_eq, Int.toNat_natCast]
  refine ⟨⟨⟨by omega, by omega⟩, h0⟩, ?_⟩
  have := Int.ofNat_lt.2 hn
  rw [Int.toNat_of_nonneg h0] at this
  simpa using this
theorem number_z (g : Nat) (t : List UInt8) (n : Int) (wd : Nat) (w : World) (h : At w g (txt t)) (ht : t.length ≤ 900) (h0 : 0 ≤ n) (hm : n ≤ 9223372036854775807) (h1 : 1 ≤ wd) (h7 : wd ≤ 7) (hn : n.toNat < 256 ^ wd) :
    Calls Tryz.prog 56 #[ptr g, .int .i64 n, .int .i64 (wd : Int)] w fun e w' => e = .returned unitV ∧ Wr g (txt (t ++ putL n.toNat wd)) w w' := by
  have e := putS_nat n wd h0 h1 h7 hn
  have := number_any g t n wd w h (by omega) hm (by rw [e, length_putL]; omega)
  rwa [e] at this
def bitI (b : Bool) : Int := (bitN b : Int)
set_option maxHeartbeats 400000 in
theorem digit_any (b : Bool) (w : World) : Calls Tryz.prog 108 #[.bool b] w fun e w' => e = .returned (.int .i64 (bitI b)) ∧ w = w' := by
  cases b with
  | true =>
    go_enter Tryz.func108, Tryz.ntmps108
    go_wp2
    go_ret
    exact ⟨rfl, rfl⟩
  | false =>
    go_enter Tryz.func108, Tryz.ntmps108
    go_wp2
    go_ret
    exact ⟨rfl, rfl⟩
theorem call_digit (b : Bool) (w : World) : Calls Tryz.prog 108 #[.bool b] w fun e w' => ∃ x, e = .returned x ∧ isVal (.int .i64 (bitI b)) x w' ∧ Below w.heap.size w w' :=
  (digit_any b w).mono (by rintro e w' ⟨rfl, rfl⟩; exact ⟨_, rfl, rfl, Below.refl _ _⟩)
noncomputable def wr1Ops : Array Oper := regionOf Tryz.f88 1
set_option maxRecDepth 100000 in
set_option maxHeartbeats 2000000 in
theorem wr1_region (Q : Exit → Act → World → Prop) (a0 : Act) (w0 : World) (hsz : a0.tmps.size = 36) (A : Va) (g b : Nat) (vp vm : Value) (e0 : a0.tmps.getD 0 undef = .pointer (some ⟨g, 0, none⟩)) (e3 : a0.tmps.getD 3 undef = .pointer (some ⟨b, 0, none⟩)) (hc : CellsN w0 b [.int .i64 A.kind, .int .i64 A.time, .int .i64 A.node, .bool A.dead, .string ⟨A.text.toArray⟩, vp, vm, .int .u64 (A.flags.toNat : Int)])
    (hC : ∀ (y : Nat → Value) (w : World), Below w0.heap.size w0 w → Calls Tryz.prog 56 #[.pointer (some ⟨g, 0, none⟩), .int .i64 A.time, .int .i64 4] w fun e w' => ∃ v, e = .returned v ∧ Q .normal { tmps := ([4, 5, 6, 7, 8, 9].foldl (fun t s => t.setIfInBounds s (y s)) a0.tmps).setIfInBounds 9 v, defers := a0.defers } w') :
    (Code.region 1 wr1Ops true).wp Tryz.prog Q a0 w0 := by
  refine wp_region_cov 5 mixed (by rw [hsz]; kernel_rfl) (by kernel_rfl) ?_
  rw [show wr1Ops.size - 5 = 1 by kernel_rfl]
  refine ⟨isVal (.pointer (some ⟨g, 0, none⟩)), step_move (.tmp 0) (by kernel_rfl) (wanted_none (by kernel_rfl)) (stable_val _) (knows_old 0 (.pointer (some ⟨g, 0, none⟩)) (by kernel_rfl) e0), ?_⟩
  refine ⟨isVal (.pointer (some ⟨g, 0, none⟩)), step_nilP (.tmp 4) ⟨g, 0, none⟩ (by kernel_rfl) (wanted_none (by kernel_rfl)) (knows_new (V := isVal (.pointer (some ⟨g, 0, none⟩))) 4 0 (by kernel_rfl) (by kernel_rfl) (by kernel_rfl)), ?_⟩
  refine ⟨isVal (.pointer (some ⟨g, 0, none⟩)), step_field 87 (.tmp 5) 0 ⟨g, 0, none⟩ ⟨g, 0, none⟩ (by kernel_rfl) (wanted_none (by kernel_rfl)) (knows_new (V := isVal (.pointer (some ⟨g, 0, none⟩))) 5 1 (by kernel_rfl) (by kernel_rfl) (by kernel_rfl)) (field_wr g 0 (by omega)), ?_⟩
  refine ⟨isVal (.pointer (some ⟨b, 1, none⟩)), step_field 46 (.tmp 3) 1 ⟨b, 0, none⟩ ⟨b, 1, none⟩ (by kernel_rfl) (wanted_none (by kernel_rfl)) (knows_old 3 (.pointer (some ⟨b, 0, none⟩)) (by kernel_rfl) e3) (field_va b 1 (by omega)), ?_⟩
  refine ⟨isVal (.int .i64 A.time), step_read 3 (.tmp 7) ⟨b, 1, none⟩ (.int .i64 A.time) (by kernel_rfl) (wanted_none (by kernel_rfl)) (knows_new (V := isVal (.pointer (some ⟨b, 1, none⟩))) 7 3 (by kernel_rfl) (by kernel_rfl) (by kernel_rfl)) (hc.2 1 _ rfl) hc.1 agg_int, ?_⟩
  intro a w hkp hb hd
  have d6 : a.eval (.tmp 6) = _ := fdone_of (hd 2 (by decide)) (t := 6) (V := isVal (.pointer (some ⟨g, 0, none⟩))) (by kernel_rfl) (by kernel_rfl)
  have d8 : a.eval (.tmp 8) = _ := fdone_of (hd 4 (by decide)) (t := 8) (V := isVal (.int .i64 A.time)) (by kernel_rfl) (by kernel_rfl)
  refine tail_call 56 #[.tmp 6, .tmp 8, .const (.int .i64 4)] #[85, 3, 3] #[.pointer (some ⟨g, 0, none⟩), .int .i64 A.time, .int .i64 4] 9 (by kernel_rfl) (by kernel_rfl) (by simp only [List.map_toArray, List.map_cons, List.map_nil, d6, d8]; try rfl) (enters_of Tryz.func56 (by kernel_rfl) rfl) ?_
  obtain ⟨y, ey⟩ := kept_ex hkp [some 4, some 5, some 6, some 7, some 8, some 9] [4, 5, 6, 7, 8, 9] (by kernel_rfl) (by decide)
  refine (hC y w hb).mono ?_
  rintro e w' ⟨v, rfl, hq⟩
  exact ⟨v, rfl, put_kept ey hq⟩
noncomputable def wr2Ops : Array Oper := regionOf Tryz.f88 2
set_option maxRecDepth 100000 in
set_option maxHeartbeats 2000000 in
theorem wr2_region (Q : Exit → Act → World → Prop) (a0 : Act) (w0 : World) (hsz : a0.tmps.size = 36) (A : Va) (g b : Nat) (vp vm : Value) (e0 : a0.tmps.getD 0 undef = .pointer (some ⟨g, 0, none⟩)) (e3 : a0.tmps.getD 3 undef = .pointer (some ⟨b, 0, none⟩)) (hc : CellsN w0 b [.int .i64 A.kind, .int .i64 A.time, .int .i64 A.node, .bool A.dead, .string ⟨A.text.toArray⟩, vp, vm, .int .u64 (A.flags.toNat : Int)])
    (hC : ∀ (y : Nat → Value) (w : World), Below w0.heap.size w0 w → Calls Tryz.prog 56 #[.pointer (some ⟨g, 0, none⟩), .int .i64 A.node, .int .i64 1] w fun e w' => ∃ v, e = .returned v ∧ Q .normal { tmps := ([10, 11, 12, 13, 14, 15].foldl (fun t s => t.setIfInBounds s (y s)) a0.tmps).setIfInBounds 15 v, defers := a0.defers } w') :
    (Code.region 2 wr2Ops true).wp Tryz.prog Q a0 w0 := by
  refine wp_region_cov 5 mixed (by rw [hsz]; kernel_rfl) (by kernel_rfl) ?_
  rw [show wr2Ops.size - 5 = 1 by kernel_rfl]
  refine ⟨isVal (.pointer (some ⟨g, 0, none⟩)), step_move (.tmp 0) (by kernel_rfl) (wanted_none (by kernel_rfl)) (stable_val _) (knows_old 0 (.pointer (some ⟨g, 0, none⟩)) (by kernel_rfl) e0), ?_⟩
  refine ⟨isVal (.pointer (some ⟨g, 0, none⟩)), step_nilP (.tmp 10) ⟨g, 0, none⟩ (by kernel_rfl) (wanted_none (by kernel_rfl)) (knows_new (V := isVal (.pointer (some ⟨g, 0, none⟩))) 10 0 (by kernel_rfl) (by kernel_rfl) (by kernel_rfl)), ?_⟩
  refine ⟨isVal (.pointer (some ⟨g, 0, none⟩)), step_field 87 (.tmp 11) 0 ⟨g, 0, none⟩ ⟨g, 0, none⟩ (by kernel_rfl) (wanted_none (by kernel_rfl)) (knows_new (V := isVal (.pointer (some ⟨g, 0, none⟩))) 11 1 (by kernel_rfl) (by kernel_rfl) (by kernel_rfl)) (field_wr g 0 (by omega)), ?_⟩
  refine ⟨isVal (.pointer (some ⟨b, 2, none⟩)), step_field 46 (.tmp 3) 2 ⟨b, 0, none⟩ ⟨b, 2, none⟩ (by kernel_rfl) (wanted_none (by kernel_rfl)) (knows_old 3 (.pointer (some ⟨b, 0, none⟩)) (by kernel_rfl) e3) (field_va b 2 (by omega)), ?_⟩
  refine ⟨isVal (.int .i64 A.node), step_read 3 (.tmp 13) ⟨b, 2, none⟩ (.int .i64 A.node) (by kernel_rfl) (wanted_none (by kernel_rfl)) (knows_new (V := isVal (.pointer (some ⟨b, 2, none⟩))) 13 3 (by kernel_rfl) (by kernel_rfl) (by kernel_rfl)) (hc.2 2 _ rfl) hc.1 agg_int, ?_⟩
  intro a w hkp hb hd
  have d12 : a.eval (.tmp 12) = _ := fdone_of (hd 2 (by decide)) (t := 12) (V := isVal (.pointer (some ⟨g, 0, none⟩))) (by kernel_rfl) (by kernel_rfl)
  have d14 : a.eval (.tmp 14) = _ := fdone_of (hd 4 (by decide)) (t := 14) (V := isVal (.int .i64 A.node)) (by kernel_rfl) (by kernel_rfl)
  refine tail_call 56 #[.tmp 12, .tmp 14, .const (.int .i64 1)] #[85, 3, 3] #[.pointer (some ⟨g, 0, none⟩), .int .i64 A.node, .int .i64 1] 15 (by kernel_rfl) (by kernel_rfl) (by simp only [List.map_toArray, List.map_cons, List.map_nil, d12, d14]; try rfl) (enters_of Tryz.func56 (by kernel_rfl) rfl) ?_
  obtain ⟨y, ey⟩ := kept_ex hkp [some 10, some 11, some 12, some 13, some 14, some 15] [10, 11, 12, 13, 14, 15] (by kernel_rfl) (by decide)
  refine (hC y w hb).mono ?_
  rintro e w' ⟨v, rfl, hq⟩
  exact ⟨v, rfl, put_kept ey hq⟩
noncomputable def wr3Ops : Array Oper := regionOf Tryz.f88 3
set_option maxRecDepth 100000 in
set_option maxHeartbeats 2000000 in
theorem wr3_region (Q : Exit → Act → World → Prop) (a0 : Act) (w0 : World) (hsz : a0.tmps.size = 36) (A : Va) (g b : Nat) (vp vm : Value) (e0 : a0.tmps.getD 0 undef = .pointer (some ⟨g, 0, none⟩)) (e3 : a0.tmps.getD 3 undef = .pointer (some ⟨b, 0, none⟩)) (hc : CellsN w0 b [.int .i64 A.kind, .int .i64 A.time, .int .i64 A.node, .bool A.dead, .string ⟨A.text.toArray⟩, vp, vm, .int .u64 (A.flags.toNat : Int)])
    (hC : ∀ (y : Nat → Value) (w : World), Below w0.heap.size w0 w → Calls Tryz.prog 56 #[.pointer (some ⟨g, 0, none⟩), .int .i64 (bitI A.dead), .int .i64 1] w fun e w' => ∃ v, e = .returned v ∧ Q .normal { tmps := ([16, 17, 18, 19, 20, 21, 22].foldl (fun t s => t.setIfInBounds s (y s)) a0.tmps).setIfInBounds 22 v, defers := a0.defers } w') :
    (Code.region 3 wr3Ops true).wp Tryz.prog Q a0 w0 := by
  refine wp_region_cov 6 mixed (by rw [hsz]; kernel_rfl) (by kernel_rfl) ?_
  rw [show wr3Ops.size - 6 = 1 by kernel_rfl]
  refine ⟨isVal (.pointer (some ⟨g, 0, none⟩)), step_move (.tmp 0) (by kernel_rfl) (wanted_none (by kernel_rfl)) (stable_val _) (knows_old 0 (.pointer (some ⟨g, 0, none⟩)) (by kernel_rfl) e0), ?_⟩
  refine ⟨isVal (.pointer (some ⟨g, 0, none⟩)), step_nilP (.tmp 16) ⟨g, 0, none⟩ (by kernel_rfl) (wanted_none (by kernel_rfl)) (knows_new (V := isVal (.pointer (some ⟨g, 0, none⟩))) 16 0 (by kernel_rfl) (by kernel_rfl) (by kernel_rfl)), ?_⟩
  refine ⟨isVal (.pointer (some ⟨g, 0, none⟩)), step_field 87 (.tmp 17) 0 ⟨g, 0, none⟩ ⟨g, 0, none⟩ (by kernel_rfl) (wanted_none (by kernel_rfl)) (knows_new (V := isVal (.pointer (some ⟨g, 0, none⟩))) 17 1 (by kernel_rfl) (by kernel_rfl) (by kernel_rfl)) (field_wr g 0 (by omega)), ?_⟩
  refine ⟨isVal (.pointer (some ⟨b, 3, none⟩)), step_field 46 (.tmp 3) 3 ⟨b, 0, none⟩ ⟨b, 3, none⟩ (by kernel_rfl) (wanted_none (by kernel_rfl)) (knows_old 3 (.pointer (some ⟨b, 0, none⟩)) (by kernel_rfl) e3) (field_va b 3 (by omega)), ?_⟩
  refine ⟨isVal (.bool A.dead), step_read 4 (.tmp 19) ⟨b, 3, none⟩ (.bool A.dead) (by kernel_rfl) (wanted_none (by kernel_rfl)) (knows_new (V := isVal (.pointer (some ⟨b, 3, none⟩))) 19 3 (by kernel_rfl) (by kernel_rfl) (by kernel_rfl)) (hc.2 3 _ rfl) hc.1 agg_bool, ?_⟩
  refine ⟨isVal (.int .i64 (bitI A.dead)), step_call 108 #[.tmp 20] #[4] #[.bool A.dead] (by kernel_rfl) (wanted_none (by kernel_rfl)) (stable_val _) (args1 (.tmp 20) (.bool A.dead) (knows_new (V := isVal (.bool A.dead)) 20 4 (by kernel_rfl) (by kernel_rfl) (by kernel_rfl))) (enters_of Tryz.func108 (by kernel_rfl) rfl) (by intro w hb; exact call_digit A.dead w), ?_⟩
  intro a w hkp hb hd
  have d18 : a.eval (.tmp 18) = _ := fdone_of (hd 2 (by decide)) (t := 18) (V := isVal (.pointer (some ⟨g, 0, none⟩))) (by kernel_rfl) (by kernel_rfl)
  have d21 : a.eval (.tmp 21) = _ := fdone_of (hd 5 (by decide)) (t := 21) (V := isVal (.int .i64 (bitI A.dead))) (by kernel_rfl) (by kernel_rfl)
  refine tail_call 56 #[.tmp 18, .tmp 21, .const (.int .i64 1)] #[85, 3, 3] #[.pointer (some ⟨g, 0, none⟩), .int .i64 (bitI A.dead), .int .i64 1] 22 (by kernel_rfl) (by kernel_rfl) (by simp only [List.map_toArray, List.map_cons, List.map_nil, d18, d21]; try rfl) (enters_of Tryz.func56 (by kernel_rfl) rfl) ?_
  obtain ⟨y, ey⟩ := kept_ex hkp [some 16, some 17, some 18, some 19, some 20, some 21, some 22] [16, 17, 18, 19, 20, 21, 22] (by kernel_rfl) (by decide)
  refine (hC y w hb).mono ?_
  rintro e w' ⟨v, rfl, hq⟩
  exact ⟨v, rfl, put_kept ey hq⟩
noncomputable def wr4Ops : Array Oper := regionOf Tryz.f88 4
set_option maxRecDepth 100000 in
set_option maxHeartbeats 2000000 in
theorem wr4_region (Q : Exit → Act → World → Prop) (a0 : Act) (w0 : World) (hsz : a0.tmps.size = 36) (A : Va) (g b : Nat) (vp vm : Value) (e0 : a0.tmps.getD 0 undef = .pointer (some ⟨g, 0, none⟩)) (e3 : a0.tmps.getD 3 undef = .pointer (some ⟨b, 0, none⟩)) (hc : CellsN w0 b [.int .i64 A.kind, .int .i64 A.time, .int .i64 A.node, .bool A.dead, .string ⟨A.text.toArray⟩, vp, vm, .int .u64 (A.flags.toNat : Int)])
    (hC : ∀ (y : Nat → Value) (w : World), Below w0.heap.size w0 w → Calls Tryz.prog 56 #[.pointer (some ⟨g, 0, none⟩), .int .i64 (A.text.length : Int), .int .i64 1] w fun e w' => ∃ v, e = .returned v ∧ Q .normal { tmps := ([23, 24, 25, 26, 27, 28, 29].foldl (fun t s => t.setIfInBounds s (y s)) a0.tmps).setIfInBounds 29 v, defers := a0.defers } w') :
    (Code.region 4 wr4Ops true).wp Tryz.prog Q a0 w0 := by
  refine wp_region_cov 6 mixed (by rw [hsz]; kernel_rfl) (by kernel_rfl) ?_
  rw [show wr4Ops.size - 6 = 1 by kernel_rfl]
  refine ⟨isVal (.pointer (some ⟨g, 0, none⟩)), step_move (.tmp 0) (by kernel_rfl) (wanted_none (by kernel_rfl)) (stable_val _) (knows_old 0 (.pointer (some ⟨g, 0, none⟩)) (by kernel_rfl) e0), ?_⟩
  refine ⟨isVal (.pointer (some ⟨g, 0, none⟩)), step_nilP (.tmp 23) ⟨g, 0, none⟩ (by kernel_rfl) (wanted_none (by kernel_rfl)) (knows_new (V := isVal (.pointer (some ⟨g, 0, none⟩))) 23 0 (by kernel_rfl) (by kernel_rfl) (by kernel_rfl)), ?_⟩
  refine ⟨isVal (.pointer (some ⟨g, 0, none⟩)), step_field 87 (.tmp 24) 0 ⟨g, 0, none⟩ ⟨g, 0, none⟩ (by kernel_rfl) (wanted_none (by kernel_rfl)) (knows_new (V := isVal (.pointer (some ⟨g, 0, none⟩))) 24 1 (by kernel_rfl) (by kernel_rfl) (by kernel_rfl)) (field_wr g 0 (by omega)), ?_⟩
  refine ⟨isVal (.pointer (some ⟨b, 4, none⟩)), step_field 46 (.tmp 3) 4 ⟨b, 0, none⟩ ⟨b, 4, none⟩ (by kernel_rfl) (wanted_none (by kernel_rfl)) (knows_old 3 (.pointer (some ⟨b, 0, none⟩)) (by kernel_rfl) e3) (field_va b 4 (by omega)), ?_⟩
  refine ⟨isVal (.string ⟨A.text.toArray⟩), step_read 9 (.tmp 26) ⟨b, 4, none⟩ (.string ⟨A.text.toArray⟩) (by kernel_rfl) (wanted_none (by kernel_rfl)) (knows_new (V := isVal (.pointer (some ⟨b, 4, none⟩))) 26 3 (by kernel_rfl) (by kernel_rfl) (by kernel_rfl)) (hc.2 4 _ rfl) hc.1 agg_str, ?_⟩
  refine ⟨isVal (.int .i64 (A.text.length : Int)), step_len 9 (.tmp 27) (.string ⟨A.text.toArray⟩) (.int .i64 (A.text.length : Int)) (by kernel_rfl) (wanted_none (by kernel_rfl)) (knows_new (V := isVal (.string ⟨A.text.toArray⟩)) 27 4 (by kernel_rfl) (by kernel_rfl) (by kernel_rfl)) (len_str A.text), ?_⟩
  intro a w hkp hb hd
  have d25 : a.eval (.tmp 25) = _ := fdone_of (hd 2 (by decide)) (t := 25) (V := isVal (.pointer (some ⟨g, 0, none⟩))) (by kernel_rfl) (by kernel_rfl)
  have d28 : a.eval (.tmp 28) = _ := fdone_of (hd 5 (by decide)) (t := 28) (V := isVal (.int .i64 (A.text.length : Int))) (by kernel_rfl) (by kernel_rfl)
  refine tail_call 56 #[.tmp 25, .tmp 28, .const (.int .i64 1)] #[85, 3, 3] #[.pointer (some ⟨g, 0, none⟩), .int .i64 (A.text.length : Int), .int .i64 1] 29 (by kernel_rfl) (by kernel_rfl) (by simp only [List.map_toArray, List.map_cons, List.map_nil, d25, d28]; try rfl) (enters_of Tryz.func56 (by kernel_rfl) rfl) ?_
  obtain ⟨y, ey⟩ := kept_ex hkp [some 23, some 24, some 25, some 26, some 27, some 28, some 29] [23, 24, 25, 26, 27, 28, 29] (by kernel_rfl) (by decide)
  refine (hC y w hb).mono ?_
  rintro e w' ⟨v, rfl, hq⟩
  exact ⟨v, rfl, put_kept ey hq⟩
noncomputable def wr5Ops : Array Oper := regionOf Tryz.f88 5
set_option maxRecDepth 100000 in
set_option maxHeartbeats 2000000 in
theorem wr5_region (Q : Exit → Act → World → Prop) (a0 : Act) (w0 : World) (hsz : a0.tmps.size = 36) (A : Va) (g b : Nat) (vp vm : Value) (e0 : a0.tmps.getD 0 undef = .pointer (some ⟨g, 0, none⟩)) (e3 : a0.tmps.getD 3 undef = .pointer (some ⟨b, 0, none⟩)) (hc : CellsN w0 b [.int .i64 A.kind, .int .i64 A.time, .int .i64 A.node, .bool A.dead, .string ⟨A.text.toArray⟩, vp, vm, .int .u64 (A.flags.toNat : Int)])
    (hC : ∀ (y : Nat → Value) (w : World), Below w0.heap.size w0 w → Calls Tryz.prog 57 #[.pointer (some ⟨g, 0, none⟩), .string ⟨A.text.toArray⟩] w fun e w' => ∃ v, e = .returned v ∧ Q .normal { tmps := ([30, 31, 32, 33, 34, 35].foldl (fun t s => t.setIfInBounds s (y s)) a0.tmps).setIfInBounds 35 v, defers := a0.defers } w') :
    (Code.region 5 wr5Ops true).wp Tryz.prog Q a0 w0 := by
  refine wp_region_cov 5 mixed (by rw [hsz]; kernel_rfl) (by kernel_rfl) ?_
  rw [show wr5Ops.size - 5 = 1 by kernel_rfl]
  refine ⟨isVal (.pointer (some ⟨g, 0, none⟩)), step_move (.tmp 0) (by kernel_rfl) (wanted_none (by kernel_rfl)) (stable_val _) (knows_old 0 (.pointer (some ⟨g, 0, none⟩)) (by kernel_rfl) e0), ?_⟩
  refine ⟨isVal (.pointer (some ⟨g, 0, none⟩)), step_nilP (.tmp 30) ⟨g, 0, none⟩ (by kernel_rfl) (wanted_none (by kernel_rfl)) (knows_new (V := isVal (.pointer (some ⟨g, 0, none⟩))) 30 0 (by kernel_rfl) (by kernel_rfl) (by kernel_rfl)), ?_⟩
  refine ⟨isVal (.pointer (some ⟨g, 0, none⟩)), step_field 87 (.tmp 31) 0 ⟨g, 0, none⟩ ⟨g, 0, none⟩ (by kernel_rfl) (wanted_none (by kernel_rfl)) (knows_new (V := isVal (.pointer (some ⟨g, 0, none⟩))) 31 1 (by kernel_rfl) (by kernel_rfl) (by kernel_rfl)) (field_wr g 0 (by omega)), ?_⟩
  refine ⟨isVal (.pointer (some ⟨b, 4, none⟩)), step_field 46 (.tmp 3) 4 ⟨b, 0, none⟩ ⟨b, 4, none⟩ (by kernel_rfl) (wanted_none (by kernel_rfl)) (knows_old 3 (.pointer (some ⟨b, 0, none⟩)) (by kernel_rfl) e3) (field_va b 4 (by omega)), ?_⟩
  refine ⟨isVal (.string ⟨A.text.toArray⟩), step_read 9 (.tmp 33) ⟨b, 4, none⟩ (.string ⟨A.text.toArray⟩) (by kernel_rfl) (wanted_none (by kernel_rfl)) (knows_new (V := isVal (.pointer (some ⟨b, 4, none⟩))) 33 3 (by kernel_rfl) (by kernel_rfl) (by kernel_rfl)) (hc.2 4 _ rfl) hc.1 agg_str, ?_⟩
  intro a w hkp hb hd
  have d32 : a.eval (.tmp 32) = _ := fdone_of (hd 2 (by decide)) (t := 32) (V := isVal (.pointer (some ⟨g, 0, none⟩))) (by kernel_rfl) (by kernel_rfl)
  have d34 : a.eval (.tmp 34) = _ := fdone_of (hd 4 (by decide)) (t := 34) (V := isVal (.string ⟨A.text.toArray⟩)) (by kernel_rfl) (by kernel_rfl)
  refine tail_call 57 #[.tmp 32, .tmp 34] #[85, 9] #[.pointer (some ⟨g, 0, none⟩), .string ⟨A.text.toArray⟩] 35 (by kernel_rfl) (by kernel_rfl) (by simp only [List.map_toArray, List.map_cons, List.map_nil, d32, d34]; try rfl) (enters_of Tryz.func57 (by kernel_rfl) rfl) ?_
  obtain ⟨y, ey⟩ := kept_ex hkp [some 30, some 31, some 32, some 33, some 34, some 35] [30, 31, 32, 33, 34, 35] (by kernel_rfl) (by decide)
  refine (hC y w hb).mono ?_
  rintro e w' ⟨v, rfl, hq⟩
  exact ⟨v, rfl, put_kept ey hq⟩
set_option maxRecDepth 100000 in
set_option maxHeartbeats 4000000 in
theorem wreg_any (A : Va) (g : Nat) (t : List UInt8) (v : Value) (w : World) (hv : isVa A v w) (h : At w g (txt t)) (ht : t.length ≤ 500) (hk : A.kind = 1) (hI : inReg A = true) :
    Calls Tryz.prog 88 #[ptr g, v] w fun e w' => e = .returned unitV ∧ Wr g (txt (t ++ dataL A)) w w' := by
  have HD := Kept.mk (data_reg hk)
  simp only [inReg, Bool.and_eq_true, decide_eq_true_eq] at hI
  obtain ⟨⟨⟨⟨t0, t1⟩, ⟨n0, n1⟩⟩, x8⟩, -⟩ := hI
  have hb2 : bitN A.dead ≤ 1 := by unfold bitN; split <;> omega
  have l1 := length_putL 4 A.time.toNat
  have l2 := length_putL 1 A.node.toNat
  have l3 := length_putL 1 (bitI A.dead).toNat
  have l4 := length_putL 1 (A.text.length : Int).toNat
  clear hk
  obtain ⟨vp, vm, rfl, hp, hm⟩ := hv
  have hg := h.lt
  have HW := Kept.mk ((Wr.refl h).alloc (.cells #[.int .i64 A.kind, .int .i64 A.time, .int .i64 A.node, .bool A.dead, .string ⟨A.text.toArray⟩, vp, vm, .int .u64 (A.flags.toNat : Int)] 46))
  have HV := Kept.mk (Blk.new w 46 [.int .i64 A.kind, .int .i64 A.time, .int .i64 A.node, .bool A.dead, .string ⟨A.text.toArray⟩, vp, vm, .int .u64 (A.flags.toNat : Int)] w.heap.size rfl)
  go_enter Tryz.func88, Tryz.ntmps88
  go_wp2_with fail
  generalize w.alloc (.cells #[.int .i64 A.kind, .int .i64 A.time, .int .i64 A.node, .bool A.dead, .string ⟨A.text.toArray⟩, vp, vm, .int .u64 (A.flags.toNat : Int)] 46) = W0 at *
  refine wr1_region _ _ _ rfl A g w.heap.size vp vm rfl rfl HV.out.cells ?_
  intro y9 W9 hb9
  replace HW := Kept.mk (HW.out.then_ hb9)
  replace HV := Kept.mk (HV.out.keep hb9)
  clear hb9
  refine (number_z g (t) A.time 4 W9 HW.out.at_ (by first | omega | (simp only [List.length_append]; omega)) (by omega) (by omega) (by omega) (by omega) (by show _ < 4294967296; omega)).mono ?_
  rintro e W1 ⟨rfl, hw⟩
  replace HW := Kept.mk (HW.out.trans hw)
  replace HV := Kept.mk (HV.out.wr hw (by omega))
  clear hw
  refine ⟨_, rfl, ?_⟩
  simp only [List.foldl_cons, List.foldl_nil]
  generalize y9 4 = z4
  generalize y9 5 = z5
  generalize y9 6 = z6
  generalize y9 7 = z7
  generalize y9 8 = z8
  generalize y9 9 = z9
  simp only [List.setIfInBounds_toArray, List.set_cons_succ, List.set_cons_zero]
  clear y9
  go_wp2_with fail
  refine wr2_region _ _ _ rfl A g w.heap.size vp vm rfl rfl HV.out.cells ?_
  intro y9 W9 hb9
  replace HW := Kept.mk (HW.out.then_ hb9)
  replace HV := Kept.mk (HV.out.keep hb9)
  clear hb9
  refine (number_z g (t ++ putL A.time.toNat 4) A.node 1 W9 HW.out.at_ (by first | omega | (simp only [List.length_append]; omega)) (by omega) (by omega) (by omega) (by omega) (by show _ < 256; omega)).mono ?_
  rintro e W2 ⟨rfl, hw⟩
  replace HW := Kept.mk (HW.out.trans hw)
  replace HV := Kept.mk (HV.out.wr hw (by omega))
  clear hw
  refine ⟨_, rfl, ?_⟩
  simp only [List.foldl_cons, List.foldl_nil]
  generalize y9 10 = z10
  generalize y9 11 = z11
  generalize y9 12 = z12
  generalize y9 13 = z13
  generalize y9 14 = z14
  generalize y9 15 = z15
  simp only [List.setIfInBounds_toArray, List.set_cons_succ, List.set_cons_zero]
  clear y9
  go_wp2_with fail
  refine wr3_region _ _ _ rfl A g w.heap.size vp vm rfl rfl HV.out.cells ?_
  intro y9 W9 hb9
  replace HW := Kept.mk (HW.out.then_ hb9)
  replace HV := Kept.mk (HV.out.keep hb9)
  clear hb9
  refine (number_z g ((t ++ putL A.time.toNat 4) ++ putL A.node.toNat 1) (bitI A.dead) 1 W9 HW.out.at_ (by first | omega | (simp only [List.length_append]; omega)) (by unfold bitI; omega) (by unfold bitI; omega) (by omega) (by omega) (by show (bitN A.dead) < 256; omega)).mono ?_
  rintro e W3 ⟨rfl, hw⟩
  replace HW := Kept.mk (HW.out.trans hw)
  replace HV := Kept.mk (HV.out.wr hw (by omega))
  clear hw
  refine ⟨_, rfl, ?_⟩
  simp only [List.foldl_cons, List.foldl_nil]
  generalize y9 16 = z16
  generalize y9 17 = z17
  generalize y9 18 = z18
  generalize y9 19 = z19
  generalize y9 20 = z20
  generalize y9 21 = z21
  generalize y9 22 = z22
  simp only [List.setIfInBounds_toArray, List.set_cons_succ, List.set_cons_zero]
  clear y9
  go_wp2_with fail
  refine wr4_region _ _ _ rfl A g w.heap.size vp vm rfl rfl HV.out.cells ?_
  intro y9 W9 hb9
  replace HW := Kept.mk (HW.out.then_ hb9)
  replace HV := Kept.mk (HV.out.keep hb9)
  clear hb9
  refine (number_z g (((t ++ putL A.time.toNat 4) ++ putL A.node.toNat 1) ++ putL (bitI A.dead).toNat 1) (A.text.length : Int) 1 W9 HW.out.at_ (by first | omega | (simp only [List.length_append]; omega)) (by omega) (by omega) (by omega) (by omega) (by show _ < 256; omega)).mono ?_
  rintro e W4 ⟨rfl, hw⟩
  replace HW := Kept.mk (HW.out.trans hw)
  replace HV := Kept.mk (HV.out.wr hw (by omega))
  clear hw
  refine ⟨_, rfl, ?_⟩
  simp only [List.foldl_cons, List.foldl_nil]
  generalize y9 23 = z23
  generalize y9 24 = z24
  generalize y9 25 = z25
  generalize y9 26 = z26
  generalize y9 27 = z27
  generalize y9 28 = z28
  generalize y9 29 = z29
  simp only [List.setIfInBounds_toArray, List.set_cons_succ, List.set_cons_zero]
  clear y9
  go_wp2_with fail
  refine wr5_region _ _ _ rfl A g w.heap.size vp vm rfl rfl HV.out.cells ?_
  intro y9 W9 hb9
  replace HW := Kept.mk (HW.out.then_ hb9)
  replace HV := Kept.mk (HV.out.keep hb9)
  clear hb9
  refine (add_any g ((((t ++ putL A.time.toNat 4) ++ putL A.node.toNat 1) ++ putL (bitI A.dead).toNat 1) ++ putL (A.text.length : Int).toNat 1) A.text W9 HW.out.at_ (by simp only [List.length_append]; omega) (by omega)).mono ?_
  rintro e W5 ⟨rfl, hw⟩
  replace HW := Kept.mk (HW.out.trans hw)
  replace HV := Kept.mk (HV.out.wr hw (by omega))
  clear hw
  refine ⟨_, rfl, ?_⟩
  simp only [List.foldl_cons, List.foldl_nil]
  generalize y9 30 = z30
  generalize y9 31 = z31
  generalize y9 32 = z32
  generalize y9 33 = z33
  generalize y9 34 = z34
  generalize y9 35 = z35
  simp only [List.setIfInBounds_toArray, List.set_cons_succ, List.set_cons_zero]
  clear y9
  go_wp2
  go_end0
  refine ⟨rfl, ?_⟩
  have := HW.out
  rw [HD.out]
  simpa only [List.append_assoc, bitI, Int.toNat_natCast] using this
theorem nums_app : ∀ (a b : List Int), numsL (a ++ b) = numsL a ++ numsL b
  | [], b => rfl
  | x :: r, b => by rw [List.cons_append, numsL, nums_app r b, numsL, List.append_assoc]
theorem nums_take (l : List Int) (k : Nat) (h : k < l.length) : numsL (l.take (k + 1)) = numsL (l.take k) ++ putL l[k].toNat 2 := by
  rw [List.take_succ_eq_append_getElem h, nums_app, numsL, numsL, List.append_nil]
set_option maxRecDepth 100000 in
set_option maxHeartbeats 4000000 in
theorem wrow_any (l : List Int) (g : Nat) (t : List UInt8) (v : Value) (w : World) (hv : isCells (l.map intC) v w) (hne : blk v ≠ some g) (h : At w g (txt t)) (ht : t.length ≤ 500) (hl : l.length ≤ 40) (hn : l.all okNum = true) :
    Calls Tryz.prog 109 #[ptr g, v] w fun e w' => e = .returned unitV ∧ Wr g (txt (t ++ numsL l)) w w' := by
  obtain ⟨a, cap, hva⟩ := hv.len
  rw [List.length_map] at hva
  subst hva
  have HV := Kept.mk hv
  have HN := Kept.mk hn
  have HG := Kept.mk hne
  have HW := Kept.mk (Wr.refl h)
  have hg := h.lt
  clear hv hn hne
  go_enter Tryz.func109, Tryz.ntmps109
  go_wp2
  go_loopw [8] (fun i wr => ∃ k : Nat, k ≤ l.length ∧ i = .int .i64 (k : Int) ∧ Kept (Wr g (txt (t ++ numsL (l.take k))) w wr)) (fun i _ => l.length - (intOf i).toNat)
  case atStart => exact ⟨0, Nat.zero_le _, rfl, ⟨by rw [List.take_zero, numsL, List.append_nil]; exact HW.out⟩⟩
  case round =>
    clear HW
    obtain ⟨k, hk, rfl, HW⟩ := hrel
    by_cases hlt : k < l.length
    · have HV1 := HV.out.wr HW.out HG.out
      obtain ⟨b, off, cap', hs, hb, hc⟩ := HV1.some_ (by rw [List.length_map]; omega)
      rw [List.length_map] at hs
      injection hs with h1 h2 h3
      subst h1 h3
      have hcell := hc k _ (get_map intC l k hlt)
      have hx2 : okNum l[k] = true := List.all_eq_true.1 HN.out _ (List.getElem_mem hlt)
      unfold okNum at hx2
      simp only [Bool.and_eq_true, decide_eq_true_eq] at hx2
      have HS := Kept.mk (nums_take l k hlt)
      obtain ⟨x, hx⟩ : ∃ x, x = l[k] := ⟨_, rfl⟩
      rw [← hx] at hcell HS hx2
      unfold intC at hcell
      clear hc hx HV1
      obtain ⟨b3, b4⟩ := hx2
      have hlen := length_nums (l.take k)
      have hlk : (l.take k).length ≤ 40 := by rw [List.length_take]; omega
      have d1 : decide ((k : Int) < (l.length : Int)) = true := by simpa using hlt
      go_wp2_with fail
      refine (number_z g (t ++ numsL (l.take k)) x 2 _ HW.out.at_ (by rw [List.length_append]; omega) b3 (by omega) (by omega) (by omega) (by show _ < 65536; omega)).mono ?_
      rintro e w2 ⟨rfl, hw⟩
      replace HW := Kept.mk (HW.out.trans hw)
      clear hw
      go_wp2
      go_roundw
      case rel => exact ⟨k + 1, by omega, by go_num, ⟨by rw [HS.out, ← List.append_assoc]; exact HW.out⟩⟩
      case measure => simp [intOf]; omega
    · have d1 : decide ((k : Int) < (l.length : Int)) = false := by simpa using hlt
      go_wp2
      go_end0
      refine ⟨rfl, ?_⟩
      have := HW.out
      rwa [List.take_of_length_le (by omega)] at this
set_option maxRecDepth 100000 in
set_option maxHeartbeats 4000000 in
theorem wcount_any (A : Va) (g : Nat) (t : List UInt8) (vp vm : Value) (w : World) (hp : isCells (A.plus.map intC) vp w) (hm : isCells (A.minus.map intC) vm w) (np : blk vp ≠ some g) (nm : blk vm ≠ some g) (h : At w g (txt t)) (ht : t.length ≤ 300) (hk : A.kind = 2) (hI : inCount A = true) :
    Calls Tryz.prog 89 #[ptr g, .agg #[.int .i64 A.kind, .int .i64 A.time, .int .i64 A.node, .bool A.dead, .string ⟨A.text.toArray⟩, vp, vm, .int .u64 (A.flags.toNat : Int)]] w fun e w' => e = .returned unitV ∧ Wr g (txt (t ++ dataL A)) w w' := by
  have HD := Kept.mk (data_count hk)
  simp only [inCount, okRow, Bool.and_eq_true, decide_eq_true_eq] at hI
  obtain ⟨⟨l1, a1⟩, ⟨l2, a2⟩⟩ := hI
  have hlen := length_nums A.plus
  clear hk
  have hg := h.lt
  have HW := Kept.mk ((Wr.refl h).alloc (.cells #[.int .i64 A.kind, .int .i64 A.time, .int .i64 A.node, .bool A.dead, .string ⟨A.text.toArray⟩, vp, vm, .int .u64 (A.flags.toNat : Int)] 46))
  have HV := Kept.mk (Blk.new w 46 [.int .i64 A.kind, .int .i64 A.time, .int .i64 A.node, .bool A.dead, .string ⟨A.text.toArray⟩, vp, vm, .int .u64 (A.flags.toNat : Int)] w.heap.size rfl)
  have HP := Kept.mk (stable_cells _ _ _ _ hp (lit_below w (.cells #[.int .i64 A.kind, .int .i64 A.time, .int .i64 A.node, .bool A.dead, .string ⟨A.text.toArray⟩, vp, vm, .int .u64 (A.flags.toNat : Int)] 46)))
  have HM := Kept.mk (stable_cells _ _ _ _ hm (lit_below w (.cells #[.int .i64 A.kind, .int .i64 A.time, .int .i64 A.node, .bool A.dead, .string ⟨A.text.toArray⟩, vp, vm, .int .u64 (A.flags.toNat : Int)] 46)))
  have NP := Kept.mk np
  have NM := Kept.mk nm
  clear hp hm np nm
  have kv5 := HV.out.cells.2 5 _ rfl
  go_enter Tryz.func89, Tryz.ntmps89
  go_wp2_with fail
  clear kv5
  generalize w.alloc (.cells #[.int .i64 A.kind, .int .i64 A.time, .int .i64 A.node, .bool A.dead, .string ⟨A.text.toArray⟩, vp, vm, .int .u64 (A.flags.toNat : Int)] 46) = W0 at *
  refine (wrow_any A.plus g t vp W0 HP.out NP.out HW.out.at_ (by omega) (by omega) a1).mono ?_
  rintro e W1 ⟨rfl, hw⟩
  replace HM := Kept.mk (HM.out.wr hw NM.out)
  replace HV := Kept.mk (HV.out.wr hw (by omega))
  replace HW := Kept.mk (HW.out.trans hw)
  clear hw HP
  have kv6 := HV.out.cells.2 6 _ rfl
  go_wp2_with fail
  clear kv6
  refine (wrow_any A.minus g (t ++ numsL A.plus) vm W1 HM.out NM.out HW.out.at_ (by rw [List.length_append]; omega) (by omega) a2).mono ?_
  rintro e W2 ⟨rfl, hw⟩
  replace HW := Kept.mk (HW.out.trans hw)
  clear hw HM HV
  go_wp2
  go_end0
  refine ⟨rfl, ?_⟩
  rw [HD.out, ← List.append_assoc]
  exact HW.out
theorem and_low (F : Nat) (h : F < 18446744073709551616) (t : TypeId) (w : World) : (binOp .and t (.int .u64 (F : Int)) (.int .u64 4294967295)).run Tryz.prog w = .ok (.int .u64 ((F % 4294967296 : Nat) : Int)) w := by
  have e : bits .and .u64 (F : Int) ((4294967295 : Nat) : Int) = ((F &&& 4294967295 : Nat) : Int) := u64_and_nat _ _ h (by omega)
  have e2 : F &&& 4294967295 = F % 4294967296 := Nat.and_two_pow_sub_one_eq_mod F 32
  rw [e2] at e
  simp [go_sem]
  exact e
theorem shr_half (F : Nat) (h : F < 18446744073709551616) (w : World) : (binOp .shr 44 (.int .u64 (F : Int)) (.int .u64 32)).run Tryz.prog w = .ok (.int .u64 ((F / 4294967296 : Nat) : Int)) w := by
  simp [go_sem]
theorem conv_int (F : Nat) (h : F < 4294967296) (w : World) : (convert 44 3 (.int .u64 (F : Int))).run Tryz.prog w = .ok (.int .i64 (F : Int)) w := by
  simp [convert, run_underlying Tryz.underlying44, run_underlying Tryz.underlying3, go_sem]
  exact IntWalk.i64_in _ (by omega)
noncomputable def wf1Ops : Array Oper := regionOf Tryz.f90 1
set_option maxRecDepth 100000 in
set_option maxHeartbeats 2000000 in
theorem wf1_region (Q : Exit → Act → World → Prop) (a0 : Act) (w0 : World) (hsz : a0.tmps.size = 20) (A : Va) (g b : Nat) (vp vm : Value) (e0 : a0.tmps.getD 0 undef = .pointer (some ⟨g, 0, none⟩)) (e3 : a0.tmps.getD 3 undef = .pointer (some ⟨b, 0, none⟩)) (hc : CellsN w0 b [.int .i64 A.kind, .int .i64 A.time, .int .i64 A.node, .bool A.dead, .string ⟨A.text.toArray⟩, vp, vm, .int .u64 (A.flags.toNat : Int)])
    (hC : ∀ (y : Nat → Value) (w : World), Below w0.heap.size w0 w → Calls Tryz.prog 56 #[.pointer (some ⟨g, 0, none⟩), .int .i64 ((A.flags.toNat % 4294967296 : Nat) : Int), .int .i64 4] w fun e w' => ∃ v, e = .returned v ∧ Q .normal { tmps := ([4, 5, 6, 7, 8, 9, 10, 11].foldl (fun t s => t.setIfInBounds s (y s)) a0.tmps).setIfInBounds 11 v, defers := a0.defers } w') :
    (Code.region 1 wf1Ops true).wp Tryz.prog Q a0 w0 := by
  refine wp_region_cov 7 mixed (by rw [hsz]; kernel_rfl) (by kernel_rfl) ?_
  rw [show wf1Ops.size - 7 = 1 by kernel_rfl]
  refine ⟨isVal (.pointer (some ⟨g, 0, none⟩)), step_move (.tmp 0) (by kernel_rfl) (wanted_none (by kernel_rfl)) (stable_val _) (knows_old 0 (.pointer (some ⟨g, 0, none⟩)) (by kernel_rfl) e0), ?_⟩
  refine ⟨isVal (.pointer (some ⟨g, 0, none⟩)), step_nilP (.tmp 4) ⟨g, 0, none⟩ (by kernel_rfl) (wanted_none (by kernel_rfl)) (knows_new (V := isVal (.pointer (some ⟨g, 0, none⟩))) 4 0 (by kernel_rfl) (by kernel_rfl) (by kernel_rfl)), ?_⟩
  refine ⟨isVal (.pointer (some ⟨g, 0, none⟩)), step_field 87 (.tmp 5) 0 ⟨g, 0, none⟩ ⟨g, 0, none⟩ (by kernel_rfl) (wanted_none (by kernel_rfl)) (knows_new (V := isVal (.pointer (some ⟨g, 0, none⟩))) 5 1 (by kernel_rfl) (by kernel_rfl) (by kernel_rfl)) (field_wr g 0 (by omega)), ?_⟩
  refine ⟨isVal (.pointer (some ⟨b, 7, none⟩)), step_field 46 (.tmp 3) 7 ⟨b, 0, none⟩ ⟨b, 7, none⟩ (by kernel_rfl) (wanted_none (by kernel_rfl)) (knows_old 3 (.pointer (some ⟨b, 0, none⟩)) (by kernel_rfl) e3) (field_va b 7 (by omega)), ?_⟩
  refine ⟨isVal (.int .u64 (A.flags.toNat : Int)), step_read 44 (.tmp 7) ⟨b, 7, none⟩ (.int .u64 (A.flags.toNat : Int)) (by kernel_rfl) (wanted_none (by kernel_rfl)) (knows_new (V := isVal (.pointer (some ⟨b, 7, none⟩))) 7 3 (by kernel_rfl) (by kernel_rfl) (by kernel_rfl)) (hc.2 7 _ rfl) hc.1 agg_u64, ?_⟩
  refine ⟨isVal (.int .u64 ((A.flags.toNat % 4294967296 : Nat) : Int)), step_bin .and 44 44 (.tmp 8) (.const (.int .u64 4294967295)) (.int .u64 (A.flags.toNat : Int)) (.int .u64 4294967295) (.int .u64 ((A.flags.toNat % 4294967296 : Nat) : Int)) (by kernel_rfl) (wanted_none (by kernel_rfl)) (knows_new (V := isVal (.int .u64 (A.flags.toNat : Int))) 8 4 (by kernel_rfl) (by kernel_rfl) (by kernel_rfl)) (knows_const _) (fun _ => rfl) (and_low _ A.flags.toNat_lt _), ?_⟩
  refine ⟨isVal (.int .i64 ((A.flags.toNat % 4294967296 : Nat) : Int)), step_conv 44 3 (.tmp 9) (.int .u64 ((A.flags.toNat % 4294967296 : Nat) : Int)) (.int .i64 ((A.flags.toNat % 4294967296 : Nat) : Int)) (by kernel_rfl) (wanted_none (by kernel_rfl)) (knows_new (V := isVal (.int .u64 ((A.flags.toNat % 4294967296 : Nat) : Int))) 9 5 (by kernel_rfl) (by kernel_rfl) (by kernel_rfl)) (conv_int _ (Nat.mod_lt _ (by omega))), ?_⟩
  intro a w hkp hb hd
  have d6 : a.eval (.tmp 6) = _ := fdone_of (hd 2 (by decide)) (t := 6) (V := isVal (.pointer (some ⟨g, 0, none⟩))) (by kernel_rfl) (by kernel_rfl)
  have d10 : a.eval (.tmp 10) = _ := fdone_of (hd 6 (by decide)) (t := 10) (V := isVal (.int .i64 ((A.flags.toNat % 4294967296 : Nat) : Int))) (by kernel_rfl) (by kernel_rfl)
  refine tail_call 56 #[.tmp 6, .tmp 10, .const (.int .i64 4)] #[85, 3, 3] #[.pointer (some ⟨g, 0, none⟩), .int .i64 ((A.flags.toNat % 4294967296 : Nat) : Int), .int .i64 4] 11 (by kernel_rfl) (by kernel_rfl) (by simp only [List.map_toArray, List.map_cons, List.map_nil, d6, d10]; try rfl) (enters_of Tryz.func56 (by kernel_rfl) rfl) ?_
  obtain ⟨y, ey⟩ := kept_ex hkp [some 4, some 5, some 6, some 7, some 8, some 9, some 10, some 11] [4, 5, 6, 7, 8, 9, 10, 11] (by kernel_rfl) (by decide)
  refine (hC y w hb).mono ?_
  rintro e w' ⟨v, rfl, hq⟩
  exact ⟨v, rfl, put_kept ey hq⟩
noncomputable def wf2Ops : Array Oper := regionOf Tryz.f90 2
set_option maxRecDepth 100000 in
set_option maxHeartbeats 2000000 in
theorem wf2_region (Q : Exit → Act → World → Prop) (a0 : Act) (w0 : World) (hsz : a0.tmps.size = 20) (A : Va) (g b : Nat) (vp vm : Value) (e0 : a0.tmps.getD 0 undef = .pointer (some ⟨g, 0, none⟩)) (e3 : a0.tmps.getD 3 undef = .pointer (some ⟨b, 0, none⟩)) (hc : CellsN w0 b [.int .i64 A.kind, .int .i64 A.time, .int .i64 A.node, .bool A.dead, .string ⟨A.text.toArray⟩, vp, vm, .int .u64 (A.flags.toNat : Int)])
    (hC : ∀ (y : Nat → Value) (w : World), Below w0.heap.size w0 w → Calls Tryz.prog 56 #[.pointer (some ⟨g, 0, none⟩), .int .i64 ((A.flags.toNat / 4294967296 : Nat) : Int), .int .i64 4] w fun e w' => ∃ v, e = .returned v ∧ Q .normal { tmps := ([12, 13, 14, 15, 16, 17, 18, 19].foldl (fun t s => t.setIfInBounds s (y s)) a0.tmps).setIfInBounds 19 v, defers := a0.defers } w') :
    (Code.region 2 wf2Ops true).wp Tryz.prog Q a0 w0 := by
  refine wp_region_cov 7 mixed (by rw [hsz]; kernel_rfl) (by kernel_rfl) ?_
  rw [show wf2Ops.size - 7 = 1 by kernel_rfl]
  refine ⟨isVal (.pointer (some ⟨g, 0, none⟩)), step_move (.tmp 0) (by kernel_rfl) (wanted_none (by kernel_rfl)) (stable_val _) (knows_old 0 (.pointer (some ⟨g, 0, none⟩)) (by kernel_rfl) e0), ?_⟩
  refine ⟨isVal (.pointer (some ⟨g, 0, none⟩)), step_nilP (.tmp 12) ⟨g, 0, none⟩ (by kernel_rfl) (wanted_none (by kernel_rfl)) (knows_new (V := isVal (.pointer (some ⟨g, 0, none⟩))) 12 0 (by kernel_rfl) (by kernel_rfl) (by kernel_rfl)), ?_⟩
  refine ⟨isVal (.pointer (some ⟨g, 0, none⟩)), step_field 87 (.tmp 13) 0 ⟨g, 0, none⟩ ⟨g, 0, none⟩ (by kernel_rfl) (wanted_none (by kernel_rfl)) (knows_new (V := isVal (.pointer (some ⟨g, 0, none⟩))) 13 1 (by kernel_rfl) (by kernel_rfl) (by kernel_rfl)) (field_wr g 0 (by omega)), ?_⟩
  refine ⟨isVal (.pointer (some ⟨b, 7, none⟩)), step_field 46 (.tmp 3) 7 ⟨b, 0, none⟩ ⟨b, 7, none⟩ (by kernel_rfl) (wanted_none (by kernel_rfl)) (knows_old 3 (.pointer (some ⟨b, 0, none⟩)) (by kernel_rfl) e3) (field_va b 7 (by omega)), ?_⟩
  refine ⟨isVal (.int .u64 (A.flags.toNat : Int)), step_read 44 (.tmp 15) ⟨b, 7, none⟩ (.int .u64 (A.flags.toNat : Int)) (by kernel_rfl) (wanted_none (by kernel_rfl)) (knows_new (V := isVal (.pointer (some ⟨b, 7, none⟩))) 15 3 (by kernel_rfl) (by kernel_rfl) (by kernel_rfl)) (hc.2 7 _ rfl) hc.1 agg_u64, ?_⟩
  refine ⟨isVal (.int .u64 ((A.flags.toNat / 4294967296 : Nat) : Int)), step_bin .shr 44 55 (.tmp 16) (.const (.int .u64 32)) (.int .u64 (A.flags.toNat : Int)) (.int .u64 32) (.int .u64 ((A.flags.toNat / 4294967296 : Nat) : Int)) (by kernel_rfl) (wanted_none (by kernel_rfl)) (knows_new (V := isVal (.int .u64 (A.flags.toNat : Int))) 16 4 (by kernel_rfl) (by kernel_rfl) (by kernel_rfl)) (knows_const _) (fun _ => rfl) (shr_half _ A.flags.toNat_lt), ?_⟩
  refine ⟨isVal (.int .i64 ((A.flags.toNat / 4294967296 : Nat) : Int)), step_conv 44 3 (.tmp 17) (.int .u64 ((A.flags.toNat / 4294967296 : Nat) : Int)) (.int .i64 ((A.flags.toNat / 4294967296 : Nat) : Int)) (by kernel_rfl) (wanted_none (by kernel_rfl)) (knows_new (V := isVal (.int .u64 ((A.flags.toNat / 4294967296 : Nat) : Int))) 17 5 (by kernel_rfl) (by kernel_rfl) (by kernel_rfl)) (conv_int _ (by have := A.flags.toNat_lt; omega)), ?_⟩
  intro a w hkp hb hd
  have d14 : a.eval (.tmp 14) = _ := fdone_of (hd 2 (by decide)) (t := 14) (V := isVal (.pointer (some ⟨g, 0, none⟩))) (by kernel_rfl) (by kernel_rfl)
  have d18 : a.eval (.tmp 18) = _ := fdone_of (hd 6 (by decide)) (t := 18) (V := isVal (.int .i64 ((A.flags.toNat / 4294967296 : Nat) : Int))) (by kernel_rfl) (by kernel_rfl)
  refine tail_call 56 #[.tmp 14, .tmp 18, .const (.int .i64 4)] #[85, 3, 3] #[.pointer (some ⟨g, 0, none⟩), .int .i64 ((A.flags.toNat / 4294967296 : Nat) : Int), .int .i64 4] 19 (by kernel_rfl) (by kernel_rfl) (by simp only [List.map_toArray, List.map_cons, List.map_nil, d14, d18]; try rfl) (enters_of Tryz.func56 (by kernel_rfl) rfl) ?_
  obtain ⟨y, ey⟩ := kept_ex hkp [some 12, some 13, some 14, some 15, some 16, some 17, some 18, some 19] [12, 13, 14, 15, 16, 17, 18, 19] (by kernel_rfl) (by decide)
  refine (hC y w hb).mono ?_
  rintro e w' ⟨v, rfl, hq⟩
  exact ⟨v, rfl, put_kept ey hq⟩
set_option maxRecDepth 100000 in
set_option maxHeartbeats 4000000 in
theorem wflags_any (A : Va) (g : Nat) (t : List UInt8) (v : Value) (w : World) (hv : isVa A v w) (h : At w g (txt t)) (ht : t.length ≤ 500) (hk : A.kind = 3) :
    Calls Tryz.prog 90 #[ptr g, v] w fun e w' => e = .returned unitV ∧ Wr g (txt (t ++ dataL A)) w w' := by
  have HD := Kept.mk (data_flags hk)
  have hF := A.flags.toNat_lt
  have l1 := length_putL 4 ((A.flags.toNat % 4294967296 : Nat) : Int).toNat
  clear hk
  obtain ⟨vp, vm, rfl, hp, hm⟩ := hv
  have hg := h.lt
  have HW := Kept.mk ((Wr.refl h).alloc (.cells #[.int .i64 A.kind, .int .i64 A.time, .int .i64 A.node, .bool A.dead, .string ⟨A.text.toArray⟩, vp, vm, .int .u64 (A.flags.toNat : Int)] 46))
  have HV := Kept.mk (Blk.new w 46 [.int .i64 A.kind, .int .i64 A.time, .int .i64 A.node, .bool A.dead, .string ⟨A.text.toArray⟩, vp, vm, .int .u64 (A.flags.toNat : Int)] w.heap.size rfl)
  go_enter Tryz.func90, Tryz.ntmps90
  go_wp2_with fail
  generalize w.alloc (.cells #[.int .i64 A.kind, .int .i64 A.time, .int .i64 A.node, .bool A.dead, .string ⟨A.text.toArray⟩, vp, vm, .int .u64 (A.flags.toNat : Int)] 46) = W0 at *
  refine wf1_region _ _ _ rfl A g w.heap.size vp vm rfl rfl HV.out.cells ?_
  intro y9 W9 hb9
  replace HW := Kept.mk (HW.out.then_ hb9)
  replace HV := Kept.mk (HV.out.keep hb9)
  clear hb9
  refine (number_z g (t) ((A.flags.toNat % 4294967296 : Nat) : Int) 4 W9 HW.out.at_ (by first | omega | (simp only [List.length_append]; omega)) (by omega) (by omega) (by omega) (by omega) (by show _ < 4294967296; omega)).mono ?_
  rintro e W1 ⟨rfl, hw⟩
  replace HW := Kept.mk (HW.out.trans hw)
  replace HV := Kept.mk (HV.out.wr hw (by omega))
  clear hw
  refine ⟨_, rfl, ?_⟩
  simp only [List.foldl_cons, List.foldl_nil]
  generalize y9 4 = z4
  generalize y9 5 = z5
  generalize y9 6 = z6
  generalize y9 7 = z7
  generalize y9 8 = z8
  generalize y9 9 = z9
  generalize y9 10 = z10
  generalize y9 11 = z11
  simp only [List.setIfInBounds_toArray, List.set_cons_succ, List.set_cons_zero]
  clear y9
  go_wp2_with fail
  refine wf2_region _ _ _ rfl A g w.heap.size vp vm rfl rfl HV.out.cells ?_
  intro y9 W9 hb9
  replace HW := Kept.mk (HW.out.then_ hb9)
  replace HV := Kept.mk (HV.out.keep hb9)
  clear hb9
  refine (number_z g (t ++ putL ((A.flags.toNat % 4294967296 : Nat) : Int).toNat 4) ((A.flags.toNat / 4294967296 : Nat) : Int) 4 W9 HW.out.at_ (by first | omega | (simp only [List.length_append]; omega)) (by omega) (by omega) (by omega) (by omega) (by show _ < 4294967296; omega)).mono ?_
  rintro e W2 ⟨rfl, hw⟩
  replace HW := Kept.mk (HW.out.trans hw)
  replace HV := Kept.mk (HV.out.wr hw (by omega))
  clear hw
  refine ⟨_, rfl, ?_⟩
  simp only [List.foldl_cons, List.foldl_nil]
  generalize y9 12 = z12
  generalize y9 13 = z13
  generalize y9 14 = z14
  generalize y9 15 = z15
  generalize y9 16 = z16
  generalize y9 17 = z17
  generalize y9 18 = z18
  generalize y9 19 = z19
  simp only [List.setIfInBounds_toArray, List.set_cons_succ, List.set_cons_zero]
  clear y9
  go_wp2
  go_end0
  refine ⟨rfl, ?_⟩
  have := HW.out
  rw [HD.out]
  simpa only [List.append_assoc, Int.toNat_natCast] using this
end Go.Proofs.YtkjghoomdefbbaaGreatDoor
end
section
namespace Go.Proofs.YtkjghoomdefbbaaGreatDoor
open Go.RowKit
set_option linter.unusedVariables false
set_option linter.unusedSimpArgs false
attribute [local irreducible] setN

theorem old_blk {cs : List Value} {v : Value} {w : World} (h : isCells cs v w) (h0 : 0 < cs.length) {g : Nat} (hg : w.heap.size ≤ g) : blk v ≠ some g := by
  obtain ⟨b, off, cap, rfl, hb, -⟩ := h.some_ h0
  intro e
  injection e with e
  have : b = g := e
  omega
noncomputable def pu1Ops : Array Oper := regionOf Tryz.f31 5
set_option maxRecDepth 100000 in
set_option maxHeartbeats 2000000 in
theorem pu1_region (Q : Exit → Act → World → Prop) (a0 : Act) (w0 : World) (hsz : a0.tmps.size = 54) (E : En) (g b : Nat) (vp vm : Value) (e5 : a0.tmps.getD 5 undef = .pointer (some ⟨g, 0, none⟩)) (e1 : a0.tmps.getD 1 undef = .pointer (some ⟨b, 0, none⟩)) (hc : CellsN w0 b [.string ⟨E.key.toArray⟩, .int .i64 E.val.kind, .int .i64 E.val.time, .int .i64 E.val.node, .bool E.val.dead, .string ⟨E.val.text.toArray⟩, vp, vm, .int .u64 (E.val.flags.toNat : Int)])
    (hC : ∀ (y : Nat → Value) (w : World), Below w0.heap.size w0 w → Calls Tryz.prog 56 #[.pointer (some ⟨g, 0, none⟩), .int .i64 E.val.kind, .int .i64 1] w fun e w' => ∃ v, e = .returned v ∧ Q .normal { tmps := ([13, 14, 15, 16, 17, 18, 19].foldl (fun t s => t.setIfInBounds s (y s)) a0.tmps).setIfInBounds 19 v, defers := a0.defers } w') :
    (Code.region 5 pu1Ops true).wp Tryz.prog Q a0 w0 := by
  refine wp_region_cov 6 mixed (by rw [hsz]; kernel_rfl) (by kernel_rfl) ?_
  rw [show pu1Ops.size - 6 = 1 by kernel_rfl]
  refine ⟨isVal (.pointer (some ⟨g, 0, none⟩)), step_move (.tmp 5) (by kernel_rfl) (wanted_none (by kernel_rfl)) (stable_val _) (knows_old 5 (.pointer (some ⟨g, 0, none⟩)) (by kernel_rfl) e5), ?_⟩
  refine ⟨isVal (.pointer (some ⟨g, 0, none⟩)), step_nilP (.tmp 13) ⟨g, 0, none⟩ (by kernel_rfl) (wanted_none (by kernel_rfl)) (knows_new (V := isVal (.pointer (some ⟨g, 0, none⟩))) 13 0 (by kernel_rfl) (by kernel_rfl) (by kernel_rfl)), ?_⟩
  refine ⟨isVal (.pointer (some ⟨g, 0, none⟩)), step_field 87 (.tmp 14) 0 ⟨g, 0, none⟩ ⟨g, 0, none⟩ (by kernel_rfl) (wanted_none (by kernel_rfl)) (knows_new (V := isVal (.pointer (some ⟨g, 0, none⟩))) 14 1 (by kernel_rfl) (by kernel_rfl) (by kernel_rfl)) (field_wr g 0 (by omega)), ?_⟩
  refine ⟨isVal (.pointer (some ⟨b, 1, none⟩)), step_field 48 (.tmp 1) 1 ⟨b, 0, none⟩ ⟨b, 1, none⟩ (by kernel_rfl) (wanted_none (by kernel_rfl)) (knows_old 1 (.pointer (some ⟨b, 0, none⟩)) (by kernel_rfl) e1) (field_en b 1 (by omega)), ?_⟩
  refine ⟨isVal (.pointer (some ⟨b, 1, none⟩)), step_field 46 (.tmp 16) 0 ⟨b, 1, none⟩ ⟨b, 1, none⟩ (by kernel_rfl) (wanted_none (by kernel_rfl)) (knows_new (V := isVal (.pointer (some ⟨b, 1, none⟩))) 16 3 (by kernel_rfl) (by kernel_rfl) (by kernel_rfl)) (field_va1 b 0 (by omega)), ?_⟩
  refine ⟨isVal (.int .i64 E.val.kind), step_read 3 (.tmp 17) ⟨b, 1, none⟩ (.int .i64 E.val.kind) (by kernel_rfl) (wanted_none (by kernel_rfl)) (knows_new (V := isVal (.pointer (some ⟨b, 1, none⟩))) 17 4 (by kernel_rfl) (by kernel_rfl) (by kernel_rfl)) (hc.2 1 _ rfl) hc.1 agg_int, ?_⟩
  intro a w hkp hb hd
  have d15 : a.eval (.tmp 15) = _ := fdone_of (hd 2 (by decide)) (t := 15) (V := isVal (.pointer (some ⟨g, 0, none⟩))) (by kernel_rfl) (by kernel_rfl)
  have d18 : a.eval (.tmp 18) = _ := fdone_of (hd 5 (by decide)) (t := 18) (V := isVal (.int .i64 E.val.kind)) (by kernel_rfl) (by kernel_rfl)
  refine tail_call 56 #[.tmp 15, .tmp 18, .const (.int .i64 1)] #[85, 3, 3] #[.pointer (some ⟨g, 0, none⟩), .int .i64 E.val.kind, .int .i64 1] 19 (by kernel_rfl) (by kernel_rfl) (by simp only [List.map_toArray, List.map_cons, List.map_nil, d15, d18]; try rfl) (enters_of Tryz.func56 (by kernel_rfl) rfl) ?_
  obtain ⟨y, ey⟩ := kept_ex hkp [some 13, some 14, some 15, some 16, some 17, some 18, some 19] [13, 14, 15, 16, 17, 18, 19] (by kernel_rfl) (by decide)
  refine (hC y w hb).mono ?_
  rintro e w' ⟨v, rfl, hq⟩
  exact ⟨v, rfl, put_kept ey hq⟩
noncomputable def pu2Ops : Array Oper := regionOf Tryz.f31 6
set_option maxRecDepth 100000 in
set_option maxHeartbeats 2000000 in
theorem pu2_region (Q : Exit → Act → World → Prop) (a0 : Act) (w0 : World) (hsz : a0.tmps.size = 54) (E : En) (g b : Nat) (vp vm : Value) (e5 : a0.tmps.getD 5 undef = .pointer (some ⟨g, 0, none⟩)) (e1 : a0.tmps.getD 1 undef = .pointer (some ⟨b, 0, none⟩)) (hc : CellsN w0 b [.string ⟨E.key.toArray⟩, .int .i64 E.val.kind, .int .i64 E.val.time, .int .i64 E.val.node, .bool E.val.dead, .string ⟨E.val.text.toArray⟩, vp, vm, .int .u64 (E.val.flags.toNat : Int)])
    (hC : ∀ (y : Nat → Value) (w : World), Below w0.heap.size w0 w → Calls Tryz.prog 56 #[.pointer (some ⟨g, 0, none⟩), .int .i64 (E.key.length : Int), .int .i64 1] w fun e w' => ∃ v, e = .returned v ∧ Q .normal { tmps := ([20, 21, 22, 23, 24, 25, 26].foldl (fun t s => t.setIfInBounds s (y s)) a0.tmps).setIfInBounds 26 v, defers := a0.defers } w') :
    (Code.region 6 pu2Ops true).wp Tryz.prog Q a0 w0 := by
  refine wp_region_cov 6 mixed (by rw [hsz]; kernel_rfl) (by kernel_rfl) ?_
  rw [show pu2Ops.size - 6 = 1 by kernel_rfl]
  refine ⟨isVal (.pointer (some ⟨g, 0, none⟩)), step_move (.tmp 5) (by kernel_rfl) (wanted_none (by kernel_rfl)) (stable_val _) (knows_old 5 (.pointer (some ⟨g, 0, none⟩)) (by kernel_rfl) e5), ?_⟩
  refine ⟨isVal (.pointer (some ⟨g, 0, none⟩)), step_nilP (.tmp 20) ⟨g, 0, none⟩ (by kernel_rfl) (wanted_none (by kernel_rfl)) (knows_new (V := isVal (.pointer (some ⟨g, 0, none⟩))) 20 0 (by kernel_rfl) (by kernel_rfl) (by kernel_rfl)), ?_⟩
  refine ⟨isVal (.pointer (some ⟨g, 0, none⟩)), step_field 87 (.tmp 21) 0 ⟨g, 0, none⟩ ⟨g, 0, none⟩ (by kernel_rfl) (wanted_none (by kernel_rfl)) (knows_new (V := isVal (.pointer (some ⟨g, 0, none⟩))) 21 1 (by kernel_rfl) (by kernel_rfl) (by kernel_rfl)) (field_wr g 0 (by omega)), ?_⟩
  refine ⟨isVal (.pointer (some ⟨b, 0, none⟩)), step_field 48 (.tmp 1) 0 ⟨b, 0, none⟩ ⟨b, 0, none⟩ (by kernel_rfl) (wanted_none (by kernel_rfl)) (knows_old 1 (.pointer (some ⟨b, 0, none⟩)) (by kernel_rfl) e1) (field_en b 0 (by omega)), ?_⟩
  refine ⟨isVal (.string ⟨E.key.toArray⟩), step_read 9 (.tmp 23) ⟨b, 0, none⟩ (.string ⟨E.key.toArray⟩) (by kernel_rfl) (wanted_none (by kernel_rfl)) (knows_new (V := isVal (.pointer (some ⟨b, 0, none⟩))) 23 3 (by kernel_rfl) (by kernel_rfl) (by kernel_rfl)) (hc.2 0 _ rfl) hc.1 agg_str, ?_⟩
  refine ⟨isVal (.int .i64 (E.key.length : Int)), step_len 9 (.tmp 24) (.string ⟨E.key.toArray⟩) (.int .i64 (E.key.length : Int)) (by kernel_rfl) (wanted_none (by kernel_rfl)) (knows_new (V := isVal (.string ⟨E.key.toArray⟩)) 24 4 (by kernel_rfl) (by kernel_rfl) (by kernel_rfl)) (len_str E.key), ?_⟩
  intro a w hkp hb hd
  have d22 : a.eval (.tmp 22) = _ := fdone_of (hd 2 (by decide)) (t := 22) (V := isVal (.pointer (some ⟨g, 0, none⟩))) (by kernel_rfl) (by kernel_rfl)
  have d25 : a.eval (.tmp 25) = _ := fdone_of (hd 5 (by decide)) (t := 25) (V := isVal (.int .i64 (E.key.length : Int))) (by kernel_rfl) (by kernel_rfl)
  refine tail_call 56 #[.tmp 22, .tmp 25, .const (.int .i64 1)] #[85, 3, 3] #[.pointer (some ⟨g, 0, none⟩), .int .i64 (E.key.length : Int), .int .i64 1] 26 (by kernel_rfl) (by kernel_rfl) (by simp only [List.map_toArray, List.map_cons, List.map_nil, d22, d25]; try rfl) (enters_of Tryz.func56 (by kernel_rfl) rfl) ?_
  obtain ⟨y, ey⟩ := kept_ex hkp [some 20, some 21, some 22, some 23, some 24, some 25, some 26] [20, 21, 22, 23, 24, 25, 26] (by kernel_rfl) (by decide)
  refine (hC y w hb).mono ?_
  rintro e w' ⟨v, rfl, hq⟩
  exact ⟨v, rfl, put_kept ey hq⟩
noncomputable def pu3Ops : Array Oper := regionOf Tryz.f31 7
set_option maxRecDepth 100000 in
set_option maxHeartbeats 2000000 in
theorem pu3_region (Q : Exit → Act → World → Prop) (a0 : Act) (w0 : World) (hsz : a0.tmps.size = 54) (E : En) (g b : Nat) (vp vm : Value) (e5 : a0.tmps.getD 5 undef = .pointer (some ⟨g, 0, none⟩)) (e1 : a0.tmps.getD 1 undef = .pointer (some ⟨b, 0, none⟩)) (hc : CellsN w0 b [.string ⟨E.key.toArray⟩, .int .i64 E.val.kind, .int .i64 E.val.time, .int .i64 E.val.node, .bool E.val.dead, .string ⟨E.val.text.toArray⟩, vp, vm, .int .u64 (E.val.flags.toNat : Int)])
    (hC : ∀ (y : Nat → Value) (w : World), Below w0.heap.size w0 w → Calls Tryz.prog 57 #[.pointer (some ⟨g, 0, none⟩), .string ⟨E.key.toArray⟩] w fun e w' => ∃ v, e = .returned v ∧ Q .normal { tmps := ([27, 28, 29, 30, 31, 32].foldl (fun t s => t.setIfInBounds s (y s)) a0.tmps).setIfInBounds 32 v, defers := a0.defers } w') :
    (Code.region 7 pu3Ops true).wp Tryz.prog Q a0 w0 := by
  refine wp_region_cov 5 mixed (by rw [hsz]; kernel_rfl) (by kernel_rfl) ?_
  rw [show pu3Ops.size - 5 = 1 by kernel_rfl]
  refine ⟨isVal (.pointer (some ⟨g, 0, none⟩)), step_move (.tmp 5) (by kernel_rfl) (wanted_none (by kernel_rfl)) (stable_val _) (knows_old 5 (.pointer (some ⟨g, 0, none⟩)) (by kernel_rfl) e5), ?_⟩
  refine ⟨isVal (.pointer (some ⟨g, 0, none⟩)), step_nilP (.tmp 27) ⟨g, 0, none⟩ (by kernel_rfl) (wanted_none (by kernel_rfl)) (knows_new (V := isVal (.pointer (some ⟨g, 0, none⟩))) 27 0 (by kernel_rfl) (by kernel_rfl) (by kernel_rfl)), ?_⟩
  refine ⟨isVal (.pointer (some ⟨g, 0, none⟩)), step_field 87 (.tmp 28) 0 ⟨g, 0, none⟩ ⟨g, 0, none⟩ (by kernel_rfl) (wanted_none (by kernel_rfl)) (knows_new (V := isVal (.pointer (some ⟨g, 0, none⟩))) 28 1 (by kernel_rfl) (by kernel_rfl) (by kernel_rfl)) (field_wr g 0 (by omega)), ?_⟩
  refine ⟨isVal (.pointer (some ⟨b, 0, none⟩)), step_field 48 (.tmp 1) 0 ⟨b, 0, none⟩ ⟨b, 0, none⟩ (by kernel_rfl) (wanted_none (by kernel_rfl)) (knows_old 1 (.pointer (some ⟨b, 0, none⟩)) (by kernel_rfl) e1) (field_en b 0 (by omega)), ?_⟩
  refine ⟨isVal (.string ⟨E.key.toArray⟩), step_read 9 (.tmp 30) ⟨b, 0, none⟩ (.string ⟨E.key.toArray⟩) (by kernel_rfl) (wanted_none (by kernel_rfl)) (knows_new (V := isVal (.pointer (some ⟨b, 0, none⟩))) 30 3 (by kernel_rfl) (by kernel_rfl) (by kernel_rfl)) (hc.2 0 _ rfl) hc.1 agg_str, ?_⟩
  intro a w hkp hb hd
  have d29 : a.eval (.tmp 29) = _ := fdone_of (hd 2 (by decide)) (t := 29) (V := isVal (.pointer (some ⟨g, 0, none⟩))) (by kernel_rfl) (by kernel_rfl)
  have d31 : a.eval (.tmp 31) = _ := fdone_of (hd 4 (by decide)) (t := 31) (V := isVal (.string ⟨E.key.toArray⟩)) (by kernel_rfl) (by kernel_rfl)
  refine tail_call 57 #[.tmp 29, .tmp 31] #[85, 9] #[.pointer (some ⟨g, 0, none⟩), .string ⟨E.key.toArray⟩] 32 (by kernel_rfl) (by kernel_rfl) (by simp only [List.map_toArray, List.map_cons, List.map_nil, d29, d31]; try rfl) (enters_of Tryz.func57 (by kernel_rfl) rfl) ?_
  obtain ⟨y, ey⟩ := kept_ex hkp [some 27, some 28, some 29, some 30, some 31, some 32] [27, 28, 29, 30, 31, 32] (by kernel_rfl) (by decide)
  refine (hC y w hb).mono ?_
  rintro e w' ⟨v, rfl, hq⟩
  exact ⟨v, rfl, put_kept ey hq⟩
noncomputable def pk1Ops : Array Oper := regionOf Tryz.f31 9
set_option maxRecDepth 100000 in
set_option maxHeartbeats 2000000 in
theorem pk1_region (Q : Exit → Act → World → Prop) (a0 : Act) (w0 : World) (hsz : a0.tmps.size = 54) (E : En) (g b : Nat) (vp vm : Value) (e5 : a0.tmps.getD 5 undef = .pointer (some ⟨g, 0, none⟩)) (e1 : a0.tmps.getD 1 undef = .pointer (some ⟨b, 0, none⟩)) (hc : CellsN w0 b [.string ⟨E.key.toArray⟩, .int .i64 E.val.kind, .int .i64 E.val.time, .int .i64 E.val.node, .bool E.val.dead, .string ⟨E.val.text.toArray⟩, vp, vm, .int .u64 (E.val.flags.toNat : Int)]) (hk : E.val.kind = 1)
    (hC : ∀ (y : Nat → Value) (w : World), Below w0.heap.size w0 w → Calls Tryz.prog 88 #[.pointer (some ⟨g, 0, none⟩), .agg #[.int .i64 E.val.kind, .int .i64 E.val.time, .int .i64 E.val.node, .bool E.val.dead, .string ⟨E.val.text.toArray⟩, vp, vm, .int .u64 (E.val.flags.toNat : Int)]] w fun e w' => ∃ v, e = .returned v ∧ Q .normal { tmps := ([37, 38, 39, 40, 41, 42, 43, 44, 45].foldl (fun t s => t.setIfInBounds s (y s)) a0.tmps).setIfInBounds 45 v, defers := a0.defers } w') :
    (Code.region 9 pk1Ops true).wp Tryz.prog Q a0 w0 := by
  refine wp_region_cov 8 mixed (by rw [hsz]; kernel_rfl) (by kernel_rfl) ?_
  rw [show pk1Ops.size - 8 = 1 by kernel_rfl]
  refine ⟨isVal (.pointer (some ⟨g, 0, none⟩)), step_move (.tmp 5) (by kernel_rfl) (wanted_none (by kernel_rfl)) (stable_val _) (knows_old 5 (.pointer (some ⟨g, 0, none⟩)) (by kernel_rfl) e5), ?_⟩
  refine ⟨(isKinds g), step_call 59 #[.tmp 37] #[84] #[.pointer (some ⟨g, 0, none⟩)] (by kernel_rfl) (wanted_none (by kernel_rfl)) (stable_kinds g) (args1 (.tmp 37) (.pointer (some ⟨g, 0, none⟩)) (knows_new (V := isVal (.pointer (some ⟨g, 0, none⟩))) 37 0 (by kernel_rfl) (by kernel_rfl) (by kernel_rfl))) (enters_of Tryz.func59 (by kernel_rfl) rfl) (by intro w hb; exact kinds_any g w), ?_⟩
  refine ⟨isVal (.pointer (some ⟨b, 1, none⟩)), step_field 48 (.tmp 1) 1 ⟨b, 0, none⟩ ⟨b, 1, none⟩ (by kernel_rfl) (wanted_none (by kernel_rfl)) (knows_old 1 (.pointer (some ⟨b, 0, none⟩)) (by kernel_rfl) e1) (field_en b 1 (by omega)), ?_⟩
  refine ⟨isVal (.pointer (some ⟨b, 1, none⟩)), step_field 46 (.tmp 39) 0 ⟨b, 1, none⟩ ⟨b, 1, none⟩ (by kernel_rfl) (wanted_none (by kernel_rfl)) (knows_new (V := isVal (.pointer (some ⟨b, 1, none⟩))) 39 2 (by kernel_rfl) (by kernel_rfl) (by kernel_rfl)) (field_va1 b 0 (by omega)), ?_⟩
  refine ⟨isVal (.int .i64 E.val.kind), step_read 3 (.tmp 40) ⟨b, 1, none⟩ (.int .i64 E.val.kind) (by kernel_rfl) (wanted_none (by kernel_rfl)) (knows_new (V := isVal (.pointer (some ⟨b, 1, none⟩))) 40 3 (by kernel_rfl) (by kernel_rfl) (by kernel_rfl)) (hc.2 1 _ rfl) hc.1 agg_int, ?_⟩
  refine ⟨isVal (.func (.func 88) #[.pointer (some ⟨g, 0, none⟩)] #[]), step_find 92 (.tmp 38) (.tmp 41) g _ (.func (.func 88) #[.pointer (some ⟨g, 0, none⟩)] #[]) (by kernel_rfl) (wanted_none (by kernel_rfl)) (knows_new (V := (isKinds g)) 38 1 (by kernel_rfl) (by kernel_rfl) (by kernel_rfl)) (knows_new (V := isVal (.int .i64 E.val.kind)) 41 4 (by kernel_rfl) (by kernel_rfl) (by kernel_rfl)) (by rw [hk]; exact kind_at g 1 _ 0 (by kernel_rfl)), ?_⟩
  refine ⟨isVal (.pointer (some ⟨b, 1, none⟩)), step_field 48 (.tmp 1) 1 ⟨b, 0, none⟩ ⟨b, 1, none⟩ (by kernel_rfl) (wanted_none (by kernel_rfl)) (knows_old 1 (.pointer (some ⟨b, 0, none⟩)) (by kernel_rfl) e1) (field_en b 1 (by omega)), ?_⟩
  refine ⟨isVal (.agg #[.int .i64 E.val.kind, .int .i64 E.val.time, .int .i64 E.val.node, .bool E.val.dead, .string ⟨E.val.text.toArray⟩, vp, vm, .int .u64 (E.val.flags.toNat : Int)]), step_loadO 46 (.tmp 43) (b) _ [.int .i64 E.val.kind, .int .i64 E.val.time, .int .i64 E.val.node, .bool E.val.dead, .string ⟨E.val.text.toArray⟩, vp, vm, .int .u64 (E.val.flags.toNat : Int)] (by kernel_rfl) (wanted_none (by kernel_rfl)) (knows_new (V := isVal (.pointer (some ⟨b, 1, none⟩))) 43 6 (by kernel_rfl) (by kernel_rfl) (by kernel_rfl)) size_va agg_va hc, ?_⟩
  intro a w hkp hb hd
  have d44 : a.eval (.tmp 44) = _ := fdone_of (hd 7 (by decide)) (t := 44) (V := isVal (.agg #[.int .i64 E.val.kind, .int .i64 E.val.time, .int .i64 E.val.node, .bool E.val.dead, .string ⟨E.val.text.toArray⟩, vp, vm, .int .u64 (E.val.flags.toNat : Int)])) (by kernel_rfl) (by kernel_rfl)
  have d42 : a.eval (.tmp 42) = _ := fdone_of (hd 5 (by decide)) (t := 42) (V := isVal (.func (.func 88) #[.pointer (some ⟨g, 0, none⟩)] #[])) (by kernel_rfl) (by kernel_rfl)
  refine tail_callV (.tmp 42) 88 #[.pointer (some ⟨g, 0, none⟩)] #[.tmp 44] #[46] #[.agg #[.int .i64 E.val.kind, .int .i64 E.val.time, .int .i64 E.val.node, .bool E.val.dead, .string ⟨E.val.text.toArray⟩, vp, vm, .int .u64 (E.val.flags.toNat : Int)]] 45 (by kernel_rfl) (by kernel_rfl) d42 (by simp only [List.map_toArray, List.map_cons, List.map_nil, d44, d42]) (enters_of Tryz.func88 (by kernel_rfl) rfl) ?_
  obtain ⟨y, ey⟩ := kept_ex hkp [some 37, some 38, some 39, some 40, some 41, some 42, some 43, some 44, some 45] [37, 38, 39, 40, 41, 42, 43, 44, 45] (by kernel_rfl) (by decide)
  refine (hC y w hb).mono ?_
  rintro e w' ⟨v, rfl, hq⟩
  exact ⟨v, rfl, put_kept ey hq⟩
noncomputable def pk2Ops : Array Oper := regionOf Tryz.f31 9
set_option maxRecDepth 100000 in
set_option maxHeartbeats 2000000 in
theorem pk2_region (Q : Exit → Act → World → Prop) (a0 : Act) (w0 : World) (hsz : a0.tmps.size = 54) (E : En) (g b : Nat) (vp vm : Value) (e5 : a0.tmps.getD 5 undef = .pointer (some ⟨g, 0, none⟩)) (e1 : a0.tmps.getD 1 undef = .pointer (some ⟨b, 0, none⟩)) (hc : CellsN w0 b [.string ⟨E.key.toArray⟩, .int .i64 E.val.kind, .int .i64 E.val.time, .int .i64 E.val.node, .bool E.val.dead, .string ⟨E.val.text.toArray⟩, vp, vm, .int .u64 (E.val.flags.toNat : Int)]) (hk : E.val.kind = 2)
    (hC : ∀ (y : Nat → Value) (w : World), Below w0.heap.size w0 w → Calls Tryz.prog 89 #[.pointer (some ⟨g, 0, none⟩), .agg #[.int .i64 E.val.kind, .int .i64 E.val.time, .int .i64 E.val.node, .bool E.val.dead, .string ⟨E.val.text.toArray⟩, vp, vm, .int .u64 (E.val.flags.toNat : Int)]] w fun e w' => ∃ v, e = .returned v ∧ Q .normal { tmps := ([37, 38, 39, 40, 41, 42, 43, 44, 45].foldl (fun t s => t.setIfInBounds s (y s)) a0.tmps).setIfInBounds 45 v, defers := a0.defers } w') :
    (Code.region 9 pk2Ops true).wp Tryz.prog Q a0 w0 := by
  refine wp_region_cov 8 mixed (by rw [hsz]; kernel_rfl) (by kernel_rfl) ?_
  rw [show pk2Ops.size - 8 = 1 by kernel_rfl]
  refine ⟨isVal (.pointer (some ⟨g, 0, none⟩)), step_move (.tmp 5) (by kernel_rfl) (wanted_none (by kernel_rfl)) (stable_val _) (knows_old 5 (.pointer (some ⟨g, 0, none⟩)) (by kernel_rfl) e5), ?_⟩
  refine ⟨(isKinds g), step_call 59 #[.tmp 37] #[84] #[.pointer (some ⟨g, 0, none⟩)] (by kernel_rfl) (wanted_none (by kernel_rfl)) (stable_kinds g) (args1 (.tmp 37) (.pointer (some ⟨g, 0, none⟩)) (knows_new (V := isVal (.pointer (some ⟨g, 0, none⟩))) 37 0 (by kernel_rfl) (by kernel_rfl) (by kernel_rfl))) (enters_of Tryz.func59 (by kernel_rfl) rfl) (by intro w hb; exact kinds_any g w), ?_⟩
  refine ⟨isVal (.pointer (some ⟨b, 1, none⟩)), step_field 48 (.tmp 1) 1 ⟨b, 0, none⟩ ⟨b, 1, none⟩ (by kernel_rfl) (wanted_none (by kernel_rfl)) (knows_old 1 (.pointer (some ⟨b, 0, none⟩)) (by kernel_rfl) e1) (field_en b 1 (by omega)), ?_⟩
  refine ⟨isVal (.pointer (some ⟨b, 1, none⟩)), step_field 46 (.tmp 39) 0 ⟨b, 1, none⟩ ⟨b, 1, none⟩ (by kernel_rfl) (wanted_none (by kernel_rfl)) (knows_new (V := isVal (.pointer (some ⟨b, 1, none⟩))) 39 2 (by kernel_rfl) (by kernel_rfl) (by kernel_rfl)) (field_va1 b 0 (by omega)), ?_⟩
  refine ⟨isVal (.int .i64 E.val.kind), step_read 3 (.tmp 40) ⟨b, 1, none⟩ (.int .i64 E.val.kind) (by kernel_rfl) (wanted_none (by kernel_rfl)) (knows_new (V := isVal (.pointer (some ⟨b, 1, none⟩))) 40 3 (by kernel_rfl) (by kernel_rfl) (by kernel_rfl)) (hc.2 1 _ rfl) hc.1 agg_int, ?_⟩
  refine ⟨isVal (.func (.func 89) #[.pointer (some ⟨g, 0, none⟩)] #[]), step_find 92 (.tmp 38) (.tmp 41) g _ (.func (.func 89) #[.pointer (some ⟨g, 0, none⟩)] #[]) (by kernel_rfl) (wanted_none (by kernel_rfl)) (knows_new (V := (isKinds g)) 38 1 (by kernel_rfl) (by kernel_rfl) (by kernel_rfl)) (knows_new (V := isVal (.int .i64 E.val.kind)) 41 4 (by kernel_rfl) (by kernel_rfl) (by kernel_rfl)) (by rw [hk]; exact kind_at g 2 _ 1 (by kernel_rfl)), ?_⟩
  refine ⟨isVal (.pointer (some ⟨b, 1, none⟩)), step_field 48 (.tmp 1) 1 ⟨b, 0, none⟩ ⟨b, 1, none⟩ (by kernel_rfl) (wanted_none (by kernel_rfl)) (knows_old 1 (.pointer (some ⟨b, 0, none⟩)) (by kernel_rfl) e1) (field_en b 1 (by omega)), ?_⟩
  refine ⟨isVal (.agg #[.int .i64 E.val.kind, .int .i64 E.val.time, .int .i64 E.val.node, .bool E.val.dead, .string ⟨E.val.text.toArray⟩, vp, vm, .int .u64 (E.val.flags.toNat : Int)]), step_loadO 46 (.tmp 43) (b) _ [.int .i64 E.val.kind, .int .i64 E.val.time, .int .i64 E.val.node, .bool E.val.dead, .string ⟨E.val.text.toArray⟩, vp, vm, .int .u64 (E.val.flags.toNat : Int)] (by kernel_rfl) (wanted_none (by kernel_rfl)) (knows_new (V := isVal (.pointer (some ⟨b, 1, none⟩))) 43 6 (by kernel_rfl) (by kernel_rfl) (by kernel_rfl)) size_va agg_va hc, ?_⟩
  intro a w hkp hb hd
  have d44 : a.eval (.tmp 44) = _ := fdone_of (hd 7 (by decide)) (t := 44) (V := isVal (.agg #[.int .i64 E.val.kind, .int .i64 E.val.time, .int .i64 E.val.node, .bool E.val.dead, .string ⟨E.val.text.toArray⟩, vp, vm, .int .u64 (E.val.flags.toNat : Int)])) (by kernel_rfl) (by kernel_rfl)
  have d42 : a.eval (.tmp 42) = _ := fdone_of (hd 5 (by decide)) (t := 42) (V := isVal (.func (.func 89) #[.pointer (some ⟨g, 0, none⟩)] #[])) (by kernel_rfl) (by kernel_rfl)
  refine tail_callV (.tmp 42) 89 #[.pointer (some ⟨g, 0, none⟩)] #[.tmp 44] #[46] #[.agg #[.int .i64 E.val.kind, .int .i64 E.val.time, .int .i64 E.val.node, .bool E.val.dead, .string ⟨E.val.text.toArray⟩, vp, vm, .int .u64 (E.val.flags.toNat : Int)]] 45 (by kernel_rfl) (by kernel_rfl) d42 (by simp only [List.map_toArray, List.map_cons, List.map_nil, d44, d42]) (enters_of Tryz.func89 (by kernel_rfl) rfl) ?_
  obtain ⟨y, ey⟩ := kept_ex hkp [some 37, some 38, some 39, some 40, some 41, some 42, some 43, some 44, some 45] [37, 38, 39, 40, 41, 42, 43, 44, 45] (by kernel_rfl) (by decide)
  refine (hC y w hb).mono ?_
  rintro e w' ⟨v, rfl, hq⟩
  exact ⟨v, rfl, put_kept ey hq⟩
noncomputable def pk3Ops : Array Oper := regionOf Tryz.f31 9
set_option maxRecDepth 100000 in
set_option maxHeartbeats 2000000 in
theorem pk3_region (Q : Exit → Act → World → Prop) (a0 : Act) (w0 : World) (hsz : a0.tmps.size = 54) (E : En) (g b : Nat) (vp vm : Value) (e5 : a0.tmps.getD 5 undef = .pointer (some ⟨g, 0, none⟩)) (e1 : a0.tmps.getD 1 undef = .pointer (some ⟨b, 0, none⟩)) (hc : CellsN w0 b [.string ⟨E.key.toArray⟩, .int .i64 E.val.kind, .int .i64 E.val.time, .int .i64 E.val.node, .bool E.val.dead, .string ⟨E.val.text.toArray⟩, vp, vm, .int .u64 (E.val.flags.toNat : Int)]) (hk : E.val.kind = 3)
    (hC : ∀ (y : Nat → Value) (w : World), Below w0.heap.size w0 w → Calls Tryz.prog 90 #[.pointer (some ⟨g, 0, none⟩), .agg #[.int .i64 E.val.kind, .int .i64 E.val.time, .int .i64 E.val.node, .bool E.val.dead, .string ⟨E.val.text.toArray⟩, vp, vm, .int .u64 (E.val.flags.toNat : Int)]] w fun e w' => ∃ v, e = .returned v ∧ Q .normal { tmps := ([37, 38, 39, 40, 41, 42, 43, 44, 45].foldl (fun t s => t.setIfInBounds s (y s)) a0.tmps).setIfInBounds 45 v, defers := a0.defers } w') :
    (Code.region 9 pk3Ops true).wp Tryz.prog Q a0 w0 := by
  refine wp_region_cov 8 mixed (by rw [hsz]; kernel_rfl) (by kernel_rfl) ?_
  rw [show pk3Ops.size - 8 = 1 by kernel_rfl]
  refine ⟨isVal (.pointer (some ⟨g, 0, none⟩)), step_move (.tmp 5) (by kernel_rfl) (wanted_none (by kernel_rfl)) (stable_val _) (knows_old 5 (.pointer (some ⟨g, 0, none⟩)) (by kernel_rfl) e5), ?_⟩
  refine ⟨(isKinds g), step_call 59 #[.tmp 37] #[84] #[.pointer (some ⟨g, 0, none⟩)] (by kernel_rfl) (wanted_none (by kernel_rfl)) (stable_kinds g) (args1 (.tmp 37) (.pointer (some ⟨g, 0, none⟩)) (knows_new (V := isVal (.pointer (some ⟨g, 0, none⟩))) 37 0 (by kernel_rfl) (by kernel_rfl) (by kernel_rfl))) (enters_of Tryz.func59 (by kernel_rfl) rfl) (by intro w hb; exact kinds_any g w), ?_⟩
  refine ⟨isVal (.pointer (some ⟨b, 1, none⟩)), step_field 48 (.tmp 1) 1 ⟨b, 0, none⟩ ⟨b, 1, none⟩ (by kernel_rfl) (wanted_none (by kernel_rfl)) (knows_old 1 (.pointer (some ⟨b, 0, none⟩)) (by kernel_rfl) e1) (field_en b 1 (by omega)), ?_⟩
  refine ⟨isVal (.pointer (some ⟨b, 1, none⟩)), step_field 46 (.tmp 39) 0 ⟨b, 1, none⟩ ⟨b, 1, none⟩ (by kernel_rfl) (wanted_none (by kernel_rfl)) (knows_new (V := isVal (.pointer (some ⟨b, 1, none⟩))) 39 2 (by kernel_rfl) (by kernel_rfl) (by kernel_rfl)) (field_va1 b 0 (by omega)), ?_⟩
  refine ⟨isVal (.int .i64 E.val.kind), step_read 3 (.tmp 40) ⟨b, 1, none⟩ (.int .i64 E.val.kind) (by kernel_rfl) (wanted_none (by kernel_rfl)) (knows_new (V := isVal (.pointer (some ⟨b, 1, none⟩))) 40 3 (by kernel_rfl) (by kernel_rfl) (by kernel_rfl)) (hc.2 1 _ rfl) hc.1 agg_int, ?_⟩
  refine ⟨isVal (.func (.func 90) #[.pointer (some ⟨g, 0, none⟩)] #[]), step_find 92 (.tmp 38) (.tmp 41) g _ (.func (.func 90) #[.pointer (some ⟨g, 0, none⟩)] #[]) (by kernel_rfl) (wanted_none (by kernel_rfl)) (knows_new (V := (isKinds g)) 38 1 (by kernel_rfl) (by kernel_rfl) (by kernel_rfl)) (knows_new (V := isVal (.int .i64 E.val.kind)) 41 4 (by kernel_rfl) (by kernel_rfl) (by kernel_rfl)) (by rw [hk]; exact kind_at g 3 _ 2 (by kernel_rfl)), ?_⟩
  refine ⟨isVal (.pointer (some ⟨b, 1, none⟩)), step_field 48 (.tmp 1) 1 ⟨b, 0, none⟩ ⟨b, 1, none⟩ (by kernel_rfl) (wanted_none (by kernel_rfl)) (knows_old 1 (.pointer (some ⟨b, 0, none⟩)) (by kernel_rfl) e1) (field_en b 1 (by omega)), ?_⟩
  refine ⟨isVal (.agg #[.int .i64 E.val.kind, .int .i64 E.val.time, .int .i64 E.val.node, .bool E.val.dead, .string ⟨E.val.text.toArray⟩, vp, vm, .int .u64 (E.val.flags.toNat : Int)]), step_loadO 46 (.tmp 43) (b) _ [.int .i64 E.val.kind, .int .i64 E.val.time, .int .i64 E.val.node, .bool E.val.dead, .string ⟨E.val.text.toArray⟩, vp, vm, .int .u64 (E.val.flags.toNat : Int)] (by kernel_rfl) (wanted_none (by kernel_rfl)) (knows_new (V := isVal (.pointer (some ⟨b, 1, none⟩))) 43 6 (by kernel_rfl) (by kernel_rfl) (by kernel_rfl)) size_va agg_va hc, ?_⟩
  intro a w hkp hb hd
  have d44 : a.eval (.tmp 44) = _ := fdone_of (hd 7 (by decide)) (t := 44) (V := isVal (.agg #[.int .i64 E.val.kind, .int .i64 E.val.time, .int .i64 E.val.node, .bool E.val.dead, .string ⟨E.val.text.toArray⟩, vp, vm, .int .u64 (E.val.flags.toNat : Int)])) (by kernel_rfl) (by kernel_rfl)
  have d42 : a.eval (.tmp 42) = _ := fdone_of (hd 5 (by decide)) (t := 42) (V := isVal (.func (.func 90) #[.pointer (some ⟨g, 0, none⟩)] #[])) (by kernel_rfl) (by kernel_rfl)
  refine tail_callV (.tmp 42) 90 #[.pointer (some ⟨g, 0, none⟩)] #[.tmp 44] #[46] #[.agg #[.int .i64 E.val.kind, .int .i64 E.val.time, .int .i64 E.val.node, .bool E.val.dead, .string ⟨E.val.text.toArray⟩, vp, vm, .int .u64 (E.val.flags.toNat : Int)]] 45 (by kernel_rfl) (by kernel_rfl) d42 (by simp only [List.map_toArray, List.map_cons, List.map_nil, d44, d42]) (enters_of Tryz.func90 (by kernel_rfl) rfl) ?_
  obtain ⟨y, ey⟩ := kept_ex hkp [some 37, some 38, some 39, some 40, some 41, some 42, some 43, some 44, some 45] [37, 38, 39, 40, 41, 42, 43, 44, 45] (by kernel_rfl) (by decide)
  refine (hC y w hb).mono ?_
  rintro e w' ⟨v, rfl, hq⟩
  exact ⟨v, rfl, put_kept ey hq⟩
set_option maxRecDepth 100000 in
set_option maxHeartbeats 4000000 in
theorem eput_bad (E : En) (v : Value) (w : World) (hv : isEn E v w) (hF : FitE E) (hok : okE E = false) : Calls Tryz.prog 31 #[v] w fun e w' => e = .returned (.tuple #[txt (putF E), .int .i64 (chkE E)]) ∧ Below w.heap.size w w' := by
  have HO := Kept.mk hok
  clear hok
  obtain ⟨vp, vm, rfl, hp, hm⟩ := hv
  have HB := Kept.mk (lit_below w (.cells #[.string ⟨E.key.toArray⟩, .int .i64 E.val.kind, .int .i64 E.val.time, .int .i64 E.val.node, .bool E.val.dead, .string ⟨E.val.text.toArray⟩, vp, vm, .int .u64 (E.val.flags.toNat : Int)] 48))
  have HV := Kept.mk (Blk.new w 48 [.string ⟨E.key.toArray⟩, .int .i64 E.val.kind, .int .i64 E.val.time, .int .i64 E.val.node, .bool E.val.dead, .string ⟨E.val.text.toArray⟩, vp, vm, .int .u64 (E.val.flags.toNat : Int)] w.heap.size rfl)
  have HP := Kept.mk hp
  have HM := Kept.mk hm
  clear hp hm
  have kv0 := HV.out.cells.2 0 _ rfl
  have kv1 := HV.out.cells.2 1 _ rfl
  have kv2 := HV.out.cells.2 2 _ rfl
  have kv3 := HV.out.cells.2 3 _ rfl
  have kv4 := HV.out.cells.2 4 _ rfl
  have kv5 := HV.out.cells.2 5 _ rfl
  have kv6 := HV.out.cells.2 6 _ rfl
  have kv7 := HV.out.cells.2 7 _ rfl
  have kv8 := HV.out.cells.2 8 _ rfl
  go_enter Tryz.func31, Tryz.ntmps31
  go_wp2_with fail
  clear kv0 kv1 kv2 kv3 kv4 kv5 kv6 kv7 kv8
  generalize w.alloc (.cells #[.string ⟨E.key.toArray⟩, .int .i64 E.val.kind, .int .i64 E.val.time, .int .i64 E.val.node, .bool E.val.dead, .string ⟨E.val.text.toArray⟩, vp, vm, .int .u64 (E.val.flags.toNat : Int)] 48) = W0 at *
  have hs0 := HV.out.lt
  refine (echeck_any E _ W0 ⟨vp, vm, rfl, stable_cells _ _ _ _ HP.out HB.out, stable_cells _ _ _ _ HM.out HB.out⟩ hF).mono ?_
  rintro e W1 ⟨rfl, hb⟩
  replace HV := Kept.mk (HV.out.keep hb)
  replace HB := Kept.mk (HB.out.trans (hb.mono HB.out.size))
  have hs1 := hb.size
  clear hb
  have hC : chkE E = 2 := by unfold chkE; rw [HO.out]; rfl
  rw [hC]
  have HC := Kept.mk hC
  clear hC
  go_wp2
  go_ret2
  have e1 : putF E = [] := by unfold putF; rw [HO.out]; rfl
  refine ⟨?_, HB.out⟩
  rw [e1, HC.out]
  rfl
set_option maxRecDepth 100000 in
set_option maxHeartbeats 4000000 in
theorem eput_1 (E : En) (v : Value) (w : World) (hv : isEn E v w) (hF : FitE E) (hok : okE E = true) (hk : E.val.kind = 1) : Calls Tryz.prog 31 #[v] w fun e w' => e = .returned (.tuple #[txt (putF E), .int .i64 (chkE E)]) ∧ Below w.heap.size w w' := by
  have HO := Kept.mk hok
  have HK := Kept.mk hk
  have hl := length_head hok
  have HL := Kept.mk (length_putEn hok)
  have hdl := (length_data_le (show okV E.val = true by unfold okE at hok; rw [Bool.and_eq_true] at hok; exact hok.2)).1
  have hkl : 1 ≤ E.key.length ∧ E.key.length ≤ 8 := by simp only [okE, Bool.and_eq_true, decide_eq_true_eq] at hok; exact hok.1
  have HI := Kept.mk (show inReg E.val = true by unfold okE okV kindN at hok; rw [if_pos hk] at hok; rw [Bool.and_eq_true] at hok; have h2 := hok.2; split at h2; rename_i h3; rw [Bool.and_eq_true] at h3; exact h3.1; simp at h2)
  have hkz : 0 ≤ E.val.kind ∧ E.val.kind ≤ 3 := by omega
  clear hok hk
  obtain ⟨vp, vm, rfl, hp, hm⟩ := hv
  have HB := Kept.mk (lit_below w (.cells #[.string ⟨E.key.toArray⟩, .int .i64 E.val.kind, .int .i64 E.val.time, .int .i64 E.val.node, .bool E.val.dead, .string ⟨E.val.text.toArray⟩, vp, vm, .int .u64 (E.val.flags.toNat : Int)] 48))
  have HV := Kept.mk (Blk.new w 48 [.string ⟨E.key.toArray⟩, .int .i64 E.val.kind, .int .i64 E.val.time, .int .i64 E.val.node, .bool E.val.dead, .string ⟨E.val.text.toArray⟩, vp, vm, .int .u64 (E.val.flags.toNat : Int)] w.heap.size rfl)
  have HP := Kept.mk hp
  have HM := Kept.mk hm
  clear hp hm
  have kv0 := HV.out.cells.2 0 _ rfl
  have kv1 := HV.out.cells.2 1 _ rfl
  have kv2 := HV.out.cells.2 2 _ rfl
  have kv3 := HV.out.cells.2 3 _ rfl
  have kv4 := HV.out.cells.2 4 _ rfl
  have kv5 := HV.out.cells.2 5 _ rfl
  have kv6 := HV.out.cells.2 6 _ rfl
  have kv7 := HV.out.cells.2 7 _ rfl
  have kv8 := HV.out.cells.2 8 _ rfl
  go_enter Tryz.func31, Tryz.ntmps31
  go_wp2_with fail
  clear kv0 kv1 kv2 kv3 kv4 kv5 kv6 kv7 kv8
  generalize w.alloc (.cells #[.string ⟨E.key.toArray⟩, .int .i64 E.val.kind, .int .i64 E.val.time, .int .i64 E.val.node, .bool E.val.dead, .string ⟨E.val.text.toArray⟩, vp, vm, .int .u64 (E.val.flags.toNat : Int)] 48) = W0 at *
  have hs0 := HV.out.lt
  refine (echeck_any E _ W0 ⟨vp, vm, rfl, stable_cells _ _ _ _ HP.out HB.out, stable_cells _ _ _ _ HM.out HB.out⟩ hF).mono ?_
  rintro e W1 ⟨rfl, hb⟩
  replace HV := Kept.mk (HV.out.keep hb)
  replace HB := Kept.mk (HB.out.trans (hb.mono HB.out.size))
  have hs1 := hb.size
  clear hb
  have hC : chkE E = 0 := by unfold chkE; rw [HO.out]; rfl
  rw [hC]
  have HC := Kept.mk hC
  clear hC
  go_wp2_with fail
  have HW := Kept.mk (Wr.refl (show At (W1.alloc (.cells #[.string ⟨#[]⟩] 87)) W1.heap.size (txt []) from (fun b => ⟨b.cells.2 0 _ rfl, b.free 0, b.lt⟩) (Blk.new W1 87 [.string ⟨#[]⟩] W1.heap.size rfl)))
  replace HV := Kept.mk (HV.out.alloc (.cells #[.string ⟨#[]⟩] 87))
  replace HB := Kept.mk (HB.out.alloc HB.out.size (.cells #[.string ⟨#[]⟩] 87))
  generalize hW2 : W1.alloc (.cells #[.string ⟨#[]⟩] 87) = W2 at *
  clear hW2
  generalize hg : W1.heap.size = g at *
  clear hg
  refine pu1_region _ _ _ rfl E g w.heap.size vp vm rfl rfl HV.out.cells ?_
  intro y9 W9 hb9
  replace HW := Kept.mk (HW.out.then_ hb9)
  replace HV := Kept.mk (HV.out.keep hb9)
  replace HB := Kept.mk (HB.out.trans (hb9.mono HB.out.size))
  have hs9 := hb9.size
  clear hb9
  refine (number_z g [] E.val.kind 1 W9 HW.out.at_ (by simp) hkz.1 (by omega) (by omega) (by omega) (by show _ < 256; omega)).mono ?_
  rintro e W3 ⟨rfl, hw⟩
  replace HW := Kept.mk (HW.out.trans hw)
  replace HV := Kept.mk (HV.out.wr hw (by omega))
  replace HB := Kept.mk (HB.out.trans (hw.below (by omega) (by have := HB.out.size; omega)))
  clear hw hs9
  refine ⟨_, rfl, ?_⟩
  simp only [List.foldl_cons, List.foldl_nil]
  generalize y9 13 = z13
  generalize y9 14 = z14
  generalize y9 15 = z15
  generalize y9 16 = z16
  generalize y9 17 = z17
  generalize y9 18 = z18
  generalize y9 19 = z19
  simp only [List.setIfInBounds_toArray, List.set_cons_succ, List.set_cons_zero]
  clear y9
  go_wp2_with fail
  rw [List.nil_append] at HW
  refine pu2_region _ _ _ rfl E g w.heap.size vp vm rfl rfl HV.out.cells ?_
  intro y9 W9 hb9
  replace HW := Kept.mk (HW.out.then_ hb9)
  replace HV := Kept.mk (HV.out.keep hb9)
  replace HB := Kept.mk (HB.out.trans (hb9.mono HB.out.size))
  have hs9 := hb9.size
  clear hb9
  refine (number_z g (putL E.val.kind.toNat 1) (E.key.length : Int) 1 W9 HW.out.at_ (by rw [length_putL]; omega) (by omega) (by omega) (by omega) (by omega) (by show _ < 256; omega)).mono ?_
  rintro e W4 ⟨rfl, hw⟩
  replace HW := Kept.mk (HW.out.trans hw)
  replace HV := Kept.mk (HV.out.wr hw (by omega))
  replace HB := Kept.mk (HB.out.trans (hw.below (by omega) (by have := HB.out.size; omega)))
  clear hw hs9
  refine ⟨_, rfl, ?_⟩
  simp only [List.foldl_cons, List.foldl_nil]
  generalize y9 20 = z20
  generalize y9 21 = z21
  generalize y9 22 = z22
  generalize y9 23 = z23
  generalize y9 24 = z24
  generalize y9 25 = z25
  generalize y9 26 = z26
  simp only [List.setIfInBounds_toArray, List.set_cons_succ, List.set_cons_zero]
  clear y9
  go_wp2_with fail
  refine pu3_region _ _ _ rfl E g w.heap.size vp vm rfl rfl HV.out.cells ?_
  intro y9 W9 hb9
  replace HW := Kept.mk (HW.out.then_ hb9)
  replace HV := Kept.mk (HV.out.keep hb9)
  replace HB := Kept.mk (HB.out.trans (hb9.mono HB.out.size))
  have hs9 := hb9.size
  clear hb9
  refine (add_any g (putL E.val.kind.toNat 1 ++ putL (E.key.length : Int).toNat 1) E.key W9 HW.out.at_ (by simp only [List.length_append, length_putL]; omega) (by omega)).mono ?_
  rintro e W5 ⟨rfl, hw⟩
  replace HW := Kept.mk (HW.out.trans hw)
  replace HV := Kept.mk (HV.out.wr hw (by omega))
  replace HB := Kept.mk (HB.out.trans (hw.below (by omega) (by have := HB.out.size; omega)))
  clear hw hs9
  refine ⟨_, rfl, ?_⟩
  simp only [List.foldl_cons, List.foldl_nil]
  generalize y9 27 = z27
  generalize y9 28 = z28
  generalize y9 29 = z29
  generalize y9 30 = z30
  generalize y9 31 = z31
  generalize y9 32 = z32
  simp only [List.setIfInBounds_toArray, List.set_cons_succ, List.set_cons_zero]
  clear y9
  go_wp2_with fail
  refine (fill_any g ((putL E.val.kind.toNat 1 ++ putL (E.key.length : Int).toNat 1) ++ E.key) 10 W5 HW.out.at_ (by simp only [List.length_append, length_putL]; omega) (by omega)).mono ?_
  rintro e W6 ⟨rfl, hw⟩
  replace HW := Kept.mk (HW.out.trans hw)
  replace HV := Kept.mk (HV.out.wr hw (by omega))
  replace HB := Kept.mk (HB.out.trans (hw.below (by omega) (by have := HB.out.size; omega)))
  clear hw
  have eh : ((putL E.val.kind.toNat 1 ++ putL (E.key.length : Int).toNat 1) ++ E.key) ++ zerosL (10 - ((putL E.val.kind.toNat 1 ++ putL (E.key.length : Int).toNat 1) ++ E.key).length) = headL E := by
    have e1 : 10 - ((putL E.val.kind.toNat 1 ++ putL (E.key.length : Int).toNat 1) ++ E.key).length = 8 - E.key.length := by simp only [List.length_append, length_putL]; omega
    rw [e1]
    unfold headL
    simp only [List.append_assoc, Int.toNat_natCast]
  rw [eh] at HW
  clear eh
  go_wp2_with fail
  refine pk1_region _ _ _ rfl E g w.heap.size vp vm rfl rfl HV.out.cells HK.out ?_
  intro y9 W9 hb9
  replace HW := Kept.mk (HW.out.then_ hb9)
  replace HV := Kept.mk (HV.out.keep hb9)
  replace HB := Kept.mk (HB.out.trans (hb9.mono HB.out.size))
  have hs9 := hb9.size
  clear hb9
  refine (wreg_any E.val g (headL E) _ W9 ⟨vp, vm, rfl, stable_cells _ _ _ _ HP.out HB.out, stable_cells _ _ _ _ HM.out HB.out⟩ HW.out.at_ (by omega) HK.out HI.out).mono ?_
  rintro e W7 ⟨rfl, hw⟩
  replace HW := Kept.mk (HW.out.trans hw)
  replace HV := Kept.mk (HV.out.wr hw (by omega))
  replace HB := Kept.mk (HB.out.trans (hw.below (by omega) (by have := HB.out.size; omega)))
  clear hw hs9
  refine ⟨_, rfl, ?_⟩
  simp only [List.foldl_cons, List.foldl_nil]
  generalize y9 37 = z37
  generalize y9 38 = z38
  generalize y9 39 = z39
  generalize y9 40 = z40
  generalize y9 41 = z41
  generalize y9 42 = z42
  generalize y9 43 = z43
  generalize y9 44 = z44
  generalize y9 45 = z45
  simp only [List.setIfInBounds_toArray, List.set_cons_succ, List.set_cons_zero]
  clear y9
  go_wp2_with fail
  refine (fill_any g (headL E ++ dataL E.val) 42 W7 HW.out.at_ (by rw [List.length_append]; omega) (by omega)).mono ?_
  rintro e W8 ⟨rfl, hw⟩
  replace HW := Kept.mk (HW.out.trans hw)
  replace HV := Kept.mk (HV.out.wr hw (by omega))
  replace HB := Kept.mk (HB.out.trans (hw.below (by omega) (by have := HB.out.size; omega)))
  clear hw
  have eh : (headL E ++ dataL E.val) ++ zerosL (42 - (headL E ++ dataL E.val).length) = putEn E := by
    have e1 : 42 - (headL E ++ dataL E.val).length = 32 - (dataL E.val).length := by rw [List.length_append]; omega
    rw [e1]
    unfold putEn
    rw [List.append_assoc]
  rw [eh] at HW
  clear eh
  have kc := HW.out.at_.cell
  go_wp2
  go_ret2
  refine ⟨?_, HB.out⟩
  have e1 : putF E = putEn E := by unfold putF; rw [HO.out]; rfl
  rw [e1, HC.out]
  rfl
set_option maxRecDepth 100000 in
set_option maxHeartbeats 4000000 in
theorem eput_2 (E : En) (v : Value) (w : World) (hv : isEn E v w) (hF : FitE E) (hok : okE E = true) (hk : E.val.kind = 2) : Calls Tryz.prog 31 #[v] w fun e w' => e = .returned (.tuple #[txt (putF E), .int .i64 (chkE E)]) ∧ Below w.heap.size w w' := by
  have HO := Kept.mk hok
  have HK := Kept.mk hk
  have hl := length_head hok
  have HL := Kept.mk (length_putEn hok)
  have hdl := (length_data_le (show okV E.val = true by unfold okE at hok; rw [Bool.and_eq_true] at hok; exact hok.2)).1
  have hkl : 1 ≤ E.key.length ∧ E.key.length ≤ 8 := by simp only [okE, Bool.and_eq_true, decide_eq_true_eq] at hok; exact hok.1
  have HI := Kept.mk (show inCount E.val = true by unfold okE okV kindN at hok; rw [if_neg (by rw [hk]; decide), if_pos hk] at hok; rw [Bool.and_eq_true] at hok; have h2 := hok.2; split at h2; rename_i h3; rw [Bool.and_eq_true] at h3; exact h3.1; simp at h2)
  have HI2 := Kept.mk (show E.val.plus.length = 8 ∧ E.val.minus.length = 8 by have := HI.out; simp only [inCount, okRow, Bool.and_eq_true, decide_eq_true_eq] at this; exact ⟨this.1.1, this.2.1⟩)
  have hkz : 0 ≤ E.val.kind ∧ E.val.kind ≤ 3 := by omega
  clear hok hk
  obtain ⟨vp, vm, rfl, hp, hm⟩ := hv
  have HB := Kept.mk (lit_below w (.cells #[.string ⟨E.key.toArray⟩, .int .i64 E.val.kind, .int .i64 E.val.time, .int .i64 E.val.node, .bool E.val.dead, .string ⟨E.val.text.toArray⟩, vp, vm, .int .u64 (E.val.flags.toNat : Int)] 48))
  have HV := Kept.mk (Blk.new w 48 [.string ⟨E.key.toArray⟩, .int .i64 E.val.kind, .int .i64 E.val.time, .int .i64 E.val.node, .bool E.val.dead, .string ⟨E.val.text.toArray⟩, vp, vm, .int .u64 (E.val.flags.toNat : Int)] w.heap.size rfl)
  have HP := Kept.mk hp
  have HM := Kept.mk hm
  clear hp hm
  have kv0 := HV.out.cells.2 0 _ rfl
  have kv1 := HV.out.cells.2 1 _ rfl
  have kv2 := HV.out.cells.2 2 _ rfl
  have kv3 := HV.out.cells.2 3 _ rfl
  have kv4 := HV.out.cells.2 4 _ rfl
  have kv5 := HV.out.cells.2 5 _ rfl
  have kv6 := HV.out.cells.2 6 _ rfl
  have kv7 := HV.out.cells.2 7 _ rfl
  have kv8 := HV.out.cells.2 8 _ rfl
  go_enter Tryz.func31, Tryz.ntmps31
  go_wp2_with fail
  clear kv0 kv1 kv2 kv3 kv4 kv5 kv6 kv7 kv8
  generalize w.alloc (.cells #[.string ⟨E.key.toArray⟩, .int .i64 E.val.kind, .int .i64 E.val.time, .int .i64 E.val.node, .bool E.val.dead, .string ⟨E.val.text.toArray⟩, vp, vm, .int .u64 (E.val.flags.toNat : Int)] 48) = W0 at *
  have hs0 := HV.out.lt
  refine (echeck_any E _ W0 ⟨vp, vm, rfl, stable_cells _ _ _ _ HP.out HB.out, stable_cells _ _ _ _ HM.out HB.out⟩ hF).mono ?_
  rintro e W1 ⟨rfl, hb⟩
  replace HV := Kept.mk (HV.out.keep hb)
  replace HB := Kept.mk (HB.out.trans (hb.mono HB.out.size))
  have hs1 := hb.size
  clear hb
  have hC : chkE E = 0 := by unfold chkE; rw [HO.out]; rfl
  rw [hC]
  have HC := Kept.mk hC
  clear hC
  go_wp2_with fail
  have HW := Kept.mk (Wr.refl (show At (W1.alloc (.cells #[.string ⟨#[]⟩] 87)) W1.heap.size (txt []) from (fun b => ⟨b.cells.2 0 _ rfl, b.free 0, b.lt⟩) (Blk.new W1 87 [.string ⟨#[]⟩] W1.heap.size rfl)))
  replace HV := Kept.mk (HV.out.alloc (.cells #[.string ⟨#[]⟩] 87))
  replace HB := Kept.mk (HB.out.alloc HB.out.size (.cells #[.string ⟨#[]⟩] 87))
  generalize hW2 : W1.alloc (.cells #[.string ⟨#[]⟩] 87) = W2 at *
  clear hW2
  generalize hg : W1.heap.size = g at *
  clear hg
  refine pu1_region _ _ _ rfl E g w.heap.size vp vm rfl rfl HV.out.cells ?_
  intro y9 W9 hb9
  replace HW := Kept.mk (HW.out.then_ hb9)
  replace HV := Kept.mk (HV.out.keep hb9)
  replace HB := Kept.mk (HB.out.trans (hb9.mono HB.out.size))
  have hs9 := hb9.size
  clear hb9
  refine (number_z g [] E.val.kind 1 W9 HW.out.at_ (by simp) hkz.1 (by omega) (by omega) (by omega) (by show _ < 256; omega)).mono ?_
  rintro e W3 ⟨rfl, hw⟩
  replace HW := Kept.mk (HW.out.trans hw)
  replace HV := Kept.mk (HV.out.wr hw (by omega))
  replace HB := Kept.mk (HB.out.trans (hw.below (by omega) (by have := HB.out.size; omega)))
  clear hw hs9
  refine ⟨_, rfl, ?_⟩
  simp only [List.foldl_cons, List.foldl_nil]
  generalize y9 13 = z13
  generalize y9 14 = z14
  generalize y9 15 = z15
  generalize y9 16 = z16
  generalize y9 17 = z17
  generalize y9 18 = z18
  generalize y9 19 = z19
  simp only [List.setIfInBounds_toArray, List.set_cons_succ, List.set_cons_zero]
  clear y9
  go_wp2_with fail
  rw [List.nil_append] at HW
  refine pu2_region _ _ _ rfl E g w.heap.size vp vm rfl rfl HV.out.cells ?_
  intro y9 W9 hb9
  replace HW := Kept.mk (HW.out.then_ hb9)
  replace HV := Kept.mk (HV.out.keep hb9)
  replace HB := Kept.mk (HB.out.trans (hb9.mono HB.out.size))
  have hs9 := hb9.size
  clear hb9
  refine (number_z g (putL E.val.kind.toNat 1) (E.key.length : Int) 1 W9 HW.out.at_ (by rw [length_putL]; omega) (by omega) (by omega) (by omega) (by omega) (by show _ < 256; omega)).mono ?_
  rintro e W4 ⟨rfl, hw⟩
  replace HW := Kept.mk (HW.out.trans hw)
  replace HV := Kept.mk (HV.out.wr hw (by omega))
  replace HB := Kept.mk (HB.out.trans (hw.below (by omega) (by have := HB.out.size; omega)))
  clear hw hs9
  refine ⟨_, rfl, ?_⟩
  simp only [List.foldl_cons, List.foldl_nil]
  generalize y9 20 = z20
  generalize y9 21 = z21
  generalize y9 22 = z22
  generalize y9 23 = z23
  generalize y9 24 = z24
  generalize y9 25 = z25
  generalize y9 26 = z26
  simp only [List.setIfInBounds_toArray, List.set_cons_succ, List.set_cons_zero]
  clear y9
  go_wp2_with fail
  refine pu3_region _ _ _ rfl E g w.heap.size vp vm rfl rfl HV.out.cells ?_
  intro y9 W9 hb9
  replace HW := Kept.mk (HW.out.then_ hb9)
  replace HV := Kept.mk (HV.out.keep hb9)
  replace HB := Kept.mk (HB.out.trans (hb9.mono HB.out.size))
  have hs9 := hb9.size
  clear hb9
  refine (add_any g (putL E.val.kind.toNat 1 ++ putL (E.key.length : Int).toNat 1) E.key W9 HW.out.at_ (by simp only [List.length_append, length_putL]; omega) (by omega)).mono ?_
  rintro e W5 ⟨rfl, hw⟩
  replace HW := Kept.mk (HW.out.trans hw)
  replace HV := Kept.mk (HV.out.wr hw (by omega))
  replace HB := Kept.mk (HB.out.trans (hw.below (by omega) (by have := HB.out.size; omega)))
  clear hw hs9
  refine ⟨_, rfl, ?_⟩
  simp only [List.foldl_cons, List.foldl_nil]
  generalize y9 27 = z27
  generalize y9 28 = z28
  generalize y9 29 = z29
  generalize y9 30 = z30
  generalize y9 31 = z31
  generalize y9 32 = z32
  simp only [List.setIfInBounds_toArray, List.set_cons_succ, List.set_cons_zero]
  clear y9
  go_wp2_with fail
  refine (fill_any g ((putL E.val.kind.toNat 1 ++ putL (E.key.length : Int).toNat 1) ++ E.key) 10 W5 HW.out.at_ (by simp only [List.length_append, length_putL]; omega) (by omega)).mono ?_
  rintro e W6 ⟨rfl, hw⟩
  replace HW := Kept.mk (HW.out.trans hw)
  replace HV := Kept.mk (HV.out.wr hw (by omega))
  replace HB := Kept.mk (HB.out.trans (hw.below (by omega) (by have := HB.out.size; omega)))
  clear hw
  have eh : ((putL E.val.kind.toNat 1 ++ putL (E.key.length : Int).toNat 1) ++ E.key) ++ zerosL (10 - ((putL E.val.kind.toNat 1 ++ putL (E.key.length : Int).toNat 1) ++ E.key).length) = headL E := by
    have e1 : 10 - ((putL E.val.kind.toNat 1 ++ putL (E.key.length : Int).toNat 1) ++ E.key).length = 8 - E.key.length := by simp only [List.length_append, length_putL]; omega
    rw [e1]
    unfold headL
    simp only [List.append_assoc, Int.toNat_natCast]
  rw [eh] at HW
  clear eh
  go_wp2_with fail
  refine pk2_region _ _ _ rfl E g w.heap.size vp vm rfl rfl HV.out.cells HK.out ?_
  intro y9 W9 hb9
  replace HW := Kept.mk (HW.out.then_ hb9)
  replace HV := Kept.mk (HV.out.keep hb9)
  replace HB := Kept.mk (HB.out.trans (hb9.mono HB.out.size))
  have hs9 := hb9.size
  clear hb9
  refine (wcount_any E.val g (headL E) vp vm W9 (stable_cells _ _ _ _ HP.out HB.out) (stable_cells _ _ _ _ HM.out HB.out) (old_blk HP.out (by rw [List.length_map, HI2.out.1]; omega) (by omega)) (old_blk HM.out (by rw [List.length_map, HI2.out.2]; omega) (by omega)) HW.out.at_ (by omega) HK.out HI.out).mono ?_
  rintro e W7 ⟨rfl, hw⟩
  replace HW := Kept.mk (HW.out.trans hw)
  replace HV := Kept.mk (HV.out.wr hw (by omega))
  replace HB := Kept.mk (HB.out.trans (hw.below (by omega) (by have := HB.out.size; omega)))
  clear hw hs9
  refine ⟨_, rfl, ?_⟩
  simp only [List.foldl_cons, List.foldl_nil]
  generalize y9 37 = z37
  generalize y9 38 = z38
  generalize y9 39 = z39
  generalize y9 40 = z40
  generalize y9 41 = z41
  generalize y9 42 = z42
  generalize y9 43 = z43
  generalize y9 44 = z44
  generalize y9 45 = z45
  simp only [List.setIfInBounds_toArray, List.set_cons_succ, List.set_cons_zero]
  clear y9
  go_wp2_with fail
  refine (fill_any g (headL E ++ dataL E.val) 42 W7 HW.out.at_ (by rw [List.length_append]; omega) (by omega)).mono ?_
  rintro e W8 ⟨rfl, hw⟩
  replace HW := Kept.mk (HW.out.trans hw)
  replace HV := Kept.mk (HV.out.wr hw (by omega))
  replace HB := Kept.mk (HB.out.trans (hw.below (by omega) (by have := HB.out.size; omega)))
  clear hw
  have eh : (headL E ++ dataL E.val) ++ zerosL (42 - (headL E ++ dataL E.val).length) = putEn E := by
    have e1 : 42 - (headL E ++ dataL E.val).length = 32 - (dataL E.val).length := by rw [List.length_append]; omega
    rw [e1]
    unfold putEn
    rw [List.append_assoc]
  rw [eh] at HW
  clear eh
  have kc := HW.out.at_.cell
  go_wp2
  go_ret2
  refine ⟨?_, HB.out⟩
  have e1 : putF E = putEn E := by unfold putF; rw [HO.out]; rfl
  rw [e1, HC.out]
  rfl
set_option maxRecDepth 100000 in
set_option maxHeartbeats 4000000 in
theorem eput_3 (E : En) (v : Value) (w : World) (hv : isEn E v w) (hF : FitE E) (hok : okE E = true) (hk : E.val.kind = 3) : Calls Tryz.prog 31 #[v] w fun e w' => e = .returned (.tuple #[txt (putF E), .int .i64 (chkE E)]) ∧ Below w.heap.size w w' := by
  have HO := Kept.mk hok
  have HK := Kept.mk hk
  have hl := length_head hok
  have HL := Kept.mk (length_putEn hok)
  have hdl := (length_data_le (show okV E.val = true by unfold okE at hok; rw [Bool.and_eq_true] at hok; exact hok.2)).1
  have hkl : 1 ≤ E.key.length ∧ E.key.length ≤ 8 := by simp only [okE, Bool.and_eq_true, decide_eq_true_eq] at hok; exact hok.1
  have hkz : 0 ≤ E.val.kind ∧ E.val.kind ≤ 3 := by omega
  clear hok hk
  obtain ⟨vp, vm, rfl, hp, hm⟩ := hv
  have HB := Kept.mk (lit_below w (.cells #[.string ⟨E.key.toArray⟩, .int .i64 E.val.kind, .int .i64 E.val.time, .int .i64 E.val.node, .bool E.val.dead, .string ⟨E.val.text.toArray⟩, vp, vm, .int .u64 (E.val.flags.toNat : Int)] 48))
  have HV := Kept.mk (Blk.new w 48 [.string ⟨E.key.toArray⟩, .int .i64 E.val.kind, .int .i64 E.val.time, .int .i64 E.val.node, .bool E.val.dead, .string ⟨E.val.text.toArray⟩, vp, vm, .int .u64 (E.val.flags.toNat : Int)] w.heap.size rfl)
  have HP := Kept.mk hp
  have HM := Kept.mk hm
  clear hp hm
  have kv0 := HV.out.cells.2 0 _ rfl
  have kv1 := HV.out.cells.2 1 _ rfl
  have kv2 := HV.out.cells.2 2 _ rfl
  have kv3 := HV.out.cells.2 3 _ rfl
  have kv4 := HV.out.cells.2 4 _ rfl
  have kv5 := HV.out.cells.2 5 _ rfl
  have kv6 := HV.out.cells.2 6 _ rfl
  have kv7 := HV.out.cells.2 7 _ rfl
  have kv8 := HV.out.cells.2 8 _ rfl
  go_enter Tryz.func31, Tryz.ntmps31
  go_wp2_with fail
  clear kv0 kv1 kv2 kv3 kv4 kv5 kv6 kv7 kv8
  generalize w.alloc (.cells #[.string ⟨E.key.toArray⟩, .int .i64 E.val.kind, .int .i64 E.val.time, .int .i64 E.val.node, .bool E.val.dead, .string ⟨E.val.text.toArray⟩, vp, vm, .int .u64 (E.val.flags.toNat : Int)] 48) = W0 at *
  have hs0 := HV.out.lt
  refine (echeck_any E _ W0 ⟨vp, vm, rfl, stable_cells _ _ _ _ HP.out HB.out, stable_cells _ _ _ _ HM.out HB.out⟩ hF).mono ?_
  rintro e W1 ⟨rfl, hb⟩
  replace HV := Kept.mk (HV.out.keep hb)
  replace HB := Kept.mk (HB.out.trans (hb.mono HB.out.size))
  have hs1 := hb.size
  clear hb
  have hC : chkE E = 0 := by unfold chkE; rw [HO.out]; rfl
  rw [hC]
  have HC := Kept.mk hC
  clear hC
  go_wp2_with fail
  have HW := Kept.mk (Wr.refl (show At (W1.alloc (.cells #[.string ⟨#[]⟩] 87)) W1.heap.size (txt []) from (fun b => ⟨b.cells.2 0 _ rfl, b.free 0, b.lt⟩) (Blk.new W1 87 [.string ⟨#[]⟩] W1.heap.size rfl)))
  replace HV := Kept.mk (HV.out.alloc (.cells #[.string ⟨#[]⟩] 87))
  replace HB := Kept.mk (HB.out.alloc HB.out.size (.cells #[.string ⟨#[]⟩] 87))
  generalize hW2 : W1.alloc (.cells #[.string ⟨#[]⟩] 87) = W2 at *
  clear hW2
  generalize hg : W1.heap.size = g at *
  clear hg
  refine pu1_region _ _ _ rfl E g w.heap.size vp vm rfl rfl HV.out.cells ?_
  intro y9 W9 hb9
  replace HW := Kept.mk (HW.out.then_ hb9)
  replace HV := Kept.mk (HV.out.keep hb9)
  replace HB := Kept.mk (HB.out.trans (hb9.mono HB.out.size))
  have hs9 := hb9.size
  clear hb9
  refine (number_z g [] E.val.kind 1 W9 HW.out.at_ (by simp) hkz.1 (by omega) (by omega) (by omega) (by show _ < 256; omega)).mono ?_
  rintro e W3 ⟨rfl, hw⟩
  replace HW := Kept.mk (HW.out.trans hw)
  replace HV := Kept.mk (HV.out.wr hw (by omega))
  replace HB := Kept.mk (HB.out.trans (hw.below (by omega) (by have := HB.out.size; omega)))
  clear hw hs9
  refine ⟨_, rfl, ?_⟩
  simp only [List.foldl_cons, List.foldl_nil]
  generalize y9 13 = z13
  generalize y9 14 = z14
  generalize y9 15 = z15
  generalize y9 16 = z16
  generalize y9 17 = z17
  generalize y9 18 = z18
  generalize y9 19 = z19
  simp only [List.setIfInBounds_toArray, List.set_cons_succ, List.set_cons_zero]
  clear y9
  go_wp2_with fail
  rw [List.nil_append] at HW
  refine pu2_region _ _ _ rfl E g w.heap.size vp vm rfl rfl HV.out.cells ?_
  intro y9 W9 hb9
  replace HW := Kept.mk (HW.out.then_ hb9)
  replace HV := Kept.mk (HV.out.keep hb9)
  replace HB := Kept.mk (HB.out.trans (hb9.mono HB.out.size))
  have hs9 := hb9.size
  clear hb9
  refine (number_z g (putL E.val.kind.toNat 1) (E.key.length : Int) 1 W9 HW.out.at_ (by rw [length_putL]; omega) (by omega) (by omega) (by omega) (by omega) (by show _ < 256; omega)).mono ?_
  rintro e W4 ⟨rfl, hw⟩
  replace HW := Kept.mk (HW.out.trans hw)
  replace HV := Kept.mk (HV.out.wr hw (by omega))
  replace HB := Kept.mk (HB.out.trans (hw.below (by omega) (by have := HB.out.size; omega)))
  clear hw hs9
  refine ⟨_, rfl, ?_⟩
  simp only [List.foldl_cons, List.foldl_nil]
  generalize y9 20 = z20
  generalize y9 21 = z21
  generalize y9 22 = z22
  generalize y9 23 = z23
  generalize y9 24 = z24
  generalize y9 25 = z25
  generalize y9 26 = z26
  simp only [List.setIfInBounds_toArray, List.set_cons_succ, List.set_cons_zero]
  clear y9
  go_wp2_with fail
  refine pu3_region _ _ _ rfl E g w.heap.size vp vm rfl rfl HV.out.cells ?_
  intro y9 W9 hb9
  replace HW := Kept.mk (HW.out.then_ hb9)
  replace HV := Kept.mk (HV.out.keep hb9)
  replace HB := Kept.mk (HB.out.trans (hb9.mono HB.out.size))
  have hs9 := hb9.size
  clear hb9
  refine (add_any g (putL E.val.kind.toNat 1 ++ putL (E.key.length : Int).toNat 1) E.key W9 HW.out.at_ (by simp only [List.length_append, length_putL]; omega) (by omega)).mono ?_
  rintro e W5 ⟨rfl, hw⟩
  replace HW := Kept.mk (HW.out.trans hw)
  replace HV := Kept.mk (HV.out.wr hw (by omega))
  replace HB := Kept.mk (HB.out.trans (hw.below (by omega) (by have := HB.out.size; omega)))
  clear hw hs9
  refine ⟨_, rfl, ?_⟩
  simp only [List.foldl_cons, List.foldl_nil]
  generalize y9 27 = z27
  generalize y9 28 = z28
  generalize y9 29 = z29
  generalize y9 30 = z30
  generalize y9 31 = z31
  generalize y9 32 = z32
  simp only [List.setIfInBounds_toArray, List.set_cons_succ, List.set_cons_zero]
  clear y9
  go_wp2_with fail
  refine (fill_any g ((putL E.val.kind.toNat 1 ++ putL (E.key.length : Int).toNat 1) ++ E.key) 10 W5 HW.out.at_ (by simp only [List.length_append, length_putL]; omega) (by omega)).mono ?_
  rintro e W6 ⟨rfl, hw⟩
  replace HW := Kept.mk (HW.out.trans hw)
  replace HV := Kept.mk (HV.out.wr hw (by omega))
  replace HB := Kept.mk (HB.out.trans (hw.below (by omega) (by have := HB.out.size; omega)))
  clear hw
  have eh : ((putL E.val.kind.toNat 1 ++ putL (E.key.length : Int).toNat 1) ++ E.key) ++ zerosL (10 - ((putL E.val.kind.toNat 1 ++ putL (E.key.length : Int).toNat 1) ++ E.key).length) = headL E := by
    have e1 : 10 - ((putL E.val.kind.toNat 1 ++ putL (E.key.length : Int).toNat 1) ++ E.key).length = 8 - E.key.length := by simp only [List.length_append, length_putL]; omega
    rw [e1]
    unfold headL
    simp only [List.append_assoc, Int.toNat_natCast]
  rw [eh] at HW
  clear eh
  go_wp2_with fail
  refine pk3_region _ _ _ rfl E g w.heap.size vp vm rfl rfl HV.out.cells HK.out ?_
  intro y9 W9 hb9
  replace HW := Kept.mk (HW.out.then_ hb9)
  replace HV := Kept.mk (HV.out.keep hb9)
  replace HB := Kept.mk (HB.out.trans (hb9.mono HB.out.size))
  have hs9 := hb9.size
  clear hb9
  refine (wflags_any E.val g (headL E) _ W9 ⟨vp, vm, rfl, stable_cells _ _ _ _ HP.out HB.out, stable_cells _ _ _ _ HM.out HB.out⟩ HW.out.at_ (by omega) HK.out).mono ?_
  rintro e W7 ⟨rfl, hw⟩
  replace HW := Kept.mk (HW.out.trans hw)
  replace HV := Kept.mk (HV.out.wr hw (by omega))
  replace HB := Kept.mk (HB.out.trans (hw.below (by omega) (by have := HB.out.size; omega)))
  clear hw hs9
  refine ⟨_, rfl, ?_⟩
  simp only [List.foldl_cons, List.foldl_nil]
  generalize y9 37 = z37
  generalize y9 38 = z38
  generalize y9 39 = z39
  generalize y9 40 = z40
  generalize y9 41 = z41
  generalize y9 42 = z42
  generalize y9 43 = z43
  generalize y9 44 = z44
  generalize y9 45 = z45
  simp only [List.setIfInBounds_toArray, List.set_cons_succ, List.set_cons_zero]
  clear y9
  go_wp2_with fail
  refine (fill_any g (headL E ++ dataL E.val) 42 W7 HW.out.at_ (by rw [List.length_append]; omega) (by omega)).mono ?_
  rintro e W8 ⟨rfl, hw⟩
  replace HW := Kept.mk (HW.out.trans hw)
  replace HV := Kept.mk (HV.out.wr hw (by omega))
  replace HB := Kept.mk (HB.out.trans (hw.below (by omega) (by have := HB.out.size; omega)))
  clear hw
  have eh : (headL E ++ dataL E.val) ++ zerosL (42 - (headL E ++ dataL E.val).length) = putEn E := by
    have e1 : 42 - (headL E ++ dataL E.val).length = 32 - (dataL E.val).length := by rw [List.length_append]; omega
    rw [e1]
    unfold putEn
    rw [List.append_assoc]
  rw [eh] at HW
  clear eh
  have kc := HW.out.at_.cell
  go_wp2
  go_ret2
  refine ⟨?_, HB.out⟩
  have e1 : putF E = putEn E := by unfold putF; rw [HO.out]; rfl
  rw [e1, HC.out]
  rfl
theorem eput_any (E : En) (v : Value) (w : World) (hv : isEn E v w) (hF : FitE E) : Calls Tryz.prog 31 #[v] w fun e w' => e = .returned (.tuple #[txt (putF E), .int .i64 (chkE E)]) ∧ Below w.heap.size w w' := by
  cases hok : okE E with
  | false => exact eput_bad E v w hv hF hok
  | true =>
    have hk := kind_lt (show okV E.val = true by unfold okE at hok; rw [Bool.and_eq_true] at hok; exact hok.2)
    have h : E.val.kind = 1 ∨ E.val.kind = 2 ∨ E.val.kind = 3 := by omega
    rcases h with h | h | h
    · exact eput_1 E v w hv hF hok h
    · exact eput_2 E v w hv hF hok h
    · exact eput_3 E v w hv hF hok h
end Go.Proofs.YtkjghoomdefbbaaGreatDoor
end
section
namespace Go.Proofs.YtkjghoomdefbbaaGreatDoor
open Go Go.RowKit Go.Shelf
set_option linter.unusedVariables false
set_option linter.unusedSimpArgs false
attribute [local irreducible] setN
attribute [local go_sem] Oper.semAt_some

theorem xor_i64 (a b : Nat) (ha : a < 4294967296) (hb : b < 4294967296) : bits .xor .i64 (a : Int) (b : Int) = ((a ^^^ b : Nat) : Int) := by
  have hx : a ^^^ b < 4294967296 := x32 ha hb
  show IntKind.i64.wrap ((BitVec.ofInt 64 (a : Int) ^^^ BitVec.ofInt 64 (b : Int)).toNat : Int) = _
  rw [BitVec.toNat_xor, BitVec.toNat_ofInt, BitVec.toNat_ofInt]
  rw [show ((a : Int) % ((2 ^ 64 : Nat) : Int)).toNat = a by omega, show ((b : Int) % ((2 ^ 64 : Nat) : Int)).toNat = b by omega]
  generalize a ^^^ b = c at *
  rw [IntKind.wrap_i64]
  omega
theorem Blk.drew {W : World} {b : Nat} {cs : List Value} (h : Blk W b cs) : Blk W.drew b cs := ⟨⟨h.cells.1, h.cells.2⟩, h.free⟩
theorem cells_own {B : Nat} {cs : List Value} {v : Value} {W W' : World} {row : Option Nat} (h : isCells cs v W) (hg : W.grownBy W' row) (hr : ∀ r, row = some r → B ≤ r ∧ ∃ o : Obj, W.heap[r]? = some o ∧ o.isCells = false) : isCells cs v W' := by
  rcases h with h1 | h1 | ⟨b, off, cap, e, hlt, hcc⟩
  · exact .inl h1
  · exact .inr (.inl h1)
  · refine .inr (.inr ⟨b, off, cap, e, Nat.lt_of_lt_of_le hlt hg.size, fun j y hy => ?_⟩)
    have hx := hcc j y hy
    rw [World.cell?_of_block (a := ⟨b, off + j, none⟩) (hg.block b hlt (fun er => ?_))]
    · exact hx
    · obtain ⟨_, o, ho, hc⟩ := hr b er.symm
      rw [cell_cells hx ho] at hc
      cases hc
/-- What stands in the variable behind some slots. -/
def stS (l : List En) : List Value := [.int .i64 (sumK 0 l : Int), .int .i64 (sumK 1 l : Int), .int .i64 (sumK 2 l : Int), .int .i64 (sumK 3 l : Int)]
def sumsV (A : Ar) : Value := .agg #[.int .i64 (sumA A 0 : Int), .int .i64 (sumA A 1 : Int), .int .i64 (sumA A 2 : Int), .int .i64 (sumA A 3 : Int)]
theorem sum_chunk (A : Ar) (k : Nat) : sumK k (chunkA A 0 8) = sumA A k := by
  unfold chunkA sumA
  rw [if_neg (by decide)]
  cases hok : okA A with
  | false => rfl
  | true =>
    have h := okA_iff.1 hok
    have h1 := h.fits
    have h2 := h.room
    rw [if_pos rfl, if_pos rfl, show (0 : Int).toNat = 0 from rfl, List.drop_zero, List.take_of_length_le (by show A.slots.length ≤ 8; omega)]
def ISm (w : World) (pre : List Elb) (W : World) : Prop := Blk W (w.heap.size + 1) [.int .i64 0, .int .i64 0, .int .i64 0, .int .i64 0] ∧ Blk W (w.heap.size + 1 + 1) (stS (pre.map (·.1))) ∧ Below w.heap.size w W ∧ w.heap.size + 4 ≤ W.heap.size
theorem ism_own (w : World) (B : Nat) (hB : w.heap.size + 4 ≤ B) : OwnFrom B (ISm w) := by
  intro s W W' row ⟨h1, h2, h3, h4⟩ hg hr
  exact ⟨blk_own (by simp) h1 hg hr, blk_own (by simp [stS]) h2 hg hr, h3.grown hg (by omega) (fun k e => by have := (hr k e).1; omega), Nat.le_trans h4 hg.size⟩
theorem ism_keep {w : World} {pre : List Elb} {W W' : World} (h : ISm w pre W) (hb : Below W.heap.size W W') : ISm w pre W' :=
  ⟨h.1.keep hb, h.2.1.keep hb, h.2.2.1.trans (hb.mono (by have := h.2.2.2; omega)), Nat.le_trans h.2.2.2 hb.size⟩
def AxSm (A : Ar) (vs vi : Value) (w : World) (x : Elb) (a' : Act) (W : World) : Prop := ∃ h, a' = { tmps := #[.agg #[.int .i64 A.cap, vs, vi], .pointer (some ⟨w.heap.size, 0, none⟩), .pointer (some ⟨w.heap.size + 1, 0, none⟩), .pointer (some ⟨w.heap.size + 1 + 1, 0, none⟩), .int .i64 (bkE x.1 : Int), .pointer (some ⟨h, 0, none⟩), undef, undef, .agg #[.int .i64 A.cap, vs, vi], .func (.func 70) #[] #[.pointer (some ⟨w.heap.size + 1 + 1 + 1, 0, none⟩)], .int .i64 (bkE x.1 : Int), .agg #[.string ⟨x.1.key.toArray⟩, .int .i64 x.1.val.kind, .int .i64 x.1.val.time, .int .i64 x.1.val.node, .bool x.1.val.dead, .string ⟨x.1.val.text.toArray⟩, x.2.1, x.2.2.1, .int .u64 (x.1.val.flags.toNat : Int)], undef, undef, undef, undef, undef, undef, undef, undef, undef, undef, undef, undef, undef], defers := [] } ∧ Blk W h [.string ⟨x.1.key.toArray⟩, .int .i64 x.1.val.kind, .int .i64 x.1.val.time, .int .i64 x.1.val.node, .bool x.1.val.dead, .string ⟨x.1.val.text.toArray⟩, x.2.1, x.2.2.1, .int .u64 (x.1.val.flags.toNat : Int)] ∧ isCells (x.1.val.plus.map intC) x.2.1 W ∧ isCells (x.1.val.minus.map intC) x.2.2.1 W ∧ okE x.1 = true ∧ w.heap.size + 4 ≤ x.2.2.2.1
theorem axsm_own (A : Ar) (vs vi : Value) (w : World) (x : Elb) (a' : Act) (B : Nat) : OwnFrom B (fun (_ : Unit) W => AxSm A vs vi w x a' W) := by
  rintro _ W W' row ⟨h, e, hb, hp, hm, h1, h2⟩ hg hr
  exact ⟨h, e, blk_own (by simp) hb hg hr, cells_own hp hg hr, cells_own hm hg hr, h1, h2⟩
set_option maxRecDepth 100000 in
set_option maxHeartbeats 4000000 in
theorem sums_any (A : Ar) (v : Value) (w : World) (hv : isAr A v w) (hF : FitA A) : Calls Tryz.prog 18 #[v] w fun e W' => e = .returned (sumsV A) ∧ Below w.heap.size w W' := by
  obtain ⟨vs, vi, rfl, hs, hi⟩ := hv
  refine (callsIn_wide (n := 5)).1 ?_
  refine callsIn_of_wp_marks Tryz.func18 rfl trivial ?_ rfl
  simp only [Tryz.ntmps18, List.size_toArray, List.length_cons, List.length_nil, Nat.reduceAdd, Nat.reduceSub, Array.replicate_succ, Array.replicate_zero, List.push_toArray, List.append_toArray, List.nil_append, List.cons_append]
  gi_wp2_with (refine ⟨trivial, (callsIn_wide.2 (by_any A _ _ vs vi rfl)).mono ?_⟩; rintro e w' ⟨rfl, rfl⟩)
  have hB0 : Below w.heap.size w ((((w.alloc (.cells #[.int .i64 A.cap, vs, vi] 25)).alloc (.cells #[.int .i64 0, .int .i64 0, .int .i64 0, .int .i64 0] 26)).alloc (.cells #[.int .i64 0, .int .i64 0, .int .i64 0, .int .i64 0] 26)).alloc (.cells #[.int .i64 A.cap, vs, vi] 25)) := ((((Below.refl _ w).alloc (Nat.le_refl _) _).alloc (by simp) _).alloc (by simp; omega) _).alloc (by simp; omega) _
  have hBx : Blk ((((w.alloc (.cells #[.int .i64 A.cap, vs, vi] 25)).alloc (.cells #[.int .i64 0, .int .i64 0, .int .i64 0, .int .i64 0] 26)).alloc (.cells #[.int .i64 0, .int .i64 0, .int .i64 0, .int .i64 0] 26)).alloc (.cells #[.int .i64 A.cap, vs, vi] 25)) (w.heap.size + 1 + 1 + 1) [.int .i64 A.cap, vs, vi] := Blk.new (((w.alloc (.cells #[.int .i64 A.cap, vs, vi] 25)).alloc (.cells #[.int .i64 0, .int .i64 0, .int .i64 0, .int .i64 0] 26)).alloc (.cells #[.int .i64 0, .int .i64 0, .int .i64 0, .int .i64 0] 26)) 25 [.int .i64 A.cap, vs, vi] (w.heap.size + 1 + 1 + 1) (by simp)
  have hst : Blk ((((w.alloc (.cells #[.int .i64 A.cap, vs, vi] 25)).alloc (.cells #[.int .i64 0, .int .i64 0, .int .i64 0, .int .i64 0] 26)).alloc (.cells #[.int .i64 0, .int .i64 0, .int .i64 0, .int .i64 0] 26)).alloc (.cells #[.int .i64 A.cap, vs, vi] 25)) (w.heap.size + 1) [.int .i64 0, .int .i64 0, .int .i64 0, .int .i64 0] := ((Blk.new (w.alloc (.cells #[.int .i64 A.cap, vs, vi] 25)) 26 [.int .i64 0, .int .i64 0, .int .i64 0, .int .i64 0] (w.heap.size + 1) (by simp)).alloc _).alloc _
  have hso : Blk ((((w.alloc (.cells #[.int .i64 A.cap, vs, vi] 25)).alloc (.cells #[.int .i64 0, .int .i64 0, .int .i64 0, .int .i64 0] 26)).alloc (.cells #[.int .i64 0, .int .i64 0, .int .i64 0, .int .i64 0] 26)).alloc (.cells #[.int .i64 A.cap, vs, vi] 25)) (w.heap.size + 1 + 1) [.int .i64 0, .int .i64 0, .int .i64 0, .int .i64 0] := (Blk.new ((w.alloc (.cells #[.int .i64 A.cap, vs, vi] 25)).alloc (.cells #[.int .i64 0, .int .i64 0, .int .i64 0, .int .i64 0] 26)) 26 [.int .i64 0, .int .i64 0, .int .i64 0, .int .i64 0] (w.heap.size + 1 + 1) (by simp)).alloc _
  have hI0 : ISm w [] ((((w.alloc (.cells #[.int .i64 A.cap, vs, vi] 25)).alloc (.cells #[.int .i64 0, .int .i64 0, .int .i64 0, .int .i64 0] 26)).alloc (.cells #[.int .i64 0, .int .i64 0, .int .i64 0, .int .i64 0] 26)).alloc (.cells #[.int .i64 A.cap, vs, vi] 25)) := ⟨hst, hso, hB0, by simp⟩
  have hsz : ((((w.alloc (.cells #[.int .i64 A.cap, vs, vi] 25)).alloc (.cells #[.int .i64 0, .int .i64 0, .int .i64 0, .int .i64 0] 26)).alloc (.cells #[.int .i64 0, .int .i64 0, .int .i64 0, .int .i64 0] 26)).alloc (.cells #[.int .i64 A.cap, vs, vi] 25)).heap.size = w.heap.size + 4 := by simp
  have hs0 := stable_ens _ _ _ _ hs hB0
  have hi0 := stable_cells _ _ _ _ hi hB0
  have hseq := by1_in 4 (by omega) (w.heap.size + 1 + 1 + 1) A vs vi ((((w.alloc (.cells #[.int .i64 A.cap, vs, vi] 25)).alloc (.cells #[.int .i64 0, .int .i64 0, .int .i64 0, .int .i64 0] 26)).alloc (.cells #[.int .i64 0, .int .i64 0, .int .i64 0, .int .i64 0] 26)).alloc (.cells #[.int .i64 A.cap, vs, vi] 25)) hBx hs0 hi0 hF
  have HLO := Kept.mk (show ∀ e ∈ chunkA A 0 8, okE e = true from fun e he => chunk_ok he)
  try simp only [World.size_alloc] at hseq
  try simp only [World.size_alloc]
  generalize ((((w.alloc (.cells #[.int .i64 A.cap, vs, vi] 25)).alloc (.cells #[.int .i64 0, .int .i64 0, .int .i64 0, .int .i64 0] 26)).alloc (.cells #[.int .i64 0, .int .i64 0, .int .i64 0, .int .i64 0] 26)).alloc (.cells #[.int .i64 A.cap, vs, vi] 25)) = W0 at *
  refine range_made rfl (by decide) (gf := 70) (lb := #[.pointer (some ⟨w.heap.size + 1 + 1 + 1, 0, none⟩)]) rfl trivial (enters_of Tryz.func70 (by kernel_rfl) rfl)
    hseq kpB_t (fun x W l o o' h1 h2 h3 h4 => kpB_put x W l o o' h1 h2 h3 h4) (Below.refl _ _) (fun _ => rfl)
    (ISm w) (fun _ _ _ => False) (ism_own w _ (by omega)) (fun _ _ _ _ _ hs _ _ => hs) hI0 (AxSm A vs vi w) (fun x a' => axsm_own A vs vi w x a' _) ?assign ?body ?done ?stop
  case assign =>
    intro l pre x W K hIp hpx hK
    obtain ⟨K1, K2, K3, K4, K5⟩ := enew W x.1 x.2.1 x.2.2.1 hpx.rp hpx.rm W.heap.size rfl
    have HH := Kept.mk ((Blk.new W 48 [.string ⟨#[]⟩, .int .i64 0, .int .i64 0, .int .i64 0, .bool false, .string ⟨#[]⟩, .slice none 0 0, .slice none 0 0, .int .u64 0] W.heap.size rfl).all_ (l := [.string ⟨x.1.key.toArray⟩, .int .i64 x.1.val.kind, .int .i64 x.1.val.time, .int .i64 x.1.val.node, .bool x.1.val.dead, .string ⟨x.1.val.text.toArray⟩, x.2.1, x.2.2.1, .int .u64 (x.1.val.flags.toNat : Int)]) rfl)
    have hK2 := hK _ _ (keeps_below K3.out) (kpB_below K3.out) (ism_keep hIp K3.out) ⟨W.heap.size, rfl, HH.out, stable_cells _ _ _ _ hpx.rp K3.out, stable_cells _ _ _ _ hpx.rm K3.out, HLO.out _ (List.mem_of_getElem? hpx.at_), by have := hpx.lo; omega⟩
    have HK := Kept.mk hK2
    clear hK2 hK hpx
    simp only [encBk]
    gi_wp2_with (have hz0 := K1; refine wpListIn_storeN (fun _ => trivial) 48 rfl (.tmp 5) (.tmp 11) rfl W.heap.size [.string ⟨x.1.key.toArray⟩, .int .i64 x.1.val.kind, .int .i64 x.1.val.time, .int .i64 x.1.val.node, .bool x.1.val.dead, .string ⟨x.1.val.text.toArray⟩, x.2.1, x.2.2.1, .int .u64 (x.1.val.flags.toNat : Int)] size_en rfl rfl K1.out rfl K2.out K5.out ?_; clear hz0 K1 K2 K5)
    exact HK.out
  case body =>
    rintro l pre x a' W hl hIp ⟨h, rfl, hbl, hp, hm, hok, hlo⟩ hlt
    obtain ⟨h1, h2, h3, hsz4⟩ := hIp
    have HO := Kept.mk h2
    have HR := Kept.mk h1
    have HB := Kept.mk h3
    have FE := ok_fit' hok
    have HPF := Kept.mk (show putF x.1 = putEn x.1 by unfold putF; rw [if_pos hok])
    have HLN := Kept.mk (show (putEn x.1).length ≤ 1024 by rw [length_putEn hok]; decide)
    have hmx : Tryz.prog.follows .mixedOrders = true := mixed
    have XE := Kept.mk (show isEn x.1 (.agg #[.string ⟨x.1.key.toArray⟩, .int .i64 x.1.val.kind, .int .i64 x.1.val.time, .int .i64 x.1.val.node, .bool x.1.val.dead, .string ⟨x.1.val.text.toArray⟩, x.2.1, x.2.2.1, .int .u64 (x.1.val.flags.toNat : Int)]) W from ⟨_, _, rfl, hp, hm⟩)
    have ke0 := hbl.cells.2 0 _ rfl
    have ke1 := hbl.cells.2 1 _ rfl
    have ke2 := hbl.cells.2 2 _ rfl
    have ke3 := hbl.cells.2 3 _ rfl
    have ke4 := hbl.cells.2 4 _ rfl
    have ke5 := hbl.cells.2 5 _ rfl
    have ke6 := hbl.cells.2 6 _ rfl
    have ke7 := hbl.cells.2 7 _ rfl
    have ke8 := hbl.cells.2 8 _ rfl
    have HFIN : ∀ k, (hk : bkE x.1 = k) → ∀ W1, Below W.heap.size W W1 → KeepsFrom W0.heap.size W (W1.setCell ⟨w.heap.size + 1 + 1, k, none⟩ (.int .i64 ((sumK k (pre.map (·.1)) ^^^ sumE x.1 : Nat) : Int))).drew ∧ KpB x W (W1.setCell ⟨w.heap.size + 1 + 1, k, none⟩ (.int .i64 ((sumK k (pre.map (·.1)) ^^^ sumE x.1 : Nat) : Int))).drew ∧ ISm w (pre ++ [x]) (W1.setCell ⟨w.heap.size + 1 + 1, k, none⟩ (.int .i64 ((sumK k (pre.map (·.1)) ^^^ sumE x.1 : Nat) : Int))).drew := by
      intro k hk W1 hb
      have hk4 : k < 4 := by rw [← hk]; exact bucketN_lt _ _
      have hst1 : stS ((pre ++ [x]).map (·.1)) = (stS (pre.map (·.1))).set k (.int .i64 ((sumK k (pre.map (·.1)) ^^^ sumE x.1 : Nat) : Int)) := by
        rw [List.map_append]
        show stS (pre.map (·.1) ++ [x.1]) = _
        unfold stS
        simp only [sumK_snoc, hk]
        have h4 : k = 0 ∨ k = 1 ∨ k = 2 ∨ k = 3 := by omega
        rcases h4 with rfl | rfl | rfl | rfl <;> simp
      have hother : ∀ b, b < W.heap.size → b ≠ w.heap.size + 1 + 1 → (W1.setCell ⟨w.heap.size + 1 + 1, k, none⟩ (.int .i64 ((sumK k (pre.map (·.1)) ^^^ sumE x.1 : Nat) : Int))).drew.heap[b]? = W.heap[b]? := fun b h1 h2 => (Below.heap_setCell W1 _ _ b h2).trans (hb.block b h1)
      have hle : W.heap.size ≤ (W1.setCell ⟨w.heap.size + 1 + 1, k, none⟩ (.int .i64 ((sumK k (pre.map (·.1)) ^^^ sumE x.1 : Nat) : Int))).drew.heap.size := by
        have := hb.size
        show W.heap.size ≤ (W1.setCell _ _).heap.size
        simpa using this
      refine ⟨⟨hle, fun b o hB hkb _ => (hother b (Array.getElem?_eq_some_iff.1 hkb).1 (by omega)).trans hkb⟩, kpB_blk hle (fun b h1 _ h3 => hother b h3 (by omega)), ?_, ?_, ?_, ?_⟩
      · exact ((HR.out.keep hb).apart (show w.heap.size + 1 ≠ w.heap.size + 1 + 1 by omega) _ _).drew
      · rw [hst1]; exact ((HO.out.keep hb).set k _ (by unfold stS; exact hk4)).drew
      · exact ((HB.out.trans (hb.mono HB.out.size)).setCell (p := ⟨w.heap.size + 1 + 1, k, none⟩) (by show w.heap.size ≤ w.heap.size + 1 + 1; omega) _).drew
      · omega
    have hb4 := bucketN_lt x.1.val.kind x.1.key
    have h4 : bkE x.1 = 0 ∨ bkE x.1 = 1 ∨ bkE x.1 = 2 ∨ bkE x.1 = 3 := by unfold bkE; omega
    clear hp hm hbl h1 h2 h3
    rcases h4 with hk | hk | hk | hk
    · have HFK := HFIN 0 hk
      rw [hk]
      have kc := HO.out.cells.2 0 (.int .i64 (sumK 0 (pre.map (·.1)) : Int)) rfl
      have kf := HO.out.free 0
      have hxo := xor_i64 (sumK 0 (pre.map (·.1))) (sumE x.1) (sumK_lt 0 _) (sumE_lt _)
      clear HFIN hk
      gi_wp2_with fail
      refine ⟨trivial, (CallsIn.inRound l (callsIn_wide.2 (eput_any x.1 _ _ XE.out FE))).mono ?_⟩
      rintro e W1 ⟨rfl, hb⟩
      rw [HPF.out]
      have kc1 := (hb.cell (p := ⟨w.heap.size + 1 + 1, 0, none⟩) HO.out.lt).trans kc
      have kf1 := (hb.frozen (p := ⟨w.heap.size + 1 + 1, 0, none⟩) HO.out.lt).trans kf
      have HW := Kept.mk (HFK W1 hb)
      clear kc kf XE ke0 ke1 ke2 ke3 ke4 ke5 ke6 ke7 ke8 HFK hb
      have hln : (putEn x.1).length ≤ 1024 := HLN.out
      have hsm : sumE x.1 = crcN (putEn x.1) := rfl
      rw [hsm] at hxo HW
      clear hsm
      generalize putEn x.1 = q at *
      generalize sumK 0 (pre.map (·.1)) = sk at *
      gi_wp2_with fail
      gi_region_with_o (refine ⟨trivial, (CallsIn.inRound l (callsIn_wide.2 (sum_any q _ hln))).mono ?_⟩; rintro e w' ⟨rfl, rfl⟩)
      all_goals exact HW.out
    · have HFK := HFIN 1 hk
      rw [hk]
      have kc := HO.out.cells.2 1 (.int .i64 (sumK 1 (pre.map (·.1)) : Int)) rfl
      have kf := HO.out.free 1
      have hxo := xor_i64 (sumK 1 (pre.map (·.1))) (sumE x.1) (sumK_lt 1 _) (sumE_lt _)
      clear HFIN hk
      gi_wp2_with fail
      refine ⟨trivial, (CallsIn.inRound l (callsIn_wide.2 (eput_any x.1 _ _ XE.out FE))).mono ?_⟩
      rintro e W1 ⟨rfl, hb⟩
      rw [HPF.out]
      have kc1 := (hb.cell (p := ⟨w.heap.size + 1 + 1, 1, none⟩) HO.out.lt).trans kc
      have kf1 := (hb.frozen (p := ⟨w.heap.size + 1 + 1, 1, none⟩) HO.out.lt).trans kf
      have HW := Kept.mk (HFK W1 hb)
      clear kc kf XE ke0 ke1 ke2 ke3 ke4 ke5 ke6 ke7 ke8 HFK hb
      have hln : (putEn x.1).length ≤ 1024 := HLN.out
      have hsm : sumE x.1 = crcN (putEn x.1) := rfl
      rw [hsm] at hxo HW
      clear hsm
      generalize putEn x.1 = q at *
      generalize sumK 1 (pre.map (·.1)) = sk at *
      gi_wp2_with fail
      gi_region_with_o (refine ⟨trivial, (CallsIn.inRound l (callsIn_wide.2 (sum_any q _ hln))).mono ?_⟩; rintro e w' ⟨rfl, rfl⟩)
      all_goals exact HW.out
    · have HFK := HFIN 2 hk
      rw [hk]
      have kc := HO.out.cells.2 2 (.int .i64 (sumK 2 (pre.map (·.1)) : Int)) rfl
      have kf := HO.out.free 2
      have hxo := xor_i64 (sumK 2 (pre.map (·.1))) (sumE x.1) (sumK_lt 2 _) (sumE_lt _)
      clear HFIN hk
      gi_wp2_with fail
      refine ⟨trivial, (CallsIn.inRound l (callsIn_wide.2 (eput_any x.1 _ _ XE.out FE))).mono ?_⟩
      rintro e W1 ⟨rfl, hb⟩
      rw [HPF.out]
      have kc1 := (hb.cell (p := ⟨w.heap.size + 1 + 1, 2, none⟩) HO.out.lt).trans kc
      have kf1 := (hb.frozen (p := ⟨w.heap.size + 1 + 1, 2, none⟩) HO.out.lt).trans kf
      have HW := Kept.mk (HFK W1 hb)
      clear kc kf XE ke0 ke1 ke2 ke3 ke4 ke5 ke6 ke7 ke8 HFK hb
      have hln : (putEn x.1).length ≤ 1024 := HLN.out
      have hsm : sumE x.1 = crcN (putEn x.1) := rfl
      rw [hsm] at hxo HW
      clear hsm
      generalize putEn x.1 = q at *
      generalize sumK 2 (pre.map (·.1)) = sk at *
      gi_wp2_with fail
      gi_region_with_o (refine ⟨trivial, (CallsIn.inRound l (callsIn_wide.2 (sum_any q _ hln))).mono ?_⟩; rintro e w' ⟨rfl, rfl⟩)
      all_goals exact HW.out
    · have HFK := HFIN 3 hk
      rw [hk]
      have kc := HO.out.cells.2 3 (.int .i64 (sumK 3 (pre.map (·.1)) : Int)) rfl
      have kf := HO.out.free 3
      have hxo := xor_i64 (sumK 3 (pre.map (·.1))) (sumE x.1) (sumK_lt 3 _) (sumE_lt _)
      clear HFIN hk
      gi_wp2_with fail
      refine ⟨trivial, (CallsIn.inRound l (callsIn_wide.2 (eput_any x.1 _ _ XE.out FE))).mono ?_⟩
      rintro e W1 ⟨rfl, hb⟩
      rw [HPF.out]
      have kc1 := (hb.cell (p := ⟨w.heap.size + 1 + 1, 3, none⟩) HO.out.lt).trans kc
      have kf1 := (hb.frozen (p := ⟨w.heap.size + 1 + 1, 3, none⟩) HO.out.lt).trans kf
      have HW := Kept.mk (HFK W1 hb)
      clear kc kf XE ke0 ke1 ke2 ke3 ke4 ke5 ke6 ke7 ke8 HFK hb
      have hln : (putEn x.1).length ≤ 1024 := HLN.out
      have hsm : sumE x.1 = crcN (putEn x.1) := rfl
      rw [hsm] at hxo HW
      clear hsm
      generalize putEn x.1 = q at *
      generalize sumK 3 (pre.map (·.1)) = sk at *
      gi_wp2_with fail
      gi_region_with_o (refine ⟨trivial, (CallsIn.inRound l (callsIn_wide.2 (sum_any q _ hln))).mono ?_⟩; rintro e w' ⟨rfl, rfl⟩)
      all_goals exact HW.out
  case done =>
    rintro D ys W hD hys ⟨h1, h2, h3, h4⟩ hK
    have hys2 : ys.map (·.1) = chunkA A 0 8 := hys
    rw [hys2] at h2
    have hss : stS (chunkA A 0 8) = [.int .i64 (sumA A 0 : Int), .int .i64 (sumA A 1 : Int), .int .i64 (sumA A 2 : Int), .int .i64 (sumA A 3 : Int)] := by
      unfold stS
      rw [sum_chunk, sum_chunk, sum_chunk, sum_chunk]
    rw [hss] at h2
    have HO := Kept.mk h2
    have HR := Kept.mk h1
    have HB := Kept.mk h3
    have k0 := h2.cells.2 0 _ rfl
    have k1 := h2.cells.2 1 _ rfl
    have k2 := h2.cells.2 2 _ rfl
    have k3 := h2.cells.2 3 _ rfl
    have KO := Kept.mk (show Ones [.int .i64 (sumA A 0 : Int), .int .i64 (sumA A 1 : Int), .int .i64 (sumA A 2 : Int), .int .i64 (sumA A 3 : Int)] from ⟨rfl, rfl, rfl, rfl, trivial⟩)
    have hK3 : (setN W (w.heap.size + 1) 0 [.int .i64 (sumA A 0 : Int), .int .i64 (sumA A 1 : Int), .int .i64 (sumA A 2 : Int), .int .i64 (sumA A 3 : Int)]).heap[D]? = some (.deferred (some [])) := ((bt_setN (S := fun b => b = w.heap.size + 1) rfl _ 0 W).block D (Array.getElem?_eq_some_iff.1 hK).1 (by show ¬ D = w.heap.size + 1; omega)).trans hK
    have HK3 := Kept.mk hK3
    have HCR := Kept.mk (blk_own (B := W0.heap.size) (by simp) (HR.out.all_ (l := [.int .i64 (sumA A 0 : Int), .int .i64 (sumA A 1 : Int), .int .i64 (sumA A 2 : Int), .int .i64 (sumA A 3 : Int)]) rfl) (grownBy_putObj' _ D (.deferred none)) (fun r e => by cases e; exact ⟨hD, _, hK3, rfl⟩))
    have HBB := Kept.mk ((below_setN (B := w.heap.size) (g := w.heap.size + 1) (by omega) [.int .i64 (sumA A 0 : Int), .int .i64 (sumA A 1 : Int), .int .i64 (sumA A 2 : Int), .int .i64 (sumA A 3 : Int)] 0 _ h3).trans (belowK_b (w := w) (Nat.le_refl _) _ D _ (.deferred none) (by omega) hK3 rfl rfl))
    clear h1 h2 h3 hK3 hss hys hys2
    gi_wp2_with (have hz0 := KO; refine wpListIn_storeN (fun _ => trivial) 26 rfl (.tmp 2) (.tmp 24) rfl (w.heap.size + 1) [.int .i64 (sumA A 0 : Int), .int .i64 (sumA A 1 : Int), .int .i64 (sumA A 2 : Int), .int .i64 (sumA A 3 : Int)] size_a4 rfl rfl HR.out.cells rfl HR.out.free KO.out ?_; clear hz0 KO k0 k1 k2 k3)
    refine ⟨by simp, .inl ⟨_, _, rfl, run_takeDeferred HK3.out, ?_⟩⟩
    exact ⟨_, resultsN1 rfl _ _ (w.heap.size + 1) _ size_a4 agg_a4 rfl HCR.out.cells, rfl, HBB.out⟩
  case stop =>
    rintro D c pre W _ _ h _
    exact h.elim
end Go.Proofs.YtkjghoomdefbbaaGreatDoor
end
section
namespace Go.Proofs.YtkjghoomdefbbaaGreatDoor
open Go.RowKit
set_option linter.unusedVariables false
set_option linter.unusedSimpArgs false

theorem and_i64 (a b : Nat) (ha : a < 4294967296) (hb : b < 4294967296) : bits .and .i64 (a : Int) (b : Int) = ((a &&& b : Nat) : Int) := by
  have hx : a &&& b < 4294967296 := Nat.lt_of_le_of_lt Nat.and_le_left ha
  show IntKind.i64.wrap ((BitVec.ofInt 64 (a : Int) &&& BitVec.ofInt 64 (b : Int)).toNat : Int) = _
  rw [BitVec.toNat_and, BitVec.toNat_ofInt, BitVec.toNat_ofInt]
  rw [show ((a : Int) % ((2 ^ 64 : Nat) : Int)).toNat = a by omega, show ((b : Int) % ((2 ^ 64 : Nat) : Int)).toNat = b by omega]
  generalize a &&& b = c at *
  rw [IntKind.wrap_i64]
  omega
def askK (m : Int) (k : Nat) : Bool := maskB m && decide (m.toNat &&& 2 ^ k ≠ 0)
theorem askB_eq (m : Int) (E : En) : askB m E = askK m (bkE E) := rfl
theorem and_v {P : Program} {t : TypeId} (x y z : Int) (h : bits .and .i64 x y = z) (w : World) : (binOp .and t (.int .i64 x) (.int .i64 y)).run P w = .ok (.int .i64 z) w := by subst h; simp [go_sem]
theorem neq_v0 {P : Program} {t : TypeId} (z : Nat) (b : Bool) (h : decide (z ≠ 0) = b) (w : World) : (binOp .neq t (.int .i64 (z : Int)) (.int .i64 0)).run P w = .ok (.bool b) w := by
  subst h
  by_cases hz : z = 0
  · subst hz; simp [go_sem]
  · have : ¬ (z : Int) = 0 := by omega
    simp [go_sem, hz, this]
noncomputable def ask2Ops : Array Oper := regionOf Tryz.f39 1
set_option maxRecDepth 100000 in
set_option maxHeartbeats 2000000 in
theorem ask2_region (Q : Exit → Act → World → Prop) (a0 : Act) (w0 : World) (hsz : a0.tmps.size = 13) (k g z : Nat) (b : Bool) (m : Int) (e0 : a0.tmps.getD 0 undef = .int .i64 (k : Int)) (e1 : a0.tmps.getD 1 undef = .pointer (some ⟨g, 0, none⟩)) (hc : w0.cell? ⟨g, 0, none⟩ = some (.int .i64 m)) (hg : g < w0.heap.size) (hm : maskB m = true) (hk : k < 4) (hand : bits .and .i64 m ((2 ^ k : Nat) : Int) = (z : Int)) (hne : decide (z ≠ 0) = b)
    (hQ : ∀ (g : Nat → Value) (w : World), g 3 = .bool b → Below w0.heap.size w0 w → Q .normal { tmps := [4, 5, 6, 7, 8, 9, 10, 11, 12, 3].foldl (fun t s => t.setIfInBounds s (g s)) a0.tmps, defers := a0.defers } w) :
    (Code.region 1 ask2Ops true).wp Tryz.prog Q a0 w0 := by
  refine wp_region_flow mixed (by rw [hsz]; kernel_rfl) ?_
  rw [show ask2Ops.size = 10 by kernel_rfl]
  refine ⟨isVal (.int .i64 m), step_read 3 (.tmp 1) ⟨g, 0, none⟩ (.int .i64 m) (by kernel_rfl) (wanted_none (by kernel_rfl)) (knows_old 1 (.pointer (some ⟨g, 0, none⟩)) (by kernel_rfl) e1) (hc) (hg) (agg_noZ), ?_⟩
  refine ⟨isVal (.bool true), step_call 40 #[.tmp 4] #[3] #[.int .i64 m] (by kernel_rfl) (wanted_none (by kernel_rfl)) (stable_val _) (args1 (.tmp 4) (.int .i64 m) (knows_new (V := isVal (.int .i64 m)) 4 0 (by kernel_rfl) (by kernel_rfl) (by kernel_rfl))) (enters_of Tryz.func40 (by kernel_rfl) rfl) (by intro w' hb; exact (isMask_any m w').mono (by rintro e w2 ⟨rfl, hb2⟩; exact ⟨_, by rw [hm], rfl, hb2⟩)), ?_⟩
  refine ⟨isVal (.bool true), step_move (.tmp 5) (by kernel_rfl) (wanted_none (by kernel_rfl)) (stable_val _) (knows_new (V := isVal (.bool true)) 5 1 (by kernel_rfl) (by kernel_rfl) (by kernel_rfl)), ?_⟩
  refine ⟨isVal (.int .i64 m), step_read 3 (.tmp 1) ⟨g, 0, none⟩ (.int .i64 m) (by kernel_rfl) (wanted_some 2 6 true (by kernel_rfl) (by kernel_rfl) (by kernel_rfl) (by kernel_rfl)) (knows_old 1 (.pointer (some ⟨g, 0, none⟩)) (by kernel_rfl) e1) (hc) (hg) (agg_noZ), ?_⟩
  refine ⟨isVal (.int .i64 (k : Int)), step_move (.tmp 0) (by kernel_rfl) (wanted_some 2 6 true (by kernel_rfl) (by kernel_rfl) (by kernel_rfl) (by kernel_rfl)) (stable_val _) (knows_old 0 (.int .i64 (k : Int)) (by kernel_rfl) e0), ?_⟩
  refine ⟨isVal (.int .i64 ((2 ^ k : Nat) : Int)), step_call 41 #[.tmp 8] #[3] #[.int .i64 (k : Int)] (by kernel_rfl) (wanted_some 2 6 true (by kernel_rfl) (by kernel_rfl) (by kernel_rfl) (by kernel_rfl)) (stable_val _) (args1 (.tmp 8) (.int .i64 (k : Int)) (knows_new (V := isVal (.int .i64 (k : Int))) 8 4 (by kernel_rfl) (by kernel_rfl) (by kernel_rfl))) (enters_of Tryz.func41 (by kernel_rfl) rfl) (by intro w' hb; exact (bit_any k w' hk).mono (by rintro e w2 ⟨rfl, hb2⟩; exact ⟨_, rfl, rfl, hb2⟩)), ?_⟩
  refine ⟨isVal (.int .i64 (z : Int)), step_bin .and 3 3 (.tmp 7) (.tmp 9) (.int .i64 m) (.int .i64 ((2 ^ k : Nat) : Int)) (.int .i64 (z : Int)) (by kernel_rfl) (wanted_some 2 6 true (by kernel_rfl) (by kernel_rfl) (by kernel_rfl) (by kernel_rfl)) (knows_new (V := isVal (.int .i64 m)) 7 3 (by kernel_rfl) (by kernel_rfl) (by kernel_rfl)) (knows_new (V := isVal (.int .i64 ((2 ^ k : Nat) : Int))) 9 5 (by kernel_rfl) (by kernel_rfl) (by kernel_rfl)) (fun _ => rfl) (and_v _ _ _ hand), ?_⟩
  refine ⟨isVal (.bool b), step_bin .neq 3 3 (.tmp 10) (.const (.int .i64 0)) (.int .i64 (z : Int)) (.int .i64 0) (.bool b) (by kernel_rfl) (wanted_some 2 6 true (by kernel_rfl) (by kernel_rfl) (by kernel_rfl) (by kernel_rfl)) (knows_new (V := isVal (.int .i64 (z : Int))) 10 6 (by kernel_rfl) (by kernel_rfl) (by kernel_rfl)) (knows_const _) (fun _ => rfl) (neq_v0 _ _ hne), ?_⟩
  refine ⟨isVal (.bool b), step_pick (.tmp 6) (.tmp 11) (.const (.bool false)) true (by kernel_rfl) (wanted_none (by kernel_rfl)) (stable_val _) (knows_new (V := isVal (.bool true)) 6 2 (by kernel_rfl) (by kernel_rfl) (by kernel_rfl)) (knows_new (V := isVal (.bool b)) 11 7 (by kernel_rfl) (by kernel_rfl) (by kernel_rfl)), ?_⟩
  refine ⟨isVal (.bool b), step_assign (.tmp 12) (by kernel_rfl) (wanted_none (by kernel_rfl)) (stable_val _) (knows_new (V := isVal (.bool b)) 12 8 (by kernel_rfl) (by kernel_rfl) (by kernel_rfl)), ?_⟩
  intro a w hkp hb hd
  rw [kept_of hkp [some 4, some 5, some 6, some 7, some 8, some 9, some 10, some 11, some 12, some 3] [4, 5, 6, 7, 8, 9, 10, 11, 12, 3] (by kernel_rfl) (by decide)]
  have d3 := fdone_of (hd 9 (by rw [show ask2Ops.size = 10 by kernel_rfl]; decide)) (t := 3) (V := isVal (.bool b)) (by kernel_rfl) (by kernel_rfl)
  exact hQ (fun s => a.tmps.getD s undef) w d3 hb
noncomputable def askOps : Array Oper := regionOf Tryz.f39 1
set_option maxRecDepth 100000 in
set_option maxHeartbeats 2000000 in
theorem ask_region (Q : Exit → Act → World → Prop) (a0 : Act) (w0 : World) (hsz : a0.tmps.size = 13) (k g : Nat) (m : Int) (e0 : a0.tmps.getD 0 undef = .int .i64 (k : Int)) (e1 : a0.tmps.getD 1 undef = .pointer (some ⟨g, 0, none⟩)) (hc : w0.cell? ⟨g, 0, none⟩ = some (.int .i64 m)) (hg : g < w0.heap.size) (hm : maskB m = false)
    (hQ : ∀ (g : Nat → Value) (w : World), g 3 = .bool false → Below w0.heap.size w0 w → Q .normal { tmps := [4, 5, 6, 7, 8, 9, 10, 11, 12, 3].foldl (fun t s => t.setIfInBounds s (g s)) a0.tmps, defers := a0.defers } w) :
    (Code.region 1 askOps true).wp Tryz.prog Q a0 w0 := by
  refine wp_region_flow mixed (by rw [hsz]; kernel_rfl) ?_
  rw [show askOps.size = 10 by kernel_rfl]
  refine ⟨isVal (.int .i64 m), step_read 3 (.tmp 1) ⟨g, 0, none⟩ (.int .i64 m) (by kernel_rfl) (wanted_none (by kernel_rfl)) (knows_old 1 (.pointer (some ⟨g, 0, none⟩)) (by kernel_rfl) e1) (hc) (hg) (agg_noZ), ?_⟩
  refine ⟨isVal (.bool false), step_call 40 #[.tmp 4] #[3] #[.int .i64 m] (by kernel_rfl) (wanted_none (by kernel_rfl)) (stable_val _) (args1 (.tmp 4) (.int .i64 m) (knows_new (V := isVal (.int .i64 m)) 4 0 (by kernel_rfl) (by kernel_rfl) (by kernel_rfl))) (enters_of Tryz.func40 (by kernel_rfl) rfl) (by intro w' hb; exact (isMask_any m w').mono (by rintro e w2 ⟨rfl, hb2⟩; exact ⟨_, rfl, by rw [hm]; rfl, hb2⟩)), ?_⟩
  refine ⟨isVal (.bool false), step_move (.tmp 5) (by kernel_rfl) (wanted_none (by kernel_rfl)) (stable_val _) (knows_new (V := isVal (.bool false)) 5 1 (by kernel_rfl) (by kernel_rfl) (by kernel_rfl)), ?_⟩
  refine ⟨_, step_skip 2 6 true false (by kernel_rfl) (by kernel_rfl) (by kernel_rfl) (by kernel_rfl) rfl, ?_⟩
  refine ⟨_, step_skip 2 6 true false (by kernel_rfl) (by kernel_rfl) (by kernel_rfl) (by kernel_rfl) rfl, ?_⟩
  refine ⟨_, step_skip 2 6 true false (by kernel_rfl) (by kernel_rfl) (by kernel_rfl) (by kernel_rfl) rfl, ?_⟩
  refine ⟨_, step_skip 2 6 true false (by kernel_rfl) (by kernel_rfl) (by kernel_rfl) (by kernel_rfl) rfl, ?_⟩
  refine ⟨_, step_skip 2 6 true false (by kernel_rfl) (by kernel_rfl) (by kernel_rfl) (by kernel_rfl) rfl, ?_⟩
  refine ⟨isVal (.bool false), step_pick (.tmp 6) (.tmp 11) (.const (.bool false)) false (by kernel_rfl) (wanted_none (by kernel_rfl)) (stable_val _) (knows_new (V := isVal (.bool false)) 6 2 (by kernel_rfl) (by kernel_rfl) (by kernel_rfl)) (knows_const _), ?_⟩
  refine ⟨isVal (.bool false), step_assign (.tmp 12) (by kernel_rfl) (wanted_none (by kernel_rfl)) (stable_val _) (knows_new (V := isVal (.bool false)) 12 8 (by kernel_rfl) (by kernel_rfl) (by kernel_rfl)), ?_⟩
  intro a w hkp hb hd
  rw [kept_of hkp [some 4, some 5, some 6, some 7, some 8, some 9, some 10, some 11, some 12, some 3] [4, 5, 6, 7, 8, 9, 10, 11, 12, 3] (by kernel_rfl) (by decide)]
  have d3 := fdone_of (hd 9 (by rw [show askOps.size = 10 by kernel_rfl]; decide)) (t := 3) (V := isVal (.bool false)) (by kernel_rfl) (by kernel_rfl)
  exact hQ (fun s => a.tmps.getD s undef) w d3 hb
set_option maxRecDepth 100000 in
set_option maxHeartbeats 1000000 in
theorem asked_any (m : Int) (k g : Nat) (w : World) (hk : k < 4) (HB : Blk w g [.int .i64 m]) : Calls Tryz.prog 39 #[.int .i64 (k : Int), .pointer (some ⟨g, 0, none⟩)] w fun e w' => e = .returned (.bool (askK m k)) ∧ Below w.heap.size w w' := by
  have kc := HB.cells.2 0 _ rfl
  have hz := HB.lt
  clear HB
  have hmx : Tryz.prog.follows .mixedOrders = true := mixed
  cases hm : maskB m with
  | false =>
    have HA := Kept.mk (show askK m k = false by unfold askK; rw [hm]; rfl)
    have HM := Kept.mk hm
    clear hm
    go_enter Tryz.func39, Tryz.ntmps39
    go_wp2_with fail
    refine ask_region _ _ w rfl k g m rfl rfl kc hz HM.out ?_
    intro f9 W9 d3 hb9
    simp only [List.foldl_cons, List.foldl_nil, d3]
    generalize f9 4 = y4
    generalize f9 5 = y5
    generalize f9 6 = y6
    generalize f9 7 = y7
    generalize f9 8 = y8
    generalize f9 9 = y9
    generalize f9 10 = y10
    generalize f9 11 = y11
    generalize f9 12 = y12
    clear d3
    simp only [List.setIfInBounds_toArray, List.set_cons_succ, List.set_cons_zero]
    go_wp2
    go_ret
    exact ⟨by rw [HA.out]; rfl, hb9⟩
  | true =>
    have HM := Kept.mk hm
    have h15 : 0 ≤ m ∧ m ≤ 15 := by unfold maskB at hm; simpa using hm
    obtain ⟨M, rfl⟩ : ∃ M : Nat, m = (M : Int) := ⟨m.toNat, by omega⟩
    have hp : 2 ^ k < 4294967296 := Nat.lt_of_lt_of_le (Nat.pow_lt_pow_right (by decide) hk) (by decide)
    have hand := and_i64 M (2 ^ k) (by omega) hp
    have HA := Kept.mk (show askK (M : Int) k = decide (M &&& 2 ^ k ≠ 0) by unfold askK; rw [hm]; rfl)
    clear hm h15 hp
    obtain ⟨z, hz0⟩ : ∃ z, M &&& 2 ^ k = z := ⟨_, rfl⟩
    rw [hz0] at hand HA
    obtain ⟨b, hb⟩ : ∃ b, decide (z ≠ 0) = b := ⟨_, rfl⟩
    have HBB := Kept.mk hb
    have HAND := Kept.mk hand
    clear hz0 hb hand
    go_enter Tryz.func39, Tryz.ntmps39
    go_wp2_with fail
    refine ask2_region _ _ w rfl k g z b M rfl rfl kc hz HM.out hk HAND.out HBB.out ?_
    intro f9 W9 d3 hb9
    simp only [List.foldl_cons, List.foldl_nil, d3]
    generalize f9 4 = y4
    generalize f9 5 = y5
    generalize f9 6 = y6
    generalize f9 7 = y7
    generalize f9 8 = y8
    generalize f9 9 = y9
    generalize f9 10 = y10
    generalize f9 11 = y11
    generalize f9 12 = y12
    clear d3
    simp only [List.setIfInBounds_toArray, List.set_cons_succ, List.set_cons_zero]
    go_wp2
    go_ret
    exact ⟨by rw [HA.out, HBB.out]; rfl, hb9⟩
end Go.Proofs.YtkjghoomdefbbaaGreatDoor
end
section
namespace Go.Proofs.YtkjghoomdefbbaaGreatDoor
open Go Go.RowKit Go.Shelf
set_option linter.unusedVariables false
set_option linter.unusedSimpArgs false
attribute [local irreducible] setN
attribute [local go_sem] Oper.semAt_some

theorem run_append_ens2 {N : Nat} {v : Value} {ps : RowE} {w : World} (h : OutV N v ps w) {u : Value} {ps2 : RowE} (hu : SrcE u ps2 w) (hr2 : RowsOk ps2 w) (hoff : ∀ q ∈ ps2, ∀ b, v.ownBlock = some b → OffQ b q) (hn : ps.length + ps2.length ≤ 1000) (hN : N ≤ w.heap.size) (ty : TypeId) :
    ∃ v' w', (Builtin.append_ #[22, 22] ty #[v, u]).run Tryz.prog w = .ok v' w' ∧ OutV N v' (ps ++ ps2) w' ∧ w.grownBy w' v.ownBlock ∧ (v'.ownBlock = v.ownBlock ∨ v'.ownBlock = some w.heap.size) := by
  obtain ⟨ie, hie, hz, hsz⟩ : ∃ ie, Tryz.prog.info? 48 = some ie ∧ ie.zero = some (.agg #[.string ⟨#[]⟩, .int .i64 0, .int .i64 0, .int .i64 0, .bool false, .string ⟨#[]⟩, .slice none 0 0, .slice none 0 0, .int .u64 0]) ∧ ie.size = 9 := by
    have := Tryz.infoEn
    obtain ⟨ie, h1, h2⟩ := Option.map_eq_some_iff.1 this
    simp only [Prod.mk.injEq] at h2
    exact ⟨ie, h1, h2.1, h2.2⟩
  have hbytes : ie.bytes ≤ 100000 := by
    have : (Tryz.prog.info? 48).all (fun i => decide (i.bytes ≤ 100000)) = true := by kernel_rfl
    rw [hie] at this
    simpa using this
  rcases hu with ⟨rfl, rfl⟩ | ⟨a, c, rfl, hcell⟩
  · refine ⟨v, w, run_append_owned_none (P := Tryz.prog) (w := w) N _ ty 48 ie 9 Tryz.underlying22 hie v _ _ h.own, ?_, ⟨rfl, rfl, rfl, Nat.le_refl _, fun _ _ _ => rfl⟩, .inl rfl⟩
    rw [List.append_nil]; exact h
  · obtain ⟨v', w', hrun, how, hgr, _, hob⟩ := run_append_own_at (P := Tryz.prog) (w := w) N 22 ty 48 ie (.agg #[.string ⟨#[]⟩, .int .i64 0, .int .i64 0, .int .i64 0, .bool false, .string ⟨#[]⟩, .slice none 0 0, .slice none 0 0, .int .u64 0]) 9 ie.bytes Tryz.underlying22 hie hz hsz rfl rfl (by decide) v ps.length (flatE ps) h.own a ps2.length c (flatE ps2) (flatE_length _) hcell (ones_flat hr2) (by unfold maxLen; omega) (by have : (ps.length + ps2.length) * ie.bytes ≤ 1000 * 100000 := Nat.mul_le_mul hn hbytes; omega) hN
    refine ⟨v', w', hrun, ⟨?_, fun q hq => ?_, fun q hq b hb => ?_⟩, hgr, hob⟩
    · rw [List.length_append]
      have e : flatE (ps ++ ps2) = flatE ps ++ flatE ps2 := by unfold flatE; simp
      rw [e]; exact how
    · have key : ∀ q, isCells (q.1.val.plus.map intC) q.2.1 w ∧ isCells (q.1.val.minus.map intC) q.2.2 w → (∀ b, v.ownBlock = some b → OffQ b q) → isCells (q.1.val.plus.map intC) q.2.1 w' ∧ isCells (q.1.val.minus.map intC) q.2.2 w' := by
        intro q hc ho
        refine ⟨hgr.cells hc.1 ?_, hgr.cells hc.2 ?_⟩
        · by_cases e : q.1.val.plus.map intC = []
          · exact .inl e
          · exact .inr (fun s hs => ((ho s hs).1.resolve_left e))
        · by_cases e : q.1.val.minus.map intC = []
          · exact .inl e
          · exact .inr (fun s hs => ((ho s hs).2.resolve_left e))
      rcases List.mem_append.1 hq with hq | hq
      · exact key q (h.rows q hq) (h.off q hq)
      · exact key q (hr2 q hq) (hoff q hq)
    · rcases hob with e | e
      · rw [e] at hb
        exact (List.mem_append.1 hq).elim (fun hq => h.off q hq b hb) (fun hq => hoff q hq b hb)
      · rw [e] at hb
        injection hb with hb
        subst hb
        exact (List.mem_append.1 hq).elim (fun hq => off_old h.rows (Nat.le_refl _) q hq) (fun hq => off_old hr2 (Nat.le_refl _) q hq)
theorem wpListIn_append_ens {F : Fence} {n : Nat} (hFn : ∀ f, F.fn f) {ops : Array Oper} {rest : List Oper} {o : Oper} {a : Act} {w : World} {Q : Exit → Act → World → Prop} (hgd : o.guard = none) (s x : Operand) (ho : o.op = .call { callee := .builtin .append, args := #[s, x], argTypes := #[22, 22] })
    (N : Nat) (v : Value) (ps : RowE) (hs : a.eval s = v) (h : OutV N v ps w) (u : Value) (ps2 : RowE) (hx : a.eval x = u) (hu : SrcE u ps2 w) (hr2 : RowsOk ps2 w) (hoff : ∀ q ∈ ps2, ∀ b, v.ownBlock = some b → OffQ b q) (hn : ps.length + ps2.length ≤ 1000) (hN : N ≤ w.heap.size)
    (hr : ∀ v' w', OutV N v' (ps ++ ps2) w' → w.grownBy w' v.ownBlock → (v'.ownBlock = v.ownBlock ∨ v'.ownBlock = some w.heap.size) → wpListIn F n Tryz.prog ops Q rest (a.put o.dst v') w') : wpListIn F n Tryz.prog ops Q (o :: rest) a w := by
  refine wpListIn_plain hgd fun K hK => ?_
  obtain ⟨v', w', hrun, h1, h2, h3⟩ := run_append_ens2 h hu hr2 hoff hn hN o.type
  unfold Oper.wpIn
  refine ⟨fun f _ => hFn f, ?_⟩
  rw [Oper.semAt_eq _ _ _ (by intro c e; rw [ho] at e; cases e)]
  unfold execOp
  rw [ho]
  simp only [resolve, Sem.run_bind, Sem.run_pure, Result.andThen_ok, invoke, builtin, List.map_toArray, List.map_cons, List.map_nil, hs, hx, hrun, Oper.uponIn]
  exact hK _ _ (hr v' w' h1 h2 h3)
theorem src_oneB (X : En) (xp xm : Value) (w : World) : SrcE (.slice (some ⟨w.heap.size, 0, none⟩) 1 1) [(X, xp, xm)] (w.alloc (.cells #[.string ⟨X.key.toArray⟩, .int .i64 X.val.kind, .int .i64 X.val.time, .int .i64 X.val.node, .bool X.val.dead, .string ⟨X.val.text.toArray⟩, xp, xm, .int .u64 (X.val.flags.toNat : Int)] 48)) := by
  refine .inr ⟨⟨w.heap.size, 0, none⟩, 1, rfl, fun j x hx => ?_⟩
  rw [add_at, Nat.zero_add, World.cell?_alloc_new]
  simpa [flatE, enL] using hx
theorem in_chunk (A : Ar) (mask most : Int) : inL mask most (chunkA A 0 8) = inA A mask most := by
  unfold chunkA inA
  rw [if_neg (by decide)]
  cases hok : okA A with
  | false => simp [inL]
  | true =>
    have h := okA_iff.1 hok
    have h1 := h.fits
    have h2 := h.room
    rw [if_pos rfl, if_pos rfl, show (0 : Int).toNat = 0 from rfl, List.drop_zero, List.take_of_length_le (by show A.slots.length ≤ 8; omega)]
structure IIn (mask most : Int) (w : World) (pre : List Elb) (W : World) : Prop where
  ex : ∃ v ps, OutS (w.heap.size + 6) (w.heap.size + 1 + 1 + 1 + 1) v ps W ∧ ps.map (·.1) = inL mask most (pre.map (·.1)) ∧ ∀ b, v.ownBlock = some b → ∃ y ∈ pre, y.2.2.2.2 ≤ b
  below : Below w.heap.size w W
  size : w.heap.size + 6 ≤ W.heap.size
  bm : Blk W (w.heap.size + 1) [.int .i64 mask]
  bp : Blk W (w.heap.size + 1 + 1) [.int .i64 most]
  bf : Blk W (w.heap.size + 1 + 1 + 1) [.func (.func 39) #[] #[.pointer (some ⟨w.heap.size + 1, 0, none⟩)]]
theorem iin_own (mask most : Int) (w : World) (B : Nat) (hB : w.heap.size + 6 ≤ B) : OwnFrom B (IIn mask most w) := by
  intro s W W' row ⟨⟨v, ps, h1, h3, h4⟩, h5, h6, h7, h8, h9⟩ hg hr
  exact ⟨⟨v, ps, out_own (B := B) (by omega) h1 hg hr, h3, h4⟩, h5.grown hg (by omega) (fun k e => by have := (hr k e).1; omega), Nat.le_trans h6 hg.size, blk_own (by simp) h7 hg hr, blk_own (by simp) h8 hg hr, blk_own (by simp) h9 hg hr⟩
theorem iin_keep {mask most : Int} {w : World} {pre : List Elb} {W W' : World} (h : IIn mask most w pre W) (hb : Below W.heap.size W W') : IIn mask most w pre W' := by
  obtain ⟨⟨v, ps, h1, h3, h4⟩, h5, h6, h7, h8, h9⟩ := h
  exact ⟨⟨v, ps, h1.keep hb, h3, h4⟩, h5.trans (hb.mono (by omega)), Nat.le_trans h6 hb.size, h7.keep hb, h8.keep hb, h9.keep hb⟩
/-- Where no more is told: the list stays. -/
theorem IIn.skip {mask most : Int} {w : World} {pre : List Elb} {x : Elb} {W : World} (h : IIn mask most w pre W) (hx : inL mask most (pre.map (·.1) ++ [x.1]) = inL mask most (pre.map (·.1))) : IIn mask most w (pre ++ [x]) W := by
  obtain ⟨⟨v, ps, h1, h3, h4⟩, h5, h6, h7, h8, h9⟩ := h
  exact ⟨⟨v, ps, h1, by rw [List.map_append]; exact h3.trans hx.symm, fun b hb => by obtain ⟨y, hy, hl⟩ := h4 b hb; exact ⟨y, List.mem_append_left _ hy, hl⟩⟩, h5, h6, h7, h8, h9⟩
def IxIn (mask most : Int) (w : World) (c : Code) (pre : List Elb) (W : World) : Prop := c = .exit 0 ∧ IIn mask most w pre W ∧ most ≤ ((inL mask most (pre.map (·.1))).length : Int)
structure AxIn (A : Ar) (mask most : Int) (vs vi : Value) (w : World) (x : Elb) (a' : Act) (W : World) (h : Nat) : Prop where
  act : a' = { tmps := #[.agg #[.int .i64 A.cap, vs, vi], .int .i64 mask, .int .i64 most, .pointer (some ⟨w.heap.size, 0, none⟩), .pointer (some ⟨w.heap.size + 1, 0, none⟩), .pointer (some ⟨w.heap.size + 1 + 1, 0, none⟩), .slice none 0 0, .pointer (some ⟨w.heap.size + 1 + 1 + 1, 0, none⟩), .pointer (some ⟨w.heap.size + 1 + 1 + 1 + 1, 0, none⟩), .int .i64 (bkE x.1 : Int), .pointer (some ⟨h, 0, none⟩), .func (.func 39) #[] #[.pointer (some ⟨w.heap.size + 1, 0, none⟩)], .agg #[.int .i64 A.cap, vs, vi], .func (.func 70) #[] #[.pointer (some ⟨w.heap.size + 1 + 1 + 1 + 1 + 1, 0, none⟩)], .int .i64 (bkE x.1 : Int), .agg #[.string ⟨x.1.key.toArray⟩, .int .i64 x.1.val.kind, .int .i64 x.1.val.time, .int .i64 x.1.val.node, .bool x.1.val.dead, .string ⟨x.1.val.text.toArray⟩, x.2.1, x.2.2.1, .int .u64 (x.1.val.flags.toNat : Int)], undef, undef, undef, undef, undef, undef, undef, undef, undef, undef, undef, undef], defers := [] }
  box : Blk W h [.string ⟨x.1.key.toArray⟩, .int .i64 x.1.val.kind, .int .i64 x.1.val.time, .int .i64 x.1.val.node, .bool x.1.val.dead, .string ⟨x.1.val.text.toArray⟩, x.2.1, x.2.2.1, .int .u64 (x.1.val.flags.toNat : Int)]
  rp : isCells (x.1.val.plus.map intC) x.2.1 W
  rm : isCells (x.1.val.minus.map intC) x.2.2.1 W
  up : x.1.val.plus.map intC = [] ∨ ∀ b, blk x.2.1 = some b → b < x.2.2.2.2
  um : x.1.val.minus.map intC = [] ∨ ∀ b, blk x.2.2.1 = some b → b < x.2.2.2.2
  np : NewB x.2.2.2.1 x.2.1
  nm : NewB x.2.2.2.1 x.2.2.1
  lo : w.heap.size + 6 ≤ x.2.2.2.1
  hi : x.2.2.2.2 ≤ W.heap.size
  row : ∀ u, W.cell? ⟨(w.heap.size + 1 + 1 + 1 + 1), 0, none⟩ = some u → ∀ b, u.ownBlock = some b → x.2.2.2.2 ≤ b
theorem axin_own (A : Ar) (mask most : Int) (vs vi : Value) (w : World) (x : Elb) (a' : Act) (B : Nat) (hB : w.heap.size + 6 ≤ B) : OwnFrom B (fun (_ : Unit) W => ∃ h, AxIn A mask most vs vi w x a' W h ∧ (w.heap.size + 1 + 1 + 1 + 1) < W.heap.size) := by
  rintro _ W W' row ⟨h, ⟨e, hb, hp, hm, h1, h2, n1, n2, h3, h4, h5⟩, h6⟩ hg hr
  exact ⟨h, ⟨e, blk_own (by simp) hb hg hr, cells_own hp hg hr, cells_own hm hg hr, h1, h2, n1, n2, h3, Nat.le_trans h4 hg.size, fun u hc => h5 u (by rw [← hc]; exact (World.cell?_of_block (a := ⟨(w.heap.size + 1 + 1 + 1 + 1), 0, none⟩) (iall_b1 (b := (w.heap.size + 1 + 1 + 1 + 1)) hg hr hb ⟨by omega, h6⟩)).symm)⟩, Nat.lt_of_lt_of_le h6 hg.size⟩
set_option maxRecDepth 100000 in
set_option maxHeartbeats 4000000 in
theorem in_any (A : Ar) (mask most : Int) (v : Value) (w : World) (hv : isAr A v w) (hF : FitA A) : Calls Tryz.prog 15 #[v, .int .i64 mask, .int .i64 most] w fun e W' => ∃ v', e = .returned v' ∧ isEns (inA A mask most) v' W' ∧ Below w.heap.size w W' := by
  obtain ⟨vs, vi, rfl, hs, hi⟩ := hv
  refine (callsIn_wide (n := 5)).1 ?_
  refine callsIn_of_wp_marks Tryz.func15 rfl trivial ?_ rfl
  simp only [Tryz.ntmps15, List.size_toArray, List.length_cons, List.length_nil, Nat.reduceAdd, Nat.reduceSub, Array.replicate_succ, Array.replicate_zero, List.push_toArray, List.append_toArray, List.nil_append, List.cons_append]
  gi_wp2_with (refine ⟨trivial, (callsIn_wide.2 (by_any A _ _ vs vi rfl)).mono ?_⟩; rintro e w' ⟨rfl, rfl⟩)
  have hB0 : Below w.heap.size w ((((((w.alloc (.cells #[.int .i64 A.cap, vs, vi] 25)).alloc (.cells #[.int .i64 mask] 3)).alloc (.cells #[.int .i64 most] 3)).alloc (.cells #[.func (.func 39) #[] #[.pointer (some ⟨w.heap.size + 1, 0, none⟩)]] 66)).alloc (.cells #[.slice none 0 0] 22)).alloc (.cells #[.int .i64 A.cap, vs, vi] 25)) := ((((((Below.refl _ w).alloc (Nat.le_refl _) _).alloc (by simp) _).alloc (by simp; omega) _).alloc (by simp; omega) _).alloc (by simp; omega) _).alloc (by simp; omega) _
  have hBx : Blk ((((((w.alloc (.cells #[.int .i64 A.cap, vs, vi] 25)).alloc (.cells #[.int .i64 mask] 3)).alloc (.cells #[.int .i64 most] 3)).alloc (.cells #[.func (.func 39) #[] #[.pointer (some ⟨w.heap.size + 1, 0, none⟩)]] 66)).alloc (.cells #[.slice none 0 0] 22)).alloc (.cells #[.int .i64 A.cap, vs, vi] 25)) (w.heap.size + 1 + 1 + 1 + 1 + 1) [.int .i64 A.cap, vs, vi] := (Blk.new (((((w.alloc (.cells #[.int .i64 A.cap, vs, vi] 25)).alloc (.cells #[.int .i64 mask] 3)).alloc (.cells #[.int .i64 most] 3)).alloc (.cells #[.func (.func 39) #[] #[.pointer (some ⟨w.heap.size + 1, 0, none⟩)]] 66)).alloc (.cells #[.slice none 0 0] 22)) 25 [.int .i64 A.cap, vs, vi] (w.heap.size + 1 + 1 + 1 + 1 + 1) (by simp))
  have hI0 : IIn mask most w [] ((((((w.alloc (.cells #[.int .i64 A.cap, vs, vi] 25)).alloc (.cells #[.int .i64 mask] 3)).alloc (.cells #[.int .i64 most] 3)).alloc (.cells #[.func (.func 39) #[] #[.pointer (some ⟨w.heap.size + 1, 0, none⟩)]] 66)).alloc (.cells #[.slice none 0 0] 22)).alloc (.cells #[.int .i64 A.cap, vs, vi] 25)) := ⟨⟨.slice none 0 0, [], ⟨((Blk.new ((((w.alloc (.cells #[.int .i64 A.cap, vs, vi] 25)).alloc (.cells #[.int .i64 mask] 3)).alloc (.cells #[.int .i64 most] 3)).alloc (.cells #[.func (.func 39) #[] #[.pointer (some ⟨w.heap.size + 1, 0, none⟩)]] 66)) 22 [.slice none 0 0] (w.heap.size + 1 + 1 + 1 + 1) (by simp)).alloc _), World.ownsRow_nil _ _ _ _, (fun q hq => by cases hq), (fun q hq => by cases hq), (fun q hq => by cases hq)⟩, by rw [List.map_nil, List.map_nil, inL_nil], fun b hb => by cases hb⟩, hB0, by simp, (((((Blk.new (w.alloc (.cells #[.int .i64 A.cap, vs, vi] 25)) 3 [.int .i64 mask] (w.heap.size + 1) (by simp)).alloc _).alloc _).alloc _).alloc _), ((((Blk.new ((w.alloc (.cells #[.int .i64 A.cap, vs, vi] 25)).alloc (.cells #[.int .i64 mask] 3)) 3 [.int .i64 most] (w.heap.size + 1 + 1) (by simp)).alloc _).alloc _).alloc _), (((Blk.new (((w.alloc (.cells #[.int .i64 A.cap, vs, vi] 25)).alloc (.cells #[.int .i64 mask] 3)).alloc (.cells #[.int .i64 most] 3)) 66 [.func (.func 39) #[] #[.pointer (some ⟨w.heap.size + 1, 0, none⟩)]] (w.heap.size + 1 + 1 + 1) (by simp)).alloc _).alloc _)⟩
  have hsz : ((((((w.alloc (.cells #[.int .i64 A.cap, vs, vi] 25)).alloc (.cells #[.int .i64 mask] 3)).alloc (.cells #[.int .i64 most] 3)).alloc (.cells #[.func (.func 39) #[] #[.pointer (some ⟨w.heap.size + 1, 0, none⟩)]] 66)).alloc (.cells #[.slice none 0 0] 22)).alloc (.cells #[.int .i64 A.cap, vs, vi] 25)).heap.size = w.heap.size + 6 := by simp
  have hs0 := stable_ens _ _ _ _ hs hB0
  have hi0 := stable_cells _ _ _ _ hi hB0
  have hseq := by1_in 4 (by omega) (w.heap.size + 1 + 1 + 1 + 1 + 1) A vs vi ((((((w.alloc (.cells #[.int .i64 A.cap, vs, vi] 25)).alloc (.cells #[.int .i64 mask] 3)).alloc (.cells #[.int .i64 most] 3)).alloc (.cells #[.func (.func 39) #[] #[.pointer (some ⟨w.heap.size + 1, 0, none⟩)]] 66)).alloc (.cells #[.slice none 0 0] 22)).alloc (.cells #[.int .i64 A.cap, vs, vi] 25)) hBx hs0 hi0 hF
  have HLO := Kept.mk (show ∀ e ∈ chunkA A 0 8, okE e = true from fun e he => chunk_ok he)
  try simp only [World.size_alloc] at hseq
  try simp only [World.size_alloc]
  generalize ((((((w.alloc (.cells #[.int .i64 A.cap, vs, vi] 25)).alloc (.cells #[.int .i64 mask] 3)).alloc (.cells #[.int .i64 most] 3)).alloc (.cells #[.func (.func 39) #[] #[.pointer (some ⟨w.heap.size + 1, 0, none⟩)]] 66)).alloc (.cells #[.slice none 0 0] 22)).alloc (.cells #[.int .i64 A.cap, vs, vi] 25)) = W0 at *
  refine range_made rfl (by decide) (gf := 70) (lb := #[.pointer (some ⟨w.heap.size + 1 + 1 + 1 + 1 + 1, 0, none⟩)]) rfl trivial (enters_of Tryz.func70 (by kernel_rfl) rfl)
    hseq kpB_t (fun x W l o o' h1 h2 h3 h4 => kpB_put x W l o o' h1 h2 h3 h4) (Below.refl _ _) (fun _ => rfl)
    (IIn mask most w) (IxIn mask most w) (iin_own mask most w _ (by omega)) (fun c s W W' row hs hg hr => ⟨hs.1, iin_own mask most w _ (by omega) s W W' row hs.2.1 hg hr, hs.2.2⟩) hI0 (fun x a' W => ∃ h, AxIn A mask most vs vi w x a' W h ∧ (w.heap.size + 1 + 1 + 1 + 1) < W.heap.size) (fun x a' => axin_own A mask most vs vi w x a' _ (by omega)) ?assign ?body ?done ?stop
  case assign =>
    intro l pre x W K hIp hpx hK
    obtain ⟨K1, K2, K3, K4, K5⟩ := enew W x.1 x.2.1 x.2.2.1 hpx.rp hpx.rm W.heap.size rfl
    have HH := Kept.mk ((Blk.new W 48 [.string ⟨#[]⟩, .int .i64 0, .int .i64 0, .int .i64 0, .bool false, .string ⟨#[]⟩, .slice none 0 0, .slice none 0 0, .int .u64 0] W.heap.size rfl).all_ (l := [.string ⟨x.1.key.toArray⟩, .int .i64 x.1.val.kind, .int .i64 x.1.val.time, .int .i64 x.1.val.node, .bool x.1.val.dead, .string ⟨x.1.val.text.toArray⟩, x.2.1, x.2.2.1, .int .u64 (x.1.val.flags.toNat : Int)]) rfl)
    obtain ⟨⟨v0, ps0, hOS0, hpm0, hvo0⟩, hb0, hN0, _, _, _⟩ := id hIp
    have hO0 := hOS0.st
    have hun : ∀ u, (setN (W.alloc (.cells #[.string ⟨#[]⟩, .int .i64 0, .int .i64 0, .int .i64 0, .bool false, .string ⟨#[]⟩, .slice none 0 0, .slice none 0 0, .int .u64 0] 48)) W.heap.size 0 [.string ⟨x.1.key.toArray⟩, .int .i64 x.1.val.kind, .int .i64 x.1.val.time, .int .i64 x.1.val.node, .bool x.1.val.dead, .string ⟨x.1.val.text.toArray⟩, x.2.1, x.2.2.1, .int .u64 (x.1.val.flags.toNat : Int)]).cell? ⟨(w.heap.size + 1 + 1 + 1 + 1), 0, none⟩ = some u → ∀ b, u.ownBlock = some b → x.2.2.2.2 ≤ b := fun u hc b hb => by
      have h1 := (K3.out.cell (p := ⟨(w.heap.size + 1 + 1 + 1 + 1), 0, none⟩) hO0.lt).symm.trans hc
      rw [hO0.cells.2 0 _ rfl] at h1
      injection h1 with h1
      subst h1
      obtain ⟨y, hy, hle⟩ := hvo0 b hb
      have := hpx.one y hy
      rw [this] at hle
      exact hle
    have hK2 := hK _ _ (keeps_below K3.out) (kpB_below K3.out) (iin_keep hIp K3.out) ⟨W.heap.size, ⟨rfl, HH.out, stable_cells _ _ _ _ hpx.rp K3.out, stable_cells _ _ _ _ hpx.rm K3.out, hpx.up, hpx.um, hpx.np, hpx.nm, by have := hpx.lo; omega, Nat.le_trans hpx.hi K3.out.size, hun⟩, Nat.lt_of_lt_of_le hO0.lt K3.out.size⟩
    have HK := Kept.mk hK2
    clear hK2 hK hpx hun hO0 hOS0 hpm0 hvo0
    simp only [encBk]
    gi_wp2_with (have hz0 := K1; refine wpListIn_storeN (fun _ => trivial) 48 rfl (.tmp 10) (.tmp 15) rfl W.heap.size [.string ⟨x.1.key.toArray⟩, .int .i64 x.1.val.kind, .int .i64 x.1.val.time, .int .i64 x.1.val.node, .bool x.1.val.dead, .string ⟨x.1.val.text.toArray⟩, x.2.1, x.2.2.1, .int .u64 (x.1.val.flags.toNat : Int)] size_en rfl rfl K1.out rfl K2.out K5.out ?_; clear hz0 K1 K2 K5)
    exact HK.out
  case body =>
    rintro l pre x a' W hl hIp ⟨h, ⟨rfl, hbl, hp, hm, hup, hum, hnp, hnm, hlo, hhi, hrow⟩, h4lt⟩ hlt
    have HI := Kept.mk hIp
    obtain ⟨⟨v, ps, hOS, hpm, hvo⟩, hb0, hN0, hbm, hbp, hbf⟩ := hIp
    have hO := hOS.st
    have hOV : OutV (w.heap.size + 6) v ps W := ⟨hOS.own, hOS.rows, hOS.off⟩
    have HNW := Kept.mk hOS.nw
    have HVO := Kept.mk hvo
    clear hOS hvo
    have kv := hO.cells.2 0 _ rfl
    have kp := hbp.cells.2 0 _ rfl
    have kf := hbf.cells.2 0 _ rfl
    have HOW := Kept.mk (hrow v kv)
    obtain ⟨va, vc, rfl⟩ := hOV.len
    have hpl : ps.length ≤ 999 := by
      have h1 := congrArg List.length hpm
      rw [List.length_map] at h1
      rw [h1]
      unfold inL
      rw [List.length_take]
      have h2 := List.length_filter_le (askB mask) (pre.map (·.1))
      rw [List.length_map] at h2
      omega
    have HPM := Kept.mk hpm
    have HPL := Kept.mk (show (ps.length : Int) = ((inL mask most (pre.map (·.1))).length : Int) by rw [← hpm, List.length_map])
    have HO := Kept.mk hO
    have HOV := Kept.mk hOV
    have HBM := Kept.mk hbm
    have hk4 : bkE x.1 < 4 := bucketN_lt _ _
    have ke0 := hbl.cells.2 0 _ rfl
    have ke1 := hbl.cells.2 1 _ rfl
    have ke2 := hbl.cells.2 2 _ rfl
    have ke3 := hbl.cells.2 3 _ rfl
    have ke4 := hbl.cells.2 4 _ rfl
    have ke5 := hbl.cells.2 5 _ rfl
    have ke6 := hbl.cells.2 6 _ rfl
    have ke7 := hbl.cells.2 7 _ rfl
    have ke8 := hbl.cells.2 8 _ rfl
    have HBL := Kept.mk hbl
    have HRR := Kept.mk (And.intro hp hm)
    have HUU := Kept.mk (And.intro hup hum)
    have HNN := Kept.mk (And.intro hnp hnm)
    clear hO hOV hpm hbm hbp hbf hrow hbl hp hm hup hum hnp hnm
    generalize hn : ps.length = n at *
    have HNL := Kept.mk hn
    clear hn
    by_cases hge : most ≤ (n : Int)
    · have hpost : KeepsFrom W0.heap.size W W ∧ IxIn mask most w (.exit 0) (pre ++ [x]) W := by
        have hx : inL mask most (pre.map (·.1) ++ [x.1]) = inL mask most (pre.map (·.1)) := inL_full _ _ _ _ (by rw [← HPL.out]; exact hge)
        refine ⟨⟨Nat.le_refl _, fun k o _ hk _ => hk⟩, rfl, HI.out.skip hx, ?_⟩
        rw [List.map_append]
        show most ≤ ((inL mask most (pre.map (·.1) ++ [x.1])).length : Int)
        rw [hx, ← HPL.out]; exact hge
      have HPO := Kept.mk hpost
      clear hpost
      gi_wp2
      exact HPO.out
    · have hge2 : ¬ most ≤ (n : Int) := hge
      gi_wp2_with fail
      refine ⟨trivial, (CallsIn.inRound l (callsIn_wide.2 (asked_any mask (bkE x.1) (w.heap.size + 1) W hk4 HBM.out))).mono ?_⟩
      rintro e W1 ⟨rfl, hb⟩
      cases hz : askK mask (bkE x.1) with
      | false =>
        have hx : inL mask most (pre.map (·.1) ++ [x.1]) = inL mask most (pre.map (·.1)) := by
          rw [inL_snoc]
          unfold inStep
          rw [if_neg (by rintro ⟨_, h⟩; rw [askB_eq, hz] at h; cases h)]
        have hpost : KeepsFrom W0.heap.size W W1 ∧ KpB x W W1 ∧ IIn mask most w (pre ++ [x]) W1 := ⟨keeps_below hb, kpB_below hb, iin_keep (HI.out.skip hx) hb⟩
        have HPO := Kept.mk hpost
        clear hpost
        gi_wp2
        exact HPO.out
      | true =>
        have hx : inL mask most (pre.map (·.1) ++ [x.1]) = inL mask most (pre.map (·.1)) ++ [x.1] := by
          rw [inL_snoc]
          unfold inStep
          rw [if_pos ⟨by rw [← HPL.out]; omega, by rw [askB_eq, hz]⟩]
        have HX := Kept.mk hx
        have HB := Kept.mk hb
        have kv1 := (hb.cell (p := ⟨(w.heap.size + 1 + 1 + 1 + 1), 0, none⟩) HO.out.lt).trans kv
        have kq0 := (hb.cell (p := ⟨h, 0, none⟩) HBL.out.lt).trans ke0
        have kq1 := (hb.cell (p := ⟨h, 1, none⟩) HBL.out.lt).trans ke1
        have kq2 := (hb.cell (p := ⟨h, 2, none⟩) HBL.out.lt).trans ke2
        have kq3 := (hb.cell (p := ⟨h, 3, none⟩) HBL.out.lt).trans ke3
        have kq4 := (hb.cell (p := ⟨h, 4, none⟩) HBL.out.lt).trans ke4
        have kq5 := (hb.cell (p := ⟨h, 5, none⟩) HBL.out.lt).trans ke5
        have kq6 := (hb.cell (p := ⟨h, 6, none⟩) HBL.out.lt).trans ke6
        have kq7 := (hb.cell (p := ⟨h, 7, none⟩) HBL.out.lt).trans ke7
        have kq8 := (hb.cell (p := ⟨h, 8, none⟩) HBL.out.lt).trans ke8
        have hlit := lit_below W1 (.cells #[.string ⟨x.1.key.toArray⟩, .int .i64 x.1.val.kind, .int .i64 x.1.val.time, .int .i64 x.1.val.node, .bool x.1.val.dead, .string ⟨x.1.val.text.toArray⟩, x.2.1, x.2.2.1, .int .u64 (x.1.val.flags.toNat : Int)] 48)
        have SRC := Kept.mk (src_oneB x.1 x.2.1 x.2.2.1 W1)
        have OV1 := Kept.mk ((HOV.out.keep hb).keep hlit)
        have ROW := Kept.mk (show RowsOk [(x.1, x.2.1, x.2.2.1)] (W1.alloc (.cells #[.string ⟨x.1.key.toArray⟩, .int .i64 x.1.val.kind, .int .i64 x.1.val.time, .int .i64 x.1.val.node, .bool x.1.val.dead, .string ⟨x.1.val.text.toArray⟩, x.2.1, x.2.2.1, .int .u64 (x.1.val.flags.toNat : Int)] 48)) from fun q hq => by rw [List.mem_singleton] at hq; subst hq; exact ⟨stable_cells _ _ _ _ (stable_cells _ _ _ _ HRR.out.1 hb) hlit, stable_cells _ _ _ _ (stable_cells _ _ _ _ HRR.out.2 hb) hlit⟩)
        have HOF := Kept.mk (show ∀ q ∈ [(x.1, x.2.1, x.2.2.1)], ∀ b, (Value.slice va n vc).ownBlock = some b → OffQ b q from fun q hq b hbo => by
          rw [List.mem_singleton] at hq
          subst hq
          have h1 := HOW.out b hbo
          exact ⟨HUU.out.1.imp id (fun h2 e => by have := h2 b e; omega), HUU.out.2.imp id (fun h2 e => by have := h2 b e; omega)⟩)
        have HPK := Kept.mk (show ps.length + [(x.1, x.2.1, x.2.2.1)].length ≤ 1000 by rw [HNL.out]; show n + 1 ≤ 1000; omega)
        have BZ := Kept.mk (show w.heap.size + 6 ≤ (W1.alloc (.cells #[.string ⟨x.1.key.toArray⟩, .int .i64 x.1.val.kind, .int .i64 x.1.val.time, .int .i64 x.1.val.node, .bool x.1.val.dead, .string ⟨x.1.val.text.toArray⟩, x.2.1, x.2.2.1, .int .u64 (x.1.val.flags.toNat : Int)] 48)).heap.size by have h1 := hb.size; have h2 := hlit.size; omega)
        have HFIN := Kept.mk (show ∀ v2 W2, OutV (w.heap.size + 6) v2 (ps ++ [(x.1, x.2.1, x.2.2.1)]) W2 → (W1.alloc (.cells #[.string ⟨x.1.key.toArray⟩, .int .i64 x.1.val.kind, .int .i64 x.1.val.time, .int .i64 x.1.val.node, .bool x.1.val.dead, .string ⟨x.1.val.text.toArray⟩, x.2.1, x.2.2.1, .int .u64 (x.1.val.flags.toNat : Int)] 48)).grownBy W2 (Value.slice va n vc).ownBlock → (v2.ownBlock = (Value.slice va n vc).ownBlock ∨ v2.ownBlock = some (W1.alloc (.cells #[.string ⟨x.1.key.toArray⟩, .int .i64 x.1.val.kind, .int .i64 x.1.val.time, .int .i64 x.1.val.node, .bool x.1.val.dead, .string ⟨x.1.val.text.toArray⟩, x.2.1, x.2.2.1, .int .u64 (x.1.val.flags.toNat : Int)] 48)).heap.size) →
            Blk W2 (w.heap.size + 1 + 1 + 1 + 1) [.slice va n vc] ∧ KeepsFrom W0.heap.size W (W2.setCell ⟨(w.heap.size + 1 + 1 + 1 + 1), 0, none⟩ v2) ∧ KpB x W (W2.setCell ⟨(w.heap.size + 1 + 1 + 1 + 1), 0, none⟩ v2) ∧ IIn mask most w (pre ++ [x]) (W2.setCell ⟨(w.heap.size + 1 + 1 + 1 + 1), 0, none⟩ v2) by
          intro v2 W2 ho2 hg2 hob2
          have bt2 : Bt (fun b => (Value.slice va n vc).ownBlock = some b) W W2 := ((Bt.grow hb).trans (Bt.grow hlit)).trans (gb_bt hg2 (fun b e => e))
          have hown6 : ∀ b, (Value.slice va n vc).ownBlock = some b → w.heap.size + 6 ≤ b := fun b e => (HOV.out.own.lt b e).1
          have hB2 : Blk W2 (w.heap.size + 1 + 1 + 1 + 1) [.slice va n vc] := bt2.blk HO.out (fun e => by have := hown6 _ e; omega)
          have bt3 := bt_set (S := fun b => b = (w.heap.size + 1 + 1 + 1 + 1)) (w.heap.size + 1 + 1 + 1 + 1) 0 v2 W2 rfl
          have bt4 : Bt (fun b => b = (w.heap.size + 1 + 1 + 1 + 1) ∨ (Value.slice va n vc).ownBlock = some b) W (W2.setCell ⟨(w.heap.size + 1 + 1 + 1 + 1), 0, none⟩ v2) := (bt2.weak (fun b e => .inr e)).trans (bt3.weak (fun b e => .inl e))
          have hlt6 : W0.heap.size = w.heap.size + 6 := hsz
          refine ⟨hB2, ⟨bt4.size, fun k o hBk hk ho => (bt4.block k (Array.getElem?_eq_some_iff.1 hk).1 ?_).trans hk⟩, kpB_blk bt4.size (fun b g1 g2 g3 => bt4.block b g3 ?_), ⟨⟨v2, _, ⟨?_, ?_, ?_, ho2.off, ?_⟩, ?_, ?_⟩, ?_, ?_, ?_, ?_, ?_⟩⟩
          · rintro (e | e)
            · omega
            · obtain ⟨_, ⟨e2, _⟩ | ⟨g, cap, cur, e2, _, hg', _⟩⟩ := HOV.out.own
              · rw [e2] at e; cases e
              · rw [e2] at e
                injection e with e
                have : g = k := e
                subst this
                rw [hg'] at hk
                injection hk with hk
                subst hk
                cases ho
          · rintro (e | e)
            · omega
            · have := HOW.out b e; omega
          · exact hB2.set 0 v2 (Nat.zero_lt_one)
          · exact bt3.own ho2.own (fun b hb2 e => by have := (ho2.own.lt b hb2).1; omega)
          · intro q hq
            have nn : NewB (w.heap.size + 6) q.2.1 ∧ NewB (w.heap.size + 6) q.2.2 := by
              rcases List.mem_append.1 hq with hq | hq
              · exact HNW.out q hq
              · rw [List.mem_singleton] at hq; subst hq
                exact ⟨HNN.out.1.low hlo, HNN.out.2.low hlo⟩
            exact ⟨bt3.cells (ho2.rows q hq).1 (.inr (fun b e1 e2 => by have := nn.1 b e1; omega)), bt3.cells (ho2.rows q hq).2 (.inr (fun b e1 e2 => by have := nn.2 b e1; omega))⟩
          · intro q hq
            rcases List.mem_append.1 hq with hq | hq
            · exact HNW.out q hq
            · rw [List.mem_singleton] at hq; subst hq
              exact ⟨HNN.out.1.low hlo, HNN.out.2.low hlo⟩
          · rw [List.map_append, List.map_append, HPM.out]
            exact HX.out.symm
          · intro b hb2
            rcases hob2 with e | e
            · rw [e] at hb2
              obtain ⟨y, hy, hl2⟩ := HVO.out b hb2
              exact ⟨y, List.mem_append_left _ hy, hl2⟩
            · rw [e] at hb2
              injection hb2 with hb2
              exact ⟨x, List.mem_append_right _ (List.mem_singleton.2 rfl), by have h1 := hb.size; have h2 := hlit.size; omega⟩
          · exact hb0.trans (bt4.below (fun b e => by rcases e with e | e; (· omega); (· have := hown6 b e; omega)) (by omega))
          · exact Nat.le_trans hN0 bt4.size
          · exact bt4.blk HI.out.bm (fun e => by rcases e with e | e; (· omega); (· have := hown6 _ e; omega))
          · exact bt4.blk HI.out.bp (fun e => by rcases e with e | e; (· omega); (· have := hown6 _ e; omega))
          · exact bt4.blk HI.out.bf (fun e => by rcases e with e | e; (· omega); (· have := hown6 _ e; omega)))
        clear hb hlit
        gi_wp2_with (have hz0 := SRC; refine wpListIn_append_ens (fun _ => trivial) rfl (.tmp 23) (.tmp 25) rfl (w.heap.size + 6) (.slice va n vc) ps rfl OV1.out _ [(x.1, x.2.1, x.2.2.1)] rfl SRC.out ROW.out HOF.out HPK.out BZ.out ?_; clear hz0 SRC; intro v2 W2 ho2 hg2 hob2; have HF := Kept.mk (HFIN.out v2 W2 ho2 hg2 hob2); obtain ⟨va2, vc2, e2⟩ := ho2.len; rw [List.length_append, HNL.out] at e2; subst e2; have kz := HF.out.1.cells.2 0 _ rfl; have kzf := HF.out.1.free 0; clear ho2 hg2 hob2 kv1 kv)
        exact HF.out.2
  case done =>
    rintro D ys W hD hys hIp hK
    have hl : inL mask most (ys.map (·.1)) = inA A mask most := by
      have hys2 : ys.map (·.1) = chunkA A 0 8 := hys
      rw [hys2]; exact in_chunk A mask most
    obtain ⟨⟨v, ps, hOS, hpm, hvo⟩, hb0, hN0, hbm, hbp, hbf⟩ := hIp
    have kv := hOS.st.cells.2 0 _ rfl
    have hen := Kept.mk (show isEns (inA A mask most) v (W.putObj D (.deferred none)) by
      have h2 := (out_own (B := W0.heap.size) (by omega) hOS (grownBy_putObj' W D (.deferred none)) (fun r e => by cases e; exact ⟨hD, _, hK, rfl⟩)).ens
      rw [hpm, hl] at h2
      exact h2)
    have hbl := Kept.mk (hb0.trans (belowK_b (w := w) (Nat.le_refl _) W D _ (.deferred none) (by omega) hK rfl rfl))
    clear hl hpm hvo hbm hbp hbf
    gi_wp2
    refine ⟨by simp, .inl ⟨_, _, rfl, run_takeDeferred hK, ?_⟩⟩
    exact ⟨_, results_tmp rfl _ _ _, v, rfl, hen.out, hbl.out⟩
  case stop =>
    rintro D c pre W hD hsp ⟨rfl, hIp, hle⟩ hK
    have hl : inL mask most (pre.map (·.1)) = inA A mask most := by
      obtain ⟨k, hk⟩ := hsp
      rw [← in_chunk A mask most, ← List.take_append_drop k (chunkA A 0 8), ← hk]
      exact (inL_full _ _ _ _ hle).symm
    obtain ⟨⟨v, ps, hOS, hpm, hvo⟩, hb0, hN0, hbm, hbp, hbf⟩ := hIp
    have kv := hOS.st.cells.2 0 _ rfl
    have hen := Kept.mk (show isEns (inA A mask most) v (W.putObj D (.deferred none)) by
      have h2 := (out_own (B := W0.heap.size) (by omega) hOS (grownBy_putObj' W D (.deferred none)) (fun r e => by cases e; exact ⟨hD, _, hK, rfl⟩)).ens
      rw [hpm, hl] at h2
      exact h2)
    have hbl := Kept.mk (hb0.trans (belowK_b (w := w) (Nat.le_refl _) W D _ (.deferred none) (by omega) hK rfl rfl))
    clear hl hpm hvo hbm hbp hbf
    gi_wp2
    refine ⟨by simp, .inl ⟨_, _, rfl, run_takeDeferred hK, ?_⟩⟩
    exact ⟨_, results_tmp rfl _ _ _, v, rfl, hen.out, hbl.out⟩
end Go.Proofs.YtkjghoomdefbbaaGreatDoor
end
