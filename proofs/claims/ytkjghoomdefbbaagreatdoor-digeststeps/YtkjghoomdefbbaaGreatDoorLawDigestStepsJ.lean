/- What an entry changes of sums is told by its own, and by that of what was there: just of its bucket (arena.Join, Find; digest.Sums, Bucket; entry.Put; crc.Sum). -/
import Derived.Test.YtkjghoomdefbbaaGreatDoorPartG
import Derived.SizedLaws
import Derived.ProofKit
import Derived.OpenShut
import Derived.ShutString
import Derived.ChangeOld
import Derived.Below
namespace Go.Proofs.YtkjghoomdefbbaaGreatDoor
open Go.RowKit
open Go.ChangeShapes Go.WideShapes Go.ChangeAt Go.RowKit
open Go.ChangeMaps (open_string shut_string)
set_option linter.unusedVariables false
set_option linter.unusedSimpArgs false
attribute [local irreducible] setN

theorem dcall_v {f : FuncId} {vs : Array Value} {w : World} {r : Value} (h : Calls Tryz.prog f vs w fun e w' => e = .returned r ∧ Below w.heap.size w w') : Calls Tryz.prog f vs w fun e w' => ∃ x, e = .returned x ∧ isVal r x w' ∧ Below w.heap.size w w' := h.mono (by rintro e w' ⟨rfl, hb⟩; exact ⟨_, rfl, rfl, hb⟩)
theorem refAll_selfD (l : List En) (v u : Value) (w : World) (hv : isEns l v w) (hu : isEns l u w) (hl : l.length ≤ 1000) (fl : ∀ e ∈ l, FitE e) : Calls Tryz.prog 14 #[v, u] w fun e w' => e = .returned (.bool true) ∧ Below w.heap.size w w' := by
  have h := refAll_any l l v u w hv hu hl hl fl fl
  rwa [show decide (l = l) = true by simp] at h
theorem gd_in (A : Ar) (m n : Int) (L : List En) (v : Value) (w : World) (hv : isAr A v w) (hF : FitA A) (hL : inA A m n = L) : Calls Tryz.prog 15 #[v, .int .i64 m, .int .i64 n] w fun e w' => ∃ x, e = .returned x ∧ isEns L x w' ∧ Below w.heap.size w w' := by subst hL; exact in_any A m n v w hv hF
theorem inA_fit {A : Ar} (hF : FitA A) (m n : Int) : (inA A m n).length ≤ 1000 ∧ ∀ e ∈ inA A m n, FitE e := by
  have h1 := hF.slots
  have h2 := hF.ents
  unfold inA
  split
  · unfold inL
    refine ⟨?_, fun e he => h2 e (List.mem_filter.1 (List.mem_of_mem_take he)).1⟩
    have := List.length_filter_le (askB m) A.slots
    rw [List.length_take]; omega
  · exact ⟨by decide, fun e he => by cases he⟩
theorem join_zero {A : Ar} {x : En} (h : joinAE A x = 0) : OkA A ∧ okE x = true := by
  unfold joinAE at h
  split at h
  · rename_i h2
    rw [Bool.and_eq_true] at h2
    exact ⟨okA_iff.1 h2.1, h2.2⟩
  · cases h
theorem gd_ejoin (A : Ar) (Y : En) (G : Ar) (b : Bool) (r : Int) (v u : Value) (w : World) (hv : isAr A v w) (hu : isEn Y u w) (hF : FitA A) (hY : FitE Y) (hG : joinAF A Y = G) (hb : joinAB A Y = b) (hr : joinAE A Y = r) : Calls Tryz.prog 29 #[v, u] w fun e w' => ∃ v', e = .returned (.tuple #[v', .bool b, .int .i64 r]) ∧ isAr G v' w' ∧ Below w.heap.size w w' := by
  subst hG hb hr; exact ajoin_any A Y v u w hv hu hF hY
theorem gd_find (A : Ar) (x : En) (p : Int) (v : Value) (w : World) (hv : isAr A v w) (hF : FitA A) (hp : findI A x = p) : Calls Tryz.prog 30 #[v, .int .i64 x.val.kind, .string ⟨x.key.toArray⟩] w fun e w' => e = .returned (.int .i64 p) ∧ Below w.heap.size w w' := by
  subst hp
  have h := find_any A x.val.kind x.key v w hv hF
  rwa [find_nameE A x] at h
theorem gd_eput (E : En) (q : List UInt8) (v : Value) (w : World) (hv : isEn E v w) (hF : FitE E) (hok : okE E = true) (hq : putEn E = q) : Calls Tryz.prog 31 #[v] w fun e w' => e = .returned (.tuple #[.string ⟨q.toArray⟩, .int .i64 0]) ∧ Below w.heap.size w w' := by
  have h := eput_any E v w hv hF
  rwa [show putF E = q by unfold putF; rw [if_pos hok, hq], show chkE E = 0 by unfold chkE; rw [if_pos hok]] at h
theorem gd_crc (q : List UInt8) (c : Nat) (w : World) (hl : q.length ≤ 1024) (hc : crcN q = c) : Calls Tryz.prog 32 #[.string ⟨q.toArray⟩] w fun e w' => e = .returned (.int .i64 (c : Int)) ∧ Below w.heap.size w w' := by
  subst hc; exact (sum_any q w hl).mono (by rintro e w' ⟨rfl, rfl⟩; exact ⟨rfl, Below.refl _ _⟩)
/-- Where sums differ in one place at most. -/
theorem dmk_one {a b : Nat → Nat} {k : Nat} (hk : k < 4) (h : ∀ j, j ≠ k → a j = b j) : dmk (a 0) (a 1) (a 2) (a 3) (b 0) (b 1) (b 2) (b 3) 4 = if a k = b k then 0 else 2 ^ k := by
  have key : ∀ j, j ≠ k → ((a j : Nat) : Int) = ((b j : Nat) : Int) := fun j hj => by rw [h j hj]
  have hz : ∀ (x y : Nat) (p : Nat), d1 (x : Int) (y : Int) p = if x = y then 0 else p := fun x y p => by
    unfold d1
    by_cases e : x = y
    · rw [if_pos (by rw [e]), if_pos e]
    · rw [if_neg (by omega), if_neg e]
  unfold dmk
  rw [hz, hz, hz, hz]
  have h4 : k = 0 ∨ k = 1 ∨ k = 2 ∨ k = 3 := by omega
  rcases h4 with rfl | rfl | rfl | rfl
  · rw [if_pos (h 1 (by decide)), if_pos (h 2 (by decide)), if_pos (h 3 (by decide))]; simp
  · rw [if_pos (h 0 (by decide)), if_pos (h 2 (by decide)), if_pos (h 3 (by decide))]; simp
  · rw [if_pos (h 0 (by decide)), if_pos (h 1 (by decide)), if_pos (h 3 (by decide))]; simp
  · rw [if_pos (h 0 (by decide)), if_pos (h 1 (by decide)), if_pos (h 2 (by decide))]; simp
theorem xor_zero_iff {a b : Nat} : a = a ^^^ b ↔ b = 0 := by
  constructor
  · intro h
    have : a ^^^ a = a ^^^ (a ^^^ b) := by rw [← h]
    rw [Nat.xor_self, ← Nat.xor_assoc, Nat.xor_self, Nat.zero_xor] at this
    exact this.symm
  · intro h; rw [h, Nat.xor_zero]

theorem mask_facts {A : Ar} {x : En} (h0 : joinAE A x = 0) {m : Nat} (hm : dmk (sumA A 0) (sumA A 1) (sumA A 2) (sumA A 3) (sumA (joinAF A x) 0) (sumA (joinAF A x) 1) (sumA (joinAF A x) 2) (sumA (joinAF A x) 3) 4 = m) :
    (joinAB A x = false → m = 0) ∧ (m = 0 ∨ m = 2 ^ bkE x) ∧ (hitB (ordA A) x = false → (m = 0 ↔ sumE x = 0)) := by
  obtain ⟨hA, hx⟩ := join_zero h0
  have hs := fun k => join_sums hA h0 k
  rw [dmk_one (a := sumA A) (b := sumA (joinAF A x)) (bucketN_lt x.val.kind x.key) (fun j hj => ((hs j).2.1 (fun e => hj e.symm)).symm)] at hm
  have hbk : bucketN x.val.kind x.key = bkE x := rfl
  rw [hbk] at hm
  have hp : 2 ^ bkE x ≠ 0 := by have := Nat.two_pow_pos (bkE x); omega
  subst hm
  refine ⟨fun hf => by rw [if_pos ((hs _).1 hf).symm], ?_, fun hh => ?_⟩
  · split
    · exact .inl rfl
    · exact .inr rfl
  · rw [((hs 0).2.2.1 hh).2.2]
    by_cases e : sumE x = 0
    · rw [if_pos (xor_zero_iff.2 e)]; simp [e]
    · rw [if_neg (fun h => e (xor_zero_iff.1 h))]; simp [e, hp]
theorem find_hitN {A : Ar} (h : OkA A) {x : En} (hh : hitB (ordA A) x = true) : ∃ p : Nat, findI A x = (p : Int) ∧ p < A.slots.length ∧ A.slots[p]? = some (slotOf A x) := by
  have h1 := (place_spec h hh).1
  have h2 := (slot_spec h hh).2.2.2
  exact ⟨(placeI A x).toNat, by rw [find_hit h hh]; omega, by omega, h2⟩
theorem xor_v {P : Program} {t : TypeId} (a b : Nat) (ha : a < 4294967296) (hb : b < 4294967296) (w : World) : (binOp .xor t (.int .i64 (a : Int)) (.int .i64 (b : Int))).run P w = .ok (.int .i64 ((a ^^^ b : Nat) : Int)) w := by
  have := xor_i64 a b ha hb
  simp [go_sem, this]
section
variable {P : Program} {ops : Array Oper} {base : World} {a0 : Act} {Q : Exit → Act → World → Prop} {kn : Nat → VP} {i : Nat} {V : VP}
theorem step_atV (t e : TypeId) (x y : Operand) (n g j : Nat) (hop : (ops[i]?).map (·.op) = some (.indexAddr t x y)) (hw : Wanted ops a0 kn i) (hx : Knows ops a0 kn i x (isVal (.pointer (some ⟨g, 0, none⟩)))) (hy : Knows ops a0 kn i y (isVal (.int .i64 (j : Int))))
    (ht : P.underlying t = some (.array n e)) (hs : P.cellsOf e = 1) (hi : (P.info? e).map (·.size) = some 1) (hk : j < n) : FStep P ops base a0 Q kn i (isVal (.pointer (some ⟨g, j, none⟩))) :=
  step_pure _ hop hw fun o a w ho hk' hd => by
    have e1 : a.eval x = .pointer (some ⟨g, 0, none⟩) := hx a w hk' hd
    have e2 : a.eval y = .int .i64 (j : Int) := hy a w hk' hd
    unfold execOp
    rw [ho]
    simp only [e1, e2, Sem.run_bind]
    obtain ⟨ie, hie, hz⟩ := Option.map_eq_some_iff.1 hi
    have hsz : (sizeOf e).run P w = .ok 1 w := by simp [sizeOf, typeInfo, hie, hz]
    have ha : (⟨g, 0, none⟩ : Addr).add j = ⟨g, j, none⟩ := by rw [add_at, Nat.zero_add]
    simp [Instr.indexAt, run_underlying ht, Instr.sureAddr, asIntOf, hsz, hk, ha]
end
/-- What an entry changes of sums. -/
theorem steps_facts {A : Ar} {x : En} (h0 : joinAE A x = 0) : hitB (ordA (joinAF A x)) x = true ∧ okE (slotOf (joinAF A x) x) = true ∧ (∀ j, bkE x ≠ j → sumA (joinAF A x) j = sumA A j) ∧
    (hitB (ordA A) x = false → sumA (joinAF A x) (bkE x) = sumA A (bkE x) ^^^ sumE (slotOf (joinAF A x) x)) ∧
    (hitB (ordA A) x = true → okE (slotOf A x) = true ∧ sumA (joinAF A x) (bkE x) = (sumA A (bkE x) ^^^ sumE (slotOf (joinAF A x) x)) ^^^ sumE (slotOf A x)) := by
  obtain ⟨hA, hx⟩ := join_zero h0
  have hB := join_okA hA x
  have hh := (join_slot hA h0).1
  have hs := fun k => join_sums hA h0 k
  refine ⟨hh, (slot_spec hB hh).2.1, fun j hj => (hs j).2.1 hj, fun h => ?_, fun h => ⟨(slot_spec hA h).2.1, (hs 0).2.2.2 h⟩⟩
  obtain ⟨_, h2, h3⟩ := (hs 0).2.2.1 h
  rw [h2]; exact h3
noncomputable def dst17Ops : Array Oper := regionOf Tryz.f8 17
set_option maxRecDepth 100000 in
set_option maxHeartbeats 2000000 in
theorem dst17_region (Q : Exit → Act → World → Prop) (a0 : Act) (w0 : World) (hsz : a0.tmps.size = 129) (g j x c : Nat) (t : List UInt8) (l : List Value) (HG : Blk w0 g l) (hj : l[j]? = some (.int .i64 (x : Int))) (hj4 : j < 4) (hx : x < 4294967296) (hc : c < 4294967296) (ht : t.length ≤ 1024) (hcc : crcN t = c)
    (e12 : a0.tmps.getD 12 undef = .int .i64 (j : Int)) (e13 : a0.tmps.getD 13 undef = .pointer (some ⟨g, 0, none⟩)) (e14 : a0.tmps.getD 14 undef = .string ⟨t.toArray⟩)
    (hQ : ∀ (f : Nat → Value) (w : World), Below w0.heap.size w0 w → Q .normal { tmps := [95, 96, 97, 98, 99, 100, 101, 102].foldl (fun t s => t.setIfInBounds s (f s)) a0.tmps, defers := a0.defers } (w.setCell ⟨g, j, none⟩ (.int .i64 ((x ^^^ c : Nat) : Int)))) :
    (Code.region 17 dst17Ops true).wp Tryz.prog Q a0 w0 := by
  refine wp_region_cov 8 mixed (by rw [hsz]; kernel_rfl) (by kernel_rfl) ?_
  rw [show dst17Ops.size - 8 = 1 by kernel_rfl]
  refine ⟨isVal (.int .i64 (j : Int)), step_move (.tmp 12) (by kernel_rfl) (wanted_none (by kernel_rfl)) (stable_val _) (knows_old 12 (.int .i64 (j : Int)) (by kernel_rfl) e12), ?_⟩
  refine ⟨isVal (.int .i64 (j : Int)), step_move (.tmp 12) (by kernel_rfl) (wanted_none (by kernel_rfl)) (stable_val _) (knows_old 12 (.int .i64 (j : Int)) (by kernel_rfl) e12), ?_⟩
  refine ⟨isVal (.pointer (some ⟨g, j, none⟩)), step_atV 26 3 (.tmp 13) (.tmp 96) 4 g j (by kernel_rfl) (wanted_none (by kernel_rfl)) (knows_old 13 (.pointer (some ⟨g, 0, none⟩)) (by kernel_rfl) e13) (knows_new (V := isVal (.int .i64 (j : Int))) 96 1 (by kernel_rfl) (by kernel_rfl) (by kernel_rfl)) Tryz.underlying26 (by kernel_rfl) (by kernel_rfl) hj4, ?_⟩
  refine ⟨isVal (.int .i64 (x : Int)), step_read 3 (.tmp 97) ⟨g, j, none⟩ (.int .i64 (x : Int)) (by kernel_rfl) (wanted_none (by kernel_rfl)) (knows_new (V := isVal (.pointer (some ⟨g, j, none⟩))) 97 2 (by kernel_rfl) (by kernel_rfl) (by kernel_rfl)) (HG.cells.2 j _ hj) HG.lt agg_in, ?_⟩
  refine ⟨isVal (.string ⟨t.toArray⟩), step_move (.tmp 14) (by kernel_rfl) (wanted_none (by kernel_rfl)) (stable_val _) (knows_old 14 (.string ⟨t.toArray⟩) (by kernel_rfl) e14), ?_⟩
  refine ⟨isVal (.int .i64 (c : Int)), step_call 32 #[.tmp 99] #[9] #[.string ⟨t.toArray⟩] (by kernel_rfl) (wanted_none (by kernel_rfl)) (stable_val _) (args1 (.tmp 99) (.string ⟨t.toArray⟩) (knows_new (V := isVal (.string ⟨t.toArray⟩)) 99 4 (by kernel_rfl) (by kernel_rfl) (by kernel_rfl))) (enters_of Tryz.func32 (by kernel_rfl) rfl) (by intro w' hb; exact dcall_v (gd_crc t c w' ht hcc)), ?_⟩
  refine ⟨isVal (.int .i64 ((x ^^^ c : Nat) : Int)), step_bin .xor 3 3 (.tmp 98) (.tmp 100) (.int .i64 (x : Int)) (.int .i64 (c : Int)) (.int .i64 ((x ^^^ c : Nat) : Int)) (by kernel_rfl) (wanted_none (by kernel_rfl)) (knows_new (V := isVal (.int .i64 (x : Int))) 98 3 (by kernel_rfl) (by kernel_rfl) (by kernel_rfl)) (knows_new (V := isVal (.int .i64 (c : Int))) 100 5 (by kernel_rfl) (by kernel_rfl) (by kernel_rfl)) (fun _ => rfl) (xor_v x c hx hc), ?_⟩
  refine ⟨isVal (.pointer (some ⟨g, j, none⟩)), step_atV 26 3 (.tmp 13) (.tmp 95) 4 g j (by kernel_rfl) (wanted_none (by kernel_rfl)) (knows_old 13 (.pointer (some ⟨g, 0, none⟩)) (by kernel_rfl) e13) (knows_new (V := isVal (.int .i64 (j : Int))) 95 0 (by kernel_rfl) (by kernel_rfl) (by kernel_rfl)) Tryz.underlying26 (by kernel_rfl) (by kernel_rfl) hj4, ?_⟩
  intro a w hkp hb hd
  have dp : a.eval (.tmp 102) = _ := fdone_of (hd 7 (by decide)) (t := 102) (V := isVal (.pointer (some ⟨g, j, none⟩))) (by kernel_rfl) (by kernel_rfl)
  have dv : a.eval (.tmp 101) = _ := fdone_of (hd 6 (by decide)) (t := 101) (V := isVal (.int .i64 ((x ^^^ c : Nat) : Int))) (by kernel_rfl) (by kernel_rfl)
  have HG' := HG.keep hb
  refine tail_store 3 (.tmp 102) (.tmp 101) ⟨g, j, none⟩ (.int .i64 ((x ^^^ c : Nat) : Int)) (.int .i64 (x : Int)) (by kernel_rfl) (by kernel_rfl) dp dv (by kernel_rfl) rfl rfl (HG'.cells.2 _ _ hj) (HG'.free j) ?_
  obtain ⟨y, ey⟩ := kept_ex hkp [some 95, some 96, some 97, some 98, some 99, some 100, some 101, some 102, none] [95, 96, 97, 98, 99, 100, 101, 102] (by kernel_rfl) (by decide)
  rw [ey]
  exact hQ y w hb
noncomputable def dst20Ops : Array Oper := regionOf Tryz.f8 20
set_option maxRecDepth 100000 in
set_option maxHeartbeats 2000000 in
theorem dst20_region (Q : Exit → Act → World → Prop) (a0 : Act) (w0 : World) (hsz : a0.tmps.size = 129) (g j x c : Nat) (t : List UInt8) (l : List Value) (HG : Blk w0 g l) (hj : l[j]? = some (.int .i64 (x : Int))) (hj4 : j < 4) (hx : x < 4294967296) (hc : c < 4294967296) (ht : t.length ≤ 1024) (hcc : crcN t = c)
    (e12 : a0.tmps.getD 12 undef = .int .i64 (j : Int)) (e13 : a0.tmps.getD 13 undef = .pointer (some ⟨g, 0, none⟩)) (e14 : a0.tmps.getD 16 undef = .string ⟨t.toArray⟩)
    (hQ : ∀ (f : Nat → Value) (w : World), Below w0.heap.size w0 w → Q .normal { tmps := [114, 115, 116, 117, 118, 119, 120, 121].foldl (fun t s => t.setIfInBounds s (f s)) a0.tmps, defers := a0.defers } (w.setCell ⟨g, j, none⟩ (.int .i64 ((x ^^^ c : Nat) : Int)))) :
    (Code.region 20 dst20Ops true).wp Tryz.prog Q a0 w0 := by
  refine wp_region_cov 8 mixed (by rw [hsz]; kernel_rfl) (by kernel_rfl) ?_
  rw [show dst20Ops.size - 8 = 1 by kernel_rfl]
  refine ⟨isVal (.int .i64 (j : Int)), step_move (.tmp 12) (by kernel_rfl) (wanted_none (by kernel_rfl)) (stable_val _) (knows_old 12 (.int .i64 (j : Int)) (by kernel_rfl) e12), ?_⟩
  refine ⟨isVal (.int .i64 (j : Int)), step_move (.tmp 12) (by kernel_rfl) (wanted_none (by kernel_rfl)) (stable_val _) (knows_old 12 (.int .i64 (j : Int)) (by kernel_rfl) e12), ?_⟩
  refine ⟨isVal (.pointer (some ⟨g, j, none⟩)), step_atV 26 3 (.tmp 13) (.tmp 115) 4 g j (by kernel_rfl) (wanted_none (by kernel_rfl)) (knows_old 13 (.pointer (some ⟨g, 0, none⟩)) (by kernel_rfl) e13) (knows_new (V := isVal (.int .i64 (j : Int))) 115 1 (by kernel_rfl) (by kernel_rfl) (by kernel_rfl)) Tryz.underlying26 (by kernel_rfl) (by kernel_rfl) hj4, ?_⟩
  refine ⟨isVal (.int .i64 (x : Int)), step_read 3 (.tmp 116) ⟨g, j, none⟩ (.int .i64 (x : Int)) (by kernel_rfl) (wanted_none (by kernel_rfl)) (knows_new (V := isVal (.pointer (some ⟨g, j, none⟩))) 116 2 (by kernel_rfl) (by kernel_rfl) (by kernel_rfl)) (HG.cells.2 j _ hj) HG.lt agg_in, ?_⟩
  refine ⟨isVal (.string ⟨t.toArray⟩), step_move (.tmp 16) (by kernel_rfl) (wanted_none (by kernel_rfl)) (stable_val _) (knows_old 16 (.string ⟨t.toArray⟩) (by kernel_rfl) e14), ?_⟩
  refine ⟨isVal (.int .i64 (c : Int)), step_call 32 #[.tmp 118] #[9] #[.string ⟨t.toArray⟩] (by kernel_rfl) (wanted_none (by kernel_rfl)) (stable_val _) (args1 (.tmp 118) (.string ⟨t.toArray⟩) (knows_new (V := isVal (.string ⟨t.toArray⟩)) 118 4 (by kernel_rfl) (by kernel_rfl) (by kernel_rfl))) (enters_of Tryz.func32 (by kernel_rfl) rfl) (by intro w' hb; exact dcall_v (gd_crc t c w' ht hcc)), ?_⟩
  refine ⟨isVal (.int .i64 ((x ^^^ c : Nat) : Int)), step_bin .xor 3 3 (.tmp 117) (.tmp 119) (.int .i64 (x : Int)) (.int .i64 (c : Int)) (.int .i64 ((x ^^^ c : Nat) : Int)) (by kernel_rfl) (wanted_none (by kernel_rfl)) (knows_new (V := isVal (.int .i64 (x : Int))) 117 3 (by kernel_rfl) (by kernel_rfl) (by kernel_rfl)) (knows_new (V := isVal (.int .i64 (c : Int))) 119 5 (by kernel_rfl) (by kernel_rfl) (by kernel_rfl)) (fun _ => rfl) (xor_v x c hx hc), ?_⟩
  refine ⟨isVal (.pointer (some ⟨g, j, none⟩)), step_atV 26 3 (.tmp 13) (.tmp 114) 4 g j (by kernel_rfl) (wanted_none (by kernel_rfl)) (knows_old 13 (.pointer (some ⟨g, 0, none⟩)) (by kernel_rfl) e13) (knows_new (V := isVal (.int .i64 (j : Int))) 114 0 (by kernel_rfl) (by kernel_rfl) (by kernel_rfl)) Tryz.underlying26 (by kernel_rfl) (by kernel_rfl) hj4, ?_⟩
  intro a w hkp hb hd
  have dp : a.eval (.tmp 121) = _ := fdone_of (hd 7 (by decide)) (t := 121) (V := isVal (.pointer (some ⟨g, j, none⟩))) (by kernel_rfl) (by kernel_rfl)
  have dv : a.eval (.tmp 120) = _ := fdone_of (hd 6 (by decide)) (t := 120) (V := isVal (.int .i64 ((x ^^^ c : Nat) : Int))) (by kernel_rfl) (by kernel_rfl)
  have HG' := HG.keep hb
  refine tail_store 3 (.tmp 121) (.tmp 120) ⟨g, j, none⟩ (.int .i64 ((x ^^^ c : Nat) : Int)) (.int .i64 (x : Int)) (by kernel_rfl) (by kernel_rfl) dp dv (by kernel_rfl) rfl rfl (HG'.cells.2 _ _ hj) (HG'.free j) ?_
  obtain ⟨y, ey⟩ := kept_ex hkp [some 114, some 115, some 116, some 117, some 118, some 119, some 120, some 121, none] [114, 115, 116, 117, 118, 119, 120, 121] (by kernel_rfl) (by decide)
  rw [ey]
  exact hQ y w hb
noncomputable def dst21Ops : Array Oper := regionOf Tryz.f8 21
set_option maxRecDepth 100000 in
set_option maxHeartbeats 2000000 in
theorem dst21_region (Q : Exit → Act → World → Prop) (a0 : Act) (w0 : World) (hsz : a0.tmps.size = 129) (gb gw : Nat) (B : Ar) (vb ib : Value) (s0 s1 s2 s3 : Int) (HB : CellsN w0 gb [.int .i64 B.cap, vb, ib]) (HW : CellsN w0 gw [.int .i64 s0, .int .i64 s1, .int .i64 s2, .int .i64 s3]) (XB : isAr B (.agg #[.int .i64 B.cap, vb, ib]) w0) (hFB : FitA B) (hsB : sumsV B = .agg #[.int .i64 s0, .int .i64 s1, .int .i64 s2, .int .i64 s3]) (e5 : a0.tmps.getD 5 undef = .bool true) (e7 : a0.tmps.getD 7 undef = .pointer (some ⟨gb, 0, none⟩)) (e13 : a0.tmps.getD 13 undef = .pointer (some ⟨gw, 0, none⟩))
    (hQ : ∀ (g : Nat → Value) (w : World), g 4 = .bool true → Below w0.heap.size w0 w → Q .normal { tmps := [122, 123, 124, 125, 126, 127, 128, 4].foldl (fun t s => t.setIfInBounds s (g s)) a0.tmps, defers := a0.defers } w) :
    (Code.region 21 dst21Ops true).wp Tryz.prog Q a0 w0 := by
  refine wp_region_flow mixed (by rw [hsz]; kernel_rfl) ?_
  rw [show dst21Ops.size = 8 by kernel_rfl]
  refine ⟨isVal (.bool true), step_move (.tmp 5) (by kernel_rfl) (wanted_none (by kernel_rfl)) (stable_val _) (knows_old 5 (.bool true) (by kernel_rfl) e5), ?_⟩
  refine ⟨isVal (.bool true), step_move (.tmp 122) (by kernel_rfl) (wanted_none (by kernel_rfl)) (stable_val _) (knows_new (V := isVal (.bool true)) 122 0 (by kernel_rfl) (by kernel_rfl) (by kernel_rfl)), ?_⟩
  refine ⟨isVal (.agg #[.int .i64 B.cap, vb, ib]), step_loadN 25 (.tmp 7) (gb) [.int .i64 B.cap, vb, ib] (by kernel_rfl) (wanted_some 1 123 true (by kernel_rfl) (by kernel_rfl) (by kernel_rfl) (by kernel_rfl)) (knows_old 7 (.pointer (some ⟨gb, 0, none⟩)) (by kernel_rfl) e7) size_ar agg_ar (HB), ?_⟩
  refine ⟨isVal (.agg #[.int .i64 s0, .int .i64 s1, .int .i64 s2, .int .i64 s3]), step_call 18 #[.tmp 124] #[25] #[.agg #[.int .i64 B.cap, vb, ib]] (by kernel_rfl) (wanted_some 1 123 true (by kernel_rfl) (by kernel_rfl) (by kernel_rfl) (by kernel_rfl)) (stable_val _) (args1 (.tmp 124) (.agg #[.int .i64 B.cap, vb, ib]) (knows_new (V := isVal (.agg #[.int .i64 B.cap, vb, ib])) 124 2 (by kernel_rfl) (by kernel_rfl) (by kernel_rfl))) (enters_of Tryz.func18 (by kernel_rfl) rfl) (by intro w' hb; exact dcall_v (gd_sums B s0 s1 s2 s3 _ w' (stable_ar _ _ _ _ XB hb) hFB hsB)), ?_⟩
  refine ⟨isVal (.agg #[.int .i64 s0, .int .i64 s1, .int .i64 s2, .int .i64 s3]), step_loadN 26 (.tmp 13) (gw) [.int .i64 s0, .int .i64 s1, .int .i64 s2, .int .i64 s3] (by kernel_rfl) (wanted_some 1 123 true (by kernel_rfl) (by kernel_rfl) (by kernel_rfl) (by kernel_rfl)) (knows_old 13 (.pointer (some ⟨gw, 0, none⟩)) (by kernel_rfl) e13) size_a4 agg_a4 (HW), ?_⟩
  refine ⟨isVal (.bool true), step_bin .eql 26 26 (.tmp 125) (.tmp 126) (.agg #[.int .i64 s0, .int .i64 s1, .int .i64 s2, .int .i64 s3]) (.agg #[.int .i64 s0, .int .i64 s1, .int .i64 s2, .int .i64 s3]) (.bool true) (by kernel_rfl) (wanted_some 1 123 true (by kernel_rfl) (by kernel_rfl) (by kernel_rfl) (by kernel_rfl)) (knows_new (V := isVal (.agg #[.int .i64 s0, .int .i64 s1, .int .i64 s2, .int .i64 s3])) 125 3 (by kernel_rfl) (by kernel_rfl) (by kernel_rfl)) (knows_new (V := isVal (.agg #[.int .i64 s0, .int .i64 s1, .int .i64 s2, .int .i64 s3])) 126 4 (by kernel_rfl) (by kernel_rfl) (by kernel_rfl)) (fun _ => rfl) (eq_i4 s0 s1 s2 s3), ?_⟩
  refine ⟨isVal (.bool true), step_pick (.tmp 123) (.tmp 127) (.const (.bool false)) true (by kernel_rfl) (wanted_none (by kernel_rfl)) (stable_val _) (knows_new (V := isVal (.bool true)) 123 1 (by kernel_rfl) (by kernel_rfl) (by kernel_rfl)) (knows_new (V := isVal (.bool true)) 127 5 (by kernel_rfl) (by kernel_rfl) (by kernel_rfl)), ?_⟩
  refine ⟨isVal (.bool true), step_assign (.tmp 128) (by kernel_rfl) (wanted_none (by kernel_rfl)) (stable_val _) (knows_new (V := isVal (.bool true)) 128 6 (by kernel_rfl) (by kernel_rfl) (by kernel_rfl)), ?_⟩
  intro a w hkp hb hd
  rw [kept_of hkp [some 122, some 123, some 124, some 125, some 126, some 127, some 128, some 4] [122, 123, 124, 125, 126, 127, 128, 4] (by kernel_rfl) (by decide)]
  have d4 := fdone_of (hd 7 (by rw [show dst21Ops.size = 8 by kernel_rfl]; decide)) (t := 4) (V := isVal (.bool true)) (by kernel_rfl) (by kernel_rfl)
  exact hQ (fun s => a.tmps.getD s undef) w d4 hb
set_option maxRecDepth 100000 in
set_option maxHeartbeats 4000000 in
theorem digestSteps_walk (F0 : Ar) (v0 : Value) (F1 : En) (v1 : Value) (w0 : CameA F0) (w1 : CameE F1) (w : World) (fl0 : isAr F0 v0 w) (fl1 : isEn F1 v1 w) :
    Calls Tryz.prog 8 #[v0, v1] w fun e w' => e = .returned (.bool true) ∧ Below w.heap.size w w' := by
  obtain ⟨pa, ma, rfl, hpa, hma⟩ := fl0
  obtain ⟨hB, Va⟩ := abox w F0 pa ma hpa hma (w.heap.size) (by simp)
  clear hpa hma
  obtain ⟨px, mx, rfl, hpx, hmx⟩ := fl1
  obtain ⟨hBn, Vx⟩ := ebox (w.alloc (.cells #[.int .i64 F0.cap, pa, ma] 25)) F1 px mx (stable_cells _ _ _ _ hpx hB.out) (stable_cells _ _ _ _ hmx hB.out) (w.heap.size + 1) (by simp)
  clear hpx hmx
  replace Va := Kept.mk (Va.out.keep hBn.out)
  replace hB := Kept.mk (hB.out.trans (hBn.out.mono hB.out.size))
  clear hBn
  go_enter Tryz.func8, Tryz.ntmps8
  go_wp2_with fail
  generalize ((w.alloc (.cells #[.int .i64 F0.cap, pa, ma] 25)).alloc (.cells #[.string ⟨F1.key.toArray⟩, .int .i64 F1.val.kind, .int .i64 F1.val.time, .int .i64 F1.val.node, .bool F1.val.dead, .string ⟨F1.val.text.toArray⟩, px, mx, .int .u64 (F1.val.flags.toNat : Int)] 48)) = W0 at *
  ((with_reducible refine (dgworks_any _).mono ?_); rintro e W1 ⟨rfl, hb1⟩)
  replace hB := Kept.mk (hB.out.trans ((hb1).mono hB.out.size))
  replace Va := Kept.mk (Va.out.keep (hb1))
  replace Vx := Kept.mk (Vx.out.keep (hb1))
  clear hb1
  obtain ⟨qa, ra, xa, sa, ia, ka0, ka1, ka2⟩ := Va.out.open_
  have Xa := Kept.mk xa
  have Sa := Kept.mk sa
  have Ia := Kept.mk ia
  clear xa sa ia
  go_wp2_with fail
  ((with_reducible refine (afew_any F0 _ _ Xa.out (CameA.keys w0) w0.slots w0.index).mono ?_); rintro e W2 ⟨rfl, hb1⟩)
  clear Xa Sa Ia ka0 ka1 ka2
  replace hB := Kept.mk (hB.out.trans ((hb1).mono hB.out.size))
  replace Va := Kept.mk (Va.out.keep (hb1))
  replace Vx := Kept.mk (Vx.out.keep (hb1))
  clear hb1
  cases fa : fewA F0 with
  | false =>
    go_wp2
    all_goals go_ret
    all_goals exact ⟨rfl, hB.out⟩
  | true =>
    have FFa := Kept.mk (fewA_fit fa)
    have KFa := Kept.mk fa
    clear fa
    obtain ⟨qx, rx, xx, yx, kx0, kx1, kx2, kx3, kx4, kx5, kx6, kx7, kx8⟩ := Vx.out.open_
    have Xx := Kept.mk xx
    have Yx := Kept.mk yx
    clear xx yx
    go_wp2_with fail
    ((with_reducible refine (efew_any F1 _ _ Xx.out w1.key).mono ?_); rintro e W3 ⟨rfl, hb1⟩)
    clear Xx Yx kx0 kx1 kx2 kx3 kx4 kx5 kx6 kx7 kx8
    replace hB := Kept.mk (hB.out.trans ((hb1).mono hB.out.size))
    replace Va := Kept.mk (Va.out.keep (hb1))
    replace Vx := Kept.mk (Vx.out.keep (hb1))
    clear hb1
    cases fx : fewE F1 with
    | false =>
      go_wp2
      all_goals go_ret
      all_goals exact ⟨rfl, hB.out⟩
    | true =>
      have FFx := Kept.mk (fewE_fit fx)
      have KFx := Kept.mk fx
      clear fx
      obtain ⟨qa, ra, xa, sa, ia, ka0, ka1, ka2⟩ := Va.out.open_
      have Xa := Kept.mk xa
      have Sa := Kept.mk sa
      have Ia := Kept.mk ia
      clear xa sa ia
      obtain ⟨qx, rx, xx, yx, kx0, kx1, kx2, kx3, kx4, kx5, kx6, kx7, kx8⟩ := Vx.out.open_
      have Xx := Kept.mk xx
      have Yx := Kept.mk yx
      clear xx yx
      go_wp2_with fail
      obtain ⟨B, hG⟩ : ∃ G, joinAF F0 F1 = G := ⟨_, rfl⟩
      obtain ⟨z, hz⟩ : ∃ z, joinAB F0 F1 = z := ⟨_, rfl⟩
      have HG := Kept.mk hG
      have HZ := Kept.mk hz
      clear hG hz
      by_cases h0 : joinAE F0 F1 = 0
      · skip
        have H0 := Kept.mk h0
        obtain ⟨OA, OX⟩ := join_zero h0
        have OB : OkA B := by rw [← HG.out]; exact join_okA OA F1
        have FB := Kept.mk (okA_fit OB)
        have SF := steps_facts h0
        rw [HG.out] at SF
        obtain ⟨hhB, hokY, hother, hno, hyes⟩ := SF
        have hkl : F1.key.length ≤ 1000 := by have := okE_key OX; omega
        obtain ⟨pq, hpq, hpql, hY⟩ := find_hitN OB hhB
        obtain ⟨Y, hYY⟩ : ∃ Y, slotOf B F1 = Y := ⟨_, rfl⟩
        rw [hYY] at hokY hno hyes hY
        have HPQ := Kept.mk hpq
        have HY := Kept.mk hY
        have OY := Kept.mk hokY
        have HOT := Kept.mk hother
        have HNO := Kept.mk hno
        have HYES := Kept.mk hyes
        have OAK := Kept.mk OA
        have HPQL := Kept.mk hpql
        clear OA OB OX hokY hother hno hyes hpq hY hYY hhB h0 hpql
        ((with_reducible refine (gd_ejoin F0 F1 B z 0 _ _ _ Xa.out Xx.out FFa.out FFx.out HG.out HZ.out H0.out).mono ?_); rintro e U ⟨v', rfl, ⟨p', m', rfl, hp', hm'⟩, hb1⟩)
        obtain ⟨K1, K2, K3, K4, K5⟩ := anew U B p' m' hp' hm' U.heap.size rfl
        clear hp' hm'
        clear Xa Sa Ia ka0 ka1 ka2
        clear Xx Yx kx0 kx1 kx2 kx3 kx4 kx5 kx6 kx7 kx8
        replace hB := Kept.mk (hB.out.trans ((hb1).mono hB.out.size))
        replace Va := Kept.mk (Va.out.keep (hb1))
        replace Vx := Kept.mk (Vx.out.keep (hb1))
        clear hb1
        go_wp2_with (have hz0 := K1; refine wpList_storeN 25 rfl (.tmp 7) (.tmp 34) rfl U.heap.size [.int .i64 B.cap, p', m'] size_ar rfl rfl K1.out rfl K2.out K5.out ?_; replace hB := Kept.mk (hB.out.trans ((K3.out).mono hB.out.size)); replace Va := Kept.mk (Va.out.keep (K3.out)); replace Vx := Kept.mk (Vx.out.keep (K3.out)); have Vb := Kept.mk K4.out; clear hz0 K1 K2 K3 K4 K5; generalize setN (U.alloc (.cells #[.int .i64 0, .slice none 0 0, .slice none 0 0] 25)) U.heap.size 0 [.int .i64 B.cap, p', m'] = W4 at *; generalize U.heap.size = gb at *; obtain ⟨qa, ra, xa, sa, ia, ka0, ka1, ka2⟩ := Va.out.open_; have Xa := Kept.mk xa; have Sa := Kept.mk sa; have Ia := Kept.mk ia; clear xa sa ia; obtain ⟨qx, rx, xx, yx, kx0, kx1, kx2, kx3, kx4, kx5, kx6, kx7, kx8⟩ := Vx.out.open_; have Xx := Kept.mk xx; have Yx := Kept.mk yx; clear xx yx)
        cases hh : hitB (ordA F0) F1 with
        | true =>
          obtain ⟨p, hp, hpl, hX0⟩ := find_hitN OAK.out hh
          obtain ⟨Z, hZ0⟩ : ∃ Z, slotOf F0 F1 = Z := ⟨_, rfl⟩
          obtain ⟨hokZ, hsum⟩ := HYES.out hh
          rw [hZ0] at hokZ hsum hX0
          have HX0 := Kept.mk hX0
          have OZ := Kept.mk hokZ
          have HSUM := Kept.mk hsum
          have HPL := Kept.mk hpl
          clear hX0 hokZ hsum hZ0 hpl
          have HP := Kept.mk hp
          clear hp hh
          ((with_reducible refine (gd_find F0 F1 p _ _ Xa.out FFa.out HP.out).mono ?_); rintro e W5 ⟨rfl, hb1⟩)
          clear Xa Sa Ia ka0 ka1 ka2
          clear Xx Yx kx0 kx1 kx2 kx3 kx4 kx5 kx6 kx7 kx8
          replace hB := Kept.mk (hB.out.trans ((hb1).mono hB.out.size))
          replace Va := Kept.mk (Va.out.keep (hb1))
          replace Vx := Kept.mk (Vx.out.keep (hb1))
          replace Vb := Kept.mk (Vb.out.keep (hb1))
          clear hb1
          obtain ⟨qb, rb, xb, sb, ib, kb0, kb1, kb2⟩ := Vb.out.open_
          have Xb := Kept.mk xb
          have Sb := Kept.mk sb
          have Ib := Kept.mk ib
          clear xb sb ib
          obtain ⟨qx, rx, xx, yx, kx0, kx1, kx2, kx3, kx4, kx5, kx6, kx7, kx8⟩ := Vx.out.open_
          have Xx := Kept.mk xx
          have Yx := Kept.mk yx
          clear xx yx
          go_wp2_with fail
          ((with_reducible refine (gd_find B F1 pq _ _ Xb.out FB.out HPQ.out).mono ?_); rintro e W6 ⟨rfl, hb1⟩)
          clear Xb Sb Ib kb0 kb1 kb2
          clear Xx Yx kx0 kx1 kx2 kx3 kx4 kx5 kx6 kx7 kx8
          replace hB := Kept.mk (hB.out.trans ((hb1).mono hB.out.size))
          replace Va := Kept.mk (Va.out.keep (hb1))
          replace Vx := Kept.mk (Vx.out.keep (hb1))
          replace Vb := Kept.mk (Vb.out.keep (hb1))
          clear hb1
          obtain ⟨qx, rx, xx, yx, kx0, kx1, kx2, kx3, kx4, kx5, kx6, kx7, kx8⟩ := Vx.out.open_
          have Xx := Kept.mk xx
          have Yx := Kept.mk yx
          clear xx yx
          go_wp2_with fail
          obtain ⟨bk, hbk⟩ : ∃ n, bucketN F1.val.kind F1.key = n := ⟨_, rfl⟩
          have HBK := Kept.mk hbk
          have hb4 : bk = 0 ∨ bk = 1 ∨ bk = 2 ∨ bk = 3 := by have := bucketN_lt F1.val.kind F1.key; omega
          have hot := HOT.out
          have hsm := HSUM.out
          rw [show bkE F1 = bk from hbk] at hot hsm
          have HOT2 := Kept.mk hot
          have HSM2 := Kept.mk hsm
          clear hbk hot hsm
          ((with_reducible refine (gd_bucket F1.val.kind F1.key bk _ hkl HBK.out).mono ?_); rintro e W7 ⟨rfl, hb1⟩)
          clear Xx Yx kx0 kx1 kx2 kx3 kx4 kx5 kx6 kx7 kx8
          replace hB := Kept.mk (hB.out.trans ((hb1).mono hB.out.size))
          replace Va := Kept.mk (Va.out.keep (hb1))
          replace Vx := Kept.mk (Vx.out.keep (hb1))
          replace Vb := Kept.mk (Vb.out.keep (hb1))
          clear hb1
          rcases hb4 with rfl | rfl | rfl | rfl
          · skip
            obtain ⟨qa, ra, xa, sa, ia, ka0, ka1, ka2⟩ := Va.out.open_
            have Xa := Kept.mk xa
            have Sa := Kept.mk sa
            have Ia := Kept.mk ia
            clear xa sa ia
            obtain ⟨qb, rb, xb, sb, ib, kb0, kb1, kb2⟩ := Vb.out.open_
            have Xb := Kept.mk xb
            have Sb := Kept.mk sb
            have Ib := Kept.mk ib
            clear xb sb ib
            obtain ⟨sba, sca, eba⟩ := Sa.out.len
            subst eba
            obtain ⟨sbb, scb, ebb⟩ := Sb.out.len
            subst ebb
            obtain ⟨NA, hNA⟩ : ∃ n, F0.slots.length = n := ⟨_, rfl⟩
            obtain ⟨NB, hNB⟩ : ∃ n, B.slots.length = n := ⟨_, rfl⟩
            have HNA := Kept.mk hNA
            have HNB := Kept.mk hNB
            rw [hNA] at ka1 Xa Sa
            rw [hNB] at kb1 Xb Sb
            have hql : (pq : Int) < (NB : Int) := by have := HPQL.out; omega
            have hq0 : ¬ (NB : Int) ≤ (pq : Int) := by omega
            have hpl : (p : Int) < (NA : Int) := by have := HPL.out; omega
            have hp0 : ¬ (NA : Int) ≤ (p : Int) := by omega
            clear hNA hNB
            go_wp2_with fail
            obtain ⟨ye, hye⟩ : ∃ q, putEn Y = q := ⟨_, rfl⟩
            have hyl : ye.length ≤ 1024 := by rw [← hye, length_putEn OY.out]; decide
            obtain ⟨c, hc⟩ : ∃ c, crcN ye = c := ⟨_, rfl⟩
            have hclt : c < 4294967296 := by rw [← hc]; exact sumN_lt _
            have HYE := Kept.mk hye
            have HCY := Kept.mk hc
            have HSE := Kept.mk (show sumE Y = c by unfold sumE; rw [hye, hc])
            clear hye hc
            ((with_reducible refine (gd_sums F0 _ _ _ _ _ _ Xa.out FFa.out rfl).mono ?_); rintro e U ⟨rfl, hb1⟩)
            obtain ⟨K1, K2, K3, K4, K5⟩ := snew U ((sumA F0 0 : Int)) ((sumA F0 1 : Int)) ((sumA F0 2 : Int)) ((sumA F0 3 : Int)) U.heap.size rfl
            clear Xa Sa Ia ka0 ka1 ka2
            clear Xb Sb Ib kb0 kb1 kb2
            replace hB := Kept.mk (hB.out.trans ((hb1).mono hB.out.size))
            replace Va := Kept.mk (Va.out.keep (hb1))
            replace Vx := Kept.mk (Vx.out.keep (hb1))
            replace Vb := Kept.mk (Vb.out.keep (hb1))
            clear hb1
            have VaU := Va
            have VbU := Vb
            have VxU := Vx
            have hBU := hB
            have HBU := Kept.mk (Below.refl U.heap.size U)
            go_wp2_with (have hz0 := K1; refine wpList_storeN 26 rfl (.tmp 13) (.tmp 85) rfl U.heap.size [.int .i64 (sumA F0 0 : Int), .int .i64 (sumA F0 1 : Int), .int .i64 (sumA F0 2 : Int), .int .i64 (sumA F0 3 : Int)] size_a4 rfl rfl K1.out rfl K2.out K5.out ?_; replace hB := Kept.mk (hB.out.trans ((K3.out).mono hB.out.size)); replace Va := Kept.mk (Va.out.keep (K3.out)); replace Vx := Kept.mk (Vx.out.keep (K3.out)); replace Vb := Kept.mk (Vb.out.keep (K3.out)); replace HBU := Kept.mk (HBU.out.trans K3.out); have Vw := Kept.mk K4.out; clear hz0 K1 K2 K3 K4 K5; generalize setN (U.alloc (.cells #[.int .i64 0, .int .i64 0, .int .i64 0, .int .i64 0] 26)) U.heap.size 0 [.int .i64 (sumA F0 0 : Int), .int .i64 (sumA F0 1 : Int), .int .i64 (sumA F0 2 : Int), .int .i64 (sumA F0 3 : Int)] = W8 at *; generalize hgwE : U.heap.size = gw at Vw ⊢; obtain ⟨qb, rb, xb, sb, ib, kb0, kb1, kb2⟩ := Vb.out.open_; have Xb := Kept.mk xb; have Sb := Kept.mk sb; have Ib := Kept.mk ib; clear xb sb ib; obtain ⟨bs, os, cs, ea, hbs, yp, ym, hyc, hyp, hym⟩ := Sb.out.get HY.out; subst ea; rw [HNB.out] at kb1 Xb Sb; have kx0 := hyc 0 _ rfl; have kx1 := hyc 1 _ rfl; have kx2 := hyc 2 _ rfl; have kx3 := hyc 3 _ rfl; have kx4 := hyc 4 _ rfl; have kx5 := hyc 5 _ rfl; have kx6 := hyc 6 _ rfl; have kx7 := hyc 7 _ rfl; have kx8 := hyc 8 _ rfl; simp only [Nat.add_zero] at kx0; have YE := Kept.mk (show isEn Y (.agg #[.string ⟨Y.key.toArray⟩, .int .i64 Y.val.kind, .int .i64 Y.val.time, .int .i64 Y.val.node, .bool Y.val.dead, .string ⟨Y.val.text.toArray⟩, yp, ym, .int .u64 (Y.val.flags.toNat : Int)]) W8 from ⟨_, _, rfl, hyp, hym⟩); clear hyc hyp hym)
            refine (gd_eput Y ye _ _ YE.out (ok_fit' OY.out) OY.out HYE.out).mono ?_
            rintro e W9 ⟨rfl, hb1⟩
            clear YE kx0 kx1 kx2 kx3 kx4 kx5 kx6 kx7 kx8
            clear Xb Sb Ib kb0 kb1 kb2
            replace hB := Kept.mk (hB.out.trans ((hb1).mono hB.out.size))
            replace Va := Kept.mk (Va.out.keep (hb1))
            replace Vx := Kept.mk (Vx.out.keep (hb1))
            replace Vb := Kept.mk (Vb.out.keep (hb1))
            replace Vw := Kept.mk (Vw.out.keep (hb1))
            replace HBU := Kept.mk (HBU.out.trans ((hb1).mono HBU.out.size))
            clear hb1
            go_wp2_with fail
            refine dst17_region _ _ _ rfl gw 0 (sumA F0 0) c ye _ Vw.out rfl (by decide) (sumA_lt F0 0) hclt hyl HCY.out rfl rfl rfl ?_
            intro f9 W9 hb1
            simp only [List.foldl_cons, List.foldl_nil]
            generalize f9 95 = y95
            generalize f9 96 = y96
            generalize f9 97 = y97
            generalize f9 98 = y98
            generalize f9 99 = y99
            generalize f9 100 = y100
            generalize f9 101 = y101
            generalize f9 102 = y102
            try simp only [List.setIfInBounds_toArray, List.set_cons_succ, List.set_cons_zero]
            replace hB := Kept.mk (hB.out.trans ((hb1).mono hB.out.size))
            replace Va := Kept.mk (Va.out.keep (hb1))
            replace Vx := Kept.mk (Vx.out.keep (hb1))
            replace Vb := Kept.mk (Vb.out.keep (hb1))
            replace Vw := Kept.mk (Vw.out.keep (hb1))
            replace HBU := Kept.mk (HBU.out.trans ((hb1).mono HBU.out.size))
            clear hb1
            have Vw2 := Kept.mk (show Blk (W9.setCell ⟨gw, 0, none⟩ (.int .i64 (((sumA F0 0) ^^^ c : Nat) : Int))) gw [.int .i64 (((sumA F0 0) ^^^ c : Nat) : Int), .int .i64 (sumA F0 1 : Int), .int .i64 (sumA F0 2 : Int), .int .i64 (sumA F0 3 : Int)] from Vw.out.set 0 _ (show 0 < 4 by decide))
            replace HBU := Kept.mk (HBU.out.setCell (p := ⟨gw, 0, none⟩) (show U.heap.size ≤ gw from Nat.le_of_eq hgwE) (.int .i64 (((sumA F0 0) ^^^ c : Nat) : Int)))
            replace hB := Kept.mk (hBU.out.trans (HBU.out.mono hBU.out.size))
            replace Vw := Vw2
            replace Va := Kept.mk (VaU.out.keep HBU.out)
            replace Vx := Kept.mk (VxU.out.keep HBU.out)
            replace Vb := Kept.mk (VbU.out.keep HBU.out)
            clear Vw2
            generalize (W9.setCell ⟨gw, 0, none⟩ (.int .i64 (((sumA F0 0) ^^^ c : Nat) : Int))) = W10 at *
            obtain ⟨qa, ra, xa, sa, ia, ka0, ka1, ka2⟩ := Va.out.open_
            have Xa := Kept.mk xa
            have Sa := Kept.mk sa
            have Ia := Kept.mk ia
            clear xa sa ia
            obtain ⟨bz, oz, cz, ea, hbz, zp, zm, hzc, hzp, hzm⟩ := Sa.out.get HX0.out
            subst ea
            rw [HNA.out] at ka1 Xa Sa
            have kx0 := hzc 0 _ rfl
            have kx1 := hzc 1 _ rfl
            have kx2 := hzc 2 _ rfl
            have kx3 := hzc 3 _ rfl
            have kx4 := hzc 4 _ rfl
            have kx5 := hzc 5 _ rfl
            have kx6 := hzc 6 _ rfl
            have kx7 := hzc 7 _ rfl
            have kx8 := hzc 8 _ rfl
            simp only [Nat.add_zero] at kx0
            have ZE := Kept.mk (show isEn Z (.agg #[.string ⟨Z.key.toArray⟩, .int .i64 Z.val.kind, .int .i64 Z.val.time, .int .i64 Z.val.node, .bool Z.val.dead, .string ⟨Z.val.text.toArray⟩, zp, zm, .int .u64 (Z.val.flags.toNat : Int)]) W10 from ⟨_, _, rfl, hzp, hzm⟩)
            obtain ⟨ze, hze⟩ : ∃ q, putEn Z = q := ⟨_, rfl⟩
            have hzl : ze.length ≤ 1024 := by rw [← hze, length_putEn OZ.out]; decide
            obtain ⟨d, hd⟩ : ∃ c, crcN ze = c := ⟨_, rfl⟩
            have hdlt : d < 4294967296 := by rw [← hd]; exact sumN_lt _
            have HZE := Kept.mk hze
            have HCZ := Kept.mk hd
            have HSZ := Kept.mk (show sumE Z = d by unfold sumE; rw [hze, hd])
            clear hze hd hzc hzp hzm
            go_wp2_with fail
            refine (gd_eput Z ze _ _ ZE.out (ok_fit' OZ.out) OZ.out HZE.out).mono ?_
            rintro e W11 ⟨rfl, hb1⟩
            clear ZE kx0 kx1 kx2 kx3 kx4 kx5 kx6 kx7 kx8
            clear Xa Sa Ia ka0 ka1 ka2
            replace hB := Kept.mk (hB.out.trans ((hb1).mono hB.out.size))
            replace Va := Kept.mk (Va.out.keep (hb1))
            replace Vx := Kept.mk (Vx.out.keep (hb1))
            replace Vb := Kept.mk (Vb.out.keep (hb1))
            replace Vw := Kept.mk (Vw.out.keep (hb1))
            replace HBU := Kept.mk (HBU.out.trans ((hb1).mono HBU.out.size))
            clear hb1
            go_wp2_with fail
            refine dst20_region _ _ _ rfl gw 0 ((sumA F0 0) ^^^ c) d ze _ Vw.out rfl (by decide) (x32 (sumA_lt F0 0) hclt) hdlt hzl HCZ.out rfl rfl rfl ?_
            intro f9 W9 hb1
            simp only [List.foldl_cons, List.foldl_nil]
            generalize f9 114 = y114
            generalize f9 115 = y115
            generalize f9 116 = y116
            generalize f9 117 = y117
            generalize f9 118 = y118
            generalize f9 119 = y119
            generalize f9 120 = y120
            generalize f9 121 = y121
            try simp only [List.setIfInBounds_toArray, List.set_cons_succ, List.set_cons_zero]
            replace hB := Kept.mk (hB.out.trans ((hb1).mono hB.out.size))
            replace Va := Kept.mk (Va.out.keep (hb1))
            replace Vx := Kept.mk (Vx.out.keep (hb1))
            replace Vb := Kept.mk (Vb.out.keep (hb1))
            replace Vw := Kept.mk (Vw.out.keep (hb1))
            replace HBU := Kept.mk (HBU.out.trans ((hb1).mono HBU.out.size))
            clear hb1
            have Vw2 := Kept.mk (show Blk (W9.setCell ⟨gw, 0, none⟩ (.int .i64 ((((sumA F0 0) ^^^ c) ^^^ d : Nat) : Int))) gw [.int .i64 ((((sumA F0 0) ^^^ c) ^^^ d : Nat) : Int), .int .i64 (sumA F0 1 : Int), .int .i64 (sumA F0 2 : Int), .int .i64 (sumA F0 3 : Int)] from Vw.out.set 0 _ (show 0 < 4 by decide))
            replace HBU := Kept.mk (HBU.out.setCell (p := ⟨gw, 0, none⟩) (show U.heap.size ≤ gw from Nat.le_of_eq hgwE) (.int .i64 ((((sumA F0 0) ^^^ c) ^^^ d : Nat) : Int)))
            replace hB := Kept.mk (hBU.out.trans (HBU.out.mono hBU.out.size))
            replace Vw := Vw2
            replace Va := Kept.mk (VaU.out.keep HBU.out)
            replace Vx := Kept.mk (VxU.out.keep HBU.out)
            replace Vb := Kept.mk (VbU.out.keep HBU.out)
            clear Vw2
            generalize (W9.setCell ⟨gw, 0, none⟩ (.int .i64 ((((sumA F0 0) ^^^ c) ^^^ d : Nat) : Int))) = W12 at *
            have HSB := Kept.mk (show sumsV B = .agg #[.int .i64 ((((sumA F0 0) ^^^ c) ^^^ d : Nat) : Int), .int .i64 (sumA F0 1 : Int), .int .i64 (sumA F0 2 : Int), .int .i64 (sumA F0 3 : Int)] by unfold sumsV; rw [HOT2.out 1 (by decide), HOT2.out 2 (by decide), HOT2.out 3 (by decide)]; rw [HSM2.out, HSE.out, HSZ.out])
            go_wp2_with fail
            obtain ⟨qb, rb, cb, sb, ib⟩ := Vb.out
            refine dst21_region _ _ _ rfl gb gw B qb rb _ _ _ _ cb Vw.out.cells ⟨_, _, rfl, sb, ib⟩ FB.out HSB.out rfl rfl rfl ?_
            intro f9 W9 d4 hb1
            simp only [List.foldl_cons, List.foldl_nil, d4]
            generalize f9 122 = y122
            generalize f9 123 = y123
            generalize f9 124 = y124
            generalize f9 125 = y125
            generalize f9 126 = y126
            generalize f9 127 = y127
            generalize f9 128 = y128
            clear d4
            try simp only [List.setIfInBounds_toArray, List.set_cons_succ, List.set_cons_zero]
            clear cb sb ib
            replace hB := Kept.mk (hB.out.trans ((hb1).mono hB.out.size))
            replace Va := Kept.mk (Va.out.keep (hb1))
            replace Vx := Kept.mk (Vx.out.keep (hb1))
            replace Vb := Kept.mk (Vb.out.keep (hb1))
            replace Vw := Kept.mk (Vw.out.keep (hb1))
            replace HBU := Kept.mk (HBU.out.trans ((hb1).mono HBU.out.size))
            clear hb1
            go_wp2
            all_goals go_ret
            all_goals exact ⟨rfl, hB.out⟩
          · skip
            obtain ⟨qa, ra, xa, sa, ia, ka0, ka1, ka2⟩ := Va.out.open_
            have Xa := Kept.mk xa
            have Sa := Kept.mk sa
            have Ia := Kept.mk ia
            clear xa sa ia
            obtain ⟨qb, rb, xb, sb, ib, kb0, kb1, kb2⟩ := Vb.out.open_
            have Xb := Kept.mk xb
            have Sb := Kept.mk sb
            have Ib := Kept.mk ib
            clear xb sb ib
            obtain ⟨sba, sca, eba⟩ := Sa.out.len
            subst eba
            obtain ⟨sbb, scb, ebb⟩ := Sb.out.len
            subst ebb
            obtain ⟨NA, hNA⟩ : ∃ n, F0.slots.length = n := ⟨_, rfl⟩
            obtain ⟨NB, hNB⟩ : ∃ n, B.slots.length = n := ⟨_, rfl⟩
            have HNA := Kept.mk hNA
            have HNB := Kept.mk hNB
            rw [hNA] at ka1 Xa Sa
            rw [hNB] at kb1 Xb Sb
            have hql : (pq : Int) < (NB : Int) := by have := HPQL.out; omega
            have hq0 : ¬ (NB : Int) ≤ (pq : Int) := by omega
            have hpl : (p : Int) < (NA : Int) := by have := HPL.out; omega
            have hp0 : ¬ (NA : Int) ≤ (p : Int) := by omega
            clear hNA hNB
            go_wp2_with fail
            obtain ⟨ye, hye⟩ : ∃ q, putEn Y = q := ⟨_, rfl⟩
            have hyl : ye.length ≤ 1024 := by rw [← hye, length_putEn OY.out]; decide
            obtain ⟨c, hc⟩ : ∃ c, crcN ye = c := ⟨_, rfl⟩
            have hclt : c < 4294967296 := by rw [← hc]; exact sumN_lt _
            have HYE := Kept.mk hye
            have HCY := Kept.mk hc
            have HSE := Kept.mk (show sumE Y = c by unfold sumE; rw [hye, hc])
            clear hye hc
            ((with_reducible refine (gd_sums F0 _ _ _ _ _ _ Xa.out FFa.out rfl).mono ?_); rintro e U ⟨rfl, hb1⟩)
            obtain ⟨K1, K2, K3, K4, K5⟩ := snew U ((sumA F0 0 : Int)) ((sumA F0 1 : Int)) ((sumA F0 2 : Int)) ((sumA F0 3 : Int)) U.heap.size rfl
            clear Xa Sa Ia ka0 ka1 ka2
            clear Xb Sb Ib kb0 kb1 kb2
            replace hB := Kept.mk (hB.out.trans ((hb1).mono hB.out.size))
            replace Va := Kept.mk (Va.out.keep (hb1))
            replace Vx := Kept.mk (Vx.out.keep (hb1))
            replace Vb := Kept.mk (Vb.out.keep (hb1))
            clear hb1
            have VaU := Va
            have VbU := Vb
            have VxU := Vx
            have hBU := hB
            have HBU := Kept.mk (Below.refl U.heap.size U)
            go_wp2_with (have hz0 := K1; refine wpList_storeN 26 rfl (.tmp 13) (.tmp 85) rfl U.heap.size [.int .i64 (sumA F0 0 : Int), .int .i64 (sumA F0 1 : Int), .int .i64 (sumA F0 2 : Int), .int .i64 (sumA F0 3 : Int)] size_a4 rfl rfl K1.out rfl K2.out K5.out ?_; replace hB := Kept.mk (hB.out.trans ((K3.out).mono hB.out.size)); replace Va := Kept.mk (Va.out.keep (K3.out)); replace Vx := Kept.mk (Vx.out.keep (K3.out)); replace Vb := Kept.mk (Vb.out.keep (K3.out)); replace HBU := Kept.mk (HBU.out.trans K3.out); have Vw := Kept.mk K4.out; clear hz0 K1 K2 K3 K4 K5; generalize setN (U.alloc (.cells #[.int .i64 0, .int .i64 0, .int .i64 0, .int .i64 0] 26)) U.heap.size 0 [.int .i64 (sumA F0 0 : Int), .int .i64 (sumA F0 1 : Int), .int .i64 (sumA F0 2 : Int), .int .i64 (sumA F0 3 : Int)] = W8 at *; generalize hgwE : U.heap.size = gw at Vw ⊢; obtain ⟨qb, rb, xb, sb, ib, kb0, kb1, kb2⟩ := Vb.out.open_; have Xb := Kept.mk xb; have Sb := Kept.mk sb; have Ib := Kept.mk ib; clear xb sb ib; obtain ⟨bs, os, cs, ea, hbs, yp, ym, hyc, hyp, hym⟩ := Sb.out.get HY.out; subst ea; rw [HNB.out] at kb1 Xb Sb; have kx0 := hyc 0 _ rfl; have kx1 := hyc 1 _ rfl; have kx2 := hyc 2 _ rfl; have kx3 := hyc 3 _ rfl; have kx4 := hyc 4 _ rfl; have kx5 := hyc 5 _ rfl; have kx6 := hyc 6 _ rfl; have kx7 := hyc 7 _ rfl; have kx8 := hyc 8 _ rfl; simp only [Nat.add_zero] at kx0; have YE := Kept.mk (show isEn Y (.agg #[.string ⟨Y.key.toArray⟩, .int .i64 Y.val.kind, .int .i64 Y.val.time, .int .i64 Y.val.node, .bool Y.val.dead, .string ⟨Y.val.text.toArray⟩, yp, ym, .int .u64 (Y.val.flags.toNat : Int)]) W8 from ⟨_, _, rfl, hyp, hym⟩); clear hyc hyp hym)
            refine (gd_eput Y ye _ _ YE.out (ok_fit' OY.out) OY.out HYE.out).mono ?_
            rintro e W9 ⟨rfl, hb1⟩
            clear YE kx0 kx1 kx2 kx3 kx4 kx5 kx6 kx7 kx8
            clear Xb Sb Ib kb0 kb1 kb2
            replace hB := Kept.mk (hB.out.trans ((hb1).mono hB.out.size))
            replace Va := Kept.mk (Va.out.keep (hb1))
            replace Vx := Kept.mk (Vx.out.keep (hb1))
            replace Vb := Kept.mk (Vb.out.keep (hb1))
            replace Vw := Kept.mk (Vw.out.keep (hb1))
            replace HBU := Kept.mk (HBU.out.trans ((hb1).mono HBU.out.size))
            clear hb1
            go_wp2_with fail
            refine dst17_region _ _ _ rfl gw 1 (sumA F0 1) c ye _ Vw.out rfl (by decide) (sumA_lt F0 1) hclt hyl HCY.out rfl rfl rfl ?_
            intro f9 W9 hb1
            simp only [List.foldl_cons, List.foldl_nil]
            generalize f9 95 = y95
            generalize f9 96 = y96
            generalize f9 97 = y97
            generalize f9 98 = y98
            generalize f9 99 = y99
            generalize f9 100 = y100
            generalize f9 101 = y101
            generalize f9 102 = y102
            try simp only [List.setIfInBounds_toArray, List.set_cons_succ, List.set_cons_zero]
            replace hB := Kept.mk (hB.out.trans ((hb1).mono hB.out.size))
            replace Va := Kept.mk (Va.out.keep (hb1))
            replace Vx := Kept.mk (Vx.out.keep (hb1))
            replace Vb := Kept.mk (Vb.out.keep (hb1))
            replace Vw := Kept.mk (Vw.out.keep (hb1))
            replace HBU := Kept.mk (HBU.out.trans ((hb1).mono HBU.out.size))
            clear hb1
            have Vw2 := Kept.mk (show Blk (W9.setCell ⟨gw, 1, none⟩ (.int .i64 (((sumA F0 1) ^^^ c : Nat) : Int))) gw [.int .i64 (sumA F0 0 : Int), .int .i64 (((sumA F0 1) ^^^ c : Nat) : Int), .int .i64 (sumA F0 2 : Int), .int .i64 (sumA F0 3 : Int)] from Vw.out.set 1 _ (show 1 < 4 by decide))
            replace HBU := Kept.mk (HBU.out.setCell (p := ⟨gw, 1, none⟩) (show U.heap.size ≤ gw from Nat.le_of_eq hgwE) (.int .i64 (((sumA F0 1) ^^^ c : Nat) : Int)))
            replace hB := Kept.mk (hBU.out.trans (HBU.out.mono hBU.out.size))
            replace Vw := Vw2
            replace Va := Kept.mk (VaU.out.keep HBU.out)
            replace Vx := Kept.mk (VxU.out.keep HBU.out)
            replace Vb := Kept.mk (VbU.out.keep HBU.out)
            clear Vw2
            generalize (W9.setCell ⟨gw, 1, none⟩ (.int .i64 (((sumA F0 1) ^^^ c : Nat) : Int))) = W10 at *
            obtain ⟨qa, ra, xa, sa, ia, ka0, ka1, ka2⟩ := Va.out.open_
            have Xa := Kept.mk xa
            have Sa := Kept.mk sa
            have Ia := Kept.mk ia
            clear xa sa ia
            obtain ⟨bz, oz, cz, ea, hbz, zp, zm, hzc, hzp, hzm⟩ := Sa.out.get HX0.out
            subst ea
            rw [HNA.out] at ka1 Xa Sa
            have kx0 := hzc 0 _ rfl
            have kx1 := hzc 1 _ rfl
            have kx2 := hzc 2 _ rfl
            have kx3 := hzc 3 _ rfl
            have kx4 := hzc 4 _ rfl
            have kx5 := hzc 5 _ rfl
            have kx6 := hzc 6 _ rfl
            have kx7 := hzc 7 _ rfl
            have kx8 := hzc 8 _ rfl
            simp only [Nat.add_zero] at kx0
            have ZE := Kept.mk (show isEn Z (.agg #[.string ⟨Z.key.toArray⟩, .int .i64 Z.val.kind, .int .i64 Z.val.time, .int .i64 Z.val.node, .bool Z.val.dead, .string ⟨Z.val.text.toArray⟩, zp, zm, .int .u64 (Z.val.flags.toNat : Int)]) W10 from ⟨_, _, rfl, hzp, hzm⟩)
            obtain ⟨ze, hze⟩ : ∃ q, putEn Z = q := ⟨_, rfl⟩
            have hzl : ze.length ≤ 1024 := by rw [← hze, length_putEn OZ.out]; decide
            obtain ⟨d, hd⟩ : ∃ c, crcN ze = c := ⟨_, rfl⟩
            have hdlt : d < 4294967296 := by rw [← hd]; exact sumN_lt _
            have HZE := Kept.mk hze
            have HCZ := Kept.mk hd
            have HSZ := Kept.mk (show sumE Z = d by unfold sumE; rw [hze, hd])
            clear hze hd hzc hzp hzm
            go_wp2_with fail
            refine (gd_eput Z ze _ _ ZE.out (ok_fit' OZ.out) OZ.out HZE.out).mono ?_
            rintro e W11 ⟨rfl, hb1⟩
            clear ZE kx0 kx1 kx2 kx3 kx4 kx5 kx6 kx7 kx8
            clear Xa Sa Ia ka0 ka1 ka2
            replace hB := Kept.mk (hB.out.trans ((hb1).mono hB.out.size))
            replace Va := Kept.mk (Va.out.keep (hb1))
            replace Vx := Kept.mk (Vx.out.keep (hb1))
            replace Vb := Kept.mk (Vb.out.keep (hb1))
            replace Vw := Kept.mk (Vw.out.keep (hb1))
            replace HBU := Kept.mk (HBU.out.trans ((hb1).mono HBU.out.size))
            clear hb1
            go_wp2_with fail
            refine dst20_region _ _ _ rfl gw 1 ((sumA F0 1) ^^^ c) d ze _ Vw.out rfl (by decide) (x32 (sumA_lt F0 1) hclt) hdlt hzl HCZ.out rfl rfl rfl ?_
            intro f9 W9 hb1
            simp only [List.foldl_cons, List.foldl_nil]
            generalize f9 114 = y114
            generalize f9 115 = y115
            generalize f9 116 = y116
            generalize f9 117 = y117
            generalize f9 118 = y118
            generalize f9 119 = y119
            generalize f9 120 = y120
            generalize f9 121 = y121
            try simp only [List.setIfInBounds_toArray, List.set_cons_succ, List.set_cons_zero]
            replace hB := Kept.mk (hB.out.trans ((hb1).mono hB.out.size))
            replace Va := Kept.mk (Va.out.keep (hb1))
            replace Vx := Kept.mk (Vx.out.keep (hb1))
            replace Vb := Kept.mk (Vb.out.keep (hb1))
            replace Vw := Kept.mk (Vw.out.keep (hb1))
            replace HBU := Kept.mk (HBU.out.trans ((hb1).mono HBU.out.size))
            clear hb1
            have Vw2 := Kept.mk (show Blk (W9.setCell ⟨gw, 1, none⟩ (.int .i64 ((((sumA F0 1) ^^^ c) ^^^ d : Nat) : Int))) gw [.int .i64 (sumA F0 0 : Int), .int .i64 ((((sumA F0 1) ^^^ c) ^^^ d : Nat) : Int), .int .i64 (sumA F0 2 : Int), .int .i64 (sumA F0 3 : Int)] from Vw.out.set 1 _ (show 1 < 4 by decide))
            replace HBU := Kept.mk (HBU.out.setCell (p := ⟨gw, 1, none⟩) (show U.heap.size ≤ gw from Nat.le_of_eq hgwE) (.int .i64 ((((sumA F0 1) ^^^ c) ^^^ d : Nat) : Int)))
            replace hB := Kept.mk (hBU.out.trans (HBU.out.mono hBU.out.size))
            replace Vw := Vw2
            replace Va := Kept.mk (VaU.out.keep HBU.out)
            replace Vx := Kept.mk (VxU.out.keep HBU.out)
            replace Vb := Kept.mk (VbU.out.keep HBU.out)
            clear Vw2
            generalize (W9.setCell ⟨gw, 1, none⟩ (.int .i64 ((((sumA F0 1) ^^^ c) ^^^ d : Nat) : Int))) = W12 at *
            have HSB := Kept.mk (show sumsV B = .agg #[.int .i64 (sumA F0 0 : Int), .int .i64 ((((sumA F0 1) ^^^ c) ^^^ d : Nat) : Int), .int .i64 (sumA F0 2 : Int), .int .i64 (sumA F0 3 : Int)] by unfold sumsV; rw [HOT2.out 0 (by decide), HOT2.out 2 (by decide), HOT2.out 3 (by decide)]; rw [HSM2.out, HSE.out, HSZ.out])
            go_wp2_with fail
            obtain ⟨qb, rb, cb, sb, ib⟩ := Vb.out
            refine dst21_region _ _ _ rfl gb gw B qb rb _ _ _ _ cb Vw.out.cells ⟨_, _, rfl, sb, ib⟩ FB.out HSB.out rfl rfl rfl ?_
            intro f9 W9 d4 hb1
            simp only [List.foldl_cons, List.foldl_nil, d4]
            generalize f9 122 = y122
            generalize f9 123 = y123
            generalize f9 124 = y124
            generalize f9 125 = y125
            generalize f9 126 = y126
            generalize f9 127 = y127
            generalize f9 128 = y128
            clear d4
            try simp only [List.setIfInBounds_toArray, List.set_cons_succ, List.set_cons_zero]
            clear cb sb ib
            replace hB := Kept.mk (hB.out.trans ((hb1).mono hB.out.size))
            replace Va := Kept.mk (Va.out.keep (hb1))
            replace Vx := Kept.mk (Vx.out.keep (hb1))
            replace Vb := Kept.mk (Vb.out.keep (hb1))
            replace Vw := Kept.mk (Vw.out.keep (hb1))
            replace HBU := Kept.mk (HBU.out.trans ((hb1).mono HBU.out.size))
            clear hb1
            go_wp2
            all_goals go_ret
            all_goals exact ⟨rfl, hB.out⟩
          · skip
            obtain ⟨qa, ra, xa, sa, ia, ka0, ka1, ka2⟩ := Va.out.open_
            have Xa := Kept.mk xa
            have Sa := Kept.mk sa
            have Ia := Kept.mk ia
            clear xa sa ia
            obtain ⟨qb, rb, xb, sb, ib, kb0, kb1, kb2⟩ := Vb.out.open_
            have Xb := Kept.mk xb
            have Sb := Kept.mk sb
            have Ib := Kept.mk ib
            clear xb sb ib
            obtain ⟨sba, sca, eba⟩ := Sa.out.len
            subst eba
            obtain ⟨sbb, scb, ebb⟩ := Sb.out.len
            subst ebb
            obtain ⟨NA, hNA⟩ : ∃ n, F0.slots.length = n := ⟨_, rfl⟩
            obtain ⟨NB, hNB⟩ : ∃ n, B.slots.length = n := ⟨_, rfl⟩
            have HNA := Kept.mk hNA
            have HNB := Kept.mk hNB
            rw [hNA] at ka1 Xa Sa
            rw [hNB] at kb1 Xb Sb
            have hql : (pq : Int) < (NB : Int) := by have := HPQL.out; omega
            have hq0 : ¬ (NB : Int) ≤ (pq : Int) := by omega
            have hpl : (p : Int) < (NA : Int) := by have := HPL.out; omega
            have hp0 : ¬ (NA : Int) ≤ (p : Int) := by omega
            clear hNA hNB
            go_wp2_with fail
            obtain ⟨ye, hye⟩ : ∃ q, putEn Y = q := ⟨_, rfl⟩
            have hyl : ye.length ≤ 1024 := by rw [← hye, length_putEn OY.out]; decide
            obtain ⟨c, hc⟩ : ∃ c, crcN ye = c := ⟨_, rfl⟩
            have hclt : c < 4294967296 := by rw [← hc]; exact sumN_lt _
            have HYE := Kept.mk hye
            have HCY := Kept.mk hc
            have HSE := Kept.mk (show sumE Y = c by unfold sumE; rw [hye, hc])
            clear hye hc
            ((with_reducible refine (gd_sums F0 _ _ _ _ _ _ Xa.out FFa.out rfl).mono ?_); rintro e U ⟨rfl, hb1⟩)
            obtain ⟨K1, K2, K3, K4, K5⟩ := snew U ((sumA F0 0 : Int)) ((sumA F0 1 : Int)) ((sumA F0 2 : Int)) ((sumA F0 3 : Int)) U.heap.size rfl
            clear Xa Sa Ia ka0 ka1 ka2
            clear Xb Sb Ib kb0 kb1 kb2
            replace hB := Kept.mk (hB.out.trans ((hb1).mono hB.out.size))
            replace Va := Kept.mk (Va.out.keep (hb1))
            replace Vx := Kept.mk (Vx.out.keep (hb1))
            replace Vb := Kept.mk (Vb.out.keep (hb1))
            clear hb1
            have VaU := Va
            have VbU := Vb
            have VxU := Vx
            have hBU := hB
            have HBU := Kept.mk (Below.refl U.heap.size U)
            go_wp2_with (have hz0 := K1; refine wpList_storeN 26 rfl (.tmp 13) (.tmp 85) rfl U.heap.size [.int .i64 (sumA F0 0 : Int), .int .i64 (sumA F0 1 : Int), .int .i64 (sumA F0 2 : Int), .int .i64 (sumA F0 3 : Int)] size_a4 rfl rfl K1.out rfl K2.out K5.out ?_; replace hB := Kept.mk (hB.out.trans ((K3.out).mono hB.out.size)); replace Va := Kept.mk (Va.out.keep (K3.out)); replace Vx := Kept.mk (Vx.out.keep (K3.out)); replace Vb := Kept.mk (Vb.out.keep (K3.out)); replace HBU := Kept.mk (HBU.out.trans K3.out); have Vw := Kept.mk K4.out; clear hz0 K1 K2 K3 K4 K5; generalize setN (U.alloc (.cells #[.int .i64 0, .int .i64 0, .int .i64 0, .int .i64 0] 26)) U.heap.size 0 [.int .i64 (sumA F0 0 : Int), .int .i64 (sumA F0 1 : Int), .int .i64 (sumA F0 2 : Int), .int .i64 (sumA F0 3 : Int)] = W8 at *; generalize hgwE : U.heap.size = gw at Vw ⊢; obtain ⟨qb, rb, xb, sb, ib, kb0, kb1, kb2⟩ := Vb.out.open_; have Xb := Kept.mk xb; have Sb := Kept.mk sb; have Ib := Kept.mk ib; clear xb sb ib; obtain ⟨bs, os, cs, ea, hbs, yp, ym, hyc, hyp, hym⟩ := Sb.out.get HY.out; subst ea; rw [HNB.out] at kb1 Xb Sb; have kx0 := hyc 0 _ rfl; have kx1 := hyc 1 _ rfl; have kx2 := hyc 2 _ rfl; have kx3 := hyc 3 _ rfl; have kx4 := hyc 4 _ rfl; have kx5 := hyc 5 _ rfl; have kx6 := hyc 6 _ rfl; have kx7 := hyc 7 _ rfl; have kx8 := hyc 8 _ rfl; simp only [Nat.add_zero] at kx0; have YE := Kept.mk (show isEn Y (.agg #[.string ⟨Y.key.toArray⟩, .int .i64 Y.val.kind, .int .i64 Y.val.time, .int .i64 Y.val.node, .bool Y.val.dead, .string ⟨Y.val.text.toArray⟩, yp, ym, .int .u64 (Y.val.flags.toNat : Int)]) W8 from ⟨_, _, rfl, hyp, hym⟩); clear hyc hyp hym)
            refine (gd_eput Y ye _ _ YE.out (ok_fit' OY.out) OY.out HYE.out).mono ?_
            rintro e W9 ⟨rfl, hb1⟩
            clear YE kx0 kx1 kx2 kx3 kx4 kx5 kx6 kx7 kx8
            clear Xb Sb Ib kb0 kb1 kb2
            replace hB := Kept.mk (hB.out.trans ((hb1).mono hB.out.size))
            replace Va := Kept.mk (Va.out.keep (hb1))
            replace Vx := Kept.mk (Vx.out.keep (hb1))
            replace Vb := Kept.mk (Vb.out.keep (hb1))
            replace Vw := Kept.mk (Vw.out.keep (hb1))
            replace HBU := Kept.mk (HBU.out.trans ((hb1).mono HBU.out.size))
            clear hb1
            go_wp2_with fail
            refine dst17_region _ _ _ rfl gw 2 (sumA F0 2) c ye _ Vw.out rfl (by decide) (sumA_lt F0 2) hclt hyl HCY.out rfl rfl rfl ?_
            intro f9 W9 hb1
            simp only [List.foldl_cons, List.foldl_nil]
            generalize f9 95 = y95
            generalize f9 96 = y96
            generalize f9 97 = y97
            generalize f9 98 = y98
            generalize f9 99 = y99
            generalize f9 100 = y100
            generalize f9 101 = y101
            generalize f9 102 = y102
            try simp only [List.setIfInBounds_toArray, List.set_cons_succ, List.set_cons_zero]
            replace hB := Kept.mk (hB.out.trans ((hb1).mono hB.out.size))
            replace Va := Kept.mk (Va.out.keep (hb1))
            replace Vx := Kept.mk (Vx.out.keep (hb1))
            replace Vb := Kept.mk (Vb.out.keep (hb1))
            replace Vw := Kept.mk (Vw.out.keep (hb1))
            replace HBU := Kept.mk (HBU.out.trans ((hb1).mono HBU.out.size))
            clear hb1
            have Vw2 := Kept.mk (show Blk (W9.setCell ⟨gw, 2, none⟩ (.int .i64 (((sumA F0 2) ^^^ c : Nat) : Int))) gw [.int .i64 (sumA F0 0 : Int), .int .i64 (sumA F0 1 : Int), .int .i64 (((sumA F0 2) ^^^ c : Nat) : Int), .int .i64 (sumA F0 3 : Int)] from Vw.out.set 2 _ (show 2 < 4 by decide))
            replace HBU := Kept.mk (HBU.out.setCell (p := ⟨gw, 2, none⟩) (show U.heap.size ≤ gw from Nat.le_of_eq hgwE) (.int .i64 (((sumA F0 2) ^^^ c : Nat) : Int)))
            replace hB := Kept.mk (hBU.out.trans (HBU.out.mono hBU.out.size))
            replace Vw := Vw2
            replace Va := Kept.mk (VaU.out.keep HBU.out)
            replace Vx := Kept.mk (VxU.out.keep HBU.out)
            replace Vb := Kept.mk (VbU.out.keep HBU.out)
            clear Vw2
            generalize (W9.setCell ⟨gw, 2, none⟩ (.int .i64 (((sumA F0 2) ^^^ c : Nat) : Int))) = W10 at *
            obtain ⟨qa, ra, xa, sa, ia, ka0, ka1, ka2⟩ := Va.out.open_
            have Xa := Kept.mk xa
            have Sa := Kept.mk sa
            have Ia := Kept.mk ia
            clear xa sa ia
            obtain ⟨bz, oz, cz, ea, hbz, zp, zm, hzc, hzp, hzm⟩ := Sa.out.get HX0.out
            subst ea
            rw [HNA.out] at ka1 Xa Sa
            have kx0 := hzc 0 _ rfl
            have kx1 := hzc 1 _ rfl
            have kx2 := hzc 2 _ rfl
            have kx3 := hzc 3 _ rfl
            have kx4 := hzc 4 _ rfl
            have kx5 := hzc 5 _ rfl
            have kx6 := hzc 6 _ rfl
            have kx7 := hzc 7 _ rfl
            have kx8 := hzc 8 _ rfl
            simp only [Nat.add_zero] at kx0
            have ZE := Kept.mk (show isEn Z (.agg #[.string ⟨Z.key.toArray⟩, .int .i64 Z.val.kind, .int .i64 Z.val.time, .int .i64 Z.val.node, .bool Z.val.dead, .string ⟨Z.val.text.toArray⟩, zp, zm, .int .u64 (Z.val.flags.toNat : Int)]) W10 from ⟨_, _, rfl, hzp, hzm⟩)
            obtain ⟨ze, hze⟩ : ∃ q, putEn Z = q := ⟨_, rfl⟩
            have hzl : ze.length ≤ 1024 := by rw [← hze, length_putEn OZ.out]; decide
            obtain ⟨d, hd⟩ : ∃ c, crcN ze = c := ⟨_, rfl⟩
            have hdlt : d < 4294967296 := by rw [← hd]; exact sumN_lt _
            have HZE := Kept.mk hze
            have HCZ := Kept.mk hd
            have HSZ := Kept.mk (show sumE Z = d by unfold sumE; rw [hze, hd])
            clear hze hd hzc hzp hzm
            go_wp2_with fail
            refine (gd_eput Z ze _ _ ZE.out (ok_fit' OZ.out) OZ.out HZE.out).mono ?_
            rintro e W11 ⟨rfl, hb1⟩
            clear ZE kx0 kx1 kx2 kx3 kx4 kx5 kx6 kx7 kx8
            clear Xa Sa Ia ka0 ka1 ka2
            replace hB := Kept.mk (hB.out.trans ((hb1).mono hB.out.size))
            replace Va := Kept.mk (Va.out.keep (hb1))
            replace Vx := Kept.mk (Vx.out.keep (hb1))
            replace Vb := Kept.mk (Vb.out.keep (hb1))
            replace Vw := Kept.mk (Vw.out.keep (hb1))
            replace HBU := Kept.mk (HBU.out.trans ((hb1).mono HBU.out.size))
            clear hb1
            go_wp2_with fail
            refine dst20_region _ _ _ rfl gw 2 ((sumA F0 2) ^^^ c) d ze _ Vw.out rfl (by decide) (x32 (sumA_lt F0 2) hclt) hdlt hzl HCZ.out rfl rfl rfl ?_
            intro f9 W9 hb1
            simp only [List.foldl_cons, List.foldl_nil]
            generalize f9 114 = y114
            generalize f9 115 = y115
            generalize f9 116 = y116
            generalize f9 117 = y117
            generalize f9 118 = y118
            generalize f9 119 = y119
            generalize f9 120 = y120
            generalize f9 121 = y121
            try simp only [List.setIfInBounds_toArray, List.set_cons_succ, List.set_cons_zero]
            replace hB := Kept.mk (hB.out.trans ((hb1).mono hB.out.size))
            replace Va := Kept.mk (Va.out.keep (hb1))
            replace Vx := Kept.mk (Vx.out.keep (hb1))
            replace Vb := Kept.mk (Vb.out.keep (hb1))
            replace Vw := Kept.mk (Vw.out.keep (hb1))
            replace HBU := Kept.mk (HBU.out.trans ((hb1).mono HBU.out.size))
            clear hb1
            have Vw2 := Kept.mk (show Blk (W9.setCell ⟨gw, 2, none⟩ (.int .i64 ((((sumA F0 2) ^^^ c) ^^^ d : Nat) : Int))) gw [.int .i64 (sumA F0 0 : Int), .int .i64 (sumA F0 1 : Int), .int .i64 ((((sumA F0 2) ^^^ c) ^^^ d : Nat) : Int), .int .i64 (sumA F0 3 : Int)] from Vw.out.set 2 _ (show 2 < 4 by decide))
            replace HBU := Kept.mk (HBU.out.setCell (p := ⟨gw, 2, none⟩) (show U.heap.size ≤ gw from Nat.le_of_eq hgwE) (.int .i64 ((((sumA F0 2) ^^^ c) ^^^ d : Nat) : Int)))
            replace hB := Kept.mk (hBU.out.trans (HBU.out.mono hBU.out.size))
            replace Vw := Vw2
            replace Va := Kept.mk (VaU.out.keep HBU.out)
            replace Vx := Kept.mk (VxU.out.keep HBU.out)
            replace Vb := Kept.mk (VbU.out.keep HBU.out)
            clear Vw2
            generalize (W9.setCell ⟨gw, 2, none⟩ (.int .i64 ((((sumA F0 2) ^^^ c) ^^^ d : Nat) : Int))) = W12 at *
            have HSB := Kept.mk (show sumsV B = .agg #[.int .i64 (sumA F0 0 : Int), .int .i64 (sumA F0 1 : Int), .int .i64 ((((sumA F0 2) ^^^ c) ^^^ d : Nat) : Int), .int .i64 (sumA F0 3 : Int)] by unfold sumsV; rw [HOT2.out 0 (by decide), HOT2.out 1 (by decide), HOT2.out 3 (by decide)]; rw [HSM2.out, HSE.out, HSZ.out])
            go_wp2_with fail
            obtain ⟨qb, rb, cb, sb, ib⟩ := Vb.out
            refine dst21_region _ _ _ rfl gb gw B qb rb _ _ _ _ cb Vw.out.cells ⟨_, _, rfl, sb, ib⟩ FB.out HSB.out rfl rfl rfl ?_
            intro f9 W9 d4 hb1
            simp only [List.foldl_cons, List.foldl_nil, d4]
            generalize f9 122 = y122
            generalize f9 123 = y123
            generalize f9 124 = y124
            generalize f9 125 = y125
            generalize f9 126 = y126
            generalize f9 127 = y127
            generalize f9 128 = y128
            clear d4
            try simp only [List.setIfInBounds_toArray, List.set_cons_succ, List.set_cons_zero]
            clear cb sb ib
            replace hB := Kept.mk (hB.out.trans ((hb1).mono hB.out.size))
            replace Va := Kept.mk (Va.out.keep (hb1))
            replace Vx := Kept.mk (Vx.out.keep (hb1))
            replace Vb := Kept.mk (Vb.out.keep (hb1))
            replace Vw := Kept.mk (Vw.out.keep (hb1))
            replace HBU := Kept.mk (HBU.out.trans ((hb1).mono HBU.out.size))
            clear hb1
            go_wp2
            all_goals go_ret
            all_goals exact ⟨rfl, hB.out⟩
          · skip
            obtain ⟨qa, ra, xa, sa, ia, ka0, ka1, ka2⟩ := Va.out.open_
            have Xa := Kept.mk xa
            have Sa := Kept.mk sa
            have Ia := Kept.mk ia
            clear xa sa ia
            obtain ⟨qb, rb, xb, sb, ib, kb0, kb1, kb2⟩ := Vb.out.open_
            have Xb := Kept.mk xb
            have Sb := Kept.mk sb
            have Ib := Kept.mk ib
            clear xb sb ib
            obtain ⟨sba, sca, eba⟩ := Sa.out.len
            subst eba
            obtain ⟨sbb, scb, ebb⟩ := Sb.out.len
            subst ebb
            obtain ⟨NA, hNA⟩ : ∃ n, F0.slots.length = n := ⟨_, rfl⟩
            obtain ⟨NB, hNB⟩ : ∃ n, B.slots.length = n := ⟨_, rfl⟩
            have HNA := Kept.mk hNA
            have HNB := Kept.mk hNB
            rw [hNA] at ka1 Xa Sa
            rw [hNB] at kb1 Xb Sb
            have hql : (pq : Int) < (NB : Int) := by have := HPQL.out; omega
            have hq0 : ¬ (NB : Int) ≤ (pq : Int) := by omega
            have hpl : (p : Int) < (NA : Int) := by have := HPL.out; omega
            have hp0 : ¬ (NA : Int) ≤ (p : Int) := by omega
            clear hNA hNB
            go_wp2_with fail
            obtain ⟨ye, hye⟩ : ∃ q, putEn Y = q := ⟨_, rfl⟩
            have hyl : ye.length ≤ 1024 := by rw [← hye, length_putEn OY.out]; decide
            obtain ⟨c, hc⟩ : ∃ c, crcN ye = c := ⟨_, rfl⟩
            have hclt : c < 4294967296 := by rw [← hc]; exact sumN_lt _
            have HYE := Kept.mk hye
            have HCY := Kept.mk hc
            have HSE := Kept.mk (show sumE Y = c by unfold sumE; rw [hye, hc])
            clear hye hc
            ((with_reducible refine (gd_sums F0 _ _ _ _ _ _ Xa.out FFa.out rfl).mono ?_); rintro e U ⟨rfl, hb1⟩)
            obtain ⟨K1, K2, K3, K4, K5⟩ := snew U ((sumA F0 0 : Int)) ((sumA F0 1 : Int)) ((sumA F0 2 : Int)) ((sumA F0 3 : Int)) U.heap.size rfl
            clear Xa Sa Ia ka0 ka1 ka2
            clear Xb Sb Ib kb0 kb1 kb2
            replace hB := Kept.mk (hB.out.trans ((hb1).mono hB.out.size))
            replace Va := Kept.mk (Va.out.keep (hb1))
            replace Vx := Kept.mk (Vx.out.keep (hb1))
            replace Vb := Kept.mk (Vb.out.keep (hb1))
            clear hb1
            have VaU := Va
            have VbU := Vb
            have VxU := Vx
            have hBU := hB
            have HBU := Kept.mk (Below.refl U.heap.size U)
            go_wp2_with (have hz0 := K1; refine wpList_storeN 26 rfl (.tmp 13) (.tmp 85) rfl U.heap.size [.int .i64 (sumA F0 0 : Int), .int .i64 (sumA F0 1 : Int), .int .i64 (sumA F0 2 : Int), .int .i64 (sumA F0 3 : Int)] size_a4 rfl rfl K1.out rfl K2.out K5.out ?_; replace hB := Kept.mk (hB.out.trans ((K3.out).mono hB.out.size)); replace Va := Kept.mk (Va.out.keep (K3.out)); replace Vx := Kept.mk (Vx.out.keep (K3.out)); replace Vb := Kept.mk (Vb.out.keep (K3.out)); replace HBU := Kept.mk (HBU.out.trans K3.out); have Vw := Kept.mk K4.out; clear hz0 K1 K2 K3 K4 K5; generalize setN (U.alloc (.cells #[.int .i64 0, .int .i64 0, .int .i64 0, .int .i64 0] 26)) U.heap.size 0 [.int .i64 (sumA F0 0 : Int), .int .i64 (sumA F0 1 : Int), .int .i64 (sumA F0 2 : Int), .int .i64 (sumA F0 3 : Int)] = W8 at *; generalize hgwE : U.heap.size = gw at Vw ⊢; obtain ⟨qb, rb, xb, sb, ib, kb0, kb1, kb2⟩ := Vb.out.open_; have Xb := Kept.mk xb; have Sb := Kept.mk sb; have Ib := Kept.mk ib; clear xb sb ib; obtain ⟨bs, os, cs, ea, hbs, yp, ym, hyc, hyp, hym⟩ := Sb.out.get HY.out; subst ea; rw [HNB.out] at kb1 Xb Sb; have kx0 := hyc 0 _ rfl; have kx1 := hyc 1 _ rfl; have kx2 := hyc 2 _ rfl; have kx3 := hyc 3 _ rfl; have kx4 := hyc 4 _ rfl; have kx5 := hyc 5 _ rfl; have kx6 := hyc 6 _ rfl; have kx7 := hyc 7 _ rfl; have kx8 := hyc 8 _ rfl; simp only [Nat.add_zero] at kx0; have YE := Kept.mk (show isEn Y (.agg #[.string ⟨Y.key.toArray⟩, .int .i64 Y.val.kind, .int .i64 Y.val.time, .int .i64 Y.val.node, .bool Y.val.dead, .string ⟨Y.val.text.toArray⟩, yp, ym, .int .u64 (Y.val.flags.toNat : Int)]) W8 from ⟨_, _, rfl, hyp, hym⟩); clear hyc hyp hym)
            refine (gd_eput Y ye _ _ YE.out (ok_fit' OY.out) OY.out HYE.out).mono ?_
            rintro e W9 ⟨rfl, hb1⟩
            clear YE kx0 kx1 kx2 kx3 kx4 kx5 kx6 kx7 kx8
            clear Xb Sb Ib kb0 kb1 kb2
            replace hB := Kept.mk (hB.out.trans ((hb1).mono hB.out.size))
            replace Va := Kept.mk (Va.out.keep (hb1))
            replace Vx := Kept.mk (Vx.out.keep (hb1))
            replace Vb := Kept.mk (Vb.out.keep (hb1))
            replace Vw := Kept.mk (Vw.out.keep (hb1))
            replace HBU := Kept.mk (HBU.out.trans ((hb1).mono HBU.out.size))
            clear hb1
            go_wp2_with fail
            refine dst17_region _ _ _ rfl gw 3 (sumA F0 3) c ye _ Vw.out rfl (by decide) (sumA_lt F0 3) hclt hyl HCY.out rfl rfl rfl ?_
            intro f9 W9 hb1
            simp only [List.foldl_cons, List.foldl_nil]
            generalize f9 95 = y95
            generalize f9 96 = y96
            generalize f9 97 = y97
            generalize f9 98 = y98
            generalize f9 99 = y99
            generalize f9 100 = y100
            generalize f9 101 = y101
            generalize f9 102 = y102
            try simp only [List.setIfInBounds_toArray, List.set_cons_succ, List.set_cons_zero]
            replace hB := Kept.mk (hB.out.trans ((hb1).mono hB.out.size))
            replace Va := Kept.mk (Va.out.keep (hb1))
            replace Vx := Kept.mk (Vx.out.keep (hb1))
            replace Vb := Kept.mk (Vb.out.keep (hb1))
            replace Vw := Kept.mk (Vw.out.keep (hb1))
            replace HBU := Kept.mk (HBU.out.trans ((hb1).mono HBU.out.size))
            clear hb1
            have Vw2 := Kept.mk (show Blk (W9.setCell ⟨gw, 3, none⟩ (.int .i64 (((sumA F0 3) ^^^ c : Nat) : Int))) gw [.int .i64 (sumA F0 0 : Int), .int .i64 (sumA F0 1 : Int), .int .i64 (sumA F0 2 : Int), .int .i64 (((sumA F0 3) ^^^ c : Nat) : Int)] from Vw.out.set 3 _ (show 3 < 4 by decide))
            replace HBU := Kept.mk (HBU.out.setCell (p := ⟨gw, 3, none⟩) (show U.heap.size ≤ gw from Nat.le_of_eq hgwE) (.int .i64 (((sumA F0 3) ^^^ c : Nat) : Int)))
            replace hB := Kept.mk (hBU.out.trans (HBU.out.mono hBU.out.size))
            replace Vw := Vw2
            replace Va := Kept.mk (VaU.out.keep HBU.out)
            replace Vx := Kept.mk (VxU.out.keep HBU.out)
            replace Vb := Kept.mk (VbU.out.keep HBU.out)
            clear Vw2
            generalize (W9.setCell ⟨gw, 3, none⟩ (.int .i64 (((sumA F0 3) ^^^ c : Nat) : Int))) = W10 at *
            obtain ⟨qa, ra, xa, sa, ia, ka0, ka1, ka2⟩ := Va.out.open_
            have Xa := Kept.mk xa
            have Sa := Kept.mk sa
            have Ia := Kept.mk ia
            clear xa sa ia
            obtain ⟨bz, oz, cz, ea, hbz, zp, zm, hzc, hzp, hzm⟩ := Sa.out.get HX0.out
            subst ea
            rw [HNA.out] at ka1 Xa Sa
            have kx0 := hzc 0 _ rfl
            have kx1 := hzc 1 _ rfl
            have kx2 := hzc 2 _ rfl
            have kx3 := hzc 3 _ rfl
            have kx4 := hzc 4 _ rfl
            have kx5 := hzc 5 _ rfl
            have kx6 := hzc 6 _ rfl
            have kx7 := hzc 7 _ rfl
            have kx8 := hzc 8 _ rfl
            simp only [Nat.add_zero] at kx0
            have ZE := Kept.mk (show isEn Z (.agg #[.string ⟨Z.key.toArray⟩, .int .i64 Z.val.kind, .int .i64 Z.val.time, .int .i64 Z.val.node, .bool Z.val.dead, .string ⟨Z.val.text.toArray⟩, zp, zm, .int .u64 (Z.val.flags.toNat : Int)]) W10 from ⟨_, _, rfl, hzp, hzm⟩)
            obtain ⟨ze, hze⟩ : ∃ q, putEn Z = q := ⟨_, rfl⟩
            have hzl : ze.length ≤ 1024 := by rw [← hze, length_putEn OZ.out]; decide
            obtain ⟨d, hd⟩ : ∃ c, crcN ze = c := ⟨_, rfl⟩
            have hdlt : d < 4294967296 := by rw [← hd]; exact sumN_lt _
            have HZE := Kept.mk hze
            have HCZ := Kept.mk hd
            have HSZ := Kept.mk (show sumE Z = d by unfold sumE; rw [hze, hd])
            clear hze hd hzc hzp hzm
            go_wp2_with fail
            refine (gd_eput Z ze _ _ ZE.out (ok_fit' OZ.out) OZ.out HZE.out).mono ?_
            rintro e W11 ⟨rfl, hb1⟩
            clear ZE kx0 kx1 kx2 kx3 kx4 kx5 kx6 kx7 kx8
            clear Xa Sa Ia ka0 ka1 ka2
            replace hB := Kept.mk (hB.out.trans ((hb1).mono hB.out.size))
            replace Va := Kept.mk (Va.out.keep (hb1))
            replace Vx := Kept.mk (Vx.out.keep (hb1))
            replace Vb := Kept.mk (Vb.out.keep (hb1))
            replace Vw := Kept.mk (Vw.out.keep (hb1))
            replace HBU := Kept.mk (HBU.out.trans ((hb1).mono HBU.out.size))
            clear hb1
            go_wp2_with fail
            refine dst20_region _ _ _ rfl gw 3 ((sumA F0 3) ^^^ c) d ze _ Vw.out rfl (by decide) (x32 (sumA_lt F0 3) hclt) hdlt hzl HCZ.out rfl rfl rfl ?_
            intro f9 W9 hb1
            simp only [List.foldl_cons, List.foldl_nil]
            generalize f9 114 = y114
            generalize f9 115 = y115
            generalize f9 116 = y116
            generalize f9 117 = y117
            generalize f9 118 = y118
            generalize f9 119 = y119
            generalize f9 120 = y120
            generalize f9 121 = y121
            try simp only [List.setIfInBounds_toArray, List.set_cons_succ, List.set_cons_zero]
            replace hB := Kept.mk (hB.out.trans ((hb1).mono hB.out.size))
            replace Va := Kept.mk (Va.out.keep (hb1))
            replace Vx := Kept.mk (Vx.out.keep (hb1))
            replace Vb := Kept.mk (Vb.out.keep (hb1))
            replace Vw := Kept.mk (Vw.out.keep (hb1))
            replace HBU := Kept.mk (HBU.out.trans ((hb1).mono HBU.out.size))
            clear hb1
            have Vw2 := Kept.mk (show Blk (W9.setCell ⟨gw, 3, none⟩ (.int .i64 ((((sumA F0 3) ^^^ c) ^^^ d : Nat) : Int))) gw [.int .i64 (sumA F0 0 : Int), .int .i64 (sumA F0 1 : Int), .int .i64 (sumA F0 2 : Int), .int .i64 ((((sumA F0 3) ^^^ c) ^^^ d : Nat) : Int)] from Vw.out.set 3 _ (show 3 < 4 by decide))
            replace HBU := Kept.mk (HBU.out.setCell (p := ⟨gw, 3, none⟩) (show U.heap.size ≤ gw from Nat.le_of_eq hgwE) (.int .i64 ((((sumA F0 3) ^^^ c) ^^^ d : Nat) : Int)))
            replace hB := Kept.mk (hBU.out.trans (HBU.out.mono hBU.out.size))
            replace Vw := Vw2
            replace Va := Kept.mk (VaU.out.keep HBU.out)
            replace Vx := Kept.mk (VxU.out.keep HBU.out)
            replace Vb := Kept.mk (VbU.out.keep HBU.out)
            clear Vw2
            generalize (W9.setCell ⟨gw, 3, none⟩ (.int .i64 ((((sumA F0 3) ^^^ c) ^^^ d : Nat) : Int))) = W12 at *
            have HSB := Kept.mk (show sumsV B = .agg #[.int .i64 (sumA F0 0 : Int), .int .i64 (sumA F0 1 : Int), .int .i64 (sumA F0 2 : Int), .int .i64 ((((sumA F0 3) ^^^ c) ^^^ d : Nat) : Int)] by unfold sumsV; rw [HOT2.out 0 (by decide), HOT2.out 1 (by decide), HOT2.out 2 (by decide)]; rw [HSM2.out, HSE.out, HSZ.out])
            go_wp2_with fail
            obtain ⟨qb, rb, cb, sb, ib⟩ := Vb.out
            refine dst21_region _ _ _ rfl gb gw B qb rb _ _ _ _ cb Vw.out.cells ⟨_, _, rfl, sb, ib⟩ FB.out HSB.out rfl rfl rfl ?_
            intro f9 W9 d4 hb1
            simp only [List.foldl_cons, List.foldl_nil, d4]
            generalize f9 122 = y122
            generalize f9 123 = y123
            generalize f9 124 = y124
            generalize f9 125 = y125
            generalize f9 126 = y126
            generalize f9 127 = y127
            generalize f9 128 = y128
            clear d4
            try simp only [List.setIfInBounds_toArray, List.set_cons_succ, List.set_cons_zero]
            clear cb sb ib
            replace hB := Kept.mk (hB.out.trans ((hb1).mono hB.out.size))
            replace Va := Kept.mk (Va.out.keep (hb1))
            replace Vx := Kept.mk (Vx.out.keep (hb1))
            replace Vb := Kept.mk (Vb.out.keep (hb1))
            replace Vw := Kept.mk (Vw.out.keep (hb1))
            replace HBU := Kept.mk (HBU.out.trans ((hb1).mono HBU.out.size))
            clear hb1
            go_wp2
            all_goals go_ret
            all_goals exact ⟨rfl, hB.out⟩
        | false =>
          have hp := find_no OAK.out hh
          have HSUM := Kept.mk (HNO.out hh)
          have HP := Kept.mk hp
          clear hp hh
          ((with_reducible refine (gd_find F0 F1 (-1) _ _ Xa.out FFa.out HP.out).mono ?_); rintro e W5 ⟨rfl, hb1⟩)
          clear Xa Sa Ia ka0 ka1 ka2
          clear Xx Yx kx0 kx1 kx2 kx3 kx4 kx5 kx6 kx7 kx8
          replace hB := Kept.mk (hB.out.trans ((hb1).mono hB.out.size))
          replace Va := Kept.mk (Va.out.keep (hb1))
          replace Vx := Kept.mk (Vx.out.keep (hb1))
          replace Vb := Kept.mk (Vb.out.keep (hb1))
          clear hb1
          obtain ⟨qb, rb, xb, sb, ib, kb0, kb1, kb2⟩ := Vb.out.open_
          have Xb := Kept.mk xb
          have Sb := Kept.mk sb
          have Ib := Kept.mk ib
          clear xb sb ib
          obtain ⟨qx, rx, xx, yx, kx0, kx1, kx2, kx3, kx4, kx5, kx6, kx7, kx8⟩ := Vx.out.open_
          have Xx := Kept.mk xx
          have Yx := Kept.mk yx
          clear xx yx
          go_wp2_with fail
          ((with_reducible refine (gd_find B F1 pq _ _ Xb.out FB.out HPQ.out).mono ?_); rintro e W6 ⟨rfl, hb1⟩)
          clear Xb Sb Ib kb0 kb1 kb2
          clear Xx Yx kx0 kx1 kx2 kx3 kx4 kx5 kx6 kx7 kx8
          replace hB := Kept.mk (hB.out.trans ((hb1).mono hB.out.size))
          replace Va := Kept.mk (Va.out.keep (hb1))
          replace Vx := Kept.mk (Vx.out.keep (hb1))
          replace Vb := Kept.mk (Vb.out.keep (hb1))
          clear hb1
          obtain ⟨qx, rx, xx, yx, kx0, kx1, kx2, kx3, kx4, kx5, kx6, kx7, kx8⟩ := Vx.out.open_
          have Xx := Kept.mk xx
          have Yx := Kept.mk yx
          clear xx yx
          go_wp2_with fail
          obtain ⟨bk, hbk⟩ : ∃ n, bucketN F1.val.kind F1.key = n := ⟨_, rfl⟩
          have HBK := Kept.mk hbk
          have hb4 : bk = 0 ∨ bk = 1 ∨ bk = 2 ∨ bk = 3 := by have := bucketN_lt F1.val.kind F1.key; omega
          have hot := HOT.out
          have hsm := HSUM.out
          rw [show bkE F1 = bk from hbk] at hot hsm
          have HOT2 := Kept.mk hot
          have HSM2 := Kept.mk hsm
          clear hbk hot hsm
          ((with_reducible refine (gd_bucket F1.val.kind F1.key bk _ hkl HBK.out).mono ?_); rintro e W7 ⟨rfl, hb1⟩)
          clear Xx Yx kx0 kx1 kx2 kx3 kx4 kx5 kx6 kx7 kx8
          replace hB := Kept.mk (hB.out.trans ((hb1).mono hB.out.size))
          replace Va := Kept.mk (Va.out.keep (hb1))
          replace Vx := Kept.mk (Vx.out.keep (hb1))
          replace Vb := Kept.mk (Vb.out.keep (hb1))
          clear hb1
          rcases hb4 with rfl | rfl | rfl | rfl
          · skip
            obtain ⟨qa, ra, xa, sa, ia, ka0, ka1, ka2⟩ := Va.out.open_
            have Xa := Kept.mk xa
            have Sa := Kept.mk sa
            have Ia := Kept.mk ia
            clear xa sa ia
            obtain ⟨qb, rb, xb, sb, ib, kb0, kb1, kb2⟩ := Vb.out.open_
            have Xb := Kept.mk xb
            have Sb := Kept.mk sb
            have Ib := Kept.mk ib
            clear xb sb ib
            obtain ⟨sba, sca, eba⟩ := Sa.out.len
            subst eba
            obtain ⟨sbb, scb, ebb⟩ := Sb.out.len
            subst ebb
            obtain ⟨NA, hNA⟩ : ∃ n, F0.slots.length = n := ⟨_, rfl⟩
            obtain ⟨NB, hNB⟩ : ∃ n, B.slots.length = n := ⟨_, rfl⟩
            have HNA := Kept.mk hNA
            have HNB := Kept.mk hNB
            rw [hNA] at ka1 Xa Sa
            rw [hNB] at kb1 Xb Sb
            have hql : (pq : Int) < (NB : Int) := by have := HPQL.out; omega
            have hq0 : ¬ (NB : Int) ≤ (pq : Int) := by omega
            have hp0 : ¬ (NA : Int) ≤ (-1 : Int) := by omega
            clear hNA hNB
            go_wp2_with fail
            obtain ⟨ye, hye⟩ : ∃ q, putEn Y = q := ⟨_, rfl⟩
            have hyl : ye.length ≤ 1024 := by rw [← hye, length_putEn OY.out]; decide
            obtain ⟨c, hc⟩ : ∃ c, crcN ye = c := ⟨_, rfl⟩
            have hclt : c < 4294967296 := by rw [← hc]; exact sumN_lt _
            have HYE := Kept.mk hye
            have HCY := Kept.mk hc
            have HSE := Kept.mk (show sumE Y = c by unfold sumE; rw [hye, hc])
            clear hye hc
            ((with_reducible refine (gd_sums F0 _ _ _ _ _ _ Xa.out FFa.out rfl).mono ?_); rintro e U ⟨rfl, hb1⟩)
            obtain ⟨K1, K2, K3, K4, K5⟩ := snew U ((sumA F0 0 : Int)) ((sumA F0 1 : Int)) ((sumA F0 2 : Int)) ((sumA F0 3 : Int)) U.heap.size rfl
            clear Xa Sa Ia ka0 ka1 ka2
            clear Xb Sb Ib kb0 kb1 kb2
            replace hB := Kept.mk (hB.out.trans ((hb1).mono hB.out.size))
            replace Va := Kept.mk (Va.out.keep (hb1))
            replace Vx := Kept.mk (Vx.out.keep (hb1))
            replace Vb := Kept.mk (Vb.out.keep (hb1))
            clear hb1
            have VaU := Va
            have VbU := Vb
            have VxU := Vx
            have hBU := hB
            have HBU := Kept.mk (Below.refl U.heap.size U)
            go_wp2_with (have hz0 := K1; refine wpList_storeN 26 rfl (.tmp 13) (.tmp 85) rfl U.heap.size [.int .i64 (sumA F0 0 : Int), .int .i64 (sumA F0 1 : Int), .int .i64 (sumA F0 2 : Int), .int .i64 (sumA F0 3 : Int)] size_a4 rfl rfl K1.out rfl K2.out K5.out ?_; replace hB := Kept.mk (hB.out.trans ((K3.out).mono hB.out.size)); replace Va := Kept.mk (Va.out.keep (K3.out)); replace Vx := Kept.mk (Vx.out.keep (K3.out)); replace Vb := Kept.mk (Vb.out.keep (K3.out)); replace HBU := Kept.mk (HBU.out.trans K3.out); have Vw := Kept.mk K4.out; clear hz0 K1 K2 K3 K4 K5; generalize setN (U.alloc (.cells #[.int .i64 0, .int .i64 0, .int .i64 0, .int .i64 0] 26)) U.heap.size 0 [.int .i64 (sumA F0 0 : Int), .int .i64 (sumA F0 1 : Int), .int .i64 (sumA F0 2 : Int), .int .i64 (sumA F0 3 : Int)] = W8 at *; generalize hgwE : U.heap.size = gw at Vw ⊢; obtain ⟨qb, rb, xb, sb, ib, kb0, kb1, kb2⟩ := Vb.out.open_; have Xb := Kept.mk xb; have Sb := Kept.mk sb; have Ib := Kept.mk ib; clear xb sb ib; obtain ⟨bs, os, cs, ea, hbs, yp, ym, hyc, hyp, hym⟩ := Sb.out.get HY.out; subst ea; rw [HNB.out] at kb1 Xb Sb; have kx0 := hyc 0 _ rfl; have kx1 := hyc 1 _ rfl; have kx2 := hyc 2 _ rfl; have kx3 := hyc 3 _ rfl; have kx4 := hyc 4 _ rfl; have kx5 := hyc 5 _ rfl; have kx6 := hyc 6 _ rfl; have kx7 := hyc 7 _ rfl; have kx8 := hyc 8 _ rfl; simp only [Nat.add_zero] at kx0; have YE := Kept.mk (show isEn Y (.agg #[.string ⟨Y.key.toArray⟩, .int .i64 Y.val.kind, .int .i64 Y.val.time, .int .i64 Y.val.node, .bool Y.val.dead, .string ⟨Y.val.text.toArray⟩, yp, ym, .int .u64 (Y.val.flags.toNat : Int)]) W8 from ⟨_, _, rfl, hyp, hym⟩); clear hyc hyp hym)
            refine (gd_eput Y ye _ _ YE.out (ok_fit' OY.out) OY.out HYE.out).mono ?_
            rintro e W9 ⟨rfl, hb1⟩
            clear YE kx0 kx1 kx2 kx3 kx4 kx5 kx6 kx7 kx8
            clear Xb Sb Ib kb0 kb1 kb2
            replace hB := Kept.mk (hB.out.trans ((hb1).mono hB.out.size))
            replace Va := Kept.mk (Va.out.keep (hb1))
            replace Vx := Kept.mk (Vx.out.keep (hb1))
            replace Vb := Kept.mk (Vb.out.keep (hb1))
            replace Vw := Kept.mk (Vw.out.keep (hb1))
            replace HBU := Kept.mk (HBU.out.trans ((hb1).mono HBU.out.size))
            clear hb1
            go_wp2_with fail
            refine dst17_region _ _ _ rfl gw 0 (sumA F0 0) c ye _ Vw.out rfl (by decide) (sumA_lt F0 0) hclt hyl HCY.out rfl rfl rfl ?_
            intro f9 W9 hb1
            simp only [List.foldl_cons, List.foldl_nil]
            generalize f9 95 = y95
            generalize f9 96 = y96
            generalize f9 97 = y97
            generalize f9 98 = y98
            generalize f9 99 = y99
            generalize f9 100 = y100
            generalize f9 101 = y101
            generalize f9 102 = y102
            try simp only [List.setIfInBounds_toArray, List.set_cons_succ, List.set_cons_zero]
            replace hB := Kept.mk (hB.out.trans ((hb1).mono hB.out.size))
            replace Va := Kept.mk (Va.out.keep (hb1))
            replace Vx := Kept.mk (Vx.out.keep (hb1))
            replace Vb := Kept.mk (Vb.out.keep (hb1))
            replace Vw := Kept.mk (Vw.out.keep (hb1))
            replace HBU := Kept.mk (HBU.out.trans ((hb1).mono HBU.out.size))
            clear hb1
            have Vw2 := Kept.mk (show Blk (W9.setCell ⟨gw, 0, none⟩ (.int .i64 (((sumA F0 0) ^^^ c : Nat) : Int))) gw [.int .i64 (((sumA F0 0) ^^^ c : Nat) : Int), .int .i64 (sumA F0 1 : Int), .int .i64 (sumA F0 2 : Int), .int .i64 (sumA F0 3 : Int)] from Vw.out.set 0 _ (show 0 < 4 by decide))
            replace HBU := Kept.mk (HBU.out.setCell (p := ⟨gw, 0, none⟩) (show U.heap.size ≤ gw from Nat.le_of_eq hgwE) (.int .i64 (((sumA F0 0) ^^^ c : Nat) : Int)))
            replace hB := Kept.mk (hBU.out.trans (HBU.out.mono hBU.out.size))
            replace Vw := Vw2
            replace Va := Kept.mk (VaU.out.keep HBU.out)
            replace Vx := Kept.mk (VxU.out.keep HBU.out)
            replace Vb := Kept.mk (VbU.out.keep HBU.out)
            clear Vw2
            generalize (W9.setCell ⟨gw, 0, none⟩ (.int .i64 (((sumA F0 0) ^^^ c : Nat) : Int))) = W10 at *
            have HSB := Kept.mk (show sumsV B = .agg #[.int .i64 (((sumA F0 0) ^^^ c : Nat) : Int), .int .i64 (sumA F0 1 : Int), .int .i64 (sumA F0 2 : Int), .int .i64 (sumA F0 3 : Int)] by unfold sumsV; rw [HOT2.out 1 (by decide), HOT2.out 2 (by decide), HOT2.out 3 (by decide)]; rw [HSM2.out, HSE.out])
            go_wp2_with fail
            obtain ⟨qb, rb, cb, sb, ib⟩ := Vb.out
            refine dst21_region _ _ _ rfl gb gw B qb rb _ _ _ _ cb Vw.out.cells ⟨_, _, rfl, sb, ib⟩ FB.out HSB.out rfl rfl rfl ?_
            intro f9 W9 d4 hb1
            simp only [List.foldl_cons, List.foldl_nil, d4]
            generalize f9 122 = y122
            generalize f9 123 = y123
            generalize f9 124 = y124
            generalize f9 125 = y125
            generalize f9 126 = y126
            generalize f9 127 = y127
            generalize f9 128 = y128
            clear d4
            try simp only [List.setIfInBounds_toArray, List.set_cons_succ, List.set_cons_zero]
            clear cb sb ib
            replace hB := Kept.mk (hB.out.trans ((hb1).mono hB.out.size))
            replace Va := Kept.mk (Va.out.keep (hb1))
            replace Vx := Kept.mk (Vx.out.keep (hb1))
            replace Vb := Kept.mk (Vb.out.keep (hb1))
            replace Vw := Kept.mk (Vw.out.keep (hb1))
            replace HBU := Kept.mk (HBU.out.trans ((hb1).mono HBU.out.size))
            clear hb1
            go_wp2
            all_goals go_ret
            all_goals exact ⟨rfl, hB.out⟩
          · skip
            obtain ⟨qa, ra, xa, sa, ia, ka0, ka1, ka2⟩ := Va.out.open_
            have Xa := Kept.mk xa
            have Sa := Kept.mk sa
            have Ia := Kept.mk ia
            clear xa sa ia
            obtain ⟨qb, rb, xb, sb, ib, kb0, kb1, kb2⟩ := Vb.out.open_
            have Xb := Kept.mk xb
            have Sb := Kept.mk sb
            have Ib := Kept.mk ib
            clear xb sb ib
            obtain ⟨sba, sca, eba⟩ := Sa.out.len
            subst eba
            obtain ⟨sbb, scb, ebb⟩ := Sb.out.len
            subst ebb
            obtain ⟨NA, hNA⟩ : ∃ n, F0.slots.length = n := ⟨_, rfl⟩
            obtain ⟨NB, hNB⟩ : ∃ n, B.slots.length = n := ⟨_, rfl⟩
            have HNA := Kept.mk hNA
            have HNB := Kept.mk hNB
            rw [hNA] at ka1 Xa Sa
            rw [hNB] at kb1 Xb Sb
            have hql : (pq : Int) < (NB : Int) := by have := HPQL.out; omega
            have hq0 : ¬ (NB : Int) ≤ (pq : Int) := by omega
            have hp0 : ¬ (NA : Int) ≤ (-1 : Int) := by omega
            clear hNA hNB
            go_wp2_with fail
            obtain ⟨ye, hye⟩ : ∃ q, putEn Y = q := ⟨_, rfl⟩
            have hyl : ye.length ≤ 1024 := by rw [← hye, length_putEn OY.out]; decide
            obtain ⟨c, hc⟩ : ∃ c, crcN ye = c := ⟨_, rfl⟩
            have hclt : c < 4294967296 := by rw [← hc]; exact sumN_lt _
            have HYE := Kept.mk hye
            have HCY := Kept.mk hc
            have HSE := Kept.mk (show sumE Y = c by unfold sumE; rw [hye, hc])
            clear hye hc
            ((with_reducible refine (gd_sums F0 _ _ _ _ _ _ Xa.out FFa.out rfl).mono ?_); rintro e U ⟨rfl, hb1⟩)
            obtain ⟨K1, K2, K3, K4, K5⟩ := snew U ((sumA F0 0 : Int)) ((sumA F0 1 : Int)) ((sumA F0 2 : Int)) ((sumA F0 3 : Int)) U.heap.size rfl
            clear Xa Sa Ia ka0 ka1 ka2
            clear Xb Sb Ib kb0 kb1 kb2
            replace hB := Kept.mk (hB.out.trans ((hb1).mono hB.out.size))
            replace Va := Kept.mk (Va.out.keep (hb1))
            replace Vx := Kept.mk (Vx.out.keep (hb1))
            replace Vb := Kept.mk (Vb.out.keep (hb1))
            clear hb1
            have VaU := Va
            have VbU := Vb
            have VxU := Vx
            have hBU := hB
            have HBU := Kept.mk (Below.refl U.heap.size U)
            go_wp2_with (have hz0 := K1; refine wpList_storeN 26 rfl (.tmp 13) (.tmp 85) rfl U.heap.size [.int .i64 (sumA F0 0 : Int), .int .i64 (sumA F0 1 : Int), .int .i64 (sumA F0 2 : Int), .int .i64 (sumA F0 3 : Int)] size_a4 rfl rfl K1.out rfl K2.out K5.out ?_; replace hB := Kept.mk (hB.out.trans ((K3.out).mono hB.out.size)); replace Va := Kept.mk (Va.out.keep (K3.out)); replace Vx := Kept.mk (Vx.out.keep (K3.out)); replace Vb := Kept.mk (Vb.out.keep (K3.out)); replace HBU := Kept.mk (HBU.out.trans K3.out); have Vw := Kept.mk K4.out; clear hz0 K1 K2 K3 K4 K5; generalize setN (U.alloc (.cells #[.int .i64 0, .int .i64 0, .int .i64 0, .int .i64 0] 26)) U.heap.size 0 [.int .i64 (sumA F0 0 : Int), .int .i64 (sumA F0 1 : Int), .int .i64 (sumA F0 2 : Int), .int .i64 (sumA F0 3 : Int)] = W8 at *; generalize hgwE : U.heap.size = gw at Vw ⊢; obtain ⟨qb, rb, xb, sb, ib, kb0, kb1, kb2⟩ := Vb.out.open_; have Xb := Kept.mk xb; have Sb := Kept.mk sb; have Ib := Kept.mk ib; clear xb sb ib; obtain ⟨bs, os, cs, ea, hbs, yp, ym, hyc, hyp, hym⟩ := Sb.out.get HY.out; subst ea; rw [HNB.out] at kb1 Xb Sb; have kx0 := hyc 0 _ rfl; have kx1 := hyc 1 _ rfl; have kx2 := hyc 2 _ rfl; have kx3 := hyc 3 _ rfl; have kx4 := hyc 4 _ rfl; have kx5 := hyc 5 _ rfl; have kx6 := hyc 6 _ rfl; have kx7 := hyc 7 _ rfl; have kx8 := hyc 8 _ rfl; simp only [Nat.add_zero] at kx0; have YE := Kept.mk (show isEn Y (.agg #[.string ⟨Y.key.toArray⟩, .int .i64 Y.val.kind, .int .i64 Y.val.time, .int .i64 Y.val.node, .bool Y.val.dead, .string ⟨Y.val.text.toArray⟩, yp, ym, .int .u64 (Y.val.flags.toNat : Int)]) W8 from ⟨_, _, rfl, hyp, hym⟩); clear hyc hyp hym)
            refine (gd_eput Y ye _ _ YE.out (ok_fit' OY.out) OY.out HYE.out).mono ?_
            rintro e W9 ⟨rfl, hb1⟩
            clear YE kx0 kx1 kx2 kx3 kx4 kx5 kx6 kx7 kx8
            clear Xb Sb Ib kb0 kb1 kb2
            replace hB := Kept.mk (hB.out.trans ((hb1).mono hB.out.size))
            replace Va := Kept.mk (Va.out.keep (hb1))
            replace Vx := Kept.mk (Vx.out.keep (hb1))
            replace Vb := Kept.mk (Vb.out.keep (hb1))
            replace Vw := Kept.mk (Vw.out.keep (hb1))
            replace HBU := Kept.mk (HBU.out.trans ((hb1).mono HBU.out.size))
            clear hb1
            go_wp2_with fail
            refine dst17_region _ _ _ rfl gw 1 (sumA F0 1) c ye _ Vw.out rfl (by decide) (sumA_lt F0 1) hclt hyl HCY.out rfl rfl rfl ?_
            intro f9 W9 hb1
            simp only [List.foldl_cons, List.foldl_nil]
            generalize f9 95 = y95
            generalize f9 96 = y96
            generalize f9 97 = y97
            generalize f9 98 = y98
            generalize f9 99 = y99
            generalize f9 100 = y100
            generalize f9 101 = y101
            generalize f9 102 = y102
            try simp only [List.setIfInBounds_toArray, List.set_cons_succ, List.set_cons_zero]
            replace hB := Kept.mk (hB.out.trans ((hb1).mono hB.out.size))
            replace Va := Kept.mk (Va.out.keep (hb1))
            replace Vx := Kept.mk (Vx.out.keep (hb1))
            replace Vb := Kept.mk (Vb.out.keep (hb1))
            replace Vw := Kept.mk (Vw.out.keep (hb1))
            replace HBU := Kept.mk (HBU.out.trans ((hb1).mono HBU.out.size))
            clear hb1
            have Vw2 := Kept.mk (show Blk (W9.setCell ⟨gw, 1, none⟩ (.int .i64 (((sumA F0 1) ^^^ c : Nat) : Int))) gw [.int .i64 (sumA F0 0 : Int), .int .i64 (((sumA F0 1) ^^^ c : Nat) : Int), .int .i64 (sumA F0 2 : Int), .int .i64 (sumA F0 3 : Int)] from Vw.out.set 1 _ (show 1 < 4 by decide))
            replace HBU := Kept.mk (HBU.out.setCell (p := ⟨gw, 1, none⟩) (show U.heap.size ≤ gw from Nat.le_of_eq hgwE) (.int .i64 (((sumA F0 1) ^^^ c : Nat) : Int)))
            replace hB := Kept.mk (hBU.out.trans (HBU.out.mono hBU.out.size))
            replace Vw := Vw2
            replace Va := Kept.mk (VaU.out.keep HBU.out)
            replace Vx := Kept.mk (VxU.out.keep HBU.out)
            replace Vb := Kept.mk (VbU.out.keep HBU.out)
            clear Vw2
            generalize (W9.setCell ⟨gw, 1, none⟩ (.int .i64 (((sumA F0 1) ^^^ c : Nat) : Int))) = W10 at *
            have HSB := Kept.mk (show sumsV B = .agg #[.int .i64 (sumA F0 0 : Int), .int .i64 (((sumA F0 1) ^^^ c : Nat) : Int), .int .i64 (sumA F0 2 : Int), .int .i64 (sumA F0 3 : Int)] by unfold sumsV; rw [HOT2.out 0 (by decide), HOT2.out 2 (by decide), HOT2.out 3 (by decide)]; rw [HSM2.out, HSE.out])
            go_wp2_with fail
            obtain ⟨qb, rb, cb, sb, ib⟩ := Vb.out
            refine dst21_region _ _ _ rfl gb gw B qb rb _ _ _ _ cb Vw.out.cells ⟨_, _, rfl, sb, ib⟩ FB.out HSB.out rfl rfl rfl ?_
            intro f9 W9 d4 hb1
            simp only [List.foldl_cons, List.foldl_nil, d4]
            generalize f9 122 = y122
            generalize f9 123 = y123
            generalize f9 124 = y124
            generalize f9 125 = y125
            generalize f9 126 = y126
            generalize f9 127 = y127
            generalize f9 128 = y128
            clear d4
            try simp only [List.setIfInBounds_toArray, List.set_cons_succ, List.set_cons_zero]
            clear cb sb ib
            replace hB := Kept.mk (hB.out.trans ((hb1).mono hB.out.size))
            replace Va := Kept.mk (Va.out.keep (hb1))
            replace Vx := Kept.mk (Vx.out.keep (hb1))
            replace Vb := Kept.mk (Vb.out.keep (hb1))
            replace Vw := Kept.mk (Vw.out.keep (hb1))
            replace HBU := Kept.mk (HBU.out.trans ((hb1).mono HBU.out.size))
            clear hb1
            go_wp2
            all_goals go_ret
            all_goals exact ⟨rfl, hB.out⟩
          · skip
            obtain ⟨qa, ra, xa, sa, ia, ka0, ka1, ka2⟩ := Va.out.open_
            have Xa := Kept.mk xa
            have Sa := Kept.mk sa
            have Ia := Kept.mk ia
            clear xa sa ia
            obtain ⟨qb, rb, xb, sb, ib, kb0, kb1, kb2⟩ := Vb.out.open_
            have Xb := Kept.mk xb
            have Sb := Kept.mk sb
            have Ib := Kept.mk ib
            clear xb sb ib
            obtain ⟨sba, sca, eba⟩ := Sa.out.len
            subst eba
            obtain ⟨sbb, scb, ebb⟩ := Sb.out.len
            subst ebb
            obtain ⟨NA, hNA⟩ : ∃ n, F0.slots.length = n := ⟨_, rfl⟩
            obtain ⟨NB, hNB⟩ : ∃ n, B.slots.length = n := ⟨_, rfl⟩
            have HNA := Kept.mk hNA
            have HNB := Kept.mk hNB
            rw [hNA] at ka1 Xa Sa
            rw [hNB] at kb1 Xb Sb
            have hql : (pq : Int) < (NB : Int) := by have := HPQL.out; omega
            have hq0 : ¬ (NB : Int) ≤ (pq : Int) := by omega
            have hp0 : ¬ (NA : Int) ≤ (-1 : Int) := by omega
            clear hNA hNB
            go_wp2_with fail
            obtain ⟨ye, hye⟩ : ∃ q, putEn Y = q := ⟨_, rfl⟩
            have hyl : ye.length ≤ 1024 := by rw [← hye, length_putEn OY.out]; decide
            obtain ⟨c, hc⟩ : ∃ c, crcN ye = c := ⟨_, rfl⟩
            have hclt : c < 4294967296 := by rw [← hc]; exact sumN_lt _
            have HYE := Kept.mk hye
            have HCY := Kept.mk hc
            have HSE := Kept.mk (show sumE Y = c by unfold sumE; rw [hye, hc])
            clear hye hc
            ((with_reducible refine (gd_sums F0 _ _ _ _ _ _ Xa.out FFa.out rfl).mono ?_); rintro e U ⟨rfl, hb1⟩)
            obtain ⟨K1, K2, K3, K4, K5⟩ := snew U ((sumA F0 0 : Int)) ((sumA F0 1 : Int)) ((sumA F0 2 : Int)) ((sumA F0 3 : Int)) U.heap.size rfl
            clear Xa Sa Ia ka0 ka1 ka2
            clear Xb Sb Ib kb0 kb1 kb2
            replace hB := Kept.mk (hB.out.trans ((hb1).mono hB.out.size))
            replace Va := Kept.mk (Va.out.keep (hb1))
            replace Vx := Kept.mk (Vx.out.keep (hb1))
            replace Vb := Kept.mk (Vb.out.keep (hb1))
            clear hb1
            have VaU := Va
            have VbU := Vb
            have VxU := Vx
            have hBU := hB
            have HBU := Kept.mk (Below.refl U.heap.size U)
            go_wp2_with (have hz0 := K1; refine wpList_storeN 26 rfl (.tmp 13) (.tmp 85) rfl U.heap.size [.int .i64 (sumA F0 0 : Int), .int .i64 (sumA F0 1 : Int), .int .i64 (sumA F0 2 : Int), .int .i64 (sumA F0 3 : Int)] size_a4 rfl rfl K1.out rfl K2.out K5.out ?_; replace hB := Kept.mk (hB.out.trans ((K3.out).mono hB.out.size)); replace Va := Kept.mk (Va.out.keep (K3.out)); replace Vx := Kept.mk (Vx.out.keep (K3.out)); replace Vb := Kept.mk (Vb.out.keep (K3.out)); replace HBU := Kept.mk (HBU.out.trans K3.out); have Vw := Kept.mk K4.out; clear hz0 K1 K2 K3 K4 K5; generalize setN (U.alloc (.cells #[.int .i64 0, .int .i64 0, .int .i64 0, .int .i64 0] 26)) U.heap.size 0 [.int .i64 (sumA F0 0 : Int), .int .i64 (sumA F0 1 : Int), .int .i64 (sumA F0 2 : Int), .int .i64 (sumA F0 3 : Int)] = W8 at *; generalize hgwE : U.heap.size = gw at Vw ⊢; obtain ⟨qb, rb, xb, sb, ib, kb0, kb1, kb2⟩ := Vb.out.open_; have Xb := Kept.mk xb; have Sb := Kept.mk sb; have Ib := Kept.mk ib; clear xb sb ib; obtain ⟨bs, os, cs, ea, hbs, yp, ym, hyc, hyp, hym⟩ := Sb.out.get HY.out; subst ea; rw [HNB.out] at kb1 Xb Sb; have kx0 := hyc 0 _ rfl; have kx1 := hyc 1 _ rfl; have kx2 := hyc 2 _ rfl; have kx3 := hyc 3 _ rfl; have kx4 := hyc 4 _ rfl; have kx5 := hyc 5 _ rfl; have kx6 := hyc 6 _ rfl; have kx7 := hyc 7 _ rfl; have kx8 := hyc 8 _ rfl; simp only [Nat.add_zero] at kx0; have YE := Kept.mk (show isEn Y (.agg #[.string ⟨Y.key.toArray⟩, .int .i64 Y.val.kind, .int .i64 Y.val.time, .int .i64 Y.val.node, .bool Y.val.dead, .string ⟨Y.val.text.toArray⟩, yp, ym, .int .u64 (Y.val.flags.toNat : Int)]) W8 from ⟨_, _, rfl, hyp, hym⟩); clear hyc hyp hym)
            refine (gd_eput Y ye _ _ YE.out (ok_fit' OY.out) OY.out HYE.out).mono ?_
            rintro e W9 ⟨rfl, hb1⟩
            clear YE kx0 kx1 kx2 kx3 kx4 kx5 kx6 kx7 kx8
            clear Xb Sb Ib kb0 kb1 kb2
            replace hB := Kept.mk (hB.out.trans ((hb1).mono hB.out.size))
            replace Va := Kept.mk (Va.out.keep (hb1))
            replace Vx := Kept.mk (Vx.out.keep (hb1))
            replace Vb := Kept.mk (Vb.out.keep (hb1))
            replace Vw := Kept.mk (Vw.out.keep (hb1))
            replace HBU := Kept.mk (HBU.out.trans ((hb1).mono HBU.out.size))
            clear hb1
            go_wp2_with fail
            refine dst17_region _ _ _ rfl gw 2 (sumA F0 2) c ye _ Vw.out rfl (by decide) (sumA_lt F0 2) hclt hyl HCY.out rfl rfl rfl ?_
            intro f9 W9 hb1
            simp only [List.foldl_cons, List.foldl_nil]
            generalize f9 95 = y95
            generalize f9 96 = y96
            generalize f9 97 = y97
            generalize f9 98 = y98
            generalize f9 99 = y99
            generalize f9 100 = y100
            generalize f9 101 = y101
            generalize f9 102 = y102
            try simp only [List.setIfInBounds_toArray, List.set_cons_succ, List.set_cons_zero]
            replace hB := Kept.mk (hB.out.trans ((hb1).mono hB.out.size))
            replace Va := Kept.mk (Va.out.keep (hb1))
            replace Vx := Kept.mk (Vx.out.keep (hb1))
            replace Vb := Kept.mk (Vb.out.keep (hb1))
            replace Vw := Kept.mk (Vw.out.keep (hb1))
            replace HBU := Kept.mk (HBU.out.trans ((hb1).mono HBU.out.size))
            clear hb1
            have Vw2 := Kept.mk (show Blk (W9.setCell ⟨gw, 2, none⟩ (.int .i64 (((sumA F0 2) ^^^ c : Nat) : Int))) gw [.int .i64 (sumA F0 0 : Int), .int .i64 (sumA F0 1 : Int), .int .i64 (((sumA F0 2) ^^^ c : Nat) : Int), .int .i64 (sumA F0 3 : Int)] from Vw.out.set 2 _ (show 2 < 4 by decide))
            replace HBU := Kept.mk (HBU.out.setCell (p := ⟨gw, 2, none⟩) (show U.heap.size ≤ gw from Nat.le_of_eq hgwE) (.int .i64 (((sumA F0 2) ^^^ c : Nat) : Int)))
            replace hB := Kept.mk (hBU.out.trans (HBU.out.mono hBU.out.size))
            replace Vw := Vw2
            replace Va := Kept.mk (VaU.out.keep HBU.out)
            replace Vx := Kept.mk (VxU.out.keep HBU.out)
            replace Vb := Kept.mk (VbU.out.keep HBU.out)
            clear Vw2
            generalize (W9.setCell ⟨gw, 2, none⟩ (.int .i64 (((sumA F0 2) ^^^ c : Nat) : Int))) = W10 at *
            have HSB := Kept.mk (show sumsV B = .agg #[.int .i64 (sumA F0 0 : Int), .int .i64 (sumA F0 1 : Int), .int .i64 (((sumA F0 2) ^^^ c : Nat) : Int), .int .i64 (sumA F0 3 : Int)] by unfold sumsV; rw [HOT2.out 0 (by decide), HOT2.out 1 (by decide), HOT2.out 3 (by decide)]; rw [HSM2.out, HSE.out])
            go_wp2_with fail
            obtain ⟨qb, rb, cb, sb, ib⟩ := Vb.out
            refine dst21_region _ _ _ rfl gb gw B qb rb _ _ _ _ cb Vw.out.cells ⟨_, _, rfl, sb, ib⟩ FB.out HSB.out rfl rfl rfl ?_
            intro f9 W9 d4 hb1
            simp only [List.foldl_cons, List.foldl_nil, d4]
            generalize f9 122 = y122
            generalize f9 123 = y123
            generalize f9 124 = y124
            generalize f9 125 = y125
            generalize f9 126 = y126
            generalize f9 127 = y127
            generalize f9 128 = y128
            clear d4
            try simp only [List.setIfInBounds_toArray, List.set_cons_succ, List.set_cons_zero]
            clear cb sb ib
            replace hB := Kept.mk (hB.out.trans ((hb1).mono hB.out.size))
            replace Va := Kept.mk (Va.out.keep (hb1))
            replace Vx := Kept.mk (Vx.out.keep (hb1))
            replace Vb := Kept.mk (Vb.out.keep (hb1))
            replace Vw := Kept.mk (Vw.out.keep (hb1))
            replace HBU := Kept.mk (HBU.out.trans ((hb1).mono HBU.out.size))
            clear hb1
            go_wp2
            all_goals go_ret
            all_goals exact ⟨rfl, hB.out⟩
          · skip
            obtain ⟨qa, ra, xa, sa, ia, ka0, ka1, ka2⟩ := Va.out.open_
            have Xa := Kept.mk xa
            have Sa := Kept.mk sa
            have Ia := Kept.mk ia
            clear xa sa ia
            obtain ⟨qb, rb, xb, sb, ib, kb0, kb1, kb2⟩ := Vb.out.open_
            have Xb := Kept.mk xb
            have Sb := Kept.mk sb
            have Ib := Kept.mk ib
            clear xb sb ib
            obtain ⟨sba, sca, eba⟩ := Sa.out.len
            subst eba
            obtain ⟨sbb, scb, ebb⟩ := Sb.out.len
            subst ebb
            obtain ⟨NA, hNA⟩ : ∃ n, F0.slots.length = n := ⟨_, rfl⟩
            obtain ⟨NB, hNB⟩ : ∃ n, B.slots.length = n := ⟨_, rfl⟩
            have HNA := Kept.mk hNA
            have HNB := Kept.mk hNB
            rw [hNA] at ka1 Xa Sa
            rw [hNB] at kb1 Xb Sb
            have hql : (pq : Int) < (NB : Int) := by have := HPQL.out; omega
            have hq0 : ¬ (NB : Int) ≤ (pq : Int) := by omega
            have hp0 : ¬ (NA : Int) ≤ (-1 : Int) := by omega
            clear hNA hNB
            go_wp2_with fail
            obtain ⟨ye, hye⟩ : ∃ q, putEn Y = q := ⟨_, rfl⟩
            have hyl : ye.length ≤ 1024 := by rw [← hye, length_putEn OY.out]; decide
            obtain ⟨c, hc⟩ : ∃ c, crcN ye = c := ⟨_, rfl⟩
            have hclt : c < 4294967296 := by rw [← hc]; exact sumN_lt _
            have HYE := Kept.mk hye
            have HCY := Kept.mk hc
            have HSE := Kept.mk (show sumE Y = c by unfold sumE; rw [hye, hc])
            clear hye hc
            ((with_reducible refine (gd_sums F0 _ _ _ _ _ _ Xa.out FFa.out rfl).mono ?_); rintro e U ⟨rfl, hb1⟩)
            obtain ⟨K1, K2, K3, K4, K5⟩ := snew U ((sumA F0 0 : Int)) ((sumA F0 1 : Int)) ((sumA F0 2 : Int)) ((sumA F0 3 : Int)) U.heap.size rfl
            clear Xa Sa Ia ka0 ka1 ka2
            clear Xb Sb Ib kb0 kb1 kb2
            replace hB := Kept.mk (hB.out.trans ((hb1).mono hB.out.size))
            replace Va := Kept.mk (Va.out.keep (hb1))
            replace Vx := Kept.mk (Vx.out.keep (hb1))
            replace Vb := Kept.mk (Vb.out.keep (hb1))
            clear hb1
            have VaU := Va
            have VbU := Vb
            have VxU := Vx
            have hBU := hB
            have HBU := Kept.mk (Below.refl U.heap.size U)
            go_wp2_with (have hz0 := K1; refine wpList_storeN 26 rfl (.tmp 13) (.tmp 85) rfl U.heap.size [.int .i64 (sumA F0 0 : Int), .int .i64 (sumA F0 1 : Int), .int .i64 (sumA F0 2 : Int), .int .i64 (sumA F0 3 : Int)] size_a4 rfl rfl K1.out rfl K2.out K5.out ?_; replace hB := Kept.mk (hB.out.trans ((K3.out).mono hB.out.size)); replace Va := Kept.mk (Va.out.keep (K3.out)); replace Vx := Kept.mk (Vx.out.keep (K3.out)); replace Vb := Kept.mk (Vb.out.keep (K3.out)); replace HBU := Kept.mk (HBU.out.trans K3.out); have Vw := Kept.mk K4.out; clear hz0 K1 K2 K3 K4 K5; generalize setN (U.alloc (.cells #[.int .i64 0, .int .i64 0, .int .i64 0, .int .i64 0] 26)) U.heap.size 0 [.int .i64 (sumA F0 0 : Int), .int .i64 (sumA F0 1 : Int), .int .i64 (sumA F0 2 : Int), .int .i64 (sumA F0 3 : Int)] = W8 at *; generalize hgwE : U.heap.size = gw at Vw ⊢; obtain ⟨qb, rb, xb, sb, ib, kb0, kb1, kb2⟩ := Vb.out.open_; have Xb := Kept.mk xb; have Sb := Kept.mk sb; have Ib := Kept.mk ib; clear xb sb ib; obtain ⟨bs, os, cs, ea, hbs, yp, ym, hyc, hyp, hym⟩ := Sb.out.get HY.out; subst ea; rw [HNB.out] at kb1 Xb Sb; have kx0 := hyc 0 _ rfl; have kx1 := hyc 1 _ rfl; have kx2 := hyc 2 _ rfl; have kx3 := hyc 3 _ rfl; have kx4 := hyc 4 _ rfl; have kx5 := hyc 5 _ rfl; have kx6 := hyc 6 _ rfl; have kx7 := hyc 7 _ rfl; have kx8 := hyc 8 _ rfl; simp only [Nat.add_zero] at kx0; have YE := Kept.mk (show isEn Y (.agg #[.string ⟨Y.key.toArray⟩, .int .i64 Y.val.kind, .int .i64 Y.val.time, .int .i64 Y.val.node, .bool Y.val.dead, .string ⟨Y.val.text.toArray⟩, yp, ym, .int .u64 (Y.val.flags.toNat : Int)]) W8 from ⟨_, _, rfl, hyp, hym⟩); clear hyc hyp hym)
            refine (gd_eput Y ye _ _ YE.out (ok_fit' OY.out) OY.out HYE.out).mono ?_
            rintro e W9 ⟨rfl, hb1⟩
            clear YE kx0 kx1 kx2 kx3 kx4 kx5 kx6 kx7 kx8
            clear Xb Sb Ib kb0 kb1 kb2
            replace hB := Kept.mk (hB.out.trans ((hb1).mono hB.out.size))
            replace Va := Kept.mk (Va.out.keep (hb1))
            replace Vx := Kept.mk (Vx.out.keep (hb1))
            replace Vb := Kept.mk (Vb.out.keep (hb1))
            replace Vw := Kept.mk (Vw.out.keep (hb1))
            replace HBU := Kept.mk (HBU.out.trans ((hb1).mono HBU.out.size))
            clear hb1
            go_wp2_with fail
            refine dst17_region _ _ _ rfl gw 3 (sumA F0 3) c ye _ Vw.out rfl (by decide) (sumA_lt F0 3) hclt hyl HCY.out rfl rfl rfl ?_
            intro f9 W9 hb1
            simp only [List.foldl_cons, List.foldl_nil]
            generalize f9 95 = y95
            generalize f9 96 = y96
            generalize f9 97 = y97
            generalize f9 98 = y98
            generalize f9 99 = y99
            generalize f9 100 = y100
            generalize f9 101 = y101
            generalize f9 102 = y102
            try simp only [List.setIfInBounds_toArray, List.set_cons_succ, List.set_cons_zero]
            replace hB := Kept.mk (hB.out.trans ((hb1).mono hB.out.size))
            replace Va := Kept.mk (Va.out.keep (hb1))
            replace Vx := Kept.mk (Vx.out.keep (hb1))
            replace Vb := Kept.mk (Vb.out.keep (hb1))
            replace Vw := Kept.mk (Vw.out.keep (hb1))
            replace HBU := Kept.mk (HBU.out.trans ((hb1).mono HBU.out.size))
            clear hb1
            have Vw2 := Kept.mk (show Blk (W9.setCell ⟨gw, 3, none⟩ (.int .i64 (((sumA F0 3) ^^^ c : Nat) : Int))) gw [.int .i64 (sumA F0 0 : Int), .int .i64 (sumA F0 1 : Int), .int .i64 (sumA F0 2 : Int), .int .i64 (((sumA F0 3) ^^^ c : Nat) : Int)] from Vw.out.set 3 _ (show 3 < 4 by decide))
            replace HBU := Kept.mk (HBU.out.setCell (p := ⟨gw, 3, none⟩) (show U.heap.size ≤ gw from Nat.le_of_eq hgwE) (.int .i64 (((sumA F0 3) ^^^ c : Nat) : Int)))
            replace hB := Kept.mk (hBU.out.trans (HBU.out.mono hBU.out.size))
            replace Vw := Vw2
            replace Va := Kept.mk (VaU.out.keep HBU.out)
            replace Vx := Kept.mk (VxU.out.keep HBU.out)
            replace Vb := Kept.mk (VbU.out.keep HBU.out)
            clear Vw2
            generalize (W9.setCell ⟨gw, 3, none⟩ (.int .i64 (((sumA F0 3) ^^^ c : Nat) : Int))) = W10 at *
            have HSB := Kept.mk (show sumsV B = .agg #[.int .i64 (sumA F0 0 : Int), .int .i64 (sumA F0 1 : Int), .int .i64 (sumA F0 2 : Int), .int .i64 (((sumA F0 3) ^^^ c : Nat) : Int)] by unfold sumsV; rw [HOT2.out 0 (by decide), HOT2.out 1 (by decide), HOT2.out 2 (by decide)]; rw [HSM2.out, HSE.out])
            go_wp2_with fail
            obtain ⟨qb, rb, cb, sb, ib⟩ := Vb.out
            refine dst21_region _ _ _ rfl gb gw B qb rb _ _ _ _ cb Vw.out.cells ⟨_, _, rfl, sb, ib⟩ FB.out HSB.out rfl rfl rfl ?_
            intro f9 W9 d4 hb1
            simp only [List.foldl_cons, List.foldl_nil, d4]
            generalize f9 122 = y122
            generalize f9 123 = y123
            generalize f9 124 = y124
            generalize f9 125 = y125
            generalize f9 126 = y126
            generalize f9 127 = y127
            generalize f9 128 = y128
            clear d4
            try simp only [List.setIfInBounds_toArray, List.set_cons_succ, List.set_cons_zero]
            clear cb sb ib
            replace hB := Kept.mk (hB.out.trans ((hb1).mono hB.out.size))
            replace Va := Kept.mk (Va.out.keep (hb1))
            replace Vx := Kept.mk (Vx.out.keep (hb1))
            replace Vb := Kept.mk (Vb.out.keep (hb1))
            replace Vw := Kept.mk (Vw.out.keep (hb1))
            replace HBU := Kept.mk (HBU.out.trans ((hb1).mono HBU.out.size))
            clear hb1
            go_wp2
            all_goals go_ret
            all_goals exact ⟨rfl, hB.out⟩
      · skip
        obtain ⟨e, he⟩ : ∃ e, joinAE F0 F1 = e := ⟨_, rfl⟩
        rw [he] at h0
        have HE := Kept.mk he
        clear he
        ((with_reducible refine (gd_ejoin F0 F1 B z e _ _ _ Xa.out Xx.out FFa.out FFx.out HG.out HZ.out HE.out).mono ?_); rintro e U ⟨v', rfl, ⟨p', m', rfl, hp', hm'⟩, hb1⟩)
        obtain ⟨K1, K2, K3, K4, K5⟩ := anew U B p' m' hp' hm' U.heap.size rfl
        clear hp' hm'
        clear Xa Sa Ia ka0 ka1 ka2
        clear Xx Yx kx0 kx1 kx2 kx3 kx4 kx5 kx6 kx7 kx8
        replace hB := Kept.mk (hB.out.trans ((hb1).mono hB.out.size))
        replace Va := Kept.mk (Va.out.keep (hb1))
        replace Vx := Kept.mk (Vx.out.keep (hb1))
        clear hb1
        go_wp2_with (have hz0 := K1; refine wpList_storeN 25 rfl (.tmp 7) (.tmp 34) rfl U.heap.size [.int .i64 B.cap, p', m'] size_ar rfl rfl K1.out rfl K2.out K5.out ?_; replace hB := Kept.mk (hB.out.trans ((K3.out).mono hB.out.size)); replace Va := Kept.mk (Va.out.keep (K3.out)); replace Vx := Kept.mk (Vx.out.keep (K3.out)); have Vb := Kept.mk K4.out; clear hz0 K1 K2 K3 K4 K5; generalize setN (U.alloc (.cells #[.int .i64 0, .slice none 0 0, .slice none 0 0] 25)) U.heap.size 0 [.int .i64 B.cap, p', m'] = W4 at *; generalize U.heap.size = gb at *)
        go_wp2
        all_goals go_ret
        all_goals exact ⟨rfl, hB.out⟩
set_option maxRecDepth 100000 in
theorem digestSteps_lifted (os : Os) (started : os.Started) (H : Type) (enc : TypeId × Value → H) :
    ReturnsInHanded {} Tryz.checked os 8 .any (Rows.digestStepsSpec.pre6 enc Tryz.prog Tryz.f8 Rows.digestStepsRow.domain false) (Rows.digestStepsSpec.post enc Tryz.prog Tryz.f8 false true false false) := by
  refine returnsInHanded_of_change (C := Tryz.checked) (by kernel_rfl : ownKnob Tryz.prog.godebug = none) started (by kernel_rfl) Tryz.func8
    (ChangeSpec.witness6 (enc := enc) (C := Tryz.checked) false ⟨#[], #[.agg #[.int .i64 0, .slice none 0 0, .slice none 0 0], .agg #[.string ByteArray.empty, .int .i64 0, .int .i64 0, .int .i64 0, .bool false, .string ByteArray.empty, .slice none 0 0, .slice none 0 0, .int .u64 0]], []⟩ 8 (by kernel_rfl) (by kernel_rfl) (by kernel_rfl) (by kernel_rfl)) ?_
  intro W base args ds gs before hval0 hW hcnd _
  have hval : ∀ (j : Nat) t v, Tryz.f8.params[j]? = some t → args[j]? = some v → Value.okWide Tryz.prog W .any base t v := hval0
  have hW' := hW
  obtain ⟨p, q, hA0, hV, rfl, hfz, hnd⟩ := hW
  have hA : DataW.TrodAll enc Tryz.prog W 0 (fun _ => true) true Tryz.f8.params.toList args.toList ds p := hA0
  rw [Tryz.params8] at hA hval
  obtain ⟨v0, vs0, d0, ds0, p0, q0, hargs, rfl, rfl, h0, r0⟩ := trodAll_cons hA
  obtain ⟨v1, vs1, d1, ds1, p1, q1, rfl, rfl, rfl, h1, r1⟩ := trodAll_cons r0
  obtain ⟨rfl, rfl, rfl⟩ := trodAll_nil r1
  obtain rfl : args = #[v0, v1] := by cases args; simp_all
  obtain ⟨rfl, rfl⟩ := trodVars_none hV
  obtain ⟨F0, fl0, w0⟩ := open_ar (hval 0 25 v0 rfl rfl) h0
  have lt0 : ∀ x ∈ p0, x.block < W.heap.size := fun x hx => by obtain ⟨fuel, hf⟩ := h0; exact DataW.trod_lt fuel _ _ _ hf x hx
  obtain ⟨F1, fl1, w1⟩ := open_en (hval 1 48 v1 rfl rfl) h1
  have lt1 : ∀ x ∈ p1, x.block < W.heap.size := fun x hx => by obtain ⟨fuel, hf⟩ := h1; exact DataW.trod_lt fuel _ _ _ hf x hx
  clear hA0 hval0
  simp only [List.append_nil] at hW'
  refine (digestSteps_walk F0 v0 F1 v1 w0 w1 W fl0 fl1).mono fun e W' ⟨he, bel⟩ => ?_
  subst he
  exact ⟨_, rfl, _, _, _, [], _, [], hW', trodAll_mk1 (shut_bool Tryz.underlying4 _), (trodAll_cons_mk (Below.trod (by kernel_rfl) (by kernel_rfl) (of_decide_eq_true (by kernel_rfl)) h0 bel lt0) (trodAll_cons_mk (Below.trod (by kernel_rfl) (by kernel_rfl) (of_decide_eq_true (by kernel_rfl)) h1 bel lt1) trodAll_mk0)), rfl, bel.frame _, fun h => by cases h⟩
/-- THE STATEMENT. -/
theorem digestSteps_proved : Rows.DigestStepsSaid :=
  OpenClaim.holds_of_wide 8 Tryz.f8 rfl rfl rfl rfl rfl rfl rfl ⟨rfl, rfl, rfl, rfl, rfl⟩ rfl rfl rfl rfl rfl (by kernel_rfl) Tryz.func8 (by kernel_rfl)
    (of_decide_eq_true (by kernel_rfl)) (by unfold Func.isWrapper; first | (rw [if_pos (by decide +kernel)]; kernel_rfl) | (rw [if_neg (by decide +kernel)]; exact ⟨rfl, rfl⟩))
    (fun os started H enc _ => digestSteps_lifted os started H enc)
#print axioms digestSteps_proved
end Go.Proofs.YtkjghoomdefbbaaGreatDoor
