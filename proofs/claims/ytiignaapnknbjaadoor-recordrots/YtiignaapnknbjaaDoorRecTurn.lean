/- The region of RecordRots that turns four bytes of a text. -/
import Derived.Test.YtiignaapnknbjaaDoorFlowMem
import Derived.Test.YtiignaapnknbjaaDoorRecWalk
namespace Go.Proofs.YtiignaapnknbjaaDoor
open Go.RowKit
set_option linter.unusedVariables false
theorem call_xor (t d : List UInt8) (ht : t.length ≤ 1000000000) (hd : d.length ≤ 1000000000) (w : World) :
    Calls Tryd.prog 20 #[.string ⟨t.toArray⟩, .string ⟨d.toArray⟩] w fun e w' => ∃ v, e = .returned v ∧ isVal (.string ⟨(pairL (· ^^^ ·) t d).toArray⟩) v w' ∧ Below w.heap.size w w' :=
  (xor_l t d w ht hd).mono (by rintro e w' ⟨rfl, hb⟩; exact ⟨_, rfl, rfl, hb⟩)

noncomputable def rotsOps : Array Oper := regionOf Tryd.f7 8
set_option maxRecDepth 100000 in
set_option maxHeartbeats 1000000 in
theorem rots_region (Q : Exit → Act → World → Prop) (a0 : Act) (w0 : World) (hsz : a0.tmps.size = 67) (t : List UInt8) (k g : Nat) (b0 b1 b2 b3 : UInt8) (ht : t.length ≤ 1000) (hk1 : k ≤ 1000)
    (hsrc : a0.tmps.getD 8 undef = .string ⟨t.toArray⟩) (hk : a0.tmps.getD 9 undef = .int .i64 (k : Int)) (h5 : a0.tmps.getD 5 undef = .pointer (some ⟨g, 0, none⟩)) (hg : g < w0.heap.size)
    (c0 : w0.cell? ⟨g, 0, none⟩ = some (.int .u8 (b0.toNat : Int))) (c1 : w0.cell? ⟨g, 1, none⟩ = some (.int .u8 (b1.toNat : Int))) (c2 : w0.cell? ⟨g, 2, none⟩ = some (.int .u8 (b2.toNat : Int))) (c3 : w0.cell? ⟨g, 3, none⟩ = some (.int .u8 (b3.toNat : Int)))
    (hQ : ∀ (a : Act) (w : World), a.defers = a0.defers → a.tmps.size = a0.tmps.size → (∀ t, (rotsOps.toList.all fun o => o.dst != some t) = true → a.tmps.getD t undef = a0.tmps.getD t undef) →
      a.tmps.getD 10 undef = .string ⟨(pairL (· ^^^ ·) t (List.replicate k 0 ++ [b0, b1, b2, b3])).toArray⟩ → Below w0.heap.size w0 w → Q .normal a w) :
    (Code.region 8 rotsOps true).wp Tryd.prog Q a0 w0 := by
  have hpl : (List.replicate k (0 : UInt8) ++ [b0, b1, b2, b3]).length ≤ 1000000000 := by simp; omega
  refine wp_region_flow mixed (by rw [hsz]; kernel_rfl) ?_
  rw [show rotsOps.size = 17 by kernel_rfl]
  refine ⟨isVal (.string ⟨t.toArray⟩), step_move (.tmp 8) (by kernel_rfl) (wanted_none (by kernel_rfl)) (stable_val _) (knows_old 8 (.string ⟨t.toArray⟩) (by kernel_rfl) hsrc), ?_⟩
  refine ⟨isVal (.int .i64 (k : Int)), step_move (.tmp 9) (by kernel_rfl) (wanted_none (by kernel_rfl)) (stable_val _) (knows_old 9 (.int .i64 (k : Int)) (by kernel_rfl) hk), ?_⟩
  refine ⟨isRow (List.replicate k 0), step_make 35 5 (.tmp 30) k (by kernel_rfl) (wanted_none (by kernel_rfl)) (knows_new (V := isVal (.int .i64 (k : Int))) 30 1 (by kernel_rfl) (by kernel_rfl) (by kernel_rfl)) Tryd.underlying35 Tryd.infoU8 (by omega), ?_⟩
  refine ⟨isVal (.string ⟨(List.replicate k 0).toArray⟩), step_convRow 35 9 5 (.tmp 31) (List.replicate k 0) (by kernel_rfl) (wanted_none (by kernel_rfl)) (knows_new (V := isRow (List.replicate k 0)) 31 2 (by kernel_rfl) (by kernel_rfl) (by kernel_rfl)) Tryd.underlying35 Tryd.underlying5 Tryd.underlying9, ?_⟩
  refine ⟨isVal (.pointer (some (Addr.add ⟨g, 0, none⟩ 0))), step_at 34 5 (.tmp 5) 4 0 g (by kernel_rfl) (wanted_none (by kernel_rfl)) (knows_old 5 (.pointer (some ⟨g, 0, none⟩)) (by kernel_rfl) h5) Tryd.underlying34 (by kernel_rfl) (by kernel_rfl) (by omega), ?_⟩
  refine ⟨isVal (.int .u8 (b0.toNat : Int)), step_cell 5 (.tmp 33) (Addr.add ⟨g, 0, none⟩ 0) (.int .u8 (b0.toNat : Int)) (.int .u8) (by kernel_rfl) (wanted_none (by kernel_rfl)) (knows_new (V := isVal (.pointer (some (Addr.add ⟨g, 0, none⟩ 0)))) 33 4 (by kernel_rfl) (by kernel_rfl) (by kernel_rfl)) (by simpa [Addr.add] using c0) (by simpa [Addr.add] using hg) Tryd.underlying5, ?_⟩
  refine ⟨isVal (.pointer (some (Addr.add ⟨g, 0, none⟩ 1))), step_at 34 5 (.tmp 5) 4 1 g (by kernel_rfl) (wanted_none (by kernel_rfl)) (knows_old 5 (.pointer (some ⟨g, 0, none⟩)) (by kernel_rfl) h5) Tryd.underlying34 (by kernel_rfl) (by kernel_rfl) (by omega), ?_⟩
  refine ⟨isVal (.int .u8 (b1.toNat : Int)), step_cell 5 (.tmp 35) (Addr.add ⟨g, 0, none⟩ 1) (.int .u8 (b1.toNat : Int)) (.int .u8) (by kernel_rfl) (wanted_none (by kernel_rfl)) (knows_new (V := isVal (.pointer (some (Addr.add ⟨g, 0, none⟩ 1)))) 35 6 (by kernel_rfl) (by kernel_rfl) (by kernel_rfl)) (by simpa [Addr.add] using c1) (by simpa [Addr.add] using hg) Tryd.underlying5, ?_⟩
  refine ⟨isVal (.pointer (some (Addr.add ⟨g, 0, none⟩ 2))), step_at 34 5 (.tmp 5) 4 2 g (by kernel_rfl) (wanted_none (by kernel_rfl)) (knows_old 5 (.pointer (some ⟨g, 0, none⟩)) (by kernel_rfl) h5) Tryd.underlying34 (by kernel_rfl) (by kernel_rfl) (by omega), ?_⟩
  refine ⟨isVal (.int .u8 (b2.toNat : Int)), step_cell 5 (.tmp 37) (Addr.add ⟨g, 0, none⟩ 2) (.int .u8 (b2.toNat : Int)) (.int .u8) (by kernel_rfl) (wanted_none (by kernel_rfl)) (knows_new (V := isVal (.pointer (some (Addr.add ⟨g, 0, none⟩ 2)))) 37 8 (by kernel_rfl) (by kernel_rfl) (by kernel_rfl)) (by simpa [Addr.add] using c2) (by simpa [Addr.add] using hg) Tryd.underlying5, ?_⟩
  refine ⟨isVal (.pointer (some (Addr.add ⟨g, 0, none⟩ 3))), step_at 34 5 (.tmp 5) 4 3 g (by kernel_rfl) (wanted_none (by kernel_rfl)) (knows_old 5 (.pointer (some ⟨g, 0, none⟩)) (by kernel_rfl) h5) Tryd.underlying34 (by kernel_rfl) (by kernel_rfl) (by omega), ?_⟩
  refine ⟨isVal (.int .u8 (b3.toNat : Int)), step_cell 5 (.tmp 39) (Addr.add ⟨g, 0, none⟩ 3) (.int .u8 (b3.toNat : Int)) (.int .u8) (by kernel_rfl) (wanted_none (by kernel_rfl)) (knows_new (V := isVal (.pointer (some (Addr.add ⟨g, 0, none⟩ 3)))) 39 10 (by kernel_rfl) (by kernel_rfl) (by kernel_rfl)) (by simpa [Addr.add] using c3) (by simpa [Addr.add] using hg) Tryd.underlying5, ?_⟩
  refine ⟨isRow [b0, b1, b2, b3], step_row4 35 5 (.tmp 34) (.tmp 36) (.tmp 38) (.tmp 40) b0 b1 b2 b3 (by kernel_rfl) (wanted_none (by kernel_rfl)) (knows_new (V := isVal (.int .u8 (b0.toNat : Int))) 34 5 (by kernel_rfl) (by kernel_rfl) (by kernel_rfl)) (knows_new (V := isVal (.int .u8 (b1.toNat : Int))) 36 7 (by kernel_rfl) (by kernel_rfl) (by kernel_rfl)) (knows_new (V := isVal (.int .u8 (b2.toNat : Int))) 38 9 (by kernel_rfl) (by kernel_rfl) (by kernel_rfl)) (knows_new (V := isVal (.int .u8 (b3.toNat : Int))) 40 11 (by kernel_rfl) (by kernel_rfl) (by kernel_rfl)) Tryd.underlying35 Tryd.infoU8, ?_⟩
  refine ⟨isVal (.string ⟨[b0, b1, b2, b3].toArray⟩), step_convRow 35 9 5 (.tmp 41) [b0, b1, b2, b3] (by kernel_rfl) (wanted_none (by kernel_rfl)) (knows_new (V := isRow [b0, b1, b2, b3]) 41 12 (by kernel_rfl) (by kernel_rfl) (by kernel_rfl)) Tryd.underlying35 Tryd.underlying5 Tryd.underlying9, ?_⟩
  refine ⟨isVal (.string ⟨(List.replicate k 0 ++ [b0, b1, b2, b3]).toArray⟩), step_bin .add 9 9 (.tmp 32) (.tmp 42) (.string ⟨(List.replicate k 0).toArray⟩) (.string ⟨[b0, b1, b2, b3].toArray⟩) (.string ⟨(List.replicate k 0 ++ [b0, b1, b2, b3]).toArray⟩) (by kernel_rfl) (wanted_none (by kernel_rfl)) (knows_new (V := isVal (.string ⟨(List.replicate k 0).toArray⟩)) 32 3 (by kernel_rfl) (by kernel_rfl) (by kernel_rfl)) (knows_new (V := isVal (.string ⟨[b0, b1, b2, b3].toArray⟩)) 42 13 (by kernel_rfl) (by kernel_rfl) (by kernel_rfl)) (fun _ => rfl) (fun W => run_string_add_lists W (List.replicate k 0) [b0, b1, b2, b3] (by simp; omega) (by simp)), ?_⟩
  refine ⟨isVal (.string ⟨(pairL (· ^^^ ·) t (List.replicate k 0 ++ [b0, b1, b2, b3])).toArray⟩), step_call 20 #[.tmp 29, .tmp 43] #[9, 9] #[.string ⟨t.toArray⟩, .string ⟨(List.replicate k 0 ++ [b0, b1, b2, b3]).toArray⟩] (by kernel_rfl) (wanted_none (by kernel_rfl)) (stable_val _) (args2 (.tmp 29) (.tmp 43) (.string ⟨t.toArray⟩) (.string ⟨(List.replicate k 0 ++ [b0, b1, b2, b3]).toArray⟩) (knows_new (V := isVal (.string ⟨t.toArray⟩)) 29 0 (by kernel_rfl) (by kernel_rfl) (by kernel_rfl)) (knows_new (V := isVal (.string ⟨(List.replicate k 0 ++ [b0, b1, b2, b3]).toArray⟩)) 43 14 (by kernel_rfl) (by kernel_rfl) (by kernel_rfl))) (enters_of Tryd.func20 (by kernel_rfl) rfl) (by intro w hb; exact call_xor t (List.replicate k 0 ++ [b0, b1, b2, b3]) (by omega) hpl w), ?_⟩
  refine ⟨isVal (.string ⟨(pairL (· ^^^ ·) t (List.replicate k 0 ++ [b0, b1, b2, b3])).toArray⟩), step_assign (.tmp 44) (by kernel_rfl) (wanted_none (by kernel_rfl)) (stable_val _) (knows_new (V := isVal (.string ⟨(pairL (· ^^^ ·) t (List.replicate k 0 ++ [b0, b1, b2, b3])).toArray⟩)) 44 15 (by kernel_rfl) (by kernel_rfl) (by kernel_rfl)), ?_⟩
  intro a w hkp hb hd
  exact hQ a w hkp.1 hkp.2.1 hkp.2.2 (by
    obtain ⟨o, ho⟩ : ∃ o, rotsOps[16]? = some o := ⟨_, Array.getElem?_eq_getElem (by rw [show rotsOps.size = 17 by kernel_rfl]; decide)⟩
    have hdst : (rotsOps[16]?).bind (·.dst) = some 10 := by kernel_rfl
    exact hd 16 (by rw [show rotsOps.size = 17 by kernel_rfl]; decide) o ho 10 (by rw [ho] at hdst; simpa using hdst)) hb

theorem alloc_get (w : World) (o : Obj) : (w.alloc o).heap[w.heap.size]? = some o := by
  show (w.heap.push o)[w.heap.size]? = some o
  simp
end Go.Proofs.YtiignaapnknbjaaDoor
