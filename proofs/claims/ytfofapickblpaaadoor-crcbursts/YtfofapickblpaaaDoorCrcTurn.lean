/- The regions of layer 2's laws that turn four bytes of a text. -/
import Derived.Test.YtfofapickblpaaaDoorFlowMem
import Derived.Test.YtfofapickblpaaaDoorCrcMore
namespace Go.Proofs.YtfofapickblpaaaDoor
open Go.RowKit
set_option linter.unusedVariables false
theorem call_xor (t d : List UInt8) (ht : t.length ≤ 1000000000) (hd : d.length ≤ 1000000000) (w : World) :
    Calls Tryd.prog 18 #[.string ⟨t.toArray⟩, .string ⟨d.toArray⟩] w fun e w' => ∃ v, e = .returned v ∧ isVal (.string ⟨(pairL (· ^^^ ·) t d).toArray⟩) v w' ∧ Below w.heap.size w w' :=
  (xor_l t d w ht hd).mono (by rintro e w' ⟨rfl, hb⟩; exact ⟨_, rfl, rfl, hb⟩)

noncomputable def burstsOps : Array Oper := regionOf Tryd.f5 8
set_option maxRecDepth 100000 in
set_option maxHeartbeats 1000000 in
theorem bursts_region (Q : Exit → Act → World → Prop) (a0 : Act) (w0 : World) (hsz : a0.tmps.size = 74) (t : List UInt8) (k g : Nat) (b0 b1 b2 b3 : UInt8) (ht : t.length ≤ 1000) (hk1 : k ≤ 1000)
    (hsrc : a0.tmps.getD 8 undef = .string ⟨t.toArray⟩) (hk : a0.tmps.getD 9 undef = .int .i64 (k : Int)) (h5 : a0.tmps.getD 5 undef = .pointer (some ⟨g, 0, none⟩)) (hg : g < w0.heap.size)
    (c0 : w0.cell? ⟨g, 0, none⟩ = some (.int .u8 (b0.toNat : Int))) (c1 : w0.cell? ⟨g, 1, none⟩ = some (.int .u8 (b1.toNat : Int))) (c2 : w0.cell? ⟨g, 2, none⟩ = some (.int .u8 (b2.toNat : Int))) (c3 : w0.cell? ⟨g, 3, none⟩ = some (.int .u8 (b3.toNat : Int)))
    (hQ : ∀ (a : Act) (w : World), a.defers = a0.defers → a.tmps.size = a0.tmps.size → (∀ t, (burstsOps.toList.all fun o => o.dst != some t) = true → a.tmps.getD t undef = a0.tmps.getD t undef) →
      a.tmps.getD 10 undef = .string ⟨(pairL (· ^^^ ·) t (List.replicate k 0 ++ [b0, b1, b2, b3])).toArray⟩ → Below w0.heap.size w0 w → Q .normal a w) :
    (Code.region 8 burstsOps true).wp Tryd.prog Q a0 w0 := by
  have hpl : (List.replicate k (0 : UInt8) ++ [b0, b1, b2, b3]).length ≤ 1000000000 := by simp; omega
  refine wp_region_flow mixed (by rw [hsz]; kernel_rfl) ?_
  rw [show burstsOps.size = 17 by kernel_rfl]
  refine ⟨isVal (.string ⟨t.toArray⟩), step_move (.tmp 8) (by kernel_rfl) (wanted_none (by kernel_rfl)) (stable_val _) (knows_old 8 (.string ⟨t.toArray⟩) (by kernel_rfl) hsrc), ?_⟩
  refine ⟨isVal (.int .i64 (k : Int)), step_move (.tmp 9) (by kernel_rfl) (wanted_none (by kernel_rfl)) (stable_val _) (knows_old 9 (.int .i64 (k : Int)) (by kernel_rfl) hk), ?_⟩
  refine ⟨isRow (List.replicate k 0), step_make 34 5 (.tmp 30) k (by kernel_rfl) (wanted_none (by kernel_rfl)) (knows_new (V := isVal (.int .i64 (k : Int))) 30 1 (by kernel_rfl) (by kernel_rfl) (by kernel_rfl)) Tryd.underlying34 Tryd.infoU8 (by omega), ?_⟩
  refine ⟨isVal (.string ⟨(List.replicate k 0).toArray⟩), step_convRow 34 9 5 (.tmp 31) (List.replicate k 0) (by kernel_rfl) (wanted_none (by kernel_rfl)) (knows_new (V := isRow (List.replicate k 0)) 31 2 (by kernel_rfl) (by kernel_rfl) (by kernel_rfl)) Tryd.underlying34 Tryd.underlying5 Tryd.underlying9, ?_⟩
  refine ⟨isVal (.pointer (some (Addr.add ⟨g, 0, none⟩ 0))), step_at 32 5 (.tmp 5) 4 0 g (by kernel_rfl) (wanted_none (by kernel_rfl)) (knows_old 5 (.pointer (some ⟨g, 0, none⟩)) (by kernel_rfl) h5) Tryd.underlying32 (by kernel_rfl) (by kernel_rfl) (by omega), ?_⟩
  refine ⟨isVal (.int .u8 (b0.toNat : Int)), step_cell 5 (.tmp 33) (Addr.add ⟨g, 0, none⟩ 0) (.int .u8 (b0.toNat : Int)) (.int .u8) (by kernel_rfl) (wanted_none (by kernel_rfl)) (knows_new (V := isVal (.pointer (some (Addr.add ⟨g, 0, none⟩ 0)))) 33 4 (by kernel_rfl) (by kernel_rfl) (by kernel_rfl)) (by simpa [Addr.add] using c0) (by simpa [Addr.add] using hg) Tryd.underlying5, ?_⟩
  refine ⟨isVal (.pointer (some (Addr.add ⟨g, 0, none⟩ 1))), step_at 32 5 (.tmp 5) 4 1 g (by kernel_rfl) (wanted_none (by kernel_rfl)) (knows_old 5 (.pointer (some ⟨g, 0, none⟩)) (by kernel_rfl) h5) Tryd.underlying32 (by kernel_rfl) (by kernel_rfl) (by omega), ?_⟩
  refine ⟨isVal (.int .u8 (b1.toNat : Int)), step_cell 5 (.tmp 35) (Addr.add ⟨g, 0, none⟩ 1) (.int .u8 (b1.toNat : Int)) (.int .u8) (by kernel_rfl) (wanted_none (by kernel_rfl)) (knows_new (V := isVal (.pointer (some (Addr.add ⟨g, 0, none⟩ 1)))) 35 6 (by kernel_rfl) (by kernel_rfl) (by kernel_rfl)) (by simpa [Addr.add] using c1) (by simpa [Addr.add] using hg) Tryd.underlying5, ?_⟩
  refine ⟨isVal (.pointer (some (Addr.add ⟨g, 0, none⟩ 2))), step_at 32 5 (.tmp 5) 4 2 g (by kernel_rfl) (wanted_none (by kernel_rfl)) (knows_old 5 (.pointer (some ⟨g, 0, none⟩)) (by kernel_rfl) h5) Tryd.underlying32 (by kernel_rfl) (by kernel_rfl) (by omega), ?_⟩
  refine ⟨isVal (.int .u8 (b2.toNat : Int)), step_cell 5 (.tmp 37) (Addr.add ⟨g, 0, none⟩ 2) (.int .u8 (b2.toNat : Int)) (.int .u8) (by kernel_rfl) (wanted_none (by kernel_rfl)) (knows_new (V := isVal (.pointer (some (Addr.add ⟨g, 0, none⟩ 2)))) 37 8 (by kernel_rfl) (by kernel_rfl) (by kernel_rfl)) (by simpa [Addr.add] using c2) (by simpa [Addr.add] using hg) Tryd.underlying5, ?_⟩
  refine ⟨isVal (.pointer (some (Addr.add ⟨g, 0, none⟩ 3))), step_at 32 5 (.tmp 5) 4 3 g (by kernel_rfl) (wanted_none (by kernel_rfl)) (knows_old 5 (.pointer (some ⟨g, 0, none⟩)) (by kernel_rfl) h5) Tryd.underlying32 (by kernel_rfl) (by kernel_rfl) (by omega), ?_⟩
  refine ⟨isVal (.int .u8 (b3.toNat : Int)), step_cell 5 (.tmp 39) (Addr.add ⟨g, 0, none⟩ 3) (.int .u8 (b3.toNat : Int)) (.int .u8) (by kernel_rfl) (wanted_none (by kernel_rfl)) (knows_new (V := isVal (.pointer (some (Addr.add ⟨g, 0, none⟩ 3)))) 39 10 (by kernel_rfl) (by kernel_rfl) (by kernel_rfl)) (by simpa [Addr.add] using c3) (by simpa [Addr.add] using hg) Tryd.underlying5, ?_⟩
  refine ⟨isRow [b0, b1, b2, b3], step_row4 34 5 (.tmp 34) (.tmp 36) (.tmp 38) (.tmp 40) b0 b1 b2 b3 (by kernel_rfl) (wanted_none (by kernel_rfl)) (knows_new (V := isVal (.int .u8 (b0.toNat : Int))) 34 5 (by kernel_rfl) (by kernel_rfl) (by kernel_rfl)) (knows_new (V := isVal (.int .u8 (b1.toNat : Int))) 36 7 (by kernel_rfl) (by kernel_rfl) (by kernel_rfl)) (knows_new (V := isVal (.int .u8 (b2.toNat : Int))) 38 9 (by kernel_rfl) (by kernel_rfl) (by kernel_rfl)) (knows_new (V := isVal (.int .u8 (b3.toNat : Int))) 40 11 (by kernel_rfl) (by kernel_rfl) (by kernel_rfl)) Tryd.underlying34 Tryd.infoU8, ?_⟩
  refine ⟨isVal (.string ⟨[b0, b1, b2, b3].toArray⟩), step_convRow 34 9 5 (.tmp 41) [b0, b1, b2, b3] (by kernel_rfl) (wanted_none (by kernel_rfl)) (knows_new (V := isRow [b0, b1, b2, b3]) 41 12 (by kernel_rfl) (by kernel_rfl) (by kernel_rfl)) Tryd.underlying34 Tryd.underlying5 Tryd.underlying9, ?_⟩
  refine ⟨isVal (.string ⟨(List.replicate k 0 ++ [b0, b1, b2, b3]).toArray⟩), step_bin .add 9 9 (.tmp 32) (.tmp 42) (.string ⟨(List.replicate k 0).toArray⟩) (.string ⟨[b0, b1, b2, b3].toArray⟩) (.string ⟨(List.replicate k 0 ++ [b0, b1, b2, b3]).toArray⟩) (by kernel_rfl) (wanted_none (by kernel_rfl)) (knows_new (V := isVal (.string ⟨(List.replicate k 0).toArray⟩)) 32 3 (by kernel_rfl) (by kernel_rfl) (by kernel_rfl)) (knows_new (V := isVal (.string ⟨[b0, b1, b2, b3].toArray⟩)) 42 13 (by kernel_rfl) (by kernel_rfl) (by kernel_rfl)) (fun _ => rfl) (fun W => run_string_add_lists W (List.replicate k 0) [b0, b1, b2, b3] (by simp; omega) (by simp)), ?_⟩
  refine ⟨isVal (.string ⟨(pairL (· ^^^ ·) t (List.replicate k 0 ++ [b0, b1, b2, b3])).toArray⟩), step_call 18 #[.tmp 29, .tmp 43] #[9, 9] #[.string ⟨t.toArray⟩, .string ⟨(List.replicate k 0 ++ [b0, b1, b2, b3]).toArray⟩] (by kernel_rfl) (wanted_none (by kernel_rfl)) (stable_val _) (args2 (.tmp 29) (.tmp 43) (.string ⟨t.toArray⟩) (.string ⟨(List.replicate k 0 ++ [b0, b1, b2, b3]).toArray⟩) (knows_new (V := isVal (.string ⟨t.toArray⟩)) 29 0 (by kernel_rfl) (by kernel_rfl) (by kernel_rfl)) (knows_new (V := isVal (.string ⟨(List.replicate k 0 ++ [b0, b1, b2, b3]).toArray⟩)) 43 14 (by kernel_rfl) (by kernel_rfl) (by kernel_rfl))) (enters_of Tryd.func18 (by kernel_rfl) rfl) (by intro w hb; exact call_xor t (List.replicate k 0 ++ [b0, b1, b2, b3]) (by omega) hpl w), ?_⟩
  refine ⟨isVal (.string ⟨(pairL (· ^^^ ·) t (List.replicate k 0 ++ [b0, b1, b2, b3])).toArray⟩), step_assign (.tmp 44) (by kernel_rfl) (wanted_none (by kernel_rfl)) (stable_val _) (knows_new (V := isVal (.string ⟨(pairL (· ^^^ ·) t (List.replicate k 0 ++ [b0, b1, b2, b3])).toArray⟩)) 44 15 (by kernel_rfl) (by kernel_rfl) (by kernel_rfl)), ?_⟩
  intro a w hkp hb hd
  exact hQ a w hkp.1 hkp.2.1 hkp.2.2 (by
    obtain ⟨o, ho⟩ : ∃ o, burstsOps[16]? = some o := ⟨_, Array.getElem?_eq_getElem (by rw [show burstsOps.size = 17 by kernel_rfl]; decide)⟩
    have hdst : (burstsOps[16]?).bind (·.dst) = some 10 := by kernel_rfl
    exact hd 16 (by rw [show burstsOps.size = 17 by kernel_rfl]; decide) o ho 10 (by rw [ho] at hdst; simpa using hdst)) hb

noncomputable def unlikeOps : Array Oper := regionOf Tryd.f8 7
set_option maxRecDepth 100000 in
set_option maxHeartbeats 1000000 in
theorem unlike_region (Q : Exit → Act → World → Prop) (a0 : Act) (w0 : World) (hsz : a0.tmps.size = 56) (t : List UInt8) (k g : Nat) (b0 b1 b2 b3 : UInt8) (ht : t.length ≤ 1000) (hk1 : k ≤ 1000)
    (hsrc : a0.tmps.getD 0 undef = .string ⟨t.toArray⟩) (hk : a0.tmps.getD 8 undef = .int .i64 (k : Int)) (h5 : a0.tmps.getD 5 undef = .pointer (some ⟨g, 0, none⟩)) (hg : g < w0.heap.size)
    (c0 : w0.cell? ⟨g, 0, none⟩ = some (.int .u8 (b0.toNat : Int))) (c1 : w0.cell? ⟨g, 1, none⟩ = some (.int .u8 (b1.toNat : Int))) (c2 : w0.cell? ⟨g, 2, none⟩ = some (.int .u8 (b2.toNat : Int))) (c3 : w0.cell? ⟨g, 3, none⟩ = some (.int .u8 (b3.toNat : Int)))
    (hQ : ∀ (a : Act) (w : World), a.defers = a0.defers → a.tmps.size = a0.tmps.size → (∀ t, (unlikeOps.toList.all fun o => o.dst != some t) = true → a.tmps.getD t undef = a0.tmps.getD t undef) →
      a.tmps.getD 9 undef = .string ⟨(pairL (· ^^^ ·) t (List.replicate k 0 ++ [b0, b1, b2, b3])).toArray⟩ → Below w0.heap.size w0 w → Q .normal a w) :
    (Code.region 7 unlikeOps true).wp Tryd.prog Q a0 w0 := by
  have hpl : (List.replicate k (0 : UInt8) ++ [b0, b1, b2, b3]).length ≤ 1000000000 := by simp; omega
  refine wp_region_flow mixed (by rw [hsz]; kernel_rfl) ?_
  rw [show unlikeOps.size = 17 by kernel_rfl]
  refine ⟨isVal (.string ⟨t.toArray⟩), step_move (.tmp 0) (by kernel_rfl) (wanted_none (by kernel_rfl)) (stable_val _) (knows_old 0 (.string ⟨t.toArray⟩) (by kernel_rfl) hsrc), ?_⟩
  refine ⟨isVal (.int .i64 (k : Int)), step_move (.tmp 8) (by kernel_rfl) (wanted_none (by kernel_rfl)) (stable_val _) (knows_old 8 (.int .i64 (k : Int)) (by kernel_rfl) hk), ?_⟩
  refine ⟨isRow (List.replicate k 0), step_make 34 5 (.tmp 29) k (by kernel_rfl) (wanted_none (by kernel_rfl)) (knows_new (V := isVal (.int .i64 (k : Int))) 29 1 (by kernel_rfl) (by kernel_rfl) (by kernel_rfl)) Tryd.underlying34 Tryd.infoU8 (by omega), ?_⟩
  refine ⟨isVal (.string ⟨(List.replicate k 0).toArray⟩), step_convRow 34 9 5 (.tmp 30) (List.replicate k 0) (by kernel_rfl) (wanted_none (by kernel_rfl)) (knows_new (V := isRow (List.replicate k 0)) 30 2 (by kernel_rfl) (by kernel_rfl) (by kernel_rfl)) Tryd.underlying34 Tryd.underlying5 Tryd.underlying9, ?_⟩
  refine ⟨isVal (.pointer (some (Addr.add ⟨g, 0, none⟩ 0))), step_at 32 5 (.tmp 5) 4 0 g (by kernel_rfl) (wanted_none (by kernel_rfl)) (knows_old 5 (.pointer (some ⟨g, 0, none⟩)) (by kernel_rfl) h5) Tryd.underlying32 (by kernel_rfl) (by kernel_rfl) (by omega), ?_⟩
  refine ⟨isVal (.int .u8 (b0.toNat : Int)), step_cell 5 (.tmp 32) (Addr.add ⟨g, 0, none⟩ 0) (.int .u8 (b0.toNat : Int)) (.int .u8) (by kernel_rfl) (wanted_none (by kernel_rfl)) (knows_new (V := isVal (.pointer (some (Addr.add ⟨g, 0, none⟩ 0)))) 32 4 (by kernel_rfl) (by kernel_rfl) (by kernel_rfl)) (by simpa [Addr.add] using c0) (by simpa [Addr.add] using hg) Tryd.underlying5, ?_⟩
  refine ⟨isVal (.pointer (some (Addr.add ⟨g, 0, none⟩ 1))), step_at 32 5 (.tmp 5) 4 1 g (by kernel_rfl) (wanted_none (by kernel_rfl)) (knows_old 5 (.pointer (some ⟨g, 0, none⟩)) (by kernel_rfl) h5) Tryd.underlying32 (by kernel_rfl) (by kernel_rfl) (by omega), ?_⟩
  refine ⟨isVal (.int .u8 (b1.toNat : Int)), step_cell 5 (.tmp 34) (Addr.add ⟨g, 0, none⟩ 1) (.int .u8 (b1.toNat : Int)) (.int .u8) (by kernel_rfl) (wanted_none (by kernel_rfl)) (knows_new (V := isVal (.pointer (some (Addr.add ⟨g, 0, none⟩ 1)))) 34 6 (by kernel_rfl) (by kernel_rfl) (by kernel_rfl)) (by simpa [Addr.add] using c1) (by simpa [Addr.add] using hg) Tryd.underlying5, ?_⟩
  refine ⟨isVal (.pointer (some (Addr.add ⟨g, 0, none⟩ 2))), step_at 32 5 (.tmp 5) 4 2 g (by kernel_rfl) (wanted_none (by kernel_rfl)) (knows_old 5 (.pointer (some ⟨g, 0, none⟩)) (by kernel_rfl) h5) Tryd.underlying32 (by kernel_rfl) (by kernel_rfl) (by omega), ?_⟩
  refine ⟨isVal (.int .u8 (b2.toNat : Int)), step_cell 5 (.tmp 36) (Addr.add ⟨g, 0, none⟩ 2) (.int .u8 (b2.toNat : Int)) (.int .u8) (by kernel_rfl) (wanted_none (by kernel_rfl)) (knows_new (V := isVal (.pointer (some (Addr.add ⟨g, 0, none⟩ 2)))) 36 8 (by kernel_rfl) (by kernel_rfl) (by kernel_rfl)) (by simpa [Addr.add] using c2) (by simpa [Addr.add] using hg) Tryd.underlying5, ?_⟩
  refine ⟨isVal (.pointer (some (Addr.add ⟨g, 0, none⟩ 3))), step_at 32 5 (.tmp 5) 4 3 g (by kernel_rfl) (wanted_none (by kernel_rfl)) (knows_old 5 (.pointer (some ⟨g, 0, none⟩)) (by kernel_rfl) h5) Tryd.underlying32 (by kernel_rfl) (by kernel_rfl) (by omega), ?_⟩
  refine ⟨isVal (.int .u8 (b3.toNat : Int)), step_cell 5 (.tmp 38) (Addr.add ⟨g, 0, none⟩ 3) (.int .u8 (b3.toNat : Int)) (.int .u8) (by kernel_rfl) (wanted_none (by kernel_rfl)) (knows_new (V := isVal (.pointer (some (Addr.add ⟨g, 0, none⟩ 3)))) 38 10 (by kernel_rfl) (by kernel_rfl) (by kernel_rfl)) (by simpa [Addr.add] using c3) (by simpa [Addr.add] using hg) Tryd.underlying5, ?_⟩
  refine ⟨isRow [b0, b1, b2, b3], step_row4 34 5 (.tmp 33) (.tmp 35) (.tmp 37) (.tmp 39) b0 b1 b2 b3 (by kernel_rfl) (wanted_none (by kernel_rfl)) (knows_new (V := isVal (.int .u8 (b0.toNat : Int))) 33 5 (by kernel_rfl) (by kernel_rfl) (by kernel_rfl)) (knows_new (V := isVal (.int .u8 (b1.toNat : Int))) 35 7 (by kernel_rfl) (by kernel_rfl) (by kernel_rfl)) (knows_new (V := isVal (.int .u8 (b2.toNat : Int))) 37 9 (by kernel_rfl) (by kernel_rfl) (by kernel_rfl)) (knows_new (V := isVal (.int .u8 (b3.toNat : Int))) 39 11 (by kernel_rfl) (by kernel_rfl) (by kernel_rfl)) Tryd.underlying34 Tryd.infoU8, ?_⟩
  refine ⟨isVal (.string ⟨[b0, b1, b2, b3].toArray⟩), step_convRow 34 9 5 (.tmp 40) [b0, b1, b2, b3] (by kernel_rfl) (wanted_none (by kernel_rfl)) (knows_new (V := isRow [b0, b1, b2, b3]) 40 12 (by kernel_rfl) (by kernel_rfl) (by kernel_rfl)) Tryd.underlying34 Tryd.underlying5 Tryd.underlying9, ?_⟩
  refine ⟨isVal (.string ⟨(List.replicate k 0 ++ [b0, b1, b2, b3]).toArray⟩), step_bin .add 9 9 (.tmp 31) (.tmp 41) (.string ⟨(List.replicate k 0).toArray⟩) (.string ⟨[b0, b1, b2, b3].toArray⟩) (.string ⟨(List.replicate k 0 ++ [b0, b1, b2, b3]).toArray⟩) (by kernel_rfl) (wanted_none (by kernel_rfl)) (knows_new (V := isVal (.string ⟨(List.replicate k 0).toArray⟩)) 31 3 (by kernel_rfl) (by kernel_rfl) (by kernel_rfl)) (knows_new (V := isVal (.string ⟨[b0, b1, b2, b3].toArray⟩)) 41 13 (by kernel_rfl) (by kernel_rfl) (by kernel_rfl)) (fun _ => rfl) (fun W => run_string_add_lists W (List.replicate k 0) [b0, b1, b2, b3] (by simp; omega) (by simp)), ?_⟩
  refine ⟨isVal (.string ⟨(pairL (· ^^^ ·) t (List.replicate k 0 ++ [b0, b1, b2, b3])).toArray⟩), step_call 18 #[.tmp 28, .tmp 42] #[9, 9] #[.string ⟨t.toArray⟩, .string ⟨(List.replicate k 0 ++ [b0, b1, b2, b3]).toArray⟩] (by kernel_rfl) (wanted_none (by kernel_rfl)) (stable_val _) (args2 (.tmp 28) (.tmp 42) (.string ⟨t.toArray⟩) (.string ⟨(List.replicate k 0 ++ [b0, b1, b2, b3]).toArray⟩) (knows_new (V := isVal (.string ⟨t.toArray⟩)) 28 0 (by kernel_rfl) (by kernel_rfl) (by kernel_rfl)) (knows_new (V := isVal (.string ⟨(List.replicate k 0 ++ [b0, b1, b2, b3]).toArray⟩)) 42 14 (by kernel_rfl) (by kernel_rfl) (by kernel_rfl))) (enters_of Tryd.func18 (by kernel_rfl) rfl) (by intro w hb; exact call_xor t (List.replicate k 0 ++ [b0, b1, b2, b3]) (by omega) hpl w), ?_⟩
  refine ⟨isVal (.string ⟨(pairL (· ^^^ ·) t (List.replicate k 0 ++ [b0, b1, b2, b3])).toArray⟩), step_assign (.tmp 43) (by kernel_rfl) (wanted_none (by kernel_rfl)) (stable_val _) (knows_new (V := isVal (.string ⟨(pairL (· ^^^ ·) t (List.replicate k 0 ++ [b0, b1, b2, b3])).toArray⟩)) 43 15 (by kernel_rfl) (by kernel_rfl) (by kernel_rfl)), ?_⟩
  intro a w hkp hb hd
  exact hQ a w hkp.1 hkp.2.1 hkp.2.2 (by
    obtain ⟨o, ho⟩ : ∃ o, unlikeOps[16]? = some o := ⟨_, Array.getElem?_eq_getElem (by rw [show unlikeOps.size = 17 by kernel_rfl]; decide)⟩
    have hdst : (unlikeOps[16]?).bind (·.dst) = some 9 := by kernel_rfl
    exact hd 16 (by rw [show unlikeOps.size = 17 by kernel_rfl]; decide) o ho 9 (by rw [ho] at hdst; simpa using hdst)) hb

noncomputable def lastOps : Array Oper := regionOf Tryd.f8 8
theorem call_sum (s : List UInt8) (h : s.length ≤ 1024) (w : World) :
    Calls Tryd.prog 16 #[.string ⟨s.toArray⟩] w fun e w' => ∃ v, e = .returned v ∧ isVal (.int .i64 (sumN s : Int)) v w' ∧ Below w.heap.size w w' :=
  (sum_any s w h).mono (by rintro e w' ⟨rfl, rfl⟩; exact ⟨_, rfl, rfl, Below.refl _ _⟩)
theorem eql_bools {P : Program} (t : TypeId) (z : Bool) (ht : P.underlying t = some .bool) (w : World) : (binOp .eql t (.bool z) (.bool z)).run P w = .ok (.bool true) w := by
  have h : (binOp .eql t (.bool z) (.bool z)).run P w = ((Op.equalIn 10000 t (.bool z) (.bool z)).run P w).andThen fun b w' => .ok (.bool b) w' := by
    simp only [binOp]
    simp [Op.equal, Op.maxDepth]
  rw [h, run_equalIn_bool' w 9999 t z z ht]
  simp
set_option maxRecDepth 100000 in
set_option maxHeartbeats 1000000 in
theorem last_region (Q : Exit → Act → World → Prop) (a0 : Act) (w0 : World) (hsz : a0.tmps.size = 56) (s x : List UInt8) (g : Nat) (b0 b1 b2 b3 : UInt8) (z : Bool) (hs : s.length ≤ 1000) (hx : x.length ≤ 1000)
    (h0 : a0.tmps.getD 0 undef = .string ⟨s.toArray⟩) (h9 : a0.tmps.getD 9 undef = .string ⟨x.toArray⟩) (h7 : a0.tmps.getD 7 undef = .bool true) (h5 : a0.tmps.getD 5 undef = .pointer (some ⟨g, 0, none⟩))
    (hrow : w0.heap[g]? = some (.cells #[.int .u8 (b0.toNat : Int), .int .u8 (b1.toNat : Int), .int .u8 (b2.toNat : Int), .int .u8 (b3.toNat : Int)] 32 (0, 0)))
    (hz1 : ((sumN s : Int) == (sumN x : Int)) = z) (hz2 : ((b0.toNat : Int) == 0 && (b1.toNat : Int) == 0 && (b2.toNat : Int) == 0 && (b3.toNat : Int) == 0) = z)
    (hQ : ∀ (a : Act) (w : World), a.defers = a0.defers → a.tmps.getD 6 undef = .bool true → Below w0.heap.size w0 w → Q .normal a w) :
    (Code.region 8 lastOps true).wp Tryd.prog Q a0 w0 := by
  refine wp_region_flow mixed (by rw [hsz]; kernel_rfl) ?_
  rw [show lastOps.size = 13 by kernel_rfl]
  refine ⟨isVal (.bool true), step_move (.tmp 7) (by kernel_rfl) (wanted_none (by kernel_rfl)) (stable_val _) (knows_old 7 (.bool true) (by kernel_rfl) h7), ?_⟩
  refine ⟨isVal (.bool true), step_move (.tmp 44) (by kernel_rfl) (wanted_none (by kernel_rfl)) (stable_val _) (knows_new (V := isVal (.bool true)) 44 0 (by kernel_rfl) (by kernel_rfl) (by kernel_rfl)), ?_⟩
  refine ⟨isVal (.string ⟨s.toArray⟩), step_move (.tmp 0) (by kernel_rfl) (wanted_some 1 45 true (by kernel_rfl) (by kernel_rfl) (by kernel_rfl) (by kernel_rfl)) (stable_val _) (knows_old 0 (.string ⟨s.toArray⟩) (by kernel_rfl) h0), ?_⟩
  refine ⟨isVal (.int .i64 (sumN s : Int)), step_call 16 #[.tmp 46] #[9] #[.string ⟨s.toArray⟩] (by kernel_rfl) (wanted_some 1 45 true (by kernel_rfl) (by kernel_rfl) (by kernel_rfl) (by kernel_rfl)) (stable_val _) (args1 (.tmp 46) (.string ⟨s.toArray⟩) (knows_new (V := isVal (.string ⟨s.toArray⟩)) 46 2 (by kernel_rfl) (by kernel_rfl) (by kernel_rfl))) (enters_of Tryd.func16 (by kernel_rfl) rfl) (by intro w hb; exact call_sum s (by omega) w), ?_⟩
  refine ⟨isVal (.string ⟨x.toArray⟩), step_move (.tmp 9) (by kernel_rfl) (wanted_some 1 45 true (by kernel_rfl) (by kernel_rfl) (by kernel_rfl) (by kernel_rfl)) (stable_val _) (knows_old 9 (.string ⟨x.toArray⟩) (by kernel_rfl) h9), ?_⟩
  refine ⟨isVal (.int .i64 (sumN x : Int)), step_call 16 #[.tmp 48] #[9] #[.string ⟨x.toArray⟩] (by kernel_rfl) (wanted_some 1 45 true (by kernel_rfl) (by kernel_rfl) (by kernel_rfl) (by kernel_rfl)) (stable_val _) (args1 (.tmp 48) (.string ⟨x.toArray⟩) (knows_new (V := isVal (.string ⟨x.toArray⟩)) 48 4 (by kernel_rfl) (by kernel_rfl) (by kernel_rfl))) (enters_of Tryd.func16 (by kernel_rfl) rfl) (by intro w hb; exact call_sum x (by omega) w), ?_⟩
  refine ⟨isVal (.bool z), step_bin .eql 3 3 (.tmp 47) (.tmp 49) (.int .i64 (sumN s : Int)) (.int .i64 (sumN x : Int)) (.bool z) (by kernel_rfl) (wanted_some 1 45 true (by kernel_rfl) (by kernel_rfl) (by kernel_rfl) (by kernel_rfl)) (knows_new (V := isVal (.int .i64 (sumN s : Int))) 47 3 (by kernel_rfl) (by kernel_rfl) (by kernel_rfl)) (knows_new (V := isVal (.int .i64 (sumN x : Int))) 49 5 (by kernel_rfl) (by kernel_rfl) (by kernel_rfl)) (fun _ => rfl) (eql_int _ _ _ _ _ hz1), ?_⟩
  refine ⟨isVal (.agg #[.int .u8 (b0.toNat : Int), .int .u8 (b1.toNat : Int), .int .u8 (b2.toNat : Int), .int .u8 (b3.toNat : Int)]), step_whole 32 5 (.tmp 5) g 4 _ _ _ (by kernel_rfl) (wanted_some 1 45 true (by kernel_rfl) (by kernel_rfl) (by kernel_rfl) (by kernel_rfl)) (knows_old 5 (.pointer (some ⟨g, 0, none⟩)) (by kernel_rfl) h5) hrow Tryd.underlying32 (by kernel_rfl), ?_⟩
  refine ⟨isVal (.agg #[.int .u8 0, .int .u8 0, .int .u8 0, .int .u8 0]), step_none 32 #[.int .u8 0, .int .u8 0, .int .u8 0, .int .u8 0] (by kernel_rfl) (wanted_some 1 45 true (by kernel_rfl) (by kernel_rfl) (by kernel_rfl) (by kernel_rfl)) (by kernel_rfl), ?_⟩
  refine ⟨isVal (.bool z), step_bin .eql 32 32 (.tmp 51) (.tmp 52) (.agg #[.int .u8 (b0.toNat : Int), .int .u8 (b1.toNat : Int), .int .u8 (b2.toNat : Int), .int .u8 (b3.toNat : Int)]) (.agg #[.int .u8 0, .int .u8 0, .int .u8 0, .int .u8 0]) (.bool z) (by kernel_rfl) (wanted_some 1 45 true (by kernel_rfl) (by kernel_rfl) (by kernel_rfl) (by kernel_rfl)) (knows_new (V := isVal (.agg #[.int .u8 (b0.toNat : Int), .int .u8 (b1.toNat : Int), .int .u8 (b2.toNat : Int), .int .u8 (b3.toNat : Int)])) 51 7 (by kernel_rfl) (by kernel_rfl) (by kernel_rfl)) (knows_new (V := isVal (.agg #[.int .u8 0, .int .u8 0, .int .u8 0, .int .u8 0])) 52 8 (by kernel_rfl) (by kernel_rfl) (by kernel_rfl)) (fun W => run_eqGuard_agg W _ _ _ _ _ _ (by kernel_rfl)) (fun W => eql_four (P := Tryd.prog) 32 5 (b0.toNat : Int) (b1.toNat : Int) (b2.toNat : Int) (b3.toNat : Int) 0 0 0 0 z Tryd.underlying32 Tryd.underlying5 (by kernel_rfl) hz2 W), ?_⟩
  refine ⟨isVal (.bool true), step_bin .eql 4 4 (.tmp 50) (.tmp 53) (.bool z) (.bool z) (.bool true) (by kernel_rfl) (wanted_some 1 45 true (by kernel_rfl) (by kernel_rfl) (by kernel_rfl) (by kernel_rfl)) (knows_new (V := isVal (.bool z)) 50 6 (by kernel_rfl) (by kernel_rfl) (by kernel_rfl)) (knows_new (V := isVal (.bool z)) 53 9 (by kernel_rfl) (by kernel_rfl) (by kernel_rfl)) (fun _ => rfl) (eql_bools _ z Tryd.underlying4), ?_⟩
  refine ⟨isVal (.bool true), step_pick (.tmp 45) (.tmp 54) (.const (.bool false)) true (by kernel_rfl) (wanted_none (by kernel_rfl)) (stable_val _) (knows_new (V := isVal (.bool true)) 45 1 (by kernel_rfl) (by kernel_rfl) (by kernel_rfl)) (knows_new (V := isVal (.bool true)) 54 10 (by kernel_rfl) (by kernel_rfl) (by kernel_rfl)), ?_⟩
  refine ⟨isVal (.bool true), step_assign (.tmp 55) (by kernel_rfl) (wanted_none (by kernel_rfl)) (stable_val _) (knows_new (V := isVal (.bool true)) 55 11 (by kernel_rfl) (by kernel_rfl) (by kernel_rfl)), ?_⟩
  intro a w hkp hb hd
  exact hQ a w hkp.1 (by
    obtain ⟨o, ho⟩ : ∃ o, lastOps[12]? = some o := ⟨_, Array.getElem?_eq_getElem (by rw [show lastOps.size = 13 by kernel_rfl]; decide)⟩
    have hdst : (lastOps[12]?).bind (·.dst) = some 6 := by kernel_rfl
    exact hd 12 (by rw [show lastOps.size = 13 by kernel_rfl]; decide) o ho 6 (by rw [ho] at hdst; simpa using hdst)) hb

theorem alloc_get (w : World) (o : Obj) : (w.alloc o).heap[w.heap.size]? = some o := by
  show (w.heap.push o)[w.heap.size]? = some o
  simp
theorem arr_eta (a : Array Value) {n : Nat} (h : a.size = n) : a = ((List.range n).map fun i => a.getD i undef).toArray := by
  subst h
  apply Array.ext
  · simp
  · intro i h1 h2
    simp [Array.getD, h1]
end Go.Proofs.YtfofapickblpaaaDoor
