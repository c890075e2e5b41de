/- Joined texts: contracts of the program's functions, and the mathematics that they lean on. -/
import Derived.Test.YtpjafjnokgeifaaPartA
import Derived.Laws.EntriesVeiled
import Derived.SizedLaws
import Derived.SliceStrings
import Derived.Carry
section
namespace Go.Proofs.Ytpjafjnokgeifaa
open Go.RowKit
set_option linter.unusedVariables false
set_option linter.unusedSimpArgs false
attribute [local irreducible] setN

theorem nums_at0 (g0 g1 g2 g4 g5 g6 g7 : Nat) (w : World) : (Instr.index 63 (.agg (l24 g0 g1 g2 g4 g5 g6 g7).toArray) (.int .i64 0)).run Try.prog w = .ok (.agg #[.func (.func 70) #[] #[], .func (.func 92) #[] #[.pointer (some ⟨g0, 0, none⟩)], .int .i64 8]) w := by kernel_rfl
theorem nums_at1 (g0 g1 g2 g4 g5 g6 g7 : Nat) (w : World) : (Instr.index 63 (.agg (l24 g0 g1 g2 g4 g5 g6 g7).toArray) (.int .i64 1)).run Try.prog w = .ok (.agg #[.func (.func 72) #[] #[], .func (.func 92) #[] #[.pointer (some ⟨g1, 0, none⟩)], .int .i64 8]) w := by kernel_rfl
theorem nums_at2 (g0 g1 g2 g4 g5 g6 g7 : Nat) (w : World) : (Instr.index 63 (.agg (l24 g0 g1 g2 g4 g5 g6 g7).toArray) (.int .i64 2)).run Try.prog w = .ok (.agg #[.func (.func 73) #[] #[], .func (.func 92) #[] #[.pointer (some ⟨g2, 0, none⟩)], .int .i64 6]) w := by kernel_rfl
theorem nums_at3 (g0 g1 g2 g4 g5 g6 g7 : Nat) (w : World) : (Instr.index 63 (.agg (l24 g0 g1 g2 g4 g5 g6 g7).toArray) (.int .i64 3)).run Try.prog w = .ok (.agg #[.func (.func 74) #[] #[], .func (.func 75) #[] #[], .int .i64 24]) w := by kernel_rfl
theorem nums_at4 (g0 g1 g2 g4 g5 g6 g7 : Nat) (w : World) : (Instr.index 63 (.agg (l24 g0 g1 g2 g4 g5 g6 g7).toArray) (.int .i64 4)).run Try.prog w = .ok (.agg #[.func (.func 76) #[] #[], .func (.func 92) #[] #[.pointer (some ⟨g4, 0, none⟩)], .int .i64 4]) w := by kernel_rfl
theorem nums_at5 (g0 g1 g2 g4 g5 g6 g7 : Nat) (w : World) : (Instr.index 63 (.agg (l24 g0 g1 g2 g4 g5 g6 g7).toArray) (.int .i64 5)).run Try.prog w = .ok (.agg #[.func (.func 77) #[] #[], .func (.func 92) #[] #[.pointer (some ⟨g5, 0, none⟩)], .int .i64 8]) w := by kernel_rfl
theorem nums_at6 (g0 g1 g2 g4 g5 g6 g7 : Nat) (w : World) : (Instr.index 63 (.agg (l24 g0 g1 g2 g4 g5 g6 g7).toArray) (.int .i64 6)).run Try.prog w = .ok (.agg #[.func (.func 78) #[] #[], .func (.func 92) #[] #[.pointer (some ⟨g6, 0, none⟩)], .int .i64 8]) w := by kernel_rfl
theorem nums_at7 (g0 g1 g2 g4 g5 g6 g7 : Nat) (w : World) : (Instr.index 63 (.agg (l24 g0 g1 g2 g4 g5 g6 g7).toArray) (.int .i64 7)).run Try.prog w = .ok (.agg #[.func (.func 79) #[] #[], .func (.func 92) #[] #[.pointer (some ⟨g7, 0, none⟩)], .int .i64 2147483647]) w := by kernel_rfl
set_option maxRecDepth 100000 in
set_option maxHeartbeats 4000000 in
theorem ccheck_any (C : Cf) (w : World) : Calls Try.prog 29 #[(.agg #[.int .i64 C.nodes, .int .i64 C.slots, .int .i64 C.pages, .int .i64 C.room, .int .i64 C.chunk, .int .i64 C.buffer, .int .i64 C.queue, .int .i64 C.wear])] w fun e w' => e = .returned (.int .i64 (chkC C)) ∧ Below w.heap.size w w' := by
  obtain ⟨hB, HC⟩ := cbox w C w.heap.size rfl
  have e70 : ∀ args w, (callFunc 70 args).run Try.prog w = .ok (.enter 70 args) w := enters_of Try.func70 (by kernel_rfl) rfl
  have e72 : ∀ args w, (callFunc 72 args).run Try.prog w = .ok (.enter 72 args) w := enters_of Try.func72 (by kernel_rfl) rfl
  have e73 : ∀ args w, (callFunc 73 args).run Try.prog w = .ok (.enter 73 args) w := enters_of Try.func73 (by kernel_rfl) rfl
  have e74 : ∀ args w, (callFunc 74 args).run Try.prog w = .ok (.enter 74 args) w := enters_of Try.func74 (by kernel_rfl) rfl
  have e75 : ∀ args w, (callFunc 75 args).run Try.prog w = .ok (.enter 75 args) w := enters_of Try.func75 (by kernel_rfl) rfl
  have e76 : ∀ args w, (callFunc 76 args).run Try.prog w = .ok (.enter 76 args) w := enters_of Try.func76 (by kernel_rfl) rfl
  have e77 : ∀ args w, (callFunc 77 args).run Try.prog w = .ok (.enter 77 args) w := enters_of Try.func77 (by kernel_rfl) rfl
  have e78 : ∀ args w, (callFunc 78 args).run Try.prog w = .ok (.enter 78 args) w := enters_of Try.func78 (by kernel_rfl) rfl
  have e79 : ∀ args w, (callFunc 79 args).run Try.prog w = .ok (.enter 79 args) w := enters_of Try.func79 (by kernel_rfl) rfl
  have e92 : ∀ args w, (callFunc 92 args).run Try.prog w = .ok (.enter 92 args) w := enters_of Try.func92 (by kernel_rfl) rfl
  go_enter Try.func29, Try.ntmps29
  go_wp2_with fail
  generalize w.alloc (.cells #[.int .i64 C.nodes, .int .i64 C.slots, .int .i64 C.pages, .int .i64 C.room, .int .i64 C.chunk, .int .i64 C.buffer, .int .i64 C.queue, .int .i64 C.wear] 38) = W0 at *
  refine (numbers_any W0).mono ?_
  rintro e W1 ⟨V, rfl, ⟨g0, g1, g2, g4, g5, g6, g7, hV, q0, q1, q2, q4, q5, q6, q7⟩, hb⟩
  replace hB := Kept.mk (hB.out.trans (hb.mono hB.out.size))
  replace HC := Kept.mk (HC.out.keep hb)
  have Q0 := Kept.mk q0
  have Q1 := Kept.mk q1
  have Q2 := Kept.mk q2
  have Q4 := Kept.mk q4
  have Q5 := Kept.mk q5
  have Q6 := Kept.mk q6
  have Q7 := Kept.mk q7
  have i0 : ∀ w, (Instr.index 63 V (.int .i64 0)).run Try.prog w = .ok (.agg #[.func (.func 70) #[] #[], .func (.func 92) #[] #[.pointer (some ⟨g0, 0, none⟩)], .int .i64 8]) w := by rw [hV]; exact nums_at0 g0 g1 g2 g4 g5 g6 g7
  have i1 : ∀ w, (Instr.index 63 V (.int .i64 1)).run Try.prog w = .ok (.agg #[.func (.func 72) #[] #[], .func (.func 92) #[] #[.pointer (some ⟨g1, 0, none⟩)], .int .i64 8]) w := by rw [hV]; exact nums_at1 g0 g1 g2 g4 g5 g6 g7
  have i2 : ∀ w, (Instr.index 63 V (.int .i64 2)).run Try.prog w = .ok (.agg #[.func (.func 73) #[] #[], .func (.func 92) #[] #[.pointer (some ⟨g2, 0, none⟩)], .int .i64 6]) w := by rw [hV]; exact nums_at2 g0 g1 g2 g4 g5 g6 g7
  have i3 : ∀ w, (Instr.index 63 V (.int .i64 3)).run Try.prog w = .ok (.agg #[.func (.func 74) #[] #[], .func (.func 75) #[] #[], .int .i64 24]) w := by rw [hV]; exact nums_at3 g0 g1 g2 g4 g5 g6 g7
  have i4 : ∀ w, (Instr.index 63 V (.int .i64 4)).run Try.prog w = .ok (.agg #[.func (.func 76) #[] #[], .func (.func 92) #[] #[.pointer (some ⟨g4, 0, none⟩)], .int .i64 4]) w := by rw [hV]; exact nums_at4 g0 g1 g2 g4 g5 g6 g7
  have i5 : ∀ w, (Instr.index 63 V (.int .i64 5)).run Try.prog w = .ok (.agg #[.func (.func 77) #[] #[], .func (.func 92) #[] #[.pointer (some ⟨g5, 0, none⟩)], .int .i64 8]) w := by rw [hV]; exact nums_at5 g0 g1 g2 g4 g5 g6 g7
  have i6 : ∀ w, (Instr.index 63 V (.int .i64 6)).run Try.prog w = .ok (.agg #[.func (.func 78) #[] #[], .func (.func 92) #[] #[.pointer (some ⟨g6, 0, none⟩)], .int .i64 8]) w := by rw [hV]; exact nums_at6 g0 g1 g2 g4 g5 g6 g7
  have i7 : ∀ w, (Instr.index 63 V (.int .i64 7)).run Try.prog w = .ok (.agg #[.func (.func 79) #[] #[], .func (.func 92) #[] #[.pointer (some ⟨g7, 0, none⟩)], .int .i64 2147483647]) w := by rw [hV]; exact nums_at7 g0 g1 g2 g4 g5 g6 g7
  clear hb hV q0 q1 q2 q4 q5 q6 q7
  go_wp2_with fail
  go_loopw [7] (fun i wr => ∃ k : Nat, k ≤ 8 ∧ i = .int .i64 (k : Int) ∧ Kept (∀ j, j < k → atC C j = true) ∧ Kept (Below w.heap.size w wr) ∧ Kept (Hold wr w.heap.size [.int .i64 C.nodes, .int .i64 C.slots, .int .i64 C.pages, .int .i64 C.room, .int .i64 C.chunk, .int .i64 C.buffer, .int .i64 C.queue, .int .i64 C.wear]) ∧ Kept (AtG g0 2 wr) ∧ Kept (AtG g1 1 wr) ∧ Kept (AtG g2 3 wr) ∧ Kept (AtG g4 1 wr) ∧ Kept (AtG g5 1 wr) ∧ Kept (AtG g6 2 wr) ∧ Kept (AtG g7 1 wr)) (fun i _ => 8 - (intOf i).toNat)
  case atStart => exact ⟨0, by omega, rfl, ⟨fun j h => absurd h (Nat.not_lt_zero _)⟩, hB, HC, Q0, Q1, Q2, Q4, Q5, Q6, Q7⟩
  case round =>
    clear hB HC Q0 Q1 Q2 Q4 Q5 Q6 Q7
    obtain ⟨k, hk, rfl, A, hB, HC, Q0, Q1, Q2, Q4, Q5, Q6, Q7⟩ := hrel
    by_cases hlt : k < 8
    · have h8 : k = 0 ∨ k = 1 ∨ k = 2 ∨ k = 3 ∨ k = 4 ∨ k = 5 ∨ k = 6 ∨ k = 7 := by omega
      rcases h8 with rfl | rfl | rfl | rfl | rfl | rfl | rfl | rfl
      · have hlt' : ((0 : Nat) : Int) < 8 := by decide
        have hx := i0
        have hb0 : Below wr.heap.size wr (wr.alloc (.cells #[.func (.func 70) #[] #[], .func (.func 92) #[] #[.pointer (some ⟨g0, 0, none⟩)], .int .i64 8] 62)) := (Below.refl _ _).alloc (Nat.le_refl _) _
        have HN := Kept.mk (Hold.new wr 62 [.func (.func 70) #[] #[], .func (.func 92) #[] #[.pointer (some ⟨g0, 0, none⟩)], .int .i64 8] wr.heap.size rfl)
        replace hB := Kept.mk (hB.out.trans (hb0.mono hB.out.size))
        replace HC := Kept.mk (HC.out.keep hb0)
        replace Q0 := Kept.mk (Q0.out.keep hb0)
        replace Q1 := Kept.mk (Q1.out.keep hb0)
        replace Q2 := Kept.mk (Q2.out.keep hb0)
        replace Q4 := Kept.mk (Q4.out.keep hb0)
        replace Q5 := Kept.mk (Q5.out.keep hb0)
        replace Q6 := Kept.mk (Q6.out.keep hb0)
        replace Q7 := Kept.mk (Q7.out.keep hb0)
        clear hb0 i0 i1 i2 i3 i4 i5 i6 i7
        have kc0 := HC.out.cells.2 0 _ rfl
        have kc1 := HC.out.cells.2 1 _ rfl
        have kc2 := HC.out.cells.2 2 _ rfl
        have kc3 := HC.out.cells.2 3 _ rfl
        have kc4 := HC.out.cells.2 4 _ rfl
        have kc5 := HC.out.cells.2 5 _ rfl
        have kc6 := HC.out.cells.2 6 _ rfl
        have kc7 := HC.out.cells.2 7 _ rfl
        have kn0 := HN.out.cells.2 0 _ rfl
        have kn1 := HN.out.cells.2 1 _ rfl
        have kn2 := HN.out.cells.2 2 _ rfl
        go_wp2_with fail
        clear kc0 kc1 kc2 kc3 kc4 kc5 kc6 kc7 kn0 kn1 kn2
        generalize wr.alloc (.cells #[.func (.func 70) #[] #[], .func (.func 92) #[] #[.pointer (some ⟨g0, 0, none⟩)], .int .i64 8] 62) = W2 at *
        generalize wr.heap.size = gn at *
        refine (of0_any C W2).mono ?_
        rintro e W3 ⟨rfl, hb⟩
        replace hB := Kept.mk (hB.out.trans (hb.mono hB.out.size))
        replace HC := Kept.mk (HC.out.keep hb)
        replace Q0 := Kept.mk (Q0.out.keep hb)
        replace Q1 := Kept.mk (Q1.out.keep hb)
        replace Q2 := Kept.mk (Q2.out.keep hb)
        replace Q4 := Kept.mk (Q4.out.keep hb)
        replace Q5 := Kept.mk (Q5.out.keep hb)
        replace Q6 := Kept.mk (Q6.out.keep hb)
        replace Q7 := Kept.mk (Q7.out.keep hb)
        replace HN := Kept.mk (HN.out.keep hb)
        clear hb
        have kc0 := HC.out.cells.2 0 _ rfl
        have kc1 := HC.out.cells.2 1 _ rfl
        have kc2 := HC.out.cells.2 2 _ rfl
        have kc3 := HC.out.cells.2 3 _ rfl
        have kc4 := HC.out.cells.2 4 _ rfl
        have kc5 := HC.out.cells.2 5 _ rfl
        have kc6 := HC.out.cells.2 6 _ rfl
        have kc7 := HC.out.cells.2 7 _ rfl
        have kn0 := HN.out.cells.2 0 _ rfl
        have kn1 := HN.out.cells.2 1 _ rfl
        have kn2 := HN.out.cells.2 2 _ rfl
        go_wp2_with fail
        clear kc0 kc1 kc2 kc3 kc4 kc5 kc6 kc7 kn0 kn1 kn2
        refine (always1_any C g0 2 W3 Q0.out.1 Q0.out.2).mono ?_
        rintro e W4 ⟨rfl, hb⟩
        replace hB := Kept.mk (hB.out.trans (hb.mono hB.out.size))
        replace HC := Kept.mk (HC.out.keep hb)
        replace Q0 := Kept.mk (Q0.out.keep hb)
        replace Q1 := Kept.mk (Q1.out.keep hb)
        replace Q2 := Kept.mk (Q2.out.keep hb)
        replace Q4 := Kept.mk (Q4.out.keep hb)
        replace Q5 := Kept.mk (Q5.out.keep hb)
        replace Q6 := Kept.mk (Q6.out.keep hb)
        replace Q7 := Kept.mk (Q7.out.keep hb)
        replace HN := Kept.mk (HN.out.keep hb)
        clear hb
        have kn0 := HN.out.cells.2 0 _ rfl
        have kn1 := HN.out.cells.2 1 _ rfl
        have kn2 := HN.out.cells.2 2 _ rfl
        by_cases h1 : C.nodes < 2
        · have HZ := Kept.mk (okC_false (c := C) (k := 0) (by decide) (inC_no.2 (by omega)))
          go_wp2
          go_ret
          exact ⟨by rw [chkC_no HZ.out]; rfl, hB.out⟩
        · by_cases h2 : 8 < C.nodes
          · have HZ := Kept.mk (okC_false (c := C) (k := 0) (by decide) (inC_no.2 (by omega)))
            go_wp2
            go_ret
            exact ⟨by rw [chkC_no HZ.out]; rfl, hB.out⟩
          · have HA := Kept.mk (show atC C 0 = true from inC_iff.2 (by omega))
            go_wp2
            go_roundw
            case rel => exact ⟨1, by omega, by go_num, ⟨fun j hj => by by_cases e : j = 0; (· subst e; exact HA.out); (· exact A.out j (by omega))⟩, hB, HC, Q0, Q1, Q2, Q4, Q5, Q6, Q7⟩
            case measure => simp [intOf]
      · have hlt' : ((1 : Nat) : Int) < 8 := by decide
        have hx := i1
        have hb0 : Below wr.heap.size wr (wr.alloc (.cells #[.func (.func 72) #[] #[], .func (.func 92) #[] #[.pointer (some ⟨g1, 0, none⟩)], .int .i64 8] 62)) := (Below.refl _ _).alloc (Nat.le_refl _) _
        have HN := Kept.mk (Hold.new wr 62 [.func (.func 72) #[] #[], .func (.func 92) #[] #[.pointer (some ⟨g1, 0, none⟩)], .int .i64 8] wr.heap.size rfl)
        replace hB := Kept.mk (hB.out.trans (hb0.mono hB.out.size))
        replace HC := Kept.mk (HC.out.keep hb0)
        replace Q0 := Kept.mk (Q0.out.keep hb0)
        replace Q1 := Kept.mk (Q1.out.keep hb0)
        replace Q2 := Kept.mk (Q2.out.keep hb0)
        replace Q4 := Kept.mk (Q4.out.keep hb0)
        replace Q5 := Kept.mk (Q5.out.keep hb0)
        replace Q6 := Kept.mk (Q6.out.keep hb0)
        replace Q7 := Kept.mk (Q7.out.keep hb0)
        clear hb0 i0 i1 i2 i3 i4 i5 i6 i7
        have kc0 := HC.out.cells.2 0 _ rfl
        have kc1 := HC.out.cells.2 1 _ rfl
        have kc2 := HC.out.cells.2 2 _ rfl
        have kc3 := HC.out.cells.2 3 _ rfl
        have kc4 := HC.out.cells.2 4 _ rfl
        have kc5 := HC.out.cells.2 5 _ rfl
        have kc6 := HC.out.cells.2 6 _ rfl
        have kc7 := HC.out.cells.2 7 _ rfl
        have kn0 := HN.out.cells.2 0 _ rfl
        have kn1 := HN.out.cells.2 1 _ rfl
        have kn2 := HN.out.cells.2 2 _ rfl
        go_wp2_with fail
        clear kc0 kc1 kc2 kc3 kc4 kc5 kc6 kc7 kn0 kn1 kn2
        generalize wr.alloc (.cells #[.func (.func 72) #[] #[], .func (.func 92) #[] #[.pointer (some ⟨g1, 0, none⟩)], .int .i64 8] 62) = W2 at *
        generalize wr.heap.size = gn at *
        refine (of1_any C W2).mono ?_
        rintro e W3 ⟨rfl, hb⟩
        replace hB := Kept.mk (hB.out.trans (hb.mono hB.out.size))
        replace HC := Kept.mk (HC.out.keep hb)
        replace Q0 := Kept.mk (Q0.out.keep hb)
        replace Q1 := Kept.mk (Q1.out.keep hb)
        replace Q2 := Kept.mk (Q2.out.keep hb)
        replace Q4 := Kept.mk (Q4.out.keep hb)
        replace Q5 := Kept.mk (Q5.out.keep hb)
        replace Q6 := Kept.mk (Q6.out.keep hb)
        replace Q7 := Kept.mk (Q7.out.keep hb)
        replace HN := Kept.mk (HN.out.keep hb)
        clear hb
        have kc0 := HC.out.cells.2 0 _ rfl
        have kc1 := HC.out.cells.2 1 _ rfl
        have kc2 := HC.out.cells.2 2 _ rfl
        have kc3 := HC.out.cells.2 3 _ rfl
        have kc4 := HC.out.cells.2 4 _ rfl
        have kc5 := HC.out.cells.2 5 _ rfl
        have kc6 := HC.out.cells.2 6 _ rfl
        have kc7 := HC.out.cells.2 7 _ rfl
        have kn0 := HN.out.cells.2 0 _ rfl
        have kn1 := HN.out.cells.2 1 _ rfl
        have kn2 := HN.out.cells.2 2 _ rfl
        go_wp2_with fail
        clear kc0 kc1 kc2 kc3 kc4 kc5 kc6 kc7 kn0 kn1 kn2
        refine (always1_any C g1 1 W3 Q1.out.1 Q1.out.2).mono ?_
        rintro e W4 ⟨rfl, hb⟩
        replace hB := Kept.mk (hB.out.trans (hb.mono hB.out.size))
        replace HC := Kept.mk (HC.out.keep hb)
        replace Q0 := Kept.mk (Q0.out.keep hb)
        replace Q1 := Kept.mk (Q1.out.keep hb)
        replace Q2 := Kept.mk (Q2.out.keep hb)
        replace Q4 := Kept.mk (Q4.out.keep hb)
        replace Q5 := Kept.mk (Q5.out.keep hb)
        replace Q6 := Kept.mk (Q6.out.keep hb)
        replace Q7 := Kept.mk (Q7.out.keep hb)
        replace HN := Kept.mk (HN.out.keep hb)
        clear hb
        have kn0 := HN.out.cells.2 0 _ rfl
        have kn1 := HN.out.cells.2 1 _ rfl
        have kn2 := HN.out.cells.2 2 _ rfl
        by_cases h1 : C.slots < 1
        · have HZ := Kept.mk (okC_false (c := C) (k := 1) (by decide) (inC_no.2 (by omega)))
          go_wp2
          go_ret
          exact ⟨by rw [chkC_no HZ.out]; rfl, hB.out⟩
        · by_cases h2 : 8 < C.slots
          · have HZ := Kept.mk (okC_false (c := C) (k := 1) (by decide) (inC_no.2 (by omega)))
            go_wp2
            go_ret
            exact ⟨by rw [chkC_no HZ.out]; rfl, hB.out⟩
          · have HA := Kept.mk (show atC C 1 = true from inC_iff.2 (by omega))
            go_wp2
            go_roundw
            case rel => exact ⟨2, by omega, by go_num, ⟨fun j hj => by by_cases e : j = 1; (· subst e; exact HA.out); (· exact A.out j (by omega))⟩, hB, HC, Q0, Q1, Q2, Q4, Q5, Q6, Q7⟩
            case measure => simp [intOf]
      · have hlt' : ((2 : Nat) : Int) < 8 := by decide
        have hx := i2
        have hb0 : Below wr.heap.size wr (wr.alloc (.cells #[.func (.func 73) #[] #[], .func (.func 92) #[] #[.pointer (some ⟨g2, 0, none⟩)], .int .i64 6] 62)) := (Below.refl _ _).alloc (Nat.le_refl _) _
        have HN := Kept.mk (Hold.new wr 62 [.func (.func 73) #[] #[], .func (.func 92) #[] #[.pointer (some ⟨g2, 0, none⟩)], .int .i64 6] wr.heap.size rfl)
        replace hB := Kept.mk (hB.out.trans (hb0.mono hB.out.size))
        replace HC := Kept.mk (HC.out.keep hb0)
        replace Q0 := Kept.mk (Q0.out.keep hb0)
        replace Q1 := Kept.mk (Q1.out.keep hb0)
        replace Q2 := Kept.mk (Q2.out.keep hb0)
        replace Q4 := Kept.mk (Q4.out.keep hb0)
        replace Q5 := Kept.mk (Q5.out.keep hb0)
        replace Q6 := Kept.mk (Q6.out.keep hb0)
        replace Q7 := Kept.mk (Q7.out.keep hb0)
        clear hb0 i0 i1 i2 i3 i4 i5 i6 i7
        have kc0 := HC.out.cells.2 0 _ rfl
        have kc1 := HC.out.cells.2 1 _ rfl
        have kc2 := HC.out.cells.2 2 _ rfl
        have kc3 := HC.out.cells.2 3 _ rfl
        have kc4 := HC.out.cells.2 4 _ rfl
        have kc5 := HC.out.cells.2 5 _ rfl
        have kc6 := HC.out.cells.2 6 _ rfl
        have kc7 := HC.out.cells.2 7 _ rfl
        have kn0 := HN.out.cells.2 0 _ rfl
        have kn1 := HN.out.cells.2 1 _ rfl
        have kn2 := HN.out.cells.2 2 _ rfl
        go_wp2_with fail
        clear kc0 kc1 kc2 kc3 kc4 kc5 kc6 kc7 kn0 kn1 kn2
        generalize wr.alloc (.cells #[.func (.func 73) #[] #[], .func (.func 92) #[] #[.pointer (some ⟨g2, 0, none⟩)], .int .i64 6] 62) = W2 at *
        generalize wr.heap.size = gn at *
        refine (of2_any C W2).mono ?_
        rintro e W3 ⟨rfl, hb⟩
        replace hB := Kept.mk (hB.out.trans (hb.mono hB.out.size))
        replace HC := Kept.mk (HC.out.keep hb)
        replace Q0 := Kept.mk (Q0.out.keep hb)
        replace Q1 := Kept.mk (Q1.out.keep hb)
        replace Q2 := Kept.mk (Q2.out.keep hb)
        replace Q4 := Kept.mk (Q4.out.keep hb)
        replace Q5 := Kept.mk (Q5.out.keep hb)
        replace Q6 := Kept.mk (Q6.out.keep hb)
        replace Q7 := Kept.mk (Q7.out.keep hb)
        replace HN := Kept.mk (HN.out.keep hb)
        clear hb
        have kc0 := HC.out.cells.2 0 _ rfl
        have kc1 := HC.out.cells.2 1 _ rfl
        have kc2 := HC.out.cells.2 2 _ rfl
        have kc3 := HC.out.cells.2 3 _ rfl
        have kc4 := HC.out.cells.2 4 _ rfl
        have kc5 := HC.out.cells.2 5 _ rfl
        have kc6 := HC.out.cells.2 6 _ rfl
        have kc7 := HC.out.cells.2 7 _ rfl
        have kn0 := HN.out.cells.2 0 _ rfl
        have kn1 := HN.out.cells.2 1 _ rfl
        have kn2 := HN.out.cells.2 2 _ rfl
        go_wp2_with fail
        clear kc0 kc1 kc2 kc3 kc4 kc5 kc6 kc7 kn0 kn1 kn2
        refine (always1_any C g2 3 W3 Q2.out.1 Q2.out.2).mono ?_
        rintro e W4 ⟨rfl, hb⟩
        replace hB := Kept.mk (hB.out.trans (hb.mono hB.out.size))
        replace HC := Kept.mk (HC.out.keep hb)
        replace Q0 := Kept.mk (Q0.out.keep hb)
        replace Q1 := Kept.mk (Q1.out.keep hb)
        replace Q2 := Kept.mk (Q2.out.keep hb)
        replace Q4 := Kept.mk (Q4.out.keep hb)
        replace Q5 := Kept.mk (Q5.out.keep hb)
        replace Q6 := Kept.mk (Q6.out.keep hb)
        replace Q7 := Kept.mk (Q7.out.keep hb)
        replace HN := Kept.mk (HN.out.keep hb)
        clear hb
        have kn0 := HN.out.cells.2 0 _ rfl
        have kn1 := HN.out.cells.2 1 _ rfl
        have kn2 := HN.out.cells.2 2 _ rfl
        by_cases h1 : C.pages < 3
        · have HZ := Kept.mk (okC_false (c := C) (k := 2) (by decide) (inC_no.2 (by omega)))
          go_wp2
          go_ret
          exact ⟨by rw [chkC_no HZ.out]; rfl, hB.out⟩
        · by_cases h2 : 6 < C.pages
          · have HZ := Kept.mk (okC_false (c := C) (k := 2) (by decide) (inC_no.2 (by omega)))
            go_wp2
            go_ret
            exact ⟨by rw [chkC_no HZ.out]; rfl, hB.out⟩
          · have HA := Kept.mk (show atC C 2 = true from inC_iff.2 (by omega))
            go_wp2
            go_roundw
            case rel => exact ⟨3, by omega, by go_num, ⟨fun j hj => by by_cases e : j = 2; (· subst e; exact HA.out); (· exact A.out j (by omega))⟩, hB, HC, Q0, Q1, Q2, Q4, Q5, Q6, Q7⟩
            case measure => simp [intOf]
      · have hlt' : ((3 : Nat) : Int) < 8 := by decide
        have hx := i3
        have hb0 : Below wr.heap.size wr (wr.alloc (.cells #[.func (.func 74) #[] #[], .func (.func 75) #[] #[], .int .i64 24] 62)) := (Below.refl _ _).alloc (Nat.le_refl _) _
        have HN := Kept.mk (Hold.new wr 62 [.func (.func 74) #[] #[], .func (.func 75) #[] #[], .int .i64 24] wr.heap.size rfl)
        replace hB := Kept.mk (hB.out.trans (hb0.mono hB.out.size))
        replace HC := Kept.mk (HC.out.keep hb0)
        replace Q0 := Kept.mk (Q0.out.keep hb0)
        replace Q1 := Kept.mk (Q1.out.keep hb0)
        replace Q2 := Kept.mk (Q2.out.keep hb0)
        replace Q4 := Kept.mk (Q4.out.keep hb0)
        replace Q5 := Kept.mk (Q5.out.keep hb0)
        replace Q6 := Kept.mk (Q6.out.keep hb0)
        replace Q7 := Kept.mk (Q7.out.keep hb0)
        clear hb0 i0 i1 i2 i3 i4 i5 i6 i7
        have kc0 := HC.out.cells.2 0 _ rfl
        have kc1 := HC.out.cells.2 1 _ rfl
        have kc2 := HC.out.cells.2 2 _ rfl
        have kc3 := HC.out.cells.2 3 _ rfl
        have kc4 := HC.out.cells.2 4 _ rfl
        have kc5 := HC.out.cells.2 5 _ rfl
        have kc6 := HC.out.cells.2 6 _ rfl
        have kc7 := HC.out.cells.2 7 _ rfl
        have kn0 := HN.out.cells.2 0 _ rfl
        have kn1 := HN.out.cells.2 1 _ rfl
        have kn2 := HN.out.cells.2 2 _ rfl
        go_wp2_with fail
        clear kc0 kc1 kc2 kc3 kc4 kc5 kc6 kc7 kn0 kn1 kn2
        generalize wr.alloc (.cells #[.func (.func 74) #[] #[], .func (.func 75) #[] #[], .int .i64 24] 62) = W2 at *
        generalize wr.heap.size = gn at *
        have hs := inC_iff.1 (A.out 1 (by decide))
        refine (of3_any C W2).mono ?_
        rintro e W3 ⟨rfl, hb⟩
        replace hB := Kept.mk (hB.out.trans (hb.mono hB.out.size))
        replace HC := Kept.mk (HC.out.keep hb)
        replace Q0 := Kept.mk (Q0.out.keep hb)
        replace Q1 := Kept.mk (Q1.out.keep hb)
        replace Q2 := Kept.mk (Q2.out.keep hb)
        replace Q4 := Kept.mk (Q4.out.keep hb)
        replace Q5 := Kept.mk (Q5.out.keep hb)
        replace Q6 := Kept.mk (Q6.out.keep hb)
        replace Q7 := Kept.mk (Q7.out.keep hb)
        replace HN := Kept.mk (HN.out.keep hb)
        clear hb
        have kc0 := HC.out.cells.2 0 _ rfl
        have kc1 := HC.out.cells.2 1 _ rfl
        have kc2 := HC.out.cells.2 2 _ rfl
        have kc3 := HC.out.cells.2 3 _ rfl
        have kc4 := HC.out.cells.2 4 _ rfl
        have kc5 := HC.out.cells.2 5 _ rfl
        have kc6 := HC.out.cells.2 6 _ rfl
        have kc7 := HC.out.cells.2 7 _ rfl
        have kn0 := HN.out.cells.2 0 _ rfl
        have kn1 := HN.out.cells.2 1 _ rfl
        have kn2 := HN.out.cells.2 2 _ rfl
        go_wp2_with fail
        clear kc0 kc1 kc2 kc3 kc4 kc5 kc6 kc7 kn0 kn1 kn2
        refine (least3_any C W3 hs.1 hs.2).mono ?_
        rintro e W4 ⟨rfl, hb⟩
        replace hB := Kept.mk (hB.out.trans (hb.mono hB.out.size))
        replace HC := Kept.mk (HC.out.keep hb)
        replace Q0 := Kept.mk (Q0.out.keep hb)
        replace Q1 := Kept.mk (Q1.out.keep hb)
        replace Q2 := Kept.mk (Q2.out.keep hb)
        replace Q4 := Kept.mk (Q4.out.keep hb)
        replace Q5 := Kept.mk (Q5.out.keep hb)
        replace Q6 := Kept.mk (Q6.out.keep hb)
        replace Q7 := Kept.mk (Q7.out.keep hb)
        replace HN := Kept.mk (HN.out.keep hb)
        clear hb
        have kn0 := HN.out.cells.2 0 _ rfl
        have kn1 := HN.out.cells.2 1 _ rfl
        have kn2 := HN.out.cells.2 2 _ rfl
        by_cases h1 : C.room < C.slots + 3
        · have HZ := Kept.mk (okC_false (c := C) (k := 3) (by decide) (inC_no.2 (by omega)))
          go_wp2
          go_ret
          exact ⟨by rw [chkC_no HZ.out]; rfl, hB.out⟩
        · by_cases h2 : 24 < C.room
          · have HZ := Kept.mk (okC_false (c := C) (k := 3) (by decide) (inC_no.2 (by omega)))
            go_wp2
            go_ret
            exact ⟨by rw [chkC_no HZ.out]; rfl, hB.out⟩
          · have HA := Kept.mk (show atC C 3 = true from inC_iff.2 (by omega))
            go_wp2
            go_roundw
            case rel => exact ⟨4, by omega, by go_num, ⟨fun j hj => by by_cases e : j = 3; (· subst e; exact HA.out); (· exact A.out j (by omega))⟩, hB, HC, Q0, Q1, Q2, Q4, Q5, Q6, Q7⟩
            case measure => simp [intOf]
      · have hlt' : ((4 : Nat) : Int) < 8 := by decide
        have hx := i4
        have hb0 : Below wr.heap.size wr (wr.alloc (.cells #[.func (.func 76) #[] #[], .func (.func 92) #[] #[.pointer (some ⟨g4, 0, none⟩)], .int .i64 4] 62)) := (Below.refl _ _).alloc (Nat.le_refl _) _
        have HN := Kept.mk (Hold.new wr 62 [.func (.func 76) #[] #[], .func (.func 92) #[] #[.pointer (some ⟨g4, 0, none⟩)], .int .i64 4] wr.heap.size rfl)
        replace hB := Kept.mk (hB.out.trans (hb0.mono hB.out.size))
        replace HC := Kept.mk (HC.out.keep hb0)
        replace Q0 := Kept.mk (Q0.out.keep hb0)
        replace Q1 := Kept.mk (Q1.out.keep hb0)
        replace Q2 := Kept.mk (Q2.out.keep hb0)
        replace Q4 := Kept.mk (Q4.out.keep hb0)
        replace Q5 := Kept.mk (Q5.out.keep hb0)
        replace Q6 := Kept.mk (Q6.out.keep hb0)
        replace Q7 := Kept.mk (Q7.out.keep hb0)
        clear hb0 i0 i1 i2 i3 i4 i5 i6 i7
        have kc0 := HC.out.cells.2 0 _ rfl
        have kc1 := HC.out.cells.2 1 _ rfl
        have kc2 := HC.out.cells.2 2 _ rfl
        have kc3 := HC.out.cells.2 3 _ rfl
        have kc4 := HC.out.cells.2 4 _ rfl
        have kc5 := HC.out.cells.2 5 _ rfl
        have kc6 := HC.out.cells.2 6 _ rfl
        have kc7 := HC.out.cells.2 7 _ rfl
        have kn0 := HN.out.cells.2 0 _ rfl
        have kn1 := HN.out.cells.2 1 _ rfl
        have kn2 := HN.out.cells.2 2 _ rfl
        go_wp2_with fail
        clear kc0 kc1 kc2 kc3 kc4 kc5 kc6 kc7 kn0 kn1 kn2
        generalize wr.alloc (.cells #[.func (.func 76) #[] #[], .func (.func 92) #[] #[.pointer (some ⟨g4, 0, none⟩)], .int .i64 4] 62) = W2 at *
        generalize wr.heap.size = gn at *
        refine (of4_any C W2).mono ?_
        rintro e W3 ⟨rfl, hb⟩
        replace hB := Kept.mk (hB.out.trans (hb.mono hB.out.size))
        replace HC := Kept.mk (HC.out.keep hb)
        replace Q0 := Kept.mk (Q0.out.keep hb)
        replace Q1 := Kept.mk (Q1.out.keep hb)
        replace Q2 := Kept.mk (Q2.out.keep hb)
        replace Q4 := Kept.mk (Q4.out.keep hb)
        replace Q5 := Kept.mk (Q5.out.keep hb)
        replace Q6 := Kept.mk (Q6.out.keep hb)
        replace Q7 := Kept.mk (Q7.out.keep hb)
        replace HN := Kept.mk (HN.out.keep hb)
        clear hb
        have kc0 := HC.out.cells.2 0 _ rfl
        have kc1 := HC.out.cells.2 1 _ rfl
        have kc2 := HC.out.cells.2 2 _ rfl
        have kc3 := HC.out.cells.2 3 _ rfl
        have kc4 := HC.out.cells.2 4 _ rfl
        have kc5 := HC.out.cells.2 5 _ rfl
        have kc6 := HC.out.cells.2 6 _ rfl
        have kc7 := HC.out.cells.2 7 _ rfl
        have kn0 := HN.out.cells.2 0 _ rfl
        have kn1 := HN.out.cells.2 1 _ rfl
        have kn2 := HN.out.cells.2 2 _ rfl
        go_wp2_with fail
        clear kc0 kc1 kc2 kc3 kc4 kc5 kc6 kc7 kn0 kn1 kn2
        refine (always1_any C g4 1 W3 Q4.out.1 Q4.out.2).mono ?_
        rintro e W4 ⟨rfl, hb⟩
        replace hB := Kept.mk (hB.out.trans (hb.mono hB.out.size))
        replace HC := Kept.mk (HC.out.keep hb)
        replace Q0 := Kept.mk (Q0.out.keep hb)
        replace Q1 := Kept.mk (Q1.out.keep hb)
        replace Q2 := Kept.mk (Q2.out.keep hb)
        replace Q4 := Kept.mk (Q4.out.keep hb)
        replace Q5 := Kept.mk (Q5.out.keep hb)
        replace Q6 := Kept.mk (Q6.out.keep hb)
        replace Q7 := Kept.mk (Q7.out.keep hb)
        replace HN := Kept.mk (HN.out.keep hb)
        clear hb
        have kn0 := HN.out.cells.2 0 _ rfl
        have kn1 := HN.out.cells.2 1 _ rfl
        have kn2 := HN.out.cells.2 2 _ rfl
        by_cases h1 : C.chunk < 1
        · have HZ := Kept.mk (okC_false (c := C) (k := 4) (by decide) (inC_no.2 (by omega)))
          go_wp2
          go_ret
          exact ⟨by rw [chkC_no HZ.out]; rfl, hB.out⟩
        · by_cases h2 : 4 < C.chunk
          · have HZ := Kept.mk (okC_false (c := C) (k := 4) (by decide) (inC_no.2 (by omega)))
            go_wp2
            go_ret
            exact ⟨by rw [chkC_no HZ.out]; rfl, hB.out⟩
          · have HA := Kept.mk (show atC C 4 = true from inC_iff.2 (by omega))
            go_wp2
            go_roundw
            case rel => exact ⟨5, by omega, by go_num, ⟨fun j hj => by by_cases e : j = 4; (· subst e; exact HA.out); (· exact A.out j (by omega))⟩, hB, HC, Q0, Q1, Q2, Q4, Q5, Q6, Q7⟩
            case measure => simp [intOf]
      · have hlt' : ((5 : Nat) : Int) < 8 := by decide
        have hx := i5
        have hb0 : Below wr.heap.size wr (wr.alloc (.cells #[.func (.func 77) #[] #[], .func (.func 92) #[] #[.pointer (some ⟨g5, 0, none⟩)], .int .i64 8] 62)) := (Below.refl _ _).alloc (Nat.le_refl _) _
        have HN := Kept.mk (Hold.new wr 62 [.func (.func 77) #[] #[], .func (.func 92) #[] #[.pointer (some ⟨g5, 0, none⟩)], .int .i64 8] wr.heap.size rfl)
        replace hB := Kept.mk (hB.out.trans (hb0.mono hB.out.size))
        replace HC := Kept.mk (HC.out.keep hb0)
        replace Q0 := Kept.mk (Q0.out.keep hb0)
        replace Q1 := Kept.mk (Q1.out.keep hb0)
        replace Q2 := Kept.mk (Q2.out.keep hb0)
        replace Q4 := Kept.mk (Q4.out.keep hb0)
        replace Q5 := Kept.mk (Q5.out.keep hb0)
        replace Q6 := Kept.mk (Q6.out.keep hb0)
        replace Q7 := Kept.mk (Q7.out.keep hb0)
        clear hb0 i0 i1 i2 i3 i4 i5 i6 i7
        have kc0 := HC.out.cells.2 0 _ rfl
        have kc1 := HC.out.cells.2 1 _ rfl
        have kc2 := HC.out.cells.2 2 _ rfl
        have kc3 := HC.out.cells.2 3 _ rfl
        have kc4 := HC.out.cells.2 4 _ rfl
        have kc5 := HC.out.cells.2 5 _ rfl
        have kc6 := HC.out.cells.2 6 _ rfl
        have kc7 := HC.out.cells.2 7 _ rfl
        have kn0 := HN.out.cells.2 0 _ rfl
        have kn1 := HN.out.cells.2 1 _ rfl
        have kn2 := HN.out.cells.2 2 _ rfl
        go_wp2_with fail
        clear kc0 kc1 kc2 kc3 kc4 kc5 kc6 kc7 kn0 kn1 kn2
        generalize wr.alloc (.cells #[.func (.func 77) #[] #[], .func (.func 92) #[] #[.pointer (some ⟨g5, 0, none⟩)], .int .i64 8] 62) = W2 at *
        generalize wr.heap.size = gn at *
        refine (of5_any C W2).mono ?_
        rintro e W3 ⟨rfl, hb⟩
        replace hB := Kept.mk (hB.out.trans (hb.mono hB.out.size))
        replace HC := Kept.mk (HC.out.keep hb)
        replace Q0 := Kept.mk (Q0.out.keep hb)
        replace Q1 := Kept.mk (Q1.out.keep hb)
        replace Q2 := Kept.mk (Q2.out.keep hb)
        replace Q4 := Kept.mk (Q4.out.keep hb)
        replace Q5 := Kept.mk (Q5.out.keep hb)
        replace Q6 := Kept.mk (Q6.out.keep hb)
        replace Q7 := Kept.mk (Q7.out.keep hb)
        replace HN := Kept.mk (HN.out.keep hb)
        clear hb
        have kc0 := HC.out.cells.2 0 _ rfl
        have kc1 := HC.out.cells.2 1 _ rfl
        have kc2 := HC.out.cells.2 2 _ rfl
        have kc3 := HC.out.cells.2 3 _ rfl
        have kc4 := HC.out.cells.2 4 _ rfl
        have kc5 := HC.out.cells.2 5 _ rfl
        have kc6 := HC.out.cells.2 6 _ rfl
        have kc7 := HC.out.cells.2 7 _ rfl
        have kn0 := HN.out.cells.2 0 _ rfl
        have kn1 := HN.out.cells.2 1 _ rfl
        have kn2 := HN.out.cells.2 2 _ rfl
        go_wp2_with fail
        clear kc0 kc1 kc2 kc3 kc4 kc5 kc6 kc7 kn0 kn1 kn2
        refine (always1_any C g5 1 W3 Q5.out.1 Q5.out.2).mono ?_
        rintro e W4 ⟨rfl, hb⟩
        replace hB := Kept.mk (hB.out.trans (hb.mono hB.out.size))
        replace HC := Kept.mk (HC.out.keep hb)
        replace Q0 := Kept.mk (Q0.out.keep hb)
        replace Q1 := Kept.mk (Q1.out.keep hb)
        replace Q2 := Kept.mk (Q2.out.keep hb)
        replace Q4 := Kept.mk (Q4.out.keep hb)
        replace Q5 := Kept.mk (Q5.out.keep hb)
        replace Q6 := Kept.mk (Q6.out.keep hb)
        replace Q7 := Kept.mk (Q7.out.keep hb)
        replace HN := Kept.mk (HN.out.keep hb)
        clear hb
        have kn0 := HN.out.cells.2 0 _ rfl
        have kn1 := HN.out.cells.2 1 _ rfl
        have kn2 := HN.out.cells.2 2 _ rfl
        by_cases h1 : C.buffer < 1
        · have HZ := Kept.mk (okC_false (c := C) (k := 5) (by decide) (inC_no.2 (by omega)))
          go_wp2
          go_ret
          exact ⟨by rw [chkC_no HZ.out]; rfl, hB.out⟩
        · by_cases h2 : 8 < C.buffer
          · have HZ := Kept.mk (okC_false (c := C) (k := 5) (by decide) (inC_no.2 (by omega)))
            go_wp2
            go_ret
            exact ⟨by rw [chkC_no HZ.out]; rfl, hB.out⟩
          · have HA := Kept.mk (show atC C 5 = true from inC_iff.2 (by omega))
            go_wp2
            go_roundw
            case rel => exact ⟨6, by omega, by go_num, ⟨fun j hj => by by_cases e : j = 5; (· subst e; exact HA.out); (· exact A.out j (by omega))⟩, hB, HC, Q0, Q1, Q2, Q4, Q5, Q6, Q7⟩
            case measure => simp [intOf]
      · have hlt' : ((6 : Nat) : Int) < 8 := by decide
        have hx := i6
        have hb0 : Below wr.heap.size wr (wr.alloc (.cells #[.func (.func 78) #[] #[], .func (.func 92) #[] #[.pointer (some ⟨g6, 0, none⟩)], .int .i64 8] 62)) := (Below.refl _ _).alloc (Nat.le_refl _) _
        have HN := Kept.mk (Hold.new wr 62 [.func (.func 78) #[] #[], .func (.func 92) #[] #[.pointer (some ⟨g6, 0, none⟩)], .int .i64 8] wr.heap.size rfl)
        replace hB := Kept.mk (hB.out.trans (hb0.mono hB.out.size))
        replace HC := Kept.mk (HC.out.keep hb0)
        replace Q0 := Kept.mk (Q0.out.keep hb0)
        replace Q1 := Kept.mk (Q1.out.keep hb0)
        replace Q2 := Kept.mk (Q2.out.keep hb0)
        replace Q4 := Kept.mk (Q4.out.keep hb0)
        replace Q5 := Kept.mk (Q5.out.keep hb0)
        replace Q6 := Kept.mk (Q6.out.keep hb0)
        replace Q7 := Kept.mk (Q7.out.keep hb0)
        clear hb0 i0 i1 i2 i3 i4 i5 i6 i7
        have kc0 := HC.out.cells.2 0 _ rfl
        have kc1 := HC.out.cells.2 1 _ rfl
        have kc2 := HC.out.cells.2 2 _ rfl
        have kc3 := HC.out.cells.2 3 _ rfl
        have kc4 := HC.out.cells.2 4 _ rfl
        have kc5 := HC.out.cells.2 5 _ rfl
        have kc6 := HC.out.cells.2 6 _ rfl
        have kc7 := HC.out.cells.2 7 _ rfl
        have kn0 := HN.out.cells.2 0 _ rfl
        have kn1 := HN.out.cells.2 1 _ rfl
        have kn2 := HN.out.cells.2 2 _ rfl
        go_wp2_with fail
        clear kc0 kc1 kc2 kc3 kc4 kc5 kc6 kc7 kn0 kn1 kn2
        generalize wr.alloc (.cells #[.func (.func 78) #[] #[], .func (.func 92) #[] #[.pointer (some ⟨g6, 0, none⟩)], .int .i64 8] 62) = W2 at *
        generalize wr.heap.size = gn at *
        refine (of6_any C W2).mono ?_
        rintro e W3 ⟨rfl, hb⟩
        replace hB := Kept.mk (hB.out.trans (hb.mono hB.out.size))
        replace HC := Kept.mk (HC.out.keep hb)
        replace Q0 := Kept.mk (Q0.out.keep hb)
        replace Q1 := Kept.mk (Q1.out.keep hb)
        replace Q2 := Kept.mk (Q2.out.keep hb)
        replace Q4 := Kept.mk (Q4.out.keep hb)
        replace Q5 := Kept.mk (Q5.out.keep hb)
        replace Q6 := Kept.mk (Q6.out.keep hb)
        replace Q7 := Kept.mk (Q7.out.keep hb)
        replace HN := Kept.mk (HN.out.keep hb)
        clear hb
        have kc0 := HC.out.cells.2 0 _ rfl
        have kc1 := HC.out.cells.2 1 _ rfl
        have kc2 := HC.out.cells.2 2 _ rfl
        have kc3 := HC.out.cells.2 3 _ rfl
        have kc4 := HC.out.cells.2 4 _ rfl
        have kc5 := HC.out.cells.2 5 _ rfl
        have kc6 := HC.out.cells.2 6 _ rfl
        have kc7 := HC.out.cells.2 7 _ rfl
        have kn0 := HN.out.cells.2 0 _ rfl
        have kn1 := HN.out.cells.2 1 _ rfl
        have kn2 := HN.out.cells.2 2 _ rfl
        go_wp2_with fail
        clear kc0 kc1 kc2 kc3 kc4 kc5 kc6 kc7 kn0 kn1 kn2
        refine (always1_any C g6 2 W3 Q6.out.1 Q6.out.2).mono ?_
        rintro e W4 ⟨rfl, hb⟩
        replace hB := Kept.mk (hB.out.trans (hb.mono hB.out.size))
        replace HC := Kept.mk (HC.out.keep hb)
        replace Q0 := Kept.mk (Q0.out.keep hb)
        replace Q1 := Kept.mk (Q1.out.keep hb)
        replace Q2 := Kept.mk (Q2.out.keep hb)
        replace Q4 := Kept.mk (Q4.out.keep hb)
        replace Q5 := Kept.mk (Q5.out.keep hb)
        replace Q6 := Kept.mk (Q6.out.keep hb)
        replace Q7 := Kept.mk (Q7.out.keep hb)
        replace HN := Kept.mk (HN.out.keep hb)
        clear hb
        have kn0 := HN.out.cells.2 0 _ rfl
        have kn1 := HN.out.cells.2 1 _ rfl
        have kn2 := HN.out.cells.2 2 _ rfl
        by_cases h1 : C.queue < 2
        · have HZ := Kept.mk (okC_false (c := C) (k := 6) (by decide) (inC_no.2 (by omega)))
          go_wp2
          go_ret
          exact ⟨by rw [chkC_no HZ.out]; rfl, hB.out⟩
        · by_cases h2 : 8 < C.queue
          · have HZ := Kept.mk (okC_false (c := C) (k := 6) (by decide) (inC_no.2 (by omega)))
            go_wp2
            go_ret
            exact ⟨by rw [chkC_no HZ.out]; rfl, hB.out⟩
          · have HA := Kept.mk (show atC C 6 = true from inC_iff.2 (by omega))
            go_wp2
            go_roundw
            case rel => exact ⟨7, by omega, by go_num, ⟨fun j hj => by by_cases e : j = 6; (· subst e; exact HA.out); (· exact A.out j (by omega))⟩, hB, HC, Q0, Q1, Q2, Q4, Q5, Q6, Q7⟩
            case measure => simp [intOf]
      · have hlt' : ((7 : Nat) : Int) < 8 := by decide
        have hx := i7
        have hb0 : Below wr.heap.size wr (wr.alloc (.cells #[.func (.func 79) #[] #[], .func (.func 92) #[] #[.pointer (some ⟨g7, 0, none⟩)], .int .i64 2147483647] 62)) := (Below.refl _ _).alloc (Nat.le_refl _) _
        have HN := Kept.mk (Hold.new wr 62 [.func (.func 79) #[] #[], .func (.func 92) #[] #[.pointer (some ⟨g7, 0, none⟩)], .int .i64 2147483647] wr.heap.size rfl)
        replace hB := Kept.mk (hB.out.trans (hb0.mono hB.out.size))
        replace HC := Kept.mk (HC.out.keep hb0)
        replace Q0 := Kept.mk (Q0.out.keep hb0)
        replace Q1 := Kept.mk (Q1.out.keep hb0)
        replace Q2 := Kept.mk (Q2.out.keep hb0)
        replace Q4 := Kept.mk (Q4.out.keep hb0)
        replace Q5 := Kept.mk (Q5.out.keep hb0)
        replace Q6 := Kept.mk (Q6.out.keep hb0)
        replace Q7 := Kept.mk (Q7.out.keep hb0)
        clear hb0 i0 i1 i2 i3 i4 i5 i6 i7
        have kc0 := HC.out.cells.2 0 _ rfl
        have kc1 := HC.out.cells.2 1 _ rfl
        have kc2 := HC.out.cells.2 2 _ rfl
        have kc3 := HC.out.cells.2 3 _ rfl
        have kc4 := HC.out.cells.2 4 _ rfl
        have kc5 := HC.out.cells.2 5 _ rfl
        have kc6 := HC.out.cells.2 6 _ rfl
        have kc7 := HC.out.cells.2 7 _ rfl
        have kn0 := HN.out.cells.2 0 _ rfl
        have kn1 := HN.out.cells.2 1 _ rfl
        have kn2 := HN.out.cells.2 2 _ rfl
        go_wp2_with fail
        clear kc0 kc1 kc2 kc3 kc4 kc5 kc6 kc7 kn0 kn1 kn2
        generalize wr.alloc (.cells #[.func (.func 79) #[] #[], .func (.func 92) #[] #[.pointer (some ⟨g7, 0, none⟩)], .int .i64 2147483647] 62) = W2 at *
        generalize wr.heap.size = gn at *
        refine (of7_any C W2).mono ?_
        rintro e W3 ⟨rfl, hb⟩
        replace hB := Kept.mk (hB.out.trans (hb.mono hB.out.size))
        replace HC := Kept.mk (HC.out.keep hb)
        replace Q0 := Kept.mk (Q0.out.keep hb)
        replace Q1 := Kept.mk (Q1.out.keep hb)
        replace Q2 := Kept.mk (Q2.out.keep hb)
        replace Q4 := Kept.mk (Q4.out.keep hb)
        replace Q5 := Kept.mk (Q5.out.keep hb)
        replace Q6 := Kept.mk (Q6.out.keep hb)
        replace Q7 := Kept.mk (Q7.out.keep hb)
        replace HN := Kept.mk (HN.out.keep hb)
        clear hb
        have kc0 := HC.out.cells.2 0 _ rfl
        have kc1 := HC.out.cells.2 1 _ rfl
        have kc2 := HC.out.cells.2 2 _ rfl
        have kc3 := HC.out.cells.2 3 _ rfl
        have kc4 := HC.out.cells.2 4 _ rfl
        have kc5 := HC.out.cells.2 5 _ rfl
        have kc6 := HC.out.cells.2 6 _ rfl
        have kc7 := HC.out.cells.2 7 _ rfl
        have kn0 := HN.out.cells.2 0 _ rfl
        have kn1 := HN.out.cells.2 1 _ rfl
        have kn2 := HN.out.cells.2 2 _ rfl
        go_wp2_with fail
        clear kc0 kc1 kc2 kc3 kc4 kc5 kc6 kc7 kn0 kn1 kn2
        refine (always1_any C g7 1 W3 Q7.out.1 Q7.out.2).mono ?_
        rintro e W4 ⟨rfl, hb⟩
        replace hB := Kept.mk (hB.out.trans (hb.mono hB.out.size))
        replace HC := Kept.mk (HC.out.keep hb)
        replace Q0 := Kept.mk (Q0.out.keep hb)
        replace Q1 := Kept.mk (Q1.out.keep hb)
        replace Q2 := Kept.mk (Q2.out.keep hb)
        replace Q4 := Kept.mk (Q4.out.keep hb)
        replace Q5 := Kept.mk (Q5.out.keep hb)
        replace Q6 := Kept.mk (Q6.out.keep hb)
        replace Q7 := Kept.mk (Q7.out.keep hb)
        replace HN := Kept.mk (HN.out.keep hb)
        clear hb
        have kn0 := HN.out.cells.2 0 _ rfl
        have kn1 := HN.out.cells.2 1 _ rfl
        have kn2 := HN.out.cells.2 2 _ rfl
        by_cases h1 : C.wear < 1
        · have HZ := Kept.mk (okC_false (c := C) (k := 7) (by decide) (inC_no.2 (by omega)))
          go_wp2
          go_ret
          exact ⟨by rw [chkC_no HZ.out]; rfl, hB.out⟩
        · by_cases h2 : 2147483647 < C.wear
          · have HZ := Kept.mk (okC_false (c := C) (k := 7) (by decide) (inC_no.2 (by omega)))
            go_wp2
            go_ret
            exact ⟨by rw [chkC_no HZ.out]; rfl, hB.out⟩
          · have HA := Kept.mk (show atC C 7 = true from inC_iff.2 (by omega))
            go_wp2
            go_roundw
            case rel => exact ⟨8, by omega, by go_num, ⟨fun j hj => by by_cases e : j = 7; (· subst e; exact HA.out); (· exact A.out j (by omega))⟩, hB, HC, Q0, Q1, Q2, Q4, Q5, Q6, Q7⟩
            case measure => simp [intOf]
    · obtain rfl : k = 8 := by omega
      have HZ := Kept.mk (okC_iff.2 A.out)
      have hlt' : ¬ ((8 : Nat) : Int) < 8 := by decide
      go_wp2
      go_ret
      exact ⟨by rw [chkC_yes HZ.out]; rfl, hB.out⟩
end Go.Proofs.Ytpjafjnokgeifaa
end
section
namespace Go.Proofs.Ytpjafjnokgeifaa
open Go.RowKit
set_option linter.unusedVariables false
set_option linter.unusedSimpArgs false
attribute [local irreducible] setN

theorem eql_t {P : Program} {t : TypeId} {k : IntKind} (x y : Int) (h : x = y) (w : World) : (binOp .eql t (.int k x) (.int k y)).run P w = .ok (.bool true) w := by simp [go_sem, h]
theorem eql_f {P : Program} {t : TypeId} {k : IntKind} (x y : Int) (h : ¬ (x = y)) (w : World) : (binOp .eql t (.int k x) (.int k y)).run P w = .ok (.bool false) w := by simp [go_sem]; omega
theorem neq_t {P : Program} {t : TypeId} {k : IntKind} (x y : Int) (h : x ≠ y) (w : World) : (binOp .neq t (.int k x) (.int k y)).run P w = .ok (.bool true) w := by simp [go_sem, h]
theorem neq_f {P : Program} {t : TypeId} {k : IntKind} (x y : Int) (h : ¬ (x ≠ y)) (w : World) : (binOp .neq t (.int k x) (.int k y)).run P w = .ok (.bool false) w := by simp [go_sem]; omega
theorem lss_t {P : Program} {t : TypeId} {k : IntKind} (x y : Int) (h : x < y) (w : World) : (binOp .lss t (.int k x) (.int k y)).run P w = .ok (.bool true) w := by simp [go_sem, h]
theorem lss_f {P : Program} {t : TypeId} {k : IntKind} (x y : Int) (h : ¬ (x < y)) (w : World) : (binOp .lss t (.int k x) (.int k y)).run P w = .ok (.bool false) w := by simp [go_sem]; omega
theorem gtr_t {P : Program} {t : TypeId} {k : IntKind} (x y : Int) (h : y < x) (w : World) : (binOp .gtr t (.int k x) (.int k y)).run P w = .ok (.bool true) w := by simp [go_sem, h]
theorem gtr_f {P : Program} {t : TypeId} {k : IntKind} (x y : Int) (h : ¬ (y < x)) (w : World) : (binOp .gtr t (.int k x) (.int k y)).run P w = .ok (.bool false) w := by simp [go_sem]; omega
theorem leq_t {P : Program} {t : TypeId} {k : IntKind} (x y : Int) (h : x ≤ y) (w : World) : (binOp .leq t (.int k x) (.int k y)).run P w = .ok (.bool true) w := by simp [go_sem, h]
theorem leq_f {P : Program} {t : TypeId} {k : IntKind} (x y : Int) (h : ¬ (x ≤ y)) (w : World) : (binOp .leq t (.int k x) (.int k y)).run P w = .ok (.bool false) w := by simp [go_sem]; omega
theorem geq_t {P : Program} {t : TypeId} {k : IntKind} (x y : Int) (h : y ≤ x) (w : World) : (binOp .geq t (.int k x) (.int k y)).run P w = .ok (.bool true) w := by simp [go_sem, h]
theorem geq_f {P : Program} {t : TypeId} {k : IntKind} (x y : Int) (h : ¬ (y ≤ x)) (w : World) : (binOp .geq t (.int k x) (.int k y)).run P w = .ok (.bool false) w := by simp [go_sem]; omega
theorem add_v {P : Program} {t : TypeId} (x y z : Int) (h : x + y = z) (h0 : -4611686018427387904 ≤ z) (h1 : z ≤ 4611686018427387904) (w : World) : (binOp .add t (.int .i64 x) (.int .i64 y)).run P w = .ok (.int .i64 z) w := by
  subst h
  simp [go_sem]
  rw [IntKind.wrap_i64]
  omega
theorem sub_v {P : Program} {t : TypeId} (x y z : Int) (h : x - y = z) (h0 : -4611686018427387904 ≤ z) (h1 : z ≤ 4611686018427387904) (w : World) : (binOp .sub t (.int .i64 x) (.int .i64 y)).run P w = .ok (.int .i64 z) w := by
  subst h
  simp [go_sem]
  rw [IntKind.wrap_i64]
  omega
theorem mul_v {P : Program} {t : TypeId} (x y z : Int) (h : x * y = z) (h0 : -4611686018427387904 ≤ z) (h1 : z ≤ 4611686018427387904) (w : World) : (binOp .mul t (.int .i64 x) (.int .i64 y)).run P w = .ok (.int .i64 z) w := by
  subst h
  simp [go_sem]
  rw [IntKind.wrap_i64]
  omega
theorem cv1 {f : FuncId} {vs : Array Value} {w : World} {r : Value} (h : Calls Try.prog f vs w fun e w' => e = .returned r ∧ Below w.heap.size w w') : Calls Try.prog f vs w fun e w' => ∃ x, e = .returned x ∧ isVal r x w' ∧ Below w.heap.size w w' := h.mono (by rintro e w' ⟨rfl, hb⟩; exact ⟨_, rfl, rfl, hb⟩)
theorem agg_in (w : World) : (isAgg 3).run Try.prog w = .ok false w := by simp [isAgg, run_underlying Try.underlying3]
theorem f_cf (g k : Nat) (hk : k < 8) (w : World) : (Instr.fieldAt 38 (.pointer (some ⟨g, 0, none⟩)) k).run Try.prog w = .ok (.pointer (some ⟨g, k, none⟩)) w := by
  have h : k = 0 ∨ k = 1 ∨ k = 2 ∨ k = 3 ∨ k = 4 ∨ k = 5 ∨ k = 6 ∨ k = 7 := by omega
  rcases h with rfl | rfl | rfl | rfl | rfl | rfl | rfl | rfl <;> simp [Instr.fieldAt, run_underlying Try.underlying38, Instr.sureAddr, fieldPlace, Addr.add]
theorem rsize_42 (w : World) : Calls Try.prog 35 #[.int .i64 42] w fun e w' => e = .returned (.int .i64 92) ∧ Below w.heap.size w w' := by
  go_enter Try.func35, Try.ntmps35
  go_wp2
  go_ret
  exact ⟨rfl, Below.refl _ _⟩
theorem rin_any (n a b : Int) (w : World) : Calls Try.prog 58 #[.int .i64 n, .int .i64 a, .int .i64 b] w fun e w' => e = .returned (.bool (inC n a b)) ∧ Below w.heap.size w w' := by
  go_enter Try.func58, Try.ntmps58
  by_cases h : a ≤ n
  · by_cases h2 : n ≤ b
    · have HZ := Kept.mk (inC_iff.2 ⟨h, h2⟩)
      go_wp2
      go_ret
      exact ⟨by rw [HZ.out]; rfl, Below.refl _ _⟩
    · have HZ := Kept.mk (show inC n a b = false from inC_no.2 (by omega))
      go_wp2
      go_ret
      exact ⟨by rw [HZ.out]; rfl, Below.refl _ _⟩
  · have HZ := Kept.mk (show inC n a b = false from inC_no.2 (by omega))
    go_wp2
    go_ret
    exact ⟨by rw [HZ.out]; rfl, Below.refl _ _⟩
noncomputable def cszOps : Array Oper := regionOf Try.f30 3
set_option maxRecDepth 100000 in
set_option maxHeartbeats 2000000 in
theorem csz_region (Q : Exit → Act → World → Prop) (a0 : Act) (w0 : World) (hsz : a0.tmps.size = 10) (g : Nat) (C : Cf) (hc : CellsN w0 g [.int .i64 C.nodes, .int .i64 C.slots, .int .i64 C.pages, .int .i64 C.room, .int .i64 C.chunk, .int .i64 C.buffer, .int .i64 C.queue, .int .i64 C.wear]) (hO : OkC C) (e1 : a0.tmps.getD 1 undef = .pointer (some ⟨g, 0, none⟩))
    (hQ : ∀ (g : Nat → Value) (w : World), g 2 = .int .i64 (C.room * 92) → Below w0.heap.size w0 w → Q .normal { tmps := [6, 7, 8, 9, 2].foldl (fun t s => t.setIfInBounds s (g s)) a0.tmps, defers := a0.defers } w) :
    (Code.region 3 cszOps true).wp Try.prog Q a0 w0 := by
  have h1 := hO.nodes
  have h2 := hO.slots
  have h3 := hO.room
  refine wp_region_flow mixed (by rw [hsz]; kernel_rfl) ?_
  rw [show cszOps.size = 5 by kernel_rfl]
  refine ⟨isVal (.pointer (some ⟨g, 3, none⟩)), step_field 38 (.tmp 1) 3 ⟨g, 0, none⟩ ⟨g, 3, none⟩ (by kernel_rfl) (wanted_none (by kernel_rfl)) (knows_old 1 (.pointer (some ⟨g, 0, none⟩)) (by kernel_rfl) e1) (f_cf (g) 3 (by omega)), ?_⟩
  refine ⟨isVal (.int .i64 C.room), step_read 3 (.tmp 6) ⟨g, 3, none⟩ (.int .i64 C.room) (by kernel_rfl) (wanted_none (by kernel_rfl)) (knows_new (V := isVal (.pointer (some ⟨g, 3, none⟩))) 6 0 (by kernel_rfl) (by kernel_rfl) (by kernel_rfl)) ((hc).2 3 _ rfl) (hc).1 (agg_in), ?_⟩
  refine ⟨isVal (.int .i64 92), step_call 35 #[.const (.int .i64 42)] #[3] #[.int .i64 42] (by kernel_rfl) (wanted_none (by kernel_rfl)) (stable_val _) (args1 (.const (.int .i64 42)) (.int .i64 42) (knows_const _)) (enters_of Try.func35 (by kernel_rfl) rfl) (by intro w' hb; exact cv1 (rsize_42 w')), ?_⟩
  refine ⟨isVal (.int .i64 (C.room * 92)), step_bin .mul 3 3 (.tmp 7) (.tmp 8) (.int .i64 C.room) (.int .i64 92) (.int .i64 (C.room * 92)) (by kernel_rfl) (wanted_none (by kernel_rfl)) (knows_new (V := isVal (.int .i64 C.room)) 7 1 (by kernel_rfl) (by kernel_rfl) (by kernel_rfl)) (knows_new (V := isVal (.int .i64 92)) 8 2 (by kernel_rfl) (by kernel_rfl) (by kernel_rfl)) (fun _ => rfl) (mul_v C.room 92 (C.room * 92) (by omega) (by omega) (by omega)), ?_⟩
  refine ⟨isVal (.int .i64 (C.room * 92)), step_assign (.tmp 9) (by kernel_rfl) (wanted_none (by kernel_rfl)) (stable_val _) (knows_new (V := isVal (.int .i64 (C.room * 92))) 9 3 (by kernel_rfl) (by kernel_rfl) (by kernel_rfl)), ?_⟩
  intro a w hkp hb hd
  rw [kept_of hkp [some 6, some 7, some 8, some 9, some 2] [6, 7, 8, 9, 2] (by kernel_rfl) (by decide)]
  have d2 := fdone_of (hd 4 (by rw [show cszOps.size = 5 by kernel_rfl]; decide)) (t := 2) (V := isVal (.int .i64 (C.room * 92))) (by kernel_rfl) (by kernel_rfl)
  exact hQ (fun s => a.tmps.getD s undef) w d2 hb
set_option maxRecDepth 100000 in
set_option maxHeartbeats 2000000 in
theorem csize_any (C : Cf) (w : World) : Calls Try.prog 30 #[(.agg #[.int .i64 C.nodes, .int .i64 C.slots, .int .i64 C.pages, .int .i64 C.room, .int .i64 C.chunk, .int .i64 C.buffer, .int .i64 C.queue, .int .i64 C.wear])] w fun e w' => e = .returned (.int .i64 (sizeC C)) ∧ Below w.heap.size w w' := by
  obtain ⟨hB, HC⟩ := cbox w C w.heap.size rfl
  have kc0 := HC.out.cells.2 0 _ rfl
  have kc1 := HC.out.cells.2 1 _ rfl
  have kc2 := HC.out.cells.2 2 _ rfl
  have kc3 := HC.out.cells.2 3 _ rfl
  have kc4 := HC.out.cells.2 4 _ rfl
  have kc5 := HC.out.cells.2 5 _ rfl
  have kc6 := HC.out.cells.2 6 _ rfl
  have kc7 := HC.out.cells.2 7 _ rfl
  go_enter Try.func30, Try.ntmps30
  go_wp2_with fail
  clear kc0 kc1 kc2 kc3 kc4 kc5 kc6 kc7
  generalize w.alloc (.cells #[.int .i64 C.nodes, .int .i64 C.slots, .int .i64 C.pages, .int .i64 C.room, .int .i64 C.chunk, .int .i64 C.buffer, .int .i64 C.queue, .int .i64 C.wear] 38) = W0 at *
  refine (ccheck_any C W0).mono ?_
  rintro e W1 ⟨rfl, hb⟩
  replace hB := Kept.mk (hB.out.trans (hb.mono hB.out.size))
  replace HC := Kept.mk (HC.out.keep hb)
  clear hb
  cases hok : okC C with
  | false =>
    rw [chkC_no hok]
    have HZ := Kept.mk hok
    clear hok
    go_wp2
    go_ret
    exact ⟨by unfold sizeC; rw [HZ.out]; rfl, hB.out⟩
  | true =>
    rw [chkC_yes hok]
    have HO := Kept.mk (okC_spec.1 hok)
    have HZ := Kept.mk hok
    clear hok
    go_wp2_with fail
    refine csz_region _ _ _ rfl w.heap.size C HC.out.cells HO.out rfl ?_
    intro f9 W9 d2 hb9
    simp only [List.foldl_cons, List.foldl_nil, d2]
    generalize f9 6 = y6
    generalize f9 7 = y7
    generalize f9 8 = y8
    generalize f9 9 = y9
    clear d2
    simp only [List.setIfInBounds_toArray, List.set_cons_succ, List.set_cons_zero]
    replace hB := Kept.mk (hB.out.trans (hb9.mono hB.out.size))
    replace HC := Kept.mk (HC.out.keep hb9)
    clear hb9
    go_wp2
    go_ret
    exact ⟨by unfold sizeC; rw [if_pos HZ.out]; rfl, hB.out⟩
set_option maxRecDepth 100000 in
set_option maxHeartbeats 2000000 in
theorem cchunks_any (C : Cf) (w : World) : Calls Try.prog 31 #[(.agg #[.int .i64 C.nodes, .int .i64 C.slots, .int .i64 C.pages, .int .i64 C.room, .int .i64 C.chunk, .int .i64 C.buffer, .int .i64 C.queue, .int .i64 C.wear])] w fun e w' => e = .returned (.int .i64 (chunksC C)) ∧ Below w.heap.size w w' := by
  obtain ⟨hB, HC⟩ := cbox w C w.heap.size rfl
  have kc0 := HC.out.cells.2 0 _ rfl
  have kc1 := HC.out.cells.2 1 _ rfl
  have kc2 := HC.out.cells.2 2 _ rfl
  have kc3 := HC.out.cells.2 3 _ rfl
  have kc4 := HC.out.cells.2 4 _ rfl
  have kc5 := HC.out.cells.2 5 _ rfl
  have kc6 := HC.out.cells.2 6 _ rfl
  have kc7 := HC.out.cells.2 7 _ rfl
  go_enter Try.func31, Try.ntmps31
  go_wp2_with fail
  clear kc0 kc1 kc2 kc3 kc4 kc5 kc6 kc7
  generalize w.alloc (.cells #[.int .i64 C.nodes, .int .i64 C.slots, .int .i64 C.pages, .int .i64 C.room, .int .i64 C.chunk, .int .i64 C.buffer, .int .i64 C.queue, .int .i64 C.wear] 38) = W0 at *
  refine (ccheck_any C W0).mono ?_
  rintro e W1 ⟨rfl, hb⟩
  replace hB := Kept.mk (hB.out.trans (hb.mono hB.out.size))
  replace HC := Kept.mk (HC.out.keep hb)
  clear hb
  cases hok : okC C with
  | false =>
    rw [chkC_no hok]
    have HZ := Kept.mk hok
    clear hok
    go_wp2
    go_ret
    exact ⟨by unfold chunksC; rw [HZ.out]; rfl, hB.out⟩
  | true =>
    rw [chkC_yes hok]
    have HO := Kept.mk (okC_spec.1 hok)
    have HZ := Kept.mk hok
    clear hok
    have kc0 := HC.out.cells.2 0 _ rfl
    have kc1 := HC.out.cells.2 1 _ rfl
    have kc2 := HC.out.cells.2 2 _ rfl
    have kc3 := HC.out.cells.2 3 _ rfl
    have kc4 := HC.out.cells.2 4 _ rfl
    have kc5 := HC.out.cells.2 5 _ rfl
    have kc6 := HC.out.cells.2 6 _ rfl
    have kc7 := HC.out.cells.2 7 _ rfl
    have hs := HO.out.slots
    have hk := HO.out.chunk
    have hdz : ¬ C.chunk = 0 := by omega
    have hr := chunksC_range HO.out
    have hq : chunksC C = (C.slots + C.chunk - 1) / C.chunk := by unfold chunksC; rw [if_pos HZ.out]
    have HQ := Kept.mk hq
    clear hq
    go_wp2
    go_ret
    exact ⟨by rw [← HQ.out]; go_num, hB.out⟩
noncomputable def crdOps : Array Oper := regionOf Try.f32 3
set_option maxRecDepth 100000 in
set_option maxHeartbeats 2000000 in
theorem crd_region (Q : Exit → Act → World → Prop) (a0 : Act) (w0 : World) (hsz : a0.tmps.size = 12) (g : Nat) (C : Cf) (hc : CellsN w0 g [.int .i64 C.nodes, .int .i64 C.slots, .int .i64 C.pages, .int .i64 C.room, .int .i64 C.chunk, .int .i64 C.buffer, .int .i64 C.queue, .int .i64 C.wear]) (hO : OkC C) (e1 : a0.tmps.getD 1 undef = .pointer (some ⟨g, 0, none⟩))
    (hQ : ∀ (g : Nat → Value) (w : World), g 2 = .int .i64 (C.nodes * (chunksC C + 1)) → Below w0.heap.size w0 w → Q .normal { tmps := [6, 7, 8, 9, 10, 11, 2].foldl (fun t s => t.setIfInBounds s (g s)) a0.tmps, defers := a0.defers } w) :
    (Code.region 3 crdOps true).wp Try.prog Q a0 w0 := by
  have h1 := hO.nodes
  have h2 := hO.slots
  have h3 := hO.room
  have h4 := chunksC_range hO
  have h5 : C.nodes * (chunksC C + 1) ≤ 8 * 9 := Int.le_trans (Int.mul_le_mul_of_nonneg_right h1.2 (by omega)) (Int.mul_le_mul_of_nonneg_left (by omega) (by omega))
  have h6 : 0 ≤ C.nodes * (chunksC C + 1) := Int.mul_nonneg (by omega) (by omega)
  refine wp_region_flow mixed (by rw [hsz]; kernel_rfl) ?_
  rw [show crdOps.size = 7 by kernel_rfl]
  refine ⟨isVal (.pointer (some ⟨g, 0, none⟩)), step_field 38 (.tmp 1) 0 ⟨g, 0, none⟩ ⟨g, 0, none⟩ (by kernel_rfl) (wanted_none (by kernel_rfl)) (knows_old 1 (.pointer (some ⟨g, 0, none⟩)) (by kernel_rfl) e1) (f_cf (g) 0 (by omega)), ?_⟩
  refine ⟨isVal (.int .i64 C.nodes), step_read 3 (.tmp 6) ⟨g, 0, none⟩ (.int .i64 C.nodes) (by kernel_rfl) (wanted_none (by kernel_rfl)) (knows_new (V := isVal (.pointer (some ⟨g, 0, none⟩))) 6 0 (by kernel_rfl) (by kernel_rfl) (by kernel_rfl)) ((hc).2 0 _ rfl) (hc).1 (agg_in), ?_⟩
  refine ⟨isVal (.agg #[.int .i64 C.nodes, .int .i64 C.slots, .int .i64 C.pages, .int .i64 C.room, .int .i64 C.chunk, .int .i64 C.buffer, .int .i64 C.queue, .int .i64 C.wear]), step_loadN 38 (.tmp 1) (g) [.int .i64 C.nodes, .int .i64 C.slots, .int .i64 C.pages, .int .i64 C.room, .int .i64 C.chunk, .int .i64 C.buffer, .int .i64 C.queue, .int .i64 C.wear] (by kernel_rfl) (wanted_none (by kernel_rfl)) (knows_old 1 (.pointer (some ⟨g, 0, none⟩)) (by kernel_rfl) e1) size_cf agg_cf (hc), ?_⟩
  refine ⟨isVal (.int .i64 (chunksC C)), step_call 31 #[.tmp 8] #[38] #[.agg #[.int .i64 C.nodes, .int .i64 C.slots, .int .i64 C.pages, .int .i64 C.room, .int .i64 C.chunk, .int .i64 C.buffer, .int .i64 C.queue, .int .i64 C.wear]] (by kernel_rfl) (wanted_none (by kernel_rfl)) (stable_val _) (args1 (.tmp 8) (.agg #[.int .i64 C.nodes, .int .i64 C.slots, .int .i64 C.pages, .int .i64 C.room, .int .i64 C.chunk, .int .i64 C.buffer, .int .i64 C.queue, .int .i64 C.wear]) (knows_new (V := isVal (.agg #[.int .i64 C.nodes, .int .i64 C.slots, .int .i64 C.pages, .int .i64 C.room, .int .i64 C.chunk, .int .i64 C.buffer, .int .i64 C.queue, .int .i64 C.wear])) 8 2 (by kernel_rfl) (by kernel_rfl) (by kernel_rfl))) (enters_of Try.func31 (by kernel_rfl) rfl) (by intro w' hb; exact cv1 (cchunks_any C w')), ?_⟩
  refine ⟨isVal (.int .i64 ((chunksC C) + 1)), step_bin .add 3 3 (.tmp 9) (.const (.int .i64 1)) (.int .i64 (chunksC C)) (.int .i64 1) (.int .i64 ((chunksC C) + 1)) (by kernel_rfl) (wanted_none (by kernel_rfl)) (knows_new (V := isVal (.int .i64 (chunksC C))) 9 3 (by kernel_rfl) (by kernel_rfl) (by kernel_rfl)) (knows_const _) (fun _ => rfl) (add_v (chunksC C) 1 ((chunksC C) + 1) (by omega) (by omega) (by omega)), ?_⟩
  refine ⟨isVal (.int .i64 (C.nodes * (chunksC C + 1))), step_bin .mul 3 3 (.tmp 7) (.tmp 10) (.int .i64 C.nodes) (.int .i64 ((chunksC C) + 1)) (.int .i64 (C.nodes * (chunksC C + 1))) (by kernel_rfl) (wanted_none (by kernel_rfl)) (knows_new (V := isVal (.int .i64 C.nodes)) 7 1 (by kernel_rfl) (by kernel_rfl) (by kernel_rfl)) (knows_new (V := isVal (.int .i64 ((chunksC C) + 1))) 10 4 (by kernel_rfl) (by kernel_rfl) (by kernel_rfl)) (fun _ => rfl) (mul_v C.nodes ((chunksC C) + 1) (C.nodes * (chunksC C + 1)) (by omega) (by omega) (by omega)), ?_⟩
  refine ⟨isVal (.int .i64 (C.nodes * (chunksC C + 1))), step_assign (.tmp 11) (by kernel_rfl) (wanted_none (by kernel_rfl)) (stable_val _) (knows_new (V := isVal (.int .i64 (C.nodes * (chunksC C + 1)))) 11 5 (by kernel_rfl) (by kernel_rfl) (by kernel_rfl)), ?_⟩
  intro a w hkp hb hd
  rw [kept_of hkp [some 6, some 7, some 8, some 9, some 10, some 11, some 2] [6, 7, 8, 9, 10, 11, 2] (by kernel_rfl) (by decide)]
  have d2 := fdone_of (hd 6 (by rw [show crdOps.size = 7 by kernel_rfl]; decide)) (t := 2) (V := isVal (.int .i64 (C.nodes * (chunksC C + 1)))) (by kernel_rfl) (by kernel_rfl)
  exact hQ (fun s => a.tmps.getD s undef) w d2 hb
set_option maxRecDepth 100000 in
set_option maxHeartbeats 2000000 in
theorem crounds_any (C : Cf) (w : World) : Calls Try.prog 32 #[(.agg #[.int .i64 C.nodes, .int .i64 C.slots, .int .i64 C.pages, .int .i64 C.room, .int .i64 C.chunk, .int .i64 C.buffer, .int .i64 C.queue, .int .i64 C.wear])] w fun e w' => e = .returned (.int .i64 (roundsC C)) ∧ Below w.heap.size w w' := by
  obtain ⟨hB, HC⟩ := cbox w C w.heap.size rfl
  have kc0 := HC.out.cells.2 0 _ rfl
  have kc1 := HC.out.cells.2 1 _ rfl
  have kc2 := HC.out.cells.2 2 _ rfl
  have kc3 := HC.out.cells.2 3 _ rfl
  have kc4 := HC.out.cells.2 4 _ rfl
  have kc5 := HC.out.cells.2 5 _ rfl
  have kc6 := HC.out.cells.2 6 _ rfl
  have kc7 := HC.out.cells.2 7 _ rfl
  go_enter Try.func32, Try.ntmps32
  go_wp2_with fail
  clear kc0 kc1 kc2 kc3 kc4 kc5 kc6 kc7
  generalize w.alloc (.cells #[.int .i64 C.nodes, .int .i64 C.slots, .int .i64 C.pages, .int .i64 C.room, .int .i64 C.chunk, .int .i64 C.buffer, .int .i64 C.queue, .int .i64 C.wear] 38) = W0 at *
  refine (ccheck_any C W0).mono ?_
  rintro e W1 ⟨rfl, hb⟩
  replace hB := Kept.mk (hB.out.trans (hb.mono hB.out.size))
  replace HC := Kept.mk (HC.out.keep hb)
  clear hb
  cases hok : okC C with
  | false =>
    rw [chkC_no hok]
    have HZ := Kept.mk hok
    clear hok
    go_wp2
    go_ret
    exact ⟨by unfold roundsC; rw [HZ.out]; rfl, hB.out⟩
  | true =>
    rw [chkC_yes hok]
    have HO := Kept.mk (okC_spec.1 hok)
    have HZ := Kept.mk hok
    clear hok
    go_wp2_with fail
    refine crd_region _ _ _ rfl w.heap.size C HC.out.cells HO.out rfl ?_
    intro f9 W9 d2 hb9
    simp only [List.foldl_cons, List.foldl_nil, d2]
    generalize f9 6 = y6
    generalize f9 7 = y7
    generalize f9 8 = y8
    generalize f9 9 = y9
    generalize f9 10 = y10
    generalize f9 11 = y11
    clear d2
    simp only [List.setIfInBounds_toArray, List.set_cons_succ, List.set_cons_zero]
    replace hB := Kept.mk (hB.out.trans (hb9.mono hB.out.size))
    replace HC := Kept.mk (HC.out.keep hb9)
    clear hb9
    go_wp2
    go_ret
    exact ⟨by unfold roundsC; rw [if_pos HZ.out]; rfl, hB.out⟩
set_option maxRecDepth 100000 in
set_option maxHeartbeats 2000000 in
theorem cwork_any (C : Cf) (w : World) : Calls Try.prog 33 #[(.agg #[.int .i64 C.nodes, .int .i64 C.slots, .int .i64 C.pages, .int .i64 C.room, .int .i64 C.chunk, .int .i64 C.buffer, .int .i64 C.queue, .int .i64 C.wear])] w fun e w' => e = .returned (.int .i64 (workC C)) ∧ Below w.heap.size w w' := by
  obtain ⟨hB, HC⟩ := cbox w C w.heap.size rfl
  have kc0 := HC.out.cells.2 0 _ rfl
  have kc1 := HC.out.cells.2 1 _ rfl
  have kc2 := HC.out.cells.2 2 _ rfl
  have kc3 := HC.out.cells.2 3 _ rfl
  have kc4 := HC.out.cells.2 4 _ rfl
  have kc5 := HC.out.cells.2 5 _ rfl
  have kc6 := HC.out.cells.2 6 _ rfl
  have kc7 := HC.out.cells.2 7 _ rfl
  go_enter Try.func33, Try.ntmps33
  go_wp2_with fail
  clear kc0 kc1 kc2 kc3 kc4 kc5 kc6 kc7
  generalize w.alloc (.cells #[.int .i64 C.nodes, .int .i64 C.slots, .int .i64 C.pages, .int .i64 C.room, .int .i64 C.chunk, .int .i64 C.buffer, .int .i64 C.queue, .int .i64 C.wear] 38) = W0 at *
  refine (ccheck_any C W0).mono ?_
  rintro e W1 ⟨rfl, hb⟩
  replace hB := Kept.mk (hB.out.trans (hb.mono hB.out.size))
  replace HC := Kept.mk (HC.out.keep hb)
  clear hb
  cases hok : okC C with
  | false =>
    rw [chkC_no hok]
    have HZ := Kept.mk hok
    clear hok
    go_wp2
    go_ret
    exact ⟨by unfold workC; rw [HZ.out]; rfl, hB.out⟩
  | true =>
    rw [chkC_yes hok]
    have HO := Kept.mk (okC_spec.1 hok)
    have HZ := Kept.mk hok
    clear hok
    have kc0 := HC.out.cells.2 0 _ rfl
    have kc1 := HC.out.cells.2 1 _ rfl
    have kc2 := HC.out.cells.2 2 _ rfl
    have kc3 := HC.out.cells.2 3 _ rfl
    have kc4 := HC.out.cells.2 4 _ rfl
    have kc5 := HC.out.cells.2 5 _ rfl
    have kc6 := HC.out.cells.2 6 _ rfl
    have kc7 := HC.out.cells.2 7 _ rfl
    have h1 := HO.out.slots
    have h2 := HO.out.room
    go_wp2
    go_ret
    exact ⟨by unfold workC; rw [if_pos HZ.out]; go_num, hB.out⟩
theorem size_i6 : (Try.prog.info? 41).map (·.size) = some 6 := by kernel_rfl
theorem agg_i6 (w : World) : (isAgg 41).run Try.prog w = .ok true w := by simp [isAgg, run_underlying Try.underlying41]
theorem built_i6 (a b c d e f : Int) : Try.prog.built 41 [(0, .int .i64 a), (1, .int .i64 b), (2, .int .i64 c), (3, .int .i64 d), (4, .int .i64 e), (5, .int .i64 f)] = some #[.int .i64 a, .int .i64 b, .int .i64 c, .int .i64 d, .int .i64 e, .int .i64 f] := by kernel_rfl
theorem built_z6 : Try.prog.built 41 [] = some #[.int .i64 0, .int .i64 0, .int .i64 0, .int .i64 0, .int .i64 0, .int .i64 0] := by kernel_rfl
theorem ones_i6 (a b c d e f : Int) : Ones [.int .i64 a, .int .i64 b, .int .i64 c, .int .i64 d, .int .i64 e, .int .i64 f] := ⟨rfl, rfl, rfl, rfl, rfl, rfl, trivial⟩
/-- What there is, as it is told. -/
def footV (C : Cf) : Value := .agg ((footC C).map (fun x => Value.int .i64 x)).toArray
theorem footV_yes {C : Cf} (h : okC C = true) : footV C = .agg #[.int .i64 C.pages, .int .i64 (sizeC C), .int .i64 C.slots, .int .i64 (2 * C.buffer), .int .i64 (2 * C.nodes), .int .i64 C.queue] := by unfold footV footC; rw [if_pos h]; rfl
theorem footV_no {C : Cf} (h : okC C = false) : footV C = .agg #[.int .i64 0, .int .i64 0, .int .i64 0, .int .i64 0, .int .i64 0, .int .i64 0] := by unfold footV footC; rw [h]; rfl
noncomputable def cftOps : Array Oper := regionOf Try.f34 3
set_option maxRecDepth 100000 in
set_option maxHeartbeats 2000000 in
theorem cft_region (Q : Exit → Act → World → Prop) (a0 : Act) (w0 : World) (hsz : a0.tmps.size = 22) (r : Nat) (old : List Value) (g : Nat) (C : Cf) (hc : CellsN w0 g [.int .i64 C.nodes, .int .i64 C.slots, .int .i64 C.pages, .int .i64 C.room, .int .i64 C.chunk, .int .i64 C.buffer, .int .i64 C.queue, .int .i64 C.wear]) (hO : OkC C) (e1 : a0.tmps.getD 1 undef = .pointer (some ⟨g, 0, none⟩)) (e2 : a0.tmps.getD 2 undef = .pointer (some ⟨r, 0, none⟩)) (hr : Hold w0 r old) (hol : old.length = 6)
    (hQ : ∀ (a : Act) (w : World), a.defers = a0.defers → a.tmps.getD 2 undef = .pointer (some ⟨r, 0, none⟩) → Below w0.heap.size w0 w → Q .normal a (setN w r 0 [.int .i64 C.pages, .int .i64 (sizeC C), .int .i64 C.slots, .int .i64 (2 * C.buffer), .int .i64 (2 * C.nodes), .int .i64 C.queue])) :
    (Code.region 3 cftOps true).wp Try.prog Q a0 w0 := by
  have h1 := hO.nodes
  have h2 := hO.buffer
  refine wp_region_tail 15 mixed (by rw [hsz]; kernel_rfl) (by kernel_rfl) ?_
  rw [show cftOps.size - 15 = 1 by kernel_rfl]
  refine ⟨isVal (.pointer (some ⟨g, 2, none⟩)), step_field 38 (.tmp 1) 2 ⟨g, 0, none⟩ ⟨g, 2, none⟩ (by kernel_rfl) (wanted_none (by kernel_rfl)) (knows_old 1 (.pointer (some ⟨g, 0, none⟩)) (by kernel_rfl) e1) (f_cf (g) 2 (by omega)), ?_⟩
  refine ⟨isVal (.int .i64 C.pages), step_read 3 (.tmp 7) ⟨g, 2, none⟩ (.int .i64 C.pages) (by kernel_rfl) (wanted_none (by kernel_rfl)) (knows_new (V := isVal (.pointer (some ⟨g, 2, none⟩))) 7 0 (by kernel_rfl) (by kernel_rfl) (by kernel_rfl)) ((hc).2 2 _ rfl) (hc).1 (agg_in), ?_⟩
  refine ⟨isVal (.agg #[.int .i64 C.nodes, .int .i64 C.slots, .int .i64 C.pages, .int .i64 C.room, .int .i64 C.chunk, .int .i64 C.buffer, .int .i64 C.queue, .int .i64 C.wear]), step_loadN 38 (.tmp 1) (g) [.int .i64 C.nodes, .int .i64 C.slots, .int .i64 C.pages, .int .i64 C.room, .int .i64 C.chunk, .int .i64 C.buffer, .int .i64 C.queue, .int .i64 C.wear] (by kernel_rfl) (wanted_none (by kernel_rfl)) (knows_old 1 (.pointer (some ⟨g, 0, none⟩)) (by kernel_rfl) e1) size_cf agg_cf (hc), ?_⟩
  refine ⟨isVal (.int .i64 (sizeC C)), step_call 30 #[.tmp 9] #[38] #[.agg #[.int .i64 C.nodes, .int .i64 C.slots, .int .i64 C.pages, .int .i64 C.room, .int .i64 C.chunk, .int .i64 C.buffer, .int .i64 C.queue, .int .i64 C.wear]] (by kernel_rfl) (wanted_none (by kernel_rfl)) (stable_val _) (args1 (.tmp 9) (.agg #[.int .i64 C.nodes, .int .i64 C.slots, .int .i64 C.pages, .int .i64 C.room, .int .i64 C.chunk, .int .i64 C.buffer, .int .i64 C.queue, .int .i64 C.wear]) (knows_new (V := isVal (.agg #[.int .i64 C.nodes, .int .i64 C.slots, .int .i64 C.pages, .int .i64 C.room, .int .i64 C.chunk, .int .i64 C.buffer, .int .i64 C.queue, .int .i64 C.wear])) 9 2 (by kernel_rfl) (by kernel_rfl) (by kernel_rfl))) (enters_of Try.func30 (by kernel_rfl) rfl) (by intro w' hb; exact cv1 (csize_any C w')), ?_⟩
  refine ⟨isVal (.pointer (some ⟨g, 1, none⟩)), step_field 38 (.tmp 1) 1 ⟨g, 0, none⟩ ⟨g, 1, none⟩ (by kernel_rfl) (wanted_none (by kernel_rfl)) (knows_old 1 (.pointer (some ⟨g, 0, none⟩)) (by kernel_rfl) e1) (f_cf (g) 1 (by omega)), ?_⟩
  refine ⟨isVal (.int .i64 C.slots), step_read 3 (.tmp 11) ⟨g, 1, none⟩ (.int .i64 C.slots) (by kernel_rfl) (wanted_none (by kernel_rfl)) (knows_new (V := isVal (.pointer (some ⟨g, 1, none⟩))) 11 4 (by kernel_rfl) (by kernel_rfl) (by kernel_rfl)) ((hc).2 1 _ rfl) (hc).1 (agg_in), ?_⟩
  refine ⟨isVal (.pointer (some ⟨g, 5, none⟩)), step_field 38 (.tmp 1) 5 ⟨g, 0, none⟩ ⟨g, 5, none⟩ (by kernel_rfl) (wanted_none (by kernel_rfl)) (knows_old 1 (.pointer (some ⟨g, 0, none⟩)) (by kernel_rfl) e1) (f_cf (g) 5 (by omega)), ?_⟩
  refine ⟨isVal (.int .i64 C.buffer), step_read 3 (.tmp 13) ⟨g, 5, none⟩ (.int .i64 C.buffer) (by kernel_rfl) (wanted_none (by kernel_rfl)) (knows_new (V := isVal (.pointer (some ⟨g, 5, none⟩))) 13 6 (by kernel_rfl) (by kernel_rfl) (by kernel_rfl)) ((hc).2 5 _ rfl) (hc).1 (agg_in), ?_⟩
  refine ⟨isVal (.int .i64 (2 * C.buffer)), step_bin .mul 3 3 (.const (.int .i64 2)) (.tmp 14) (.int .i64 2) (.int .i64 C.buffer) (.int .i64 (2 * C.buffer)) (by kernel_rfl) (wanted_none (by kernel_rfl)) (knows_const _) (knows_new (V := isVal (.int .i64 C.buffer)) 14 7 (by kernel_rfl) (by kernel_rfl) (by kernel_rfl)) (fun _ => rfl) (mul_v 2 C.buffer (2 * C.buffer) (by omega) (by omega) (by omega)), ?_⟩
  refine ⟨isVal (.pointer (some ⟨g, 0, none⟩)), step_field 38 (.tmp 1) 0 ⟨g, 0, none⟩ ⟨g, 0, none⟩ (by kernel_rfl) (wanted_none (by kernel_rfl)) (knows_old 1 (.pointer (some ⟨g, 0, none⟩)) (by kernel_rfl) e1) (f_cf (g) 0 (by omega)), ?_⟩
  refine ⟨isVal (.int .i64 C.nodes), step_read 3 (.tmp 16) ⟨g, 0, none⟩ (.int .i64 C.nodes) (by kernel_rfl) (wanted_none (by kernel_rfl)) (knows_new (V := isVal (.pointer (some ⟨g, 0, none⟩))) 16 9 (by kernel_rfl) (by kernel_rfl) (by kernel_rfl)) ((hc).2 0 _ rfl) (hc).1 (agg_in), ?_⟩
  refine ⟨isVal (.int .i64 (2 * C.nodes)), step_bin .mul 3 3 (.const (.int .i64 2)) (.tmp 17) (.int .i64 2) (.int .i64 C.nodes) (.int .i64 (2 * C.nodes)) (by kernel_rfl) (wanted_none (by kernel_rfl)) (knows_const _) (knows_new (V := isVal (.int .i64 C.nodes)) 17 10 (by kernel_rfl) (by kernel_rfl) (by kernel_rfl)) (fun _ => rfl) (mul_v 2 C.nodes (2 * C.nodes) (by omega) (by omega) (by omega)), ?_⟩
  refine ⟨isVal (.pointer (some ⟨g, 6, none⟩)), step_field 38 (.tmp 1) 6 ⟨g, 0, none⟩ ⟨g, 6, none⟩ (by kernel_rfl) (wanted_none (by kernel_rfl)) (knows_old 1 (.pointer (some ⟨g, 0, none⟩)) (by kernel_rfl) e1) (f_cf (g) 6 (by omega)), ?_⟩
  refine ⟨isVal (.int .i64 C.queue), step_read 3 (.tmp 19) ⟨g, 6, none⟩ (.int .i64 C.queue) (by kernel_rfl) (wanted_none (by kernel_rfl)) (knows_new (V := isVal (.pointer (some ⟨g, 6, none⟩))) 19 12 (by kernel_rfl) (by kernel_rfl) (by kernel_rfl)) ((hc).2 6 _ rfl) (hc).1 (agg_in), ?_⟩
  refine ⟨isVal (.agg #[.int .i64 C.pages, .int .i64 (sizeC C), .int .i64 C.slots, .int .i64 (2 * C.buffer), .int .i64 (2 * C.nodes), .int .i64 C.queue]), step_buildP 41 #[(0, .tmp 8), (1, .tmp 10), (2, .tmp 12), (3, .tmp 15), (4, .tmp 18), (5, .tmp 20)] (by kernel_rfl) (wanted_none (by kernel_rfl)) (stable_val _) (by
    intro a w hk hd
    have e0 : a.eval (.tmp 8) = (.int .i64 C.pages) := (knows_new (V := isVal (.int .i64 C.pages)) 8 1 (by kernel_rfl) (by kernel_rfl) (by kernel_rfl)) a w hk hd
    have e1 : a.eval (.tmp 10) = (.int .i64 (sizeC C)) := (knows_new (V := isVal (.int .i64 (sizeC C))) 10 3 (by kernel_rfl) (by kernel_rfl) (by kernel_rfl)) a w hk hd
    have e2 : a.eval (.tmp 12) = (.int .i64 C.slots) := (knows_new (V := isVal (.int .i64 C.slots)) 12 5 (by kernel_rfl) (by kernel_rfl) (by kernel_rfl)) a w hk hd
    have e3 : a.eval (.tmp 15) = (.int .i64 (2 * C.buffer)) := (knows_new (V := isVal (.int .i64 (2 * C.buffer))) 15 8 (by kernel_rfl) (by kernel_rfl) (by kernel_rfl)) a w hk hd
    have e4 : a.eval (.tmp 18) = (.int .i64 (2 * C.nodes)) := (knows_new (V := isVal (.int .i64 (2 * C.nodes))) 18 11 (by kernel_rfl) (by kernel_rfl) (by kernel_rfl)) a w hk hd
    have e5 : a.eval (.tmp 20) = (.int .i64 C.queue) := (knows_new (V := isVal (.int .i64 C.queue)) 20 13 (by kernel_rfl) (by kernel_rfl) (by kernel_rfl)) a w hk hd
    exact ⟨_, by simpa [e0, e1, e2, e3, e4, e5] using (built_i6 _ _ _ _ _ _), rfl⟩), ?_⟩
  intro a w hk hb hd
  have d21 := fdone_of (hd 14 (by decide)) (t := 21) (V := isVal (.agg #[.int .i64 C.pages, .int .i64 (sizeC C), .int .i64 C.slots, .int .i64 (2 * C.buffer), .int .i64 (2 * C.nodes), .int .i64 C.queue])) (by kernel_rfl) (by kernel_rfl)
  have e2' : a.tmps.getD 2 undef = .pointer (some ⟨r, 0, none⟩) := (hk.2.2 2 (by kernel_rfl)).trans e2
  refine tail_storeN 41 (.tmp 2) (.tmp 21) r [.int .i64 C.pages, .int .i64 (sizeC C), .int .i64 C.slots, .int .i64 (2 * C.buffer), .int .i64 (2 * C.nodes), .int .i64 C.queue] old (by kernel_rfl) (by kernel_rfl) size_i6 e2' d21 (hr.keep hb).cells hol (hr.keep hb).free (ones_i6 _ _ _ _ _ _) ?_
  exact hQ a w hk.1 e2' hb
set_option maxRecDepth 100000 in
set_option maxHeartbeats 2000000 in
theorem cft_any (C : Cf) (w : World) : Calls Try.prog 34 #[(.agg #[.int .i64 C.nodes, .int .i64 C.slots, .int .i64 C.pages, .int .i64 C.room, .int .i64 C.chunk, .int .i64 C.buffer, .int .i64 C.queue, .int .i64 C.wear])] w fun e w' => e = .returned (footV C) ∧ Below w.heap.size w w' := by
  obtain ⟨hB, HC⟩ := cbox w C w.heap.size rfl
  have hb6 : Below (w.alloc (.cells #[.int .i64 C.nodes, .int .i64 C.slots, .int .i64 C.pages, .int .i64 C.room, .int .i64 C.chunk, .int .i64 C.buffer, .int .i64 C.queue, .int .i64 C.wear] 38)).heap.size (w.alloc (.cells #[.int .i64 C.nodes, .int .i64 C.slots, .int .i64 C.pages, .int .i64 C.room, .int .i64 C.chunk, .int .i64 C.buffer, .int .i64 C.queue, .int .i64 C.wear] 38)) ((w.alloc (.cells #[.int .i64 C.nodes, .int .i64 C.slots, .int .i64 C.pages, .int .i64 C.room, .int .i64 C.chunk, .int .i64 C.buffer, .int .i64 C.queue, .int .i64 C.wear] 38)).alloc (.cells #[.int .i64 0, .int .i64 0, .int .i64 0, .int .i64 0, .int .i64 0, .int .i64 0] 41)) := (Below.refl _ _).alloc (Nat.le_refl _) _
  have HR := Kept.mk (Hold.new (w.alloc (.cells #[.int .i64 C.nodes, .int .i64 C.slots, .int .i64 C.pages, .int .i64 C.room, .int .i64 C.chunk, .int .i64 C.buffer, .int .i64 C.queue, .int .i64 C.wear] 38)) 41 [.int .i64 0, .int .i64 0, .int .i64 0, .int .i64 0, .int .i64 0, .int .i64 0] (w.heap.size + 1) (by simp))
  replace hB := Kept.mk (hB.out.trans (hb6.mono hB.out.size))
  replace HC := Kept.mk (HC.out.keep hb6)
  clear hb6
  have kc0 := HC.out.cells.2 0 _ rfl
  have kc1 := HC.out.cells.2 1 _ rfl
  have kc2 := HC.out.cells.2 2 _ rfl
  have kc3 := HC.out.cells.2 3 _ rfl
  have kc4 := HC.out.cells.2 4 _ rfl
  have kc5 := HC.out.cells.2 5 _ rfl
  have kc6 := HC.out.cells.2 6 _ rfl
  have kc7 := HC.out.cells.2 7 _ rfl
  go_enter Try.func34, Try.ntmps34
  go_wp2_with fail
  clear kc0 kc1 kc2 kc3 kc4 kc5 kc6 kc7
  generalize (w.alloc (.cells #[.int .i64 C.nodes, .int .i64 C.slots, .int .i64 C.pages, .int .i64 C.room, .int .i64 C.chunk, .int .i64 C.buffer, .int .i64 C.queue, .int .i64 C.wear] 38)).alloc (.cells #[.int .i64 0, .int .i64 0, .int .i64 0, .int .i64 0, .int .i64 0, .int .i64 0] 41) = W0 at *
  refine (ccheck_any C W0).mono ?_
  rintro e W1 ⟨rfl, hb⟩
  replace HR := Kept.mk (HR.out.keep hb)
  replace hB := Kept.mk (hB.out.trans (hb.mono hB.out.size))
  replace HC := Kept.mk (HC.out.keep hb)
  clear hb
  cases hok : okC C with
  | false =>
    rw [chkC_no hok]
    have HZ := Kept.mk hok
    clear hok
    have KO := Kept.mk (ones_i6 0 0 0 0 0 0)
    have hbz := fun ws : World => run_build (P := Try.prog) ws 41 #[] _ built_z6
    go_wp2_with (have hz0 := KO; refine wpList_storeN 41 rfl (.tmp 2) (.tmp 6) rfl (w.heap.size + 1) [.int .i64 0, .int .i64 0, .int .i64 0, .int .i64 0, .int .i64 0, .int .i64 0] size_i6 rfl rfl HR.out.cells rfl HR.out.free KO.out ?_; clear hz0 KO)
    have hH := HR.out.all_ (l := [.int .i64 0, .int .i64 0, .int .i64 0, .int .i64 0, .int .i64 0, .int .i64 0]) rfl
    refine bodyPost_ret (resultsN1 rfl _ _ (w.heap.size + 1) [.int .i64 0, .int .i64 0, .int .i64 0, .int .i64 0, .int .i64 0, .int .i64 0] size_i6 agg_i6 rfl hH.cells) rfl ?_
    exact ⟨by rw [footV_no HZ.out], below_setN (by omega) _ 0 _ hB.out⟩
  | true =>
    rw [chkC_yes hok]
    have HO := Kept.mk (okC_spec.1 hok)
    have HZ := Kept.mk hok
    clear hok
    go_wp2_with fail
    refine cft_region _ _ _ rfl (w.heap.size + 1) _ w.heap.size C HC.out.cells HO.out rfl rfl HR.out rfl ?_
    intro a w2 hd h2 hb9
    replace HR := Kept.mk (HR.out.keep hb9)
    replace hB := Kept.mk (hB.out.trans (hb9.mono hB.out.size))
    go_wp2
    have hH := HR.out.all_ (l := [.int .i64 C.pages, .int .i64 (sizeC C), .int .i64 C.slots, .int .i64 (2 * C.buffer), .int .i64 (2 * C.nodes), .int .i64 C.queue]) rfl
    refine bodyPost_ret (resultsN1 rfl _ _ (w.heap.size + 1) [.int .i64 C.pages, .int .i64 (sizeC C), .int .i64 C.slots, .int .i64 (2 * C.buffer), .int .i64 (2 * C.nodes), .int .i64 C.queue] size_i6 agg_i6 h2 hH.cells) hd ?_
    exact ⟨by rw [footV_yes HZ.out], below_setN (by omega) _ 0 _ hB.out⟩
end Go.Proofs.Ytpjafjnokgeifaa
end
section
namespace Go.Proofs.Ytpjafjnokgeifaa
open Go.RowKit
set_option linter.unusedVariables false
set_option linter.unusedSimpArgs false
attribute [local irreducible] setN

def cP : Cf := ⟨3, 5, 3, 10, 2, 2, 3, 1000⟩
def cD : Cf := ⟨3, 5, 3, 7, 2, 2, 3, 1000⟩
def cZ : Cf := ⟨0, 0, 0, 0, 0, 0, 0, 0⟩
theorem built_c (x0 x1 x2 x3 x4 x5 x6 x7 : Int) : Try.prog.built 38 [(0, .int .i64 x0), (1, .int .i64 x1), (2, .int .i64 x2), (3, .int .i64 x3), (4, .int .i64 x4), (5, .int .i64 x5), (6, .int .i64 x6), (7, .int .i64 x7)] = some #[.int .i64 x0, .int .i64 x1, .int .i64 x2, .int .i64 x3, .int .i64 x4, .int .i64 x5, .int .i64 x6, .int .i64 x7] := by kernel_rfl
theorem built_cz : Try.prog.built 38 [] = some #[.int .i64 0, .int .i64 0, .int .i64 0, .int .i64 0, .int .i64 0, .int .i64 0, .int .i64 0, .int .i64 0] := by kernel_rfl
theorem wchk_P (w : World) : Calls Try.prog 29 #[.agg #[.int .i64 3, .int .i64 5, .int .i64 3, .int .i64 10, .int .i64 2, .int .i64 2, .int .i64 3, .int .i64 1000]] w fun e w' => e = .returned (.int .i64 0) ∧ Below w.heap.size w w' := ccheck_any cP w
theorem wchk_D (w : World) : Calls Try.prog 29 #[.agg #[.int .i64 3, .int .i64 5, .int .i64 3, .int .i64 7, .int .i64 2, .int .i64 2, .int .i64 3, .int .i64 1000]] w fun e w' => e = .returned (.int .i64 1) ∧ Below w.heap.size w w' := ccheck_any cD w
theorem wchk_Z (w : World) : Calls Try.prog 29 #[.agg #[.int .i64 0, .int .i64 0, .int .i64 0, .int .i64 0, .int .i64 0, .int .i64 0, .int .i64 0, .int .i64 0]] w fun e w' => e = .returned (.int .i64 1) ∧ Below w.heap.size w w' := ccheck_any cZ w
theorem wsize_P (w : World) : Calls Try.prog 30 #[.agg #[.int .i64 3, .int .i64 5, .int .i64 3, .int .i64 10, .int .i64 2, .int .i64 2, .int .i64 3, .int .i64 1000]] w fun e w' => e = .returned (.int .i64 920) ∧ Below w.heap.size w w' := csize_any cP w
theorem wchunks_P (w : World) : Calls Try.prog 31 #[.agg #[.int .i64 3, .int .i64 5, .int .i64 3, .int .i64 10, .int .i64 2, .int .i64 2, .int .i64 3, .int .i64 1000]] w fun e w' => e = .returned (.int .i64 3) ∧ Below w.heap.size w w' := cchunks_any cP w
theorem wrounds_P (w : World) : Calls Try.prog 32 #[.agg #[.int .i64 3, .int .i64 5, .int .i64 3, .int .i64 10, .int .i64 2, .int .i64 2, .int .i64 3, .int .i64 1000]] w fun e w' => e = .returned (.int .i64 12) ∧ Below w.heap.size w w' := crounds_any cP w
theorem wwork_P (w : World) : Calls Try.prog 33 #[.agg #[.int .i64 3, .int .i64 5, .int .i64 3, .int .i64 10, .int .i64 2, .int .i64 2, .int .i64 3, .int .i64 1000]] w fun e w' => e = .returned (.int .i64 110) ∧ Below w.heap.size w w' := cwork_any cP w
theorem wfoot_P (w : World) : Calls Try.prog 34 #[.agg #[.int .i64 3, .int .i64 5, .int .i64 3, .int .i64 10, .int .i64 2, .int .i64 2, .int .i64 3, .int .i64 1000]] w fun e w' => e = .returned (.agg #[.int .i64 3, .int .i64 920, .int .i64 5, .int .i64 4, .int .i64 6, .int .i64 3]) ∧ Below w.heap.size w w' := cft_any cP w
theorem wfoot_D (w : World) : Calls Try.prog 34 #[.agg #[.int .i64 3, .int .i64 5, .int .i64 3, .int .i64 7, .int .i64 2, .int .i64 2, .int .i64 3, .int .i64 1000]] w fun e w' => e = .returned (.agg #[.int .i64 0, .int .i64 0, .int .i64 0, .int .i64 0, .int .i64 0, .int .i64 0]) ∧ Below w.heap.size w w' := cft_any cD w
set_option maxRecDepth 100000 in
set_option maxHeartbeats 2000000 in
theorem wplain (w : World) : Calls Try.prog 57 #[] w fun e w' => e = .returned (.agg #[.int .i64 3, .int .i64 5, .int .i64 3, .int .i64 10, .int .i64 2, .int .i64 2, .int .i64 3, .int .i64 1000]) ∧ Below w.heap.size w w' := by
  obtain ⟨hB, HC⟩ := hbox w 38 [.int .i64 0, .int .i64 0, .int .i64 0, .int .i64 0, .int .i64 0, .int .i64 0, .int .i64 0, .int .i64 0] w.heap.size rfl
  have hbz := fun ws : World => run_build (P := Try.prog) ws 38 #[(0, .int .i64 3), (1, .int .i64 5), (2, .int .i64 3), (3, .int .i64 10), (4, .int .i64 2), (5, .int .i64 2), (6, .int .i64 3), (7, .int .i64 1000)] _ (built_c 3 5 3 10 2 2 3 1000)
  go_enter Try.func57, Try.ntmps57
  go_wp2
  have H8 := Hold.new w 38 [.int .i64 3, .int .i64 5, .int .i64 3, .int .i64 10, .int .i64 2, .int .i64 2, .int .i64 3, .int .i64 1000] w.heap.size rfl
  refine bodyPost_ret (resultsN1 rfl _ _ w.heap.size [.int .i64 3, .int .i64 5, .int .i64 3, .int .i64 10, .int .i64 2, .int .i64 2, .int .i64 3, .int .i64 1000] size_cf agg_cf rfl H8.cells) rfl ?_
  exact ⟨rfl, (Below.refl _ _).alloc (Nat.le_refl _) _⟩
set_option maxRecDepth 100000 in
set_option maxHeartbeats 2000000 in
theorem eql_i6 {P : Program} (t e : TypeId) (x0 x1 x2 x3 x4 x5 y0 y1 y2 y3 y4 y5 : Int) (b : Bool) (hu : P.underlying t = some (.array 6 e)) (he : P.underlying e = some (.int .i64)) (hi : (P.info? e).map (·.size) = some 1)
    (hb : (x0 == y0 && x1 == y1 && x2 == y2 && x3 == y3 && x4 == y4 && x5 == y5) = b) (w : World) : (binOp .eql t (.agg #[.int .i64 x0, .int .i64 x1, .int .i64 x2, .int .i64 x3, .int .i64 x4, .int .i64 x5]) (.agg #[.int .i64 y0, .int .i64 y1, .int .i64 y2, .int .i64 y3, .int .i64 y4, .int .i64 y5])).run P w = .ok (.bool b) w := by
  obtain ⟨ie, hie, hz⟩ := Option.map_eq_some_iff.1 hi
  have hc : P.cellsOf e = 1 := by simp [Program.cellsOf, hie, hz]
  rw [run_eql_struct, show (10000 : Nat) = 9999 + 1 from rfl, run_equalIn_array w 9999 _ _ hu hie, hc]
  have hsz : ∀ w, (sizeOf e).run P w = .ok 1 w := fun w => by simp [sizeOf, typeInfo, hie, hz]
  rw [show List.range 6 = [0, 1, 2, 3, 4, 5] from rfl, ← hb]
  have hp : ∀ (xs : Array Value) (off : Nat) (v : Value) (w : World), xs[off]? = some v → (part e xs off).run P w = .ok v w := fun xs off v w hx => by simp [part, isAgg, run_underlying he, hx]
  have heq : ∀ (x y : Int) (w : World), (Op.equalIn 9999 e (.int .i64 x) (.int .i64 y)).run P w = .ok (x == y) w := fun x y w => run_equalIn_int w 9998 e .i64 .i64 x y he
  simp only [Op.eqItems, Sem.run_bind, Nat.zero_mul, Nat.mul_one]
  rw [hp _ 0 (.int .i64 x0) w rfl]
  simp only [Result.andThen_ok]
  rw [hp _ 0 (.int .i64 y0) w rfl]
  simp only [Result.andThen_ok]
  rw [heq x0 y0]
  cases h0 : x0 == y0 with
  | false => simp
  | true =>
    simp only [Result.andThen_ok, Bool.not_true, Bool.false_eq_true, if_false, Sem.run_pure, Sem.run_bind]
    rw [hp _ 1 (.int .i64 x1) w rfl]
    simp only [Result.andThen_ok]
    rw [hp _ 1 (.int .i64 y1) w rfl]
    simp only [Result.andThen_ok]
    rw [heq x1 y1]
    cases h1 : x1 == y1 with
    | false => simp
    | true =>
      simp only [Result.andThen_ok, Bool.not_true, Bool.false_eq_true, if_false, Sem.run_pure, Sem.run_bind]
      rw [hp _ 2 (.int .i64 x2) w rfl]
      simp only [Result.andThen_ok]
      rw [hp _ 2 (.int .i64 y2) w rfl]
      simp only [Result.andThen_ok]
      rw [heq x2 y2]
      cases h2 : x2 == y2 with
      | false => simp
      | true =>
        simp only [Result.andThen_ok, Bool.not_true, Bool.false_eq_true, if_false, Sem.run_pure, Sem.run_bind]
        rw [hp _ 3 (.int .i64 x3) w rfl]
        simp only [Result.andThen_ok]
        rw [hp _ 3 (.int .i64 y3) w rfl]
        simp only [Result.andThen_ok]
        rw [heq x3 y3]
        cases h3 : x3 == y3 with
        | false => simp
        | true =>
          simp only [Result.andThen_ok, Bool.not_true, Bool.false_eq_true, if_false, Sem.run_pure, Sem.run_bind]
          rw [hp _ 4 (.int .i64 x4) w rfl]
          simp only [Result.andThen_ok]
          rw [hp _ 4 (.int .i64 y4) w rfl]
          simp only [Result.andThen_ok]
          rw [heq x4 y4]
          cases h4 : x4 == y4 with
          | false => simp
          | true =>
            simp only [Result.andThen_ok, Bool.not_true, Bool.false_eq_true, if_false, Sem.run_pure, Sem.run_bind]
            rw [hp _ 5 (.int .i64 x5) w rfl]
            simp only [Result.andThen_ok]
            rw [hp _ 5 (.int .i64 y5) w rfl]
            simp only [Result.andThen_ok]
            rw [heq x5 y5]
            cases h5 : x5 == y5 with
            | false => simp
            | true => simp
theorem eql6_same (x0 x1 x2 x3 x4 x5 : Int) (w : World) : (binOp .eql 41 (.agg #[.int .i64 x0, .int .i64 x1, .int .i64 x2, .int .i64 x3, .int .i64 x4, .int .i64 x5]) (.agg #[.int .i64 x0, .int .i64 x1, .int .i64 x2, .int .i64 x3, .int .i64 x4, .int .i64 x5])).run Try.prog w = .ok (.bool true) w := eql_i6 _ 3 x0 x1 x2 x3 x4 x5 x0 x1 x2 x3 x4 x5 true Try.underlying41 Try.underlying3 (by kernel_rfl) (by simp) w
set_option maxRecDepth 100000 in
set_option maxHeartbeats 2000000 in
theorem cfworks_any (w : World) : Calls Try.prog 22 #[] w fun e w' => e = .returned (.bool true) ∧ Below w.heap.size w w' := by
  go_enter Try.func22, Try.ntmps22
  have hbz := fun ws : World => run_build (P := Try.prog) ws 38 #[] _ built_cz
  go_wp2_with fail
  refine (wplain w).mono ?_
  rintro e W1 ⟨rfl, hb⟩
  have hB := Kept.mk hb
  clear hb
  have he1 := fun ws : World => eql6_same 3 920 5 4 6 3 ws
  have he2 := fun ws : World => eql6_same 0 0 0 0 0 0 ws
  have HP := Kept.mk ((Hold.new W1 38 [.int .i64 3, .int .i64 5, .int .i64 3, .int .i64 10, .int .i64 2, .int .i64 2, .int .i64 3, .int .i64 1000] W1.heap.size rfl).alloc (.cells #[.int .i64 3, .int .i64 5, .int .i64 3, .int .i64 7, .int .i64 2, .int .i64 2, .int .i64 3, .int .i64 1000] 38))
  have HD := Kept.mk (Hold.new (W1.alloc (.cells #[.int .i64 3, .int .i64 5, .int .i64 3, .int .i64 10, .int .i64 2, .int .i64 2, .int .i64 3, .int .i64 1000] 38)) 38 [.int .i64 3, .int .i64 5, .int .i64 3, .int .i64 7, .int .i64 2, .int .i64 2, .int .i64 3, .int .i64 1000] (W1.heap.size + 1) (by simp))
  have hb : Below W1.heap.size W1 ((W1.alloc (.cells #[.int .i64 3, .int .i64 5, .int .i64 3, .int .i64 10, .int .i64 2, .int .i64 2, .int .i64 3, .int .i64 1000] 38)).alloc (.cells #[.int .i64 3, .int .i64 5, .int .i64 3, .int .i64 7, .int .i64 2, .int .i64 2, .int .i64 3, .int .i64 1000] 38)) := ((Below.refl _ _).alloc (Nat.le_refl _) _).alloc (by simp) _
  replace hB := Kept.mk (hB.out.trans (hb.mono hB.out.size))
  clear hb
  go_wp2_with fail
  generalize ((W1.alloc (.cells #[.int .i64 3, .int .i64 5, .int .i64 3, .int .i64 10, .int .i64 2, .int .i64 2, .int .i64 3, .int .i64 1000] 38)).alloc (.cells #[.int .i64 3, .int .i64 5, .int .i64 3, .int .i64 7, .int .i64 2, .int .i64 2, .int .i64 3, .int .i64 1000] 38)) = W2 at *
  generalize W1.heap.size = g at *
  refine (wchk_P W2).mono ?_
  rintro e W3 ⟨rfl, hb⟩
  replace hB := Kept.mk (hB.out.trans (hb.mono hB.out.size))
  replace HP := Kept.mk (HP.out.keep hb)
  replace HD := Kept.mk (HD.out.keep hb)
  clear hb
  have kp0 := HP.out.cells.2 0 _ rfl
  have kp1 := HP.out.cells.2 1 _ rfl
  have kp2 := HP.out.cells.2 2 _ rfl
  have kp3 := HP.out.cells.2 3 _ rfl
  have kp4 := HP.out.cells.2 4 _ rfl
  have kp5 := HP.out.cells.2 5 _ rfl
  have kp6 := HP.out.cells.2 6 _ rfl
  have kp7 := HP.out.cells.2 7 _ rfl
  have kd0 := HD.out.cells.2 0 _ rfl
  have kd1 := HD.out.cells.2 1 _ rfl
  have kd2 := HD.out.cells.2 2 _ rfl
  have kd3 := HD.out.cells.2 3 _ rfl
  have kd4 := HD.out.cells.2 4 _ rfl
  have kd5 := HD.out.cells.2 5 _ rfl
  have kd6 := HD.out.cells.2 6 _ rfl
  have kd7 := HD.out.cells.2 7 _ rfl
  go_wp2_with fail
  clear kp0 kd0 kp1 kd1 kp2 kd2 kp3 kd3 kp4 kd4 kp5 kd5 kp6 kd6 kp7 kd7
  refine (wchk_D W3).mono ?_
  rintro e W4 ⟨rfl, hb⟩
  replace hB := Kept.mk (hB.out.trans (hb.mono hB.out.size))
  replace HP := Kept.mk (HP.out.keep hb)
  replace HD := Kept.mk (HD.out.keep hb)
  clear hb
  have kp0 := HP.out.cells.2 0 _ rfl
  have kp1 := HP.out.cells.2 1 _ rfl
  have kp2 := HP.out.cells.2 2 _ rfl
  have kp3 := HP.out.cells.2 3 _ rfl
  have kp4 := HP.out.cells.2 4 _ rfl
  have kp5 := HP.out.cells.2 5 _ rfl
  have kp6 := HP.out.cells.2 6 _ rfl
  have kp7 := HP.out.cells.2 7 _ rfl
  have kd0 := HD.out.cells.2 0 _ rfl
  have kd1 := HD.out.cells.2 1 _ rfl
  have kd2 := HD.out.cells.2 2 _ rfl
  have kd3 := HD.out.cells.2 3 _ rfl
  have kd4 := HD.out.cells.2 4 _ rfl
  have kd5 := HD.out.cells.2 5 _ rfl
  have kd6 := HD.out.cells.2 6 _ rfl
  have kd7 := HD.out.cells.2 7 _ rfl
  go_wp2_with fail
  clear kp0 kd0 kp1 kd1 kp2 kd2 kp3 kd3 kp4 kd4 kp5 kd5 kp6 kd6 kp7 kd7
  refine (wchk_Z W4).mono ?_
  rintro e W5 ⟨rfl, hb⟩
  replace hB := Kept.mk (hB.out.trans (hb.mono hB.out.size))
  replace HP := Kept.mk (HP.out.keep hb)
  replace HD := Kept.mk (HD.out.keep hb)
  clear hb
  have kp0 := HP.out.cells.2 0 _ rfl
  have kp1 := HP.out.cells.2 1 _ rfl
  have kp2 := HP.out.cells.2 2 _ rfl
  have kp3 := HP.out.cells.2 3 _ rfl
  have kp4 := HP.out.cells.2 4 _ rfl
  have kp5 := HP.out.cells.2 5 _ rfl
  have kp6 := HP.out.cells.2 6 _ rfl
  have kp7 := HP.out.cells.2 7 _ rfl
  have kd0 := HD.out.cells.2 0 _ rfl
  have kd1 := HD.out.cells.2 1 _ rfl
  have kd2 := HD.out.cells.2 2 _ rfl
  have kd3 := HD.out.cells.2 3 _ rfl
  have kd4 := HD.out.cells.2 4 _ rfl
  have kd5 := HD.out.cells.2 5 _ rfl
  have kd6 := HD.out.cells.2 6 _ rfl
  have kd7 := HD.out.cells.2 7 _ rfl
  go_wp2_with fail
  clear kp0 kd0 kp1 kd1 kp2 kd2 kp3 kd3 kp4 kd4 kp5 kd5 kp6 kd6 kp7 kd7
  refine (wsize_P W5).mono ?_
  rintro e W6 ⟨rfl, hb⟩
  replace hB := Kept.mk (hB.out.trans (hb.mono hB.out.size))
  replace HP := Kept.mk (HP.out.keep hb)
  replace HD := Kept.mk (HD.out.keep hb)
  clear hb
  have kp0 := HP.out.cells.2 0 _ rfl
  have kp1 := HP.out.cells.2 1 _ rfl
  have kp2 := HP.out.cells.2 2 _ rfl
  have kp3 := HP.out.cells.2 3 _ rfl
  have kp4 := HP.out.cells.2 4 _ rfl
  have kp5 := HP.out.cells.2 5 _ rfl
  have kp6 := HP.out.cells.2 6 _ rfl
  have kp7 := HP.out.cells.2 7 _ rfl
  have kd0 := HD.out.cells.2 0 _ rfl
  have kd1 := HD.out.cells.2 1 _ rfl
  have kd2 := HD.out.cells.2 2 _ rfl
  have kd3 := HD.out.cells.2 3 _ rfl
  have kd4 := HD.out.cells.2 4 _ rfl
  have kd5 := HD.out.cells.2 5 _ rfl
  have kd6 := HD.out.cells.2 6 _ rfl
  have kd7 := HD.out.cells.2 7 _ rfl
  go_wp2_with fail
  clear kp0 kd0 kp1 kd1 kp2 kd2 kp3 kd3 kp4 kd4 kp5 kd5 kp6 kd6 kp7 kd7
  refine (wchunks_P W6).mono ?_
  rintro e W7 ⟨rfl, hb⟩
  replace hB := Kept.mk (hB.out.trans (hb.mono hB.out.size))
  replace HP := Kept.mk (HP.out.keep hb)
  replace HD := Kept.mk (HD.out.keep hb)
  clear hb
  have kp0 := HP.out.cells.2 0 _ rfl
  have kp1 := HP.out.cells.2 1 _ rfl
  have kp2 := HP.out.cells.2 2 _ rfl
  have kp3 := HP.out.cells.2 3 _ rfl
  have kp4 := HP.out.cells.2 4 _ rfl
  have kp5 := HP.out.cells.2 5 _ rfl
  have kp6 := HP.out.cells.2 6 _ rfl
  have kp7 := HP.out.cells.2 7 _ rfl
  have kd0 := HD.out.cells.2 0 _ rfl
  have kd1 := HD.out.cells.2 1 _ rfl
  have kd2 := HD.out.cells.2 2 _ rfl
  have kd3 := HD.out.cells.2 3 _ rfl
  have kd4 := HD.out.cells.2 4 _ rfl
  have kd5 := HD.out.cells.2 5 _ rfl
  have kd6 := HD.out.cells.2 6 _ rfl
  have kd7 := HD.out.cells.2 7 _ rfl
  go_wp2_with fail
  clear kp0 kd0 kp1 kd1 kp2 kd2 kp3 kd3 kp4 kd4 kp5 kd5 kp6 kd6 kp7 kd7
  refine (wrounds_P W7).mono ?_
  rintro e W8 ⟨rfl, hb⟩
  replace hB := Kept.mk (hB.out.trans (hb.mono hB.out.size))
  replace HP := Kept.mk (HP.out.keep hb)
  replace HD := Kept.mk (HD.out.keep hb)
  clear hb
  have kp0 := HP.out.cells.2 0 _ rfl
  have kp1 := HP.out.cells.2 1 _ rfl
  have kp2 := HP.out.cells.2 2 _ rfl
  have kp3 := HP.out.cells.2 3 _ rfl
  have kp4 := HP.out.cells.2 4 _ rfl
  have kp5 := HP.out.cells.2 5 _ rfl
  have kp6 := HP.out.cells.2 6 _ rfl
  have kp7 := HP.out.cells.2 7 _ rfl
  have kd0 := HD.out.cells.2 0 _ rfl
  have kd1 := HD.out.cells.2 1 _ rfl
  have kd2 := HD.out.cells.2 2 _ rfl
  have kd3 := HD.out.cells.2 3 _ rfl
  have kd4 := HD.out.cells.2 4 _ rfl
  have kd5 := HD.out.cells.2 5 _ rfl
  have kd6 := HD.out.cells.2 6 _ rfl
  have kd7 := HD.out.cells.2 7 _ rfl
  go_wp2_with fail
  clear kp0 kd0 kp1 kd1 kp2 kd2 kp3 kd3 kp4 kd4 kp5 kd5 kp6 kd6 kp7 kd7
  refine (wwork_P W8).mono ?_
  rintro e W9 ⟨rfl, hb⟩
  replace hB := Kept.mk (hB.out.trans (hb.mono hB.out.size))
  replace HP := Kept.mk (HP.out.keep hb)
  replace HD := Kept.mk (HD.out.keep hb)
  clear hb
  have kp0 := HP.out.cells.2 0 _ rfl
  have kp1 := HP.out.cells.2 1 _ rfl
  have kp2 := HP.out.cells.2 2 _ rfl
  have kp3 := HP.out.cells.2 3 _ rfl
  have kp4 := HP.out.cells.2 4 _ rfl
  have kp5 := HP.out.cells.2 5 _ rfl
  have kp6 := HP.out.cells.2 6 _ rfl
  have kp7 := HP.out.cells.2 7 _ rfl
  have kd0 := HD.out.cells.2 0 _ rfl
  have kd1 := HD.out.cells.2 1 _ rfl
  have kd2 := HD.out.cells.2 2 _ rfl
  have kd3 := HD.out.cells.2 3 _ rfl
  have kd4 := HD.out.cells.2 4 _ rfl
  have kd5 := HD.out.cells.2 5 _ rfl
  have kd6 := HD.out.cells.2 6 _ rfl
  have kd7 := HD.out.cells.2 7 _ rfl
  go_wp2_with fail
  clear kp0 kd0 kp1 kd1 kp2 kd2 kp3 kd3 kp4 kd4 kp5 kd5 kp6 kd6 kp7 kd7
  refine (wfoot_P W9).mono ?_
  rintro e W10 ⟨rfl, hb⟩
  replace hB := Kept.mk (hB.out.trans (hb.mono hB.out.size))
  replace HP := Kept.mk (HP.out.keep hb)
  replace HD := Kept.mk (HD.out.keep hb)
  clear hb
  have kp0 := HP.out.cells.2 0 _ rfl
  have kp1 := HP.out.cells.2 1 _ rfl
  have kp2 := HP.out.cells.2 2 _ rfl
  have kp3 := HP.out.cells.2 3 _ rfl
  have kp4 := HP.out.cells.2 4 _ rfl
  have kp5 := HP.out.cells.2 5 _ rfl
  have kp6 := HP.out.cells.2 6 _ rfl
  have kp7 := HP.out.cells.2 7 _ rfl
  have kd0 := HD.out.cells.2 0 _ rfl
  have kd1 := HD.out.cells.2 1 _ rfl
  have kd2 := HD.out.cells.2 2 _ rfl
  have kd3 := HD.out.cells.2 3 _ rfl
  have kd4 := HD.out.cells.2 4 _ rfl
  have kd5 := HD.out.cells.2 5 _ rfl
  have kd6 := HD.out.cells.2 6 _ rfl
  have kd7 := HD.out.cells.2 7 _ rfl
  go_wp2_with fail
  clear kp0 kd0 kp1 kd1 kp2 kd2 kp3 kd3 kp4 kd4 kp5 kd5 kp6 kd6 kp7 kd7
  refine (wfoot_D W10).mono ?_
  rintro e W11 ⟨rfl, hb⟩
  replace hB := Kept.mk (hB.out.trans (hb.mono hB.out.size))
  replace HP := Kept.mk (HP.out.keep hb)
  replace HD := Kept.mk (HD.out.keep hb)
  clear hb
  go_wp2
  go_ret
  exact ⟨rfl, hB.out⟩
end Go.Proofs.Ytpjafjnokgeifaa
end
section
namespace Go.Proofs.Ytpjafjnokgeifaa
open Go.RowKit Go.ChangeShapes Go.WideShapes
set_option linter.unusedVariables false
set_option linter.unusedSimpArgs false

def isCf (C : Cf) : VP := fun v _ => v = .agg #[.int .i64 C.nodes, .int .i64 C.slots, .int .i64 C.pages, .int .i64 C.room, .int .i64 C.chunk, .int .i64 C.buffer, .int .i64 C.queue, .int .i64 C.wear]
structure CameC (C : Cf) : Prop where
  nodes : (Lit.int .i64 C.nodes).wf = true
  slots : (Lit.int .i64 C.slots).wf = true
  pages : (Lit.int .i64 C.pages).wf = true
  room : (Lit.int .i64 C.room).wf = true
  chunk : (Lit.int .i64 C.chunk).wf = true
  buffer : (Lit.int .i64 C.buffer).wf = true
  queue : (Lit.int .i64 C.queue).wf = true
  wear : (Lit.int .i64 C.wear).wf = true
set_option maxRecDepth 100000 in
set_option maxHeartbeats 1000000 in
theorem open_cf {W : World} {H : Type} {enc : TypeId × Value → H} {base b0 : Nat} {spare : Nat → Bool} {held : Bool} {v : Value} {d : DataW H} {p : List MemPlace} (hv : Value.okWide Try.prog W .any b0 38 v)
    (h : DataW.Trod enc Try.prog W base spare held 38 v d p) : ∃ C : Cf, isCf C v W ∧ CameC C := by
  obtain ⟨⟨l⟩, rfl, hsz⟩ := okWide_struct Try.underlying38 hv
  have hl : l.length = 8 := hsz.trans (by kernel_rfl)
  match l, hl with
  | [v0, v1, v2, v3, v4, v5, v6, v7], _ =>
    obtain ⟨fuel, hf⟩ := h
    obtain ⟨xs, n, _, hxe, _, hxl, hg⟩ := DataW.trod_struct Try.underlying38 hf
    have at_ : ∀ i, i < 8 → ∃ y, xs[i]? = some y := fun i hi => ⟨_, List.getElem?_eq_getElem (by rw [hxl]; exact hi)⟩
    have c3 : Try.prog.cellsOf 3 = 1 := by kernel_rfl
    obtain ⟨y0, e0⟩ := at_ 0 (by decide)
    obtain ⟨y1, e1⟩ := at_ 1 (by decide)
    obtain ⟨y2, e2⟩ := at_ 2 (by decide)
    obtain ⟨y3, e3⟩ := at_ 3 (by decide)
    obtain ⟨y4, e4⟩ := at_ 4 (by decide)
    obtain ⟨y5, e5⟩ := at_ 5 (by decide)
    obtain ⟨y6, e6⟩ := at_ 6 (by decide)
    obtain ⟨y7, e7⟩ := at_ 7 (by decide)
    have g0 := hg 0 _ rfl
    have g1 := hg 1 _ rfl
    have g2 := hg 2 _ rfl
    have g3 := hg 3 _ rfl
    have g4 := hg 4 _ rfl
    have g5 := hg 5 _ rfl
    have g6 := hg 6 _ rfl
    have g7 := hg 7 _ rfl
    simp only [Value.cells, c3, List.drop_zero, List.drop_succ_cons, List.take_succ_cons, List.take_zero] at g0 g1 g2 g3 g4 g5 g6 g7
    rw [e0] at g0
    rw [e1] at g1
    rw [e2] at g2
    rw [e3] at g3
    rw [e4] at g4
    rw [e5] at g5
    rw [e6] at g6
    rw [e7] at g7
    obtain ⟨x0, h0, _, w0⟩ := DataW.trod_int Try.underlying3 g0
    obtain ⟨x1, h1, _, w1⟩ := DataW.trod_int Try.underlying3 g1
    obtain ⟨x2, h2, _, w2⟩ := DataW.trod_int Try.underlying3 g2
    obtain ⟨x3, h3, _, w3⟩ := DataW.trod_int Try.underlying3 g3
    obtain ⟨x4, h4, _, w4⟩ := DataW.trod_int Try.underlying3 g4
    obtain ⟨x5, h5, _, w5⟩ := DataW.trod_int Try.underlying3 g5
    obtain ⟨x6, h6, _, w6⟩ := DataW.trod_int Try.underlying3 g6
    obtain ⟨x7, h7, _, w7⟩ := DataW.trod_int Try.underlying3 g7
    injection h0 with h0 _
    injection h1 with h1 _
    injection h2 with h2 _
    injection h3 with h3 _
    injection h4 with h4 _
    injection h5 with h5 _
    injection h6 with h6 _
    injection h7 with h7 _
    subst h0 h1 h2 h3 h4 h5 h6 h7
    exact ⟨⟨x0, x1, x2, x3, x4, x5, x6, x7⟩, rfl, ⟨w0, w1, w2, w3, w4, w5, w6, w7⟩⟩
/-- What there is, number by number. -/
theorem foot_six (C : Cf) : ∃ f0 f1 f2 f3 f4 f5 : Int, footV C = .agg #[.int .i64 f0, .int .i64 f1, .int .i64 f2, .int .i64 f3, .int .i64 f4, .int .i64 f5] := by
  cases h : okC C with
  | true => exact ⟨_, _, _, _, _, _, footV_yes h⟩
  | false => exact ⟨_, _, _, _, _, _, footV_no h⟩
theorem gc_check (C : Cf) (E : Int) (w : World) (h : chkC C = E) : Calls Try.prog 29 #[.agg #[.int .i64 C.nodes, .int .i64 C.slots, .int .i64 C.pages, .int .i64 C.room, .int .i64 C.chunk, .int .i64 C.buffer, .int .i64 C.queue, .int .i64 C.wear]] w fun e w' => e = .returned (.int .i64 E) ∧ Below w.heap.size w w' := by subst h; exact ccheck_any C w
theorem gc_foot (C : Cf) (v : Value) (w : World) (h : footV C = v) : Calls Try.prog 34 #[.agg #[.int .i64 C.nodes, .int .i64 C.slots, .int .i64 C.pages, .int .i64 C.room, .int .i64 C.chunk, .int .i64 C.buffer, .int .i64 C.queue, .int .i64 C.wear]] w fun e w' => e = .returned v ∧ Below w.heap.size w w' := by subst h; exact cft_any C w
end Go.Proofs.Ytpjafjnokgeifaa
end
section
namespace Go.Proofs.Ytpjafjnokgeifaa
open Go.RowKit
set_option linter.unusedVariables false
set_option linter.unusedSimpArgs false
section
variable {P : Program} {ops : Array Oper} {base : World} {a0 : Act} {Q : Exit → Act → World → Prop} {kn : Nat → VP} {i : Nat}
/-- Operation i is passed over, since what it hangs on was. -/
theorem step_skipU (j : Nat) (t : Tmp) (b : Bool) (h : (ops[i]?).map (·.guard) = some (some (j, b))) (hw : waits ops i j = true) (hj : (ops[j]?).bind (·.dst) = some t) (hV : kn j = isVal undef) :
    FStep P ops base a0 Q kn i (isVal undef) := by
  refine ⟨stable_val _, fun o ho a w hk hb hd => ?_⟩
  have hv : a.tmps.getD t undef = undef := knows_new (a0 := a0) t j hw hj hV a w hk hd
  have h' := h
  rw [ho] at h'
  simp only [Option.map_some, Option.some.injEq] at h'
  have hy : yielded ops a.tmps j = none := by
    unfold yielded
    cases hoj : ops[j]? with
    | none => rw [hoj] at hj; simp at hj
    | some oj =>
      rw [hoj] at hj
      simp only [Option.bind_some] at hj
      simp only [hoj, hj, Option.bind_some]
      cases ht : a.tmps[t]? with
      | none => rfl
      | some x =>
        have : x = undef := by rw [← hv]; simp [Array.getD_eq_getD_getElem?, ht]
        subst this
        rfl
  have hwn : Region.wanted o (yielded ops a.tmps) = false := by
    simp only [Region.wanted, h', hy]
    rfl
  unfold wpOp
  simp only [ho, hwn]
  exact ⟨undef, rfl, rfl, Below.refl _ _⟩
end
end Go.Proofs.Ytpjafjnokgeifaa
end
section
namespace Go.Proofs.Ytpjafjnokgeifaa
open Go.RowKit
set_option linter.unusedVariables false
set_option linter.unusedSimpArgs false
attribute [local irreducible] setN

set_option maxRecDepth 100000 in
set_option maxHeartbeats 2000000 in
theorem rfcheck_C (C : Cf) (w : World) : Calls Try.prog 23 #[(.agg #[.int .i64 C.nodes, .int .i64 C.slots, .int .i64 C.pages, .int .i64 C.room, .int .i64 C.chunk, .int .i64 C.buffer, .int .i64 C.queue, .int .i64 C.wear])] w fun e w' => e = .returned (.bool (okC C)) ∧ Below w.heap.size w w' := by
  obtain ⟨hB, HC⟩ := cbox w C w.heap.size rfl
  have kc0 := HC.out.cells.2 0 _ rfl
  have kc1 := HC.out.cells.2 1 _ rfl
  have kc2 := HC.out.cells.2 2 _ rfl
  have kc3 := HC.out.cells.2 3 _ rfl
  have kc4 := HC.out.cells.2 4 _ rfl
  have kc5 := HC.out.cells.2 5 _ rfl
  have kc6 := HC.out.cells.2 6 _ rfl
  have kc7 := HC.out.cells.2 7 _ rfl
  go_enter Try.func23, Try.ntmps23
  go_wp2_with fail
  clear kc0 kc1 kc2 kc3 kc4 kc5 kc6 kc7
  generalize w.alloc (.cells #[.int .i64 C.nodes, .int .i64 C.slots, .int .i64 C.pages, .int .i64 C.room, .int .i64 C.chunk, .int .i64 C.buffer, .int .i64 C.queue, .int .i64 C.wear] 38) = W0 at *
  refine (rin_any C.nodes 2 8 W0).mono ?_
  rintro e W1 ⟨rfl, hb⟩
  replace hB := Kept.mk (hB.out.trans (hb.mono hB.out.size))
  replace HC := Kept.mk (HC.out.keep hb)
  clear hb
  cases h0 : inC C.nodes 2 8 with
  | false =>
    have HZ := Kept.mk (okC_false (c := C) (k := 0) (by decide) h0)
    clear h0
    go_wp2
    go_ret
    exact ⟨by rw [HZ.out]; rfl, hB.out⟩
  | true =>
    have H0 := Kept.mk h0
    clear h0
    have kc0 := HC.out.cells.2 0 _ rfl
    have kc1 := HC.out.cells.2 1 _ rfl
    have kc2 := HC.out.cells.2 2 _ rfl
    have kc3 := HC.out.cells.2 3 _ rfl
    have kc4 := HC.out.cells.2 4 _ rfl
    have kc5 := HC.out.cells.2 5 _ rfl
    have kc6 := HC.out.cells.2 6 _ rfl
    have kc7 := HC.out.cells.2 7 _ rfl
    go_wp2_with fail
    clear kc0 kc1 kc2 kc3 kc4 kc5 kc6 kc7
    refine (rin_any C.slots 1 8 W1).mono ?_
    rintro e W2 ⟨rfl, hb⟩
    replace hB := Kept.mk (hB.out.trans (hb.mono hB.out.size))
    replace HC := Kept.mk (HC.out.keep hb)
    clear hb
    cases h1 : inC C.slots 1 8 with
    | false =>
      have HZ := Kept.mk (okC_false (c := C) (k := 1) (by decide) h1)
      clear h1
      go_wp2
      go_ret
      exact ⟨by rw [HZ.out]; rfl, hB.out⟩
    | true =>
      have hs := inC_iff.1 h1
      have H1 := Kept.mk h1
      clear h1
      have kc0 := HC.out.cells.2 0 _ rfl
      have kc1 := HC.out.cells.2 1 _ rfl
      have kc2 := HC.out.cells.2 2 _ rfl
      have kc3 := HC.out.cells.2 3 _ rfl
      have kc4 := HC.out.cells.2 4 _ rfl
      have kc5 := HC.out.cells.2 5 _ rfl
      have kc6 := HC.out.cells.2 6 _ rfl
      have kc7 := HC.out.cells.2 7 _ rfl
      go_wp2_with fail
      clear kc0 kc1 kc2 kc3 kc4 kc5 kc6 kc7
      refine (rin_any C.pages 3 6 W2).mono ?_
      rintro e W3 ⟨rfl, hb⟩
      replace hB := Kept.mk (hB.out.trans (hb.mono hB.out.size))
      replace HC := Kept.mk (HC.out.keep hb)
      clear hb
      cases h2 : inC C.pages 3 6 with
      | false =>
        have HZ := Kept.mk (okC_false (c := C) (k := 2) (by decide) h2)
        clear h2
        go_wp2
        go_ret
        exact ⟨by rw [HZ.out]; rfl, hB.out⟩
      | true =>
        have H2 := Kept.mk h2
        clear h2
        have kc0 := HC.out.cells.2 0 _ rfl
        have kc1 := HC.out.cells.2 1 _ rfl
        have kc2 := HC.out.cells.2 2 _ rfl
        have kc3 := HC.out.cells.2 3 _ rfl
        have kc4 := HC.out.cells.2 4 _ rfl
        have kc5 := HC.out.cells.2 5 _ rfl
        have kc6 := HC.out.cells.2 6 _ rfl
        have kc7 := HC.out.cells.2 7 _ rfl
        go_wp2_with fail
        clear kc0 kc1 kc2 kc3 kc4 kc5 kc6 kc7
        refine (rin_any C.room (C.slots + 3) 24 W3).mono ?_
        rintro e W4 ⟨rfl, hb⟩
        replace hB := Kept.mk (hB.out.trans (hb.mono hB.out.size))
        replace HC := Kept.mk (HC.out.keep hb)
        clear hb
        cases h3 : inC C.room (C.slots + 3) 24 with
        | false =>
          have HZ := Kept.mk (okC_false (c := C) (k := 3) (by decide) h3)
          clear h3
          go_wp2
          go_ret
          exact ⟨by rw [HZ.out]; rfl, hB.out⟩
        | true =>
          have H3 := Kept.mk h3
          clear h3
          have kc0 := HC.out.cells.2 0 _ rfl
          have kc1 := HC.out.cells.2 1 _ rfl
          have kc2 := HC.out.cells.2 2 _ rfl
          have kc3 := HC.out.cells.2 3 _ rfl
          have kc4 := HC.out.cells.2 4 _ rfl
          have kc5 := HC.out.cells.2 5 _ rfl
          have kc6 := HC.out.cells.2 6 _ rfl
          have kc7 := HC.out.cells.2 7 _ rfl
          go_wp2_with fail
          clear kc0 kc1 kc2 kc3 kc4 kc5 kc6 kc7
          refine (rin_any C.chunk 1 4 W4).mono ?_
          rintro e W5 ⟨rfl, hb⟩
          replace hB := Kept.mk (hB.out.trans (hb.mono hB.out.size))
          replace HC := Kept.mk (HC.out.keep hb)
          clear hb
          cases h4 : inC C.chunk 1 4 with
          | false =>
            have HZ := Kept.mk (okC_false (c := C) (k := 4) (by decide) h4)
            clear h4
            go_wp2
            go_ret
            exact ⟨by rw [HZ.out]; rfl, hB.out⟩
          | true =>
            have H4 := Kept.mk h4
            clear h4
            have kc0 := HC.out.cells.2 0 _ rfl
            have kc1 := HC.out.cells.2 1 _ rfl
            have kc2 := HC.out.cells.2 2 _ rfl
            have kc3 := HC.out.cells.2 3 _ rfl
            have kc4 := HC.out.cells.2 4 _ rfl
            have kc5 := HC.out.cells.2 5 _ rfl
            have kc6 := HC.out.cells.2 6 _ rfl
            have kc7 := HC.out.cells.2 7 _ rfl
            go_wp2_with fail
            clear kc0 kc1 kc2 kc3 kc4 kc5 kc6 kc7
            refine (rin_any C.buffer 1 8 W5).mono ?_
            rintro e W6 ⟨rfl, hb⟩
            replace hB := Kept.mk (hB.out.trans (hb.mono hB.out.size))
            replace HC := Kept.mk (HC.out.keep hb)
            clear hb
            cases h5 : inC C.buffer 1 8 with
            | false =>
              have HZ := Kept.mk (okC_false (c := C) (k := 5) (by decide) h5)
              clear h5
              go_wp2
              go_ret
              exact ⟨by rw [HZ.out]; rfl, hB.out⟩
            | true =>
              have H5 := Kept.mk h5
              clear h5
              have kc0 := HC.out.cells.2 0 _ rfl
              have kc1 := HC.out.cells.2 1 _ rfl
              have kc2 := HC.out.cells.2 2 _ rfl
              have kc3 := HC.out.cells.2 3 _ rfl
              have kc4 := HC.out.cells.2 4 _ rfl
              have kc5 := HC.out.cells.2 5 _ rfl
              have kc6 := HC.out.cells.2 6 _ rfl
              have kc7 := HC.out.cells.2 7 _ rfl
              go_wp2_with fail
              clear kc0 kc1 kc2 kc3 kc4 kc5 kc6 kc7
              refine (rin_any C.queue 2 8 W6).mono ?_
              rintro e W7 ⟨rfl, hb⟩
              replace hB := Kept.mk (hB.out.trans (hb.mono hB.out.size))
              replace HC := Kept.mk (HC.out.keep hb)
              clear hb
              cases h6 : inC C.queue 2 8 with
              | false =>
                have HZ := Kept.mk (okC_false (c := C) (k := 6) (by decide) h6)
                clear h6
                go_wp2
                go_ret
                exact ⟨by rw [HZ.out]; rfl, hB.out⟩
              | true =>
                have H6 := Kept.mk h6
                clear h6
                have kc0 := HC.out.cells.2 0 _ rfl
                have kc1 := HC.out.cells.2 1 _ rfl
                have kc2 := HC.out.cells.2 2 _ rfl
                have kc3 := HC.out.cells.2 3 _ rfl
                have kc4 := HC.out.cells.2 4 _ rfl
                have kc5 := HC.out.cells.2 5 _ rfl
                have kc6 := HC.out.cells.2 6 _ rfl
                have kc7 := HC.out.cells.2 7 _ rfl
                go_wp2_with fail
                clear kc0 kc1 kc2 kc3 kc4 kc5 kc6 kc7
                refine (rin_any C.wear 1 2147483647 W7).mono ?_
                rintro e W8 ⟨rfl, hb⟩
                replace hB := Kept.mk (hB.out.trans (hb.mono hB.out.size))
                replace HC := Kept.mk (HC.out.keep hb)
                clear hb
                cases h7 : inC C.wear 1 2147483647 with
                | false =>
                  have HZ := Kept.mk (okC_false (c := C) (k := 7) (by decide) h7)
                  clear h7
                  go_wp2
                  go_ret
                  exact ⟨by rw [HZ.out]; rfl, hB.out⟩
                | true =>
                  have H7 := Kept.mk h7
                  clear h7
                  have HZ := Kept.mk (show okC C = true by unfold okC; simp only [atC]; rw [H0.out, H1.out, H2.out, H3.out, H4.out, H5.out, H6.out, H7.out]; rfl)
                  go_wp2
                  go_ret
                  exact ⟨by rw [HZ.out]; rfl, hB.out⟩
set_option maxRecDepth 100000 in
set_option maxHeartbeats 2000000 in
theorem rfsize_any (C : Cf) (w : World) : Calls Try.prog 24 #[(.agg #[.int .i64 C.nodes, .int .i64 C.slots, .int .i64 C.pages, .int .i64 C.room, .int .i64 C.chunk, .int .i64 C.buffer, .int .i64 C.queue, .int .i64 C.wear])] w fun e w' => e = .returned (.int .i64 (sizeC C)) ∧ Below w.heap.size w w' := by
  obtain ⟨hB, HC⟩ := cbox w C w.heap.size rfl
  have kc0 := HC.out.cells.2 0 _ rfl
  have kc1 := HC.out.cells.2 1 _ rfl
  have kc2 := HC.out.cells.2 2 _ rfl
  have kc3 := HC.out.cells.2 3 _ rfl
  have kc4 := HC.out.cells.2 4 _ rfl
  have kc5 := HC.out.cells.2 5 _ rfl
  have kc6 := HC.out.cells.2 6 _ rfl
  have kc7 := HC.out.cells.2 7 _ rfl
  go_enter Try.func24, Try.ntmps24
  go_wp2_with fail
  clear kc0 kc1 kc2 kc3 kc4 kc5 kc6 kc7
  generalize w.alloc (.cells #[.int .i64 C.nodes, .int .i64 C.slots, .int .i64 C.pages, .int .i64 C.room, .int .i64 C.chunk, .int .i64 C.buffer, .int .i64 C.queue, .int .i64 C.wear] 38) = W0 at *
  refine (rfcheck_C C W0).mono ?_
  rintro e W1 ⟨rfl, hb⟩
  replace hB := Kept.mk (hB.out.trans (hb.mono hB.out.size))
  replace HC := Kept.mk (HC.out.keep hb)
  clear hb
  cases hok : okC C with
  | false =>
    have HZ := Kept.mk hok
    clear hok
    go_wp2
    go_ret
    exact ⟨by unfold sizeC; rw [HZ.out]; rfl, hB.out⟩
  | true =>
    have HO := Kept.mk (okC_spec.1 hok)
    have HZ := Kept.mk hok
    clear hok
    have kc0 := HC.out.cells.2 0 _ rfl
    have kc1 := HC.out.cells.2 1 _ rfl
    have kc2 := HC.out.cells.2 2 _ rfl
    have kc3 := HC.out.cells.2 3 _ rfl
    have kc4 := HC.out.cells.2 4 _ rfl
    have kc5 := HC.out.cells.2 5 _ rfl
    have kc6 := HC.out.cells.2 6 _ rfl
    have kc7 := HC.out.cells.2 7 _ rfl
    have h2 := HO.out.room
    have h1 := HO.out.slots
    go_wp2
    go_ret
    exact ⟨by unfold sizeC; rw [if_pos HZ.out]; go_num, hB.out⟩
set_option maxRecDepth 100000 in
set_option maxHeartbeats 2000000 in
theorem rfchunks_any (C : Cf) (w : World) : Calls Try.prog 25 #[(.agg #[.int .i64 C.nodes, .int .i64 C.slots, .int .i64 C.pages, .int .i64 C.room, .int .i64 C.chunk, .int .i64 C.buffer, .int .i64 C.queue, .int .i64 C.wear])] w fun e w' => e = .returned (.int .i64 (chunksC C)) ∧ Below w.heap.size w w' := by
  obtain ⟨hB, HC⟩ := cbox w C w.heap.size rfl
  have kc0 := HC.out.cells.2 0 _ rfl
  have kc1 := HC.out.cells.2 1 _ rfl
  have kc2 := HC.out.cells.2 2 _ rfl
  have kc3 := HC.out.cells.2 3 _ rfl
  have kc4 := HC.out.cells.2 4 _ rfl
  have kc5 := HC.out.cells.2 5 _ rfl
  have kc6 := HC.out.cells.2 6 _ rfl
  have kc7 := HC.out.cells.2 7 _ rfl
  go_enter Try.func25, Try.ntmps25
  go_wp2_with fail
  clear kc0 kc1 kc2 kc3 kc4 kc5 kc6 kc7
  generalize w.alloc (.cells #[.int .i64 C.nodes, .int .i64 C.slots, .int .i64 C.pages, .int .i64 C.room, .int .i64 C.chunk, .int .i64 C.buffer, .int .i64 C.queue, .int .i64 C.wear] 38) = W0 at *
  refine (rfcheck_C C W0).mono ?_
  rintro e W1 ⟨rfl, hb⟩
  replace hB := Kept.mk (hB.out.trans (hb.mono hB.out.size))
  replace HC := Kept.mk (HC.out.keep hb)
  clear hb
  cases hok : okC C with
  | false =>
    have HZ := Kept.mk hok
    clear hok
    go_wp2
    go_ret
    exact ⟨by unfold chunksC; rw [HZ.out]; rfl, hB.out⟩
  | true =>
    have HO := Kept.mk (okC_spec.1 hok)
    have HZ := Kept.mk hok
    clear hok
    have kc0 := HC.out.cells.2 0 _ rfl
    have kc1 := HC.out.cells.2 1 _ rfl
    have kc2 := HC.out.cells.2 2 _ rfl
    have kc3 := HC.out.cells.2 3 _ rfl
    have kc4 := HC.out.cells.2 4 _ rfl
    have kc5 := HC.out.cells.2 5 _ rfl
    have kc6 := HC.out.cells.2 6 _ rfl
    have kc7 := HC.out.cells.2 7 _ rfl
    have hs := HO.out.slots
    have hk := HO.out.chunk
    have HS := Kept.mk (@chunks_spec C HO.out)
    have HQ := Kept.mk (show chunksC C = (C.slots + C.chunk - 1) / C.chunk by unfold chunksC; rw [if_pos HZ.out])
    go_wp2
    clear kc0 kc1 kc2 kc3 kc4 kc5 kc6 kc7
    go_loopw [3, 4] (fun n i wr => ∃ k : Nat, k ≤ 8 ∧ n = .int .i64 (k : Int) ∧ i = .int .i64 ((k : Int) * C.chunk) ∧ Kept (k = 0 ∨ ((k : Int) - 1) * C.chunk < C.slots) ∧ Kept (Below w.heap.size w wr) ∧ Kept (Hold wr w.heap.size [.int .i64 C.nodes, .int .i64 C.slots, .int .i64 C.pages, .int .i64 C.room, .int .i64 C.chunk, .int .i64 C.buffer, .int .i64 C.queue, .int .i64 C.wear])) (fun n _ _ => 9 - (intOf n).toNat)
    case atStart => exact ⟨0, by omega, rfl, by rw [show ((0 : Nat) : Int) = 0 from rfl, Int.zero_mul], ⟨.inl rfl⟩, hB, HC⟩
    case round =>
      clear hB HC
      obtain ⟨k, hk8, rfl, rfl, A, hB, HC⟩ := hrel
      have kc0 := HC.out.cells.2 0 _ rfl
      have kc1 := HC.out.cells.2 1 _ rfl
      have kc2 := HC.out.cells.2 2 _ rfl
      have kc3 := HC.out.cells.2 3 _ rfl
      have kc4 := HC.out.cells.2 4 _ rfl
      have kc5 := HC.out.cells.2 5 _ rfl
      have kc6 := HC.out.cells.2 6 _ rfl
      have kc7 := HC.out.cells.2 7 _ rfl
      have hA := A.out
      obtain ⟨c, hc⟩ : ∃ c, C.chunk = c := ⟨_, rfl⟩
      obtain ⟨s, hs'⟩ : ∃ s, C.slots = s := ⟨_, rfl⟩
      rw [hc] at hk kc4 hA ⊢
      rw [hs'] at hs kc1 hA
      have HCc := Kept.mk hc
      have HSs := Kept.mk hs'
      clear hc hs'
      have hc4 : c = 1 ∨ c = 2 ∨ c = 3 ∨ c = 4 := by omega
      by_cases hlt : (k : Int) * c < s
      · have hk7 : k < 8 := by rcases hc4 with rfl | rfl | rfl | rfl <;> omega
        have hst : (k : Int) * c + c = ((k + 1 : Nat) : Int) * c := by rw [Int.natCast_add, Int.add_mul]; simp
        have hb1 : 0 ≤ (k : Int) * c ∧ (k : Int) * c ≤ 40 := by rcases hc4 with rfl | rfl | rfl | rfl <;> omega
        have HST := Kept.mk hst
        have HLT := Kept.mk hlt
        obtain ⟨p, hp⟩ : ∃ p, (k : Int) * c = p := ⟨_, rfl⟩
        rw [hp] at hlt hb1 HST HLT ⊢
        clear hA hst
        have HP := Kept.mk hp
        clear hp
        go_wp2
        go_roundw
        case rel => exact ⟨k + 1, by omega, by go_num, by rw [← HST.out], ⟨.inr (by rw [HSs.out, show ((k + 1 : Nat) : Int) - 1 = (k : Int) by omega, HP.out]; exact HLT.out)⟩, hB, (by have h := HC; rw [HCc.out] at h; exact h)⟩
        case measure => simp [intOf]; omega
      · have HN := Kept.mk (show (k : Int) = chunksC C by
          rw [HQ.out]
          refine HS.out.2 ?_
          rw [HCc.out, HSs.out]
          refine ⟨by omega, ?_⟩
          rcases hA with rfl | h
          · exfalso
            simp at hlt
            omega
          · exact h)
        clear hA A
        obtain ⟨p, hp⟩ : ∃ p, (k : Int) * c = p := ⟨_, rfl⟩
        rw [hp] at hlt ⊢
        go_wp2
        go_ret
        exact ⟨by rw [← HN.out]; rfl, hB.out⟩
noncomputable def rrdOps : Array Oper := regionOf Try.f26 3
set_option maxRecDepth 100000 in
set_option maxHeartbeats 2000000 in
theorem rrd_region (Q : Exit → Act → World → Prop) (a0 : Act) (w0 : World) (hsz : a0.tmps.size = 12) (g : Nat) (C : Cf) (hc : CellsN w0 g [.int .i64 C.nodes, .int .i64 C.slots, .int .i64 C.pages, .int .i64 C.room, .int .i64 C.chunk, .int .i64 C.buffer, .int .i64 C.queue, .int .i64 C.wear]) (hO : OkC C) (e1 : a0.tmps.getD 1 undef = .pointer (some ⟨g, 0, none⟩))
    (hQ : ∀ (g : Nat → Value) (w : World), g 2 = .int .i64 (C.nodes * (chunksC C + 1)) → Below w0.heap.size w0 w → Q .normal { tmps := [6, 7, 8, 9, 10, 11, 2].foldl (fun t s => t.setIfInBounds s (g s)) a0.tmps, defers := a0.defers } w) :
    (Code.region 3 rrdOps true).wp Try.prog Q a0 w0 := by
  have h1 := hO.nodes
  have h2 := hO.slots
  have h3 := hO.room
  have h4 := chunksC_range hO
  have h5 : C.nodes * (chunksC C + 1) ≤ 8 * 9 := Int.le_trans (Int.mul_le_mul_of_nonneg_right h1.2 (by omega)) (Int.mul_le_mul_of_nonneg_left (by omega) (by omega))
  have h6 : 0 ≤ C.nodes * (chunksC C + 1) := Int.mul_nonneg (by omega) (by omega)
  refine wp_region_flow mixed (by rw [hsz]; kernel_rfl) ?_
  rw [show rrdOps.size = 7 by kernel_rfl]
  refine ⟨isVal (.pointer (some ⟨g, 0, none⟩)), step_field 38 (.tmp 1) 0 ⟨g, 0, none⟩ ⟨g, 0, none⟩ (by kernel_rfl) (wanted_none (by kernel_rfl)) (knows_old 1 (.pointer (some ⟨g, 0, none⟩)) (by kernel_rfl) e1) (f_cf (g) 0 (by omega)), ?_⟩
  refine ⟨isVal (.int .i64 C.nodes), step_read 3 (.tmp 6) ⟨g, 0, none⟩ (.int .i64 C.nodes) (by kernel_rfl) (wanted_none (by kernel_rfl)) (knows_new (V := isVal (.pointer (some ⟨g, 0, none⟩))) 6 0 (by kernel_rfl) (by kernel_rfl) (by kernel_rfl)) ((hc).2 0 _ rfl) (hc).1 (agg_in), ?_⟩
  refine ⟨isVal (.agg #[.int .i64 C.nodes, .int .i64 C.slots, .int .i64 C.pages, .int .i64 C.room, .int .i64 C.chunk, .int .i64 C.buffer, .int .i64 C.queue, .int .i64 C.wear]), step_loadN 38 (.tmp 1) (g) [.int .i64 C.nodes, .int .i64 C.slots, .int .i64 C.pages, .int .i64 C.room, .int .i64 C.chunk, .int .i64 C.buffer, .int .i64 C.queue, .int .i64 C.wear] (by kernel_rfl) (wanted_none (by kernel_rfl)) (knows_old 1 (.pointer (some ⟨g, 0, none⟩)) (by kernel_rfl) e1) size_cf agg_cf (hc), ?_⟩
  refine ⟨isVal (.int .i64 (chunksC C)), step_call 25 #[.tmp 8] #[38] #[.agg #[.int .i64 C.nodes, .int .i64 C.slots, .int .i64 C.pages, .int .i64 C.room, .int .i64 C.chunk, .int .i64 C.buffer, .int .i64 C.queue, .int .i64 C.wear]] (by kernel_rfl) (wanted_none (by kernel_rfl)) (stable_val _) (args1 (.tmp 8) (.agg #[.int .i64 C.nodes, .int .i64 C.slots, .int .i64 C.pages, .int .i64 C.room, .int .i64 C.chunk, .int .i64 C.buffer, .int .i64 C.queue, .int .i64 C.wear]) (knows_new (V := isVal (.agg #[.int .i64 C.nodes, .int .i64 C.slots, .int .i64 C.pages, .int .i64 C.room, .int .i64 C.chunk, .int .i64 C.buffer, .int .i64 C.queue, .int .i64 C.wear])) 8 2 (by kernel_rfl) (by kernel_rfl) (by kernel_rfl))) (enters_of Try.func25 (by kernel_rfl) rfl) (by intro w' hb; exact cv1 (rfchunks_any C w')), ?_⟩
  refine ⟨isVal (.int .i64 ((chunksC C) + 1)), step_bin .add 3 3 (.tmp 9) (.const (.int .i64 1)) (.int .i64 (chunksC C)) (.int .i64 1) (.int .i64 ((chunksC C) + 1)) (by kernel_rfl) (wanted_none (by kernel_rfl)) (knows_new (V := isVal (.int .i64 (chunksC C))) 9 3 (by kernel_rfl) (by kernel_rfl) (by kernel_rfl)) (knows_const _) (fun _ => rfl) (add_v (chunksC C) 1 ((chunksC C) + 1) (by omega) (by omega) (by omega)), ?_⟩
  refine ⟨isVal (.int .i64 (C.nodes * (chunksC C + 1))), step_bin .mul 3 3 (.tmp 7) (.tmp 10) (.int .i64 C.nodes) (.int .i64 ((chunksC C) + 1)) (.int .i64 (C.nodes * (chunksC C + 1))) (by kernel_rfl) (wanted_none (by kernel_rfl)) (knows_new (V := isVal (.int .i64 C.nodes)) 7 1 (by kernel_rfl) (by kernel_rfl) (by kernel_rfl)) (knows_new (V := isVal (.int .i64 ((chunksC C) + 1))) 10 4 (by kernel_rfl) (by kernel_rfl) (by kernel_rfl)) (fun _ => rfl) (mul_v C.nodes ((chunksC C) + 1) (C.nodes * (chunksC C + 1)) (by omega) (by omega) (by omega)), ?_⟩
  refine ⟨isVal (.int .i64 (C.nodes * (chunksC C + 1))), step_assign (.tmp 11) (by kernel_rfl) (wanted_none (by kernel_rfl)) (stable_val _) (knows_new (V := isVal (.int .i64 (C.nodes * (chunksC C + 1)))) 11 5 (by kernel_rfl) (by kernel_rfl) (by kernel_rfl)), ?_⟩
  intro a w hkp hb hd
  rw [kept_of hkp [some 6, some 7, some 8, some 9, some 10, some 11, some 2] [6, 7, 8, 9, 10, 11, 2] (by kernel_rfl) (by decide)]
  have d2 := fdone_of (hd 6 (by rw [show rrdOps.size = 7 by kernel_rfl]; decide)) (t := 2) (V := isVal (.int .i64 (C.nodes * (chunksC C + 1)))) (by kernel_rfl) (by kernel_rfl)
  exact hQ (fun s => a.tmps.getD s undef) w d2 hb
set_option maxRecDepth 100000 in
set_option maxHeartbeats 2000000 in
theorem rfrounds_any (C : Cf) (w : World) : Calls Try.prog 26 #[(.agg #[.int .i64 C.nodes, .int .i64 C.slots, .int .i64 C.pages, .int .i64 C.room, .int .i64 C.chunk, .int .i64 C.buffer, .int .i64 C.queue, .int .i64 C.wear])] w fun e w' => e = .returned (.int .i64 (roundsC C)) ∧ Below w.heap.size w w' := by
  obtain ⟨hB, HC⟩ := cbox w C w.heap.size rfl
  have kc0 := HC.out.cells.2 0 _ rfl
  have kc1 := HC.out.cells.2 1 _ rfl
  have kc2 := HC.out.cells.2 2 _ rfl
  have kc3 := HC.out.cells.2 3 _ rfl
  have kc4 := HC.out.cells.2 4 _ rfl
  have kc5 := HC.out.cells.2 5 _ rfl
  have kc6 := HC.out.cells.2 6 _ rfl
  have kc7 := HC.out.cells.2 7 _ rfl
  go_enter Try.func26, Try.ntmps26
  go_wp2_with fail
  clear kc0 kc1 kc2 kc3 kc4 kc5 kc6 kc7
  generalize w.alloc (.cells #[.int .i64 C.nodes, .int .i64 C.slots, .int .i64 C.pages, .int .i64 C.room, .int .i64 C.chunk, .int .i64 C.buffer, .int .i64 C.queue, .int .i64 C.wear] 38) = W0 at *
  refine (rfcheck_C C W0).mono ?_
  rintro e W1 ⟨rfl, hb⟩
  replace hB := Kept.mk (hB.out.trans (hb.mono hB.out.size))
  replace HC := Kept.mk (HC.out.keep hb)
  clear hb
  cases hok : okC C with
  | false =>
    have HZ := Kept.mk hok
    clear hok
    go_wp2
    go_ret
    exact ⟨by unfold roundsC; rw [HZ.out]; rfl, hB.out⟩
  | true =>
    have HO := Kept.mk (okC_spec.1 hok)
    have HZ := Kept.mk hok
    clear hok
    go_wp2_with fail
    refine rrd_region _ _ _ rfl w.heap.size C HC.out.cells HO.out rfl ?_
    intro f9 W9 d2 hb9
    simp only [List.foldl_cons, List.foldl_nil, d2]
    generalize f9 6 = y6
    generalize f9 7 = y7
    generalize f9 8 = y8
    generalize f9 9 = y9
    generalize f9 10 = y10
    generalize f9 11 = y11
    clear d2
    simp only [List.setIfInBounds_toArray, List.set_cons_succ, List.set_cons_zero]
    replace hB := Kept.mk (hB.out.trans (hb9.mono hB.out.size))
    replace HC := Kept.mk (HC.out.keep hb9)
    clear hb9
    go_wp2
    go_ret
    exact ⟨by unfold roundsC; rw [if_pos HZ.out]; rfl, hB.out⟩
set_option maxRecDepth 100000 in
set_option maxHeartbeats 2000000 in
theorem rfwork_any (C : Cf) (w : World) : Calls Try.prog 27 #[(.agg #[.int .i64 C.nodes, .int .i64 C.slots, .int .i64 C.pages, .int .i64 C.room, .int .i64 C.chunk, .int .i64 C.buffer, .int .i64 C.queue, .int .i64 C.wear])] w fun e w' => e = .returned (.int .i64 (workC C)) ∧ Below w.heap.size w w' := by
  obtain ⟨hB, HC⟩ := cbox w C w.heap.size rfl
  have kc0 := HC.out.cells.2 0 _ rfl
  have kc1 := HC.out.cells.2 1 _ rfl
  have kc2 := HC.out.cells.2 2 _ rfl
  have kc3 := HC.out.cells.2 3 _ rfl
  have kc4 := HC.out.cells.2 4 _ rfl
  have kc5 := HC.out.cells.2 5 _ rfl
  have kc6 := HC.out.cells.2 6 _ rfl
  have kc7 := HC.out.cells.2 7 _ rfl
  go_enter Try.func27, Try.ntmps27
  go_wp2_with fail
  clear kc0 kc1 kc2 kc3 kc4 kc5 kc6 kc7
  generalize w.alloc (.cells #[.int .i64 C.nodes, .int .i64 C.slots, .int .i64 C.pages, .int .i64 C.room, .int .i64 C.chunk, .int .i64 C.buffer, .int .i64 C.queue, .int .i64 C.wear] 38) = W0 at *
  refine (rfcheck_C C W0).mono ?_
  rintro e W1 ⟨rfl, hb⟩
  replace hB := Kept.mk (hB.out.trans (hb.mono hB.out.size))
  replace HC := Kept.mk (HC.out.keep hb)
  clear hb
  cases hok : okC C with
  | false =>
    have HZ := Kept.mk hok
    clear hok
    go_wp2
    go_ret
    exact ⟨by unfold workC; rw [HZ.out]; rfl, hB.out⟩
  | true =>
    have HO := Kept.mk (okC_spec.1 hok)
    have HZ := Kept.mk hok
    clear hok
    have kc0 := HC.out.cells.2 0 _ rfl
    have kc1 := HC.out.cells.2 1 _ rfl
    have kc2 := HC.out.cells.2 2 _ rfl
    have kc3 := HC.out.cells.2 3 _ rfl
    have kc4 := HC.out.cells.2 4 _ rfl
    have kc5 := HC.out.cells.2 5 _ rfl
    have kc6 := HC.out.cells.2 6 _ rfl
    have kc7 := HC.out.cells.2 7 _ rfl
    have h1 := HO.out.slots
    have h2 := HO.out.room
    go_wp2
    go_ret
    exact ⟨by unfold workC; rw [if_pos HZ.out]; go_num, hB.out⟩
noncomputable def rftOps : Array Oper := regionOf Try.f28 3
set_option maxRecDepth 100000 in
set_option maxHeartbeats 2000000 in
theorem rft_region (Q : Exit → Act → World → Prop) (a0 : Act) (w0 : World) (hsz : a0.tmps.size = 22) (r : Nat) (old : List Value) (g : Nat) (C : Cf) (hc : CellsN w0 g [.int .i64 C.nodes, .int .i64 C.slots, .int .i64 C.pages, .int .i64 C.room, .int .i64 C.chunk, .int .i64 C.buffer, .int .i64 C.queue, .int .i64 C.wear]) (hO : OkC C) (e1 : a0.tmps.getD 1 undef = .pointer (some ⟨g, 0, none⟩)) (e2 : a0.tmps.getD 2 undef = .pointer (some ⟨r, 0, none⟩)) (hr : Hold w0 r old) (hol : old.length = 6)
    (hQ : ∀ (a : Act) (w : World), a.defers = a0.defers → a.tmps.getD 2 undef = .pointer (some ⟨r, 0, none⟩) → Below w0.heap.size w0 w → Q .normal a (setN w r 0 [.int .i64 C.pages, .int .i64 (sizeC C), .int .i64 C.slots, .int .i64 (2 * C.buffer), .int .i64 (2 * C.nodes), .int .i64 C.queue])) :
    (Code.region 3 rftOps true).wp Try.prog Q a0 w0 := by
  have h1 := hO.nodes
  have h2 := hO.buffer
  refine wp_region_tail 15 mixed (by rw [hsz]; kernel_rfl) (by kernel_rfl) ?_
  rw [show rftOps.size - 15 = 1 by kernel_rfl]
  refine ⟨isVal (.pointer (some ⟨g, 2, none⟩)), step_field 38 (.tmp 1) 2 ⟨g, 0, none⟩ ⟨g, 2, none⟩ (by kernel_rfl) (wanted_none (by kernel_rfl)) (knows_old 1 (.pointer (some ⟨g, 0, none⟩)) (by kernel_rfl) e1) (f_cf (g) 2 (by omega)), ?_⟩
  refine ⟨isVal (.int .i64 C.pages), step_read 3 (.tmp 7) ⟨g, 2, none⟩ (.int .i64 C.pages) (by kernel_rfl) (wanted_none (by kernel_rfl)) (knows_new (V := isVal (.pointer (some ⟨g, 2, none⟩))) 7 0 (by kernel_rfl) (by kernel_rfl) (by kernel_rfl)) ((hc).2 2 _ rfl) (hc).1 (agg_in), ?_⟩
  refine ⟨isVal (.agg #[.int .i64 C.nodes, .int .i64 C.slots, .int .i64 C.pages, .int .i64 C.room, .int .i64 C.chunk, .int .i64 C.buffer, .int .i64 C.queue, .int .i64 C.wear]), step_loadN 38 (.tmp 1) (g) [.int .i64 C.nodes, .int .i64 C.slots, .int .i64 C.pages, .int .i64 C.room, .int .i64 C.chunk, .int .i64 C.buffer, .int .i64 C.queue, .int .i64 C.wear] (by kernel_rfl) (wanted_none (by kernel_rfl)) (knows_old 1 (.pointer (some ⟨g, 0, none⟩)) (by kernel_rfl) e1) size_cf agg_cf (hc), ?_⟩
  refine ⟨isVal (.int .i64 (sizeC C)), step_call 24 #[.tmp 9] #[38] #[.agg #[.int .i64 C.nodes, .int .i64 C.slots, .int .i64 C.pages, .int .i64 C.room, .int .i64 C.chunk, .int .i64 C.buffer, .int .i64 C.queue, .int .i64 C.wear]] (by kernel_rfl) (wanted_none (by kernel_rfl)) (stable_val _) (args1 (.tmp 9) (.agg #[.int .i64 C.nodes, .int .i64 C.slots, .int .i64 C.pages, .int .i64 C.room, .int .i64 C.chunk, .int .i64 C.buffer, .int .i64 C.queue, .int .i64 C.wear]) (knows_new (V := isVal (.agg #[.int .i64 C.nodes, .int .i64 C.slots, .int .i64 C.pages, .int .i64 C.room, .int .i64 C.chunk, .int .i64 C.buffer, .int .i64 C.queue, .int .i64 C.wear])) 9 2 (by kernel_rfl) (by kernel_rfl) (by kernel_rfl))) (enters_of Try.func24 (by kernel_rfl) rfl) (by intro w' hb; exact cv1 (rfsize_any C w')), ?_⟩
  refine ⟨isVal (.pointer (some ⟨g, 1, none⟩)), step_field 38 (.tmp 1) 1 ⟨g, 0, none⟩ ⟨g, 1, none⟩ (by kernel_rfl) (wanted_none (by kernel_rfl)) (knows_old 1 (.pointer (some ⟨g, 0, none⟩)) (by kernel_rfl) e1) (f_cf (g) 1 (by omega)), ?_⟩
  refine ⟨isVal (.int .i64 C.slots), step_read 3 (.tmp 11) ⟨g, 1, none⟩ (.int .i64 C.slots) (by kernel_rfl) (wanted_none (by kernel_rfl)) (knows_new (V := isVal (.pointer (some ⟨g, 1, none⟩))) 11 4 (by kernel_rfl) (by kernel_rfl) (by kernel_rfl)) ((hc).2 1 _ rfl) (hc).1 (agg_in), ?_⟩
  refine ⟨isVal (.pointer (some ⟨g, 5, none⟩)), step_field 38 (.tmp 1) 5 ⟨g, 0, none⟩ ⟨g, 5, none⟩ (by kernel_rfl) (wanted_none (by kernel_rfl)) (knows_old 1 (.pointer (some ⟨g, 0, none⟩)) (by kernel_rfl) e1) (f_cf (g) 5 (by omega)), ?_⟩
  refine ⟨isVal (.int .i64 C.buffer), step_read 3 (.tmp 13) ⟨g, 5, none⟩ (.int .i64 C.buffer) (by kernel_rfl) (wanted_none (by kernel_rfl)) (knows_new (V := isVal (.pointer (some ⟨g, 5, none⟩))) 13 6 (by kernel_rfl) (by kernel_rfl) (by kernel_rfl)) ((hc).2 5 _ rfl) (hc).1 (agg_in), ?_⟩
  refine ⟨isVal (.int .i64 (2 * C.buffer)), step_bin .mul 3 3 (.const (.int .i64 2)) (.tmp 14) (.int .i64 2) (.int .i64 C.buffer) (.int .i64 (2 * C.buffer)) (by kernel_rfl) (wanted_none (by kernel_rfl)) (knows_const _) (knows_new (V := isVal (.int .i64 C.buffer)) 14 7 (by kernel_rfl) (by kernel_rfl) (by kernel_rfl)) (fun _ => rfl) (mul_v 2 C.buffer (2 * C.buffer) (by omega) (by omega) (by omega)), ?_⟩
  refine ⟨isVal (.pointer (some ⟨g, 0, none⟩)), step_field 38 (.tmp 1) 0 ⟨g, 0, none⟩ ⟨g, 0, none⟩ (by kernel_rfl) (wanted_none (by kernel_rfl)) (knows_old 1 (.pointer (some ⟨g, 0, none⟩)) (by kernel_rfl) e1) (f_cf (g) 0 (by omega)), ?_⟩
  refine ⟨isVal (.int .i64 C.nodes), step_read 3 (.tmp 16) ⟨g, 0, none⟩ (.int .i64 C.nodes) (by kernel_rfl) (wanted_none (by kernel_rfl)) (knows_new (V := isVal (.pointer (some ⟨g, 0, none⟩))) 16 9 (by kernel_rfl) (by kernel_rfl) (by kernel_rfl)) ((hc).2 0 _ rfl) (hc).1 (agg_in), ?_⟩
  refine ⟨isVal (.int .i64 (2 * C.nodes)), step_bin .mul 3 3 (.const (.int .i64 2)) (.tmp 17) (.int .i64 2) (.int .i64 C.nodes) (.int .i64 (2 * C.nodes)) (by kernel_rfl) (wanted_none (by kernel_rfl)) (knows_const _) (knows_new (V := isVal (.int .i64 C.nodes)) 17 10 (by kernel_rfl) (by kernel_rfl) (by kernel_rfl)) (fun _ => rfl) (mul_v 2 C.nodes (2 * C.nodes) (by omega) (by omega) (by omega)), ?_⟩
  refine ⟨isVal (.pointer (some ⟨g, 6, none⟩)), step_field 38 (.tmp 1) 6 ⟨g, 0, none⟩ ⟨g, 6, none⟩ (by kernel_rfl) (wanted_none (by kernel_rfl)) (knows_old 1 (.pointer (some ⟨g, 0, none⟩)) (by kernel_rfl) e1) (f_cf (g) 6 (by omega)), ?_⟩
  refine ⟨isVal (.int .i64 C.queue), step_read 3 (.tmp 19) ⟨g, 6, none⟩ (.int .i64 C.queue) (by kernel_rfl) (wanted_none (by kernel_rfl)) (knows_new (V := isVal (.pointer (some ⟨g, 6, none⟩))) 19 12 (by kernel_rfl) (by kernel_rfl) (by kernel_rfl)) ((hc).2 6 _ rfl) (hc).1 (agg_in), ?_⟩
  refine ⟨isVal (.agg #[.int .i64 C.pages, .int .i64 (sizeC C), .int .i64 C.slots, .int .i64 (2 * C.buffer), .int .i64 (2 * C.nodes), .int .i64 C.queue]), step_buildP 41 #[(0, .tmp 8), (1, .tmp 10), (2, .tmp 12), (3, .tmp 15), (4, .tmp 18), (5, .tmp 20)] (by kernel_rfl) (wanted_none (by kernel_rfl)) (stable_val _) (by
    intro a w hk hd
    have e0 : a.eval (.tmp 8) = (.int .i64 C.pages) := (knows_new (V := isVal (.int .i64 C.pages)) 8 1 (by kernel_rfl) (by kernel_rfl) (by kernel_rfl)) a w hk hd
    have e1 : a.eval (.tmp 10) = (.int .i64 (sizeC C)) := (knows_new (V := isVal (.int .i64 (sizeC C))) 10 3 (by kernel_rfl) (by kernel_rfl) (by kernel_rfl)) a w hk hd
    have e2 : a.eval (.tmp 12) = (.int .i64 C.slots) := (knows_new (V := isVal (.int .i64 C.slots)) 12 5 (by kernel_rfl) (by kernel_rfl) (by kernel_rfl)) a w hk hd
    have e3 : a.eval (.tmp 15) = (.int .i64 (2 * C.buffer)) := (knows_new (V := isVal (.int .i64 (2 * C.buffer))) 15 8 (by kernel_rfl) (by kernel_rfl) (by kernel_rfl)) a w hk hd
    have e4 : a.eval (.tmp 18) = (.int .i64 (2 * C.nodes)) := (knows_new (V := isVal (.int .i64 (2 * C.nodes))) 18 11 (by kernel_rfl) (by kernel_rfl) (by kernel_rfl)) a w hk hd
    have e5 : a.eval (.tmp 20) = (.int .i64 C.queue) := (knows_new (V := isVal (.int .i64 C.queue)) 20 13 (by kernel_rfl) (by kernel_rfl) (by kernel_rfl)) a w hk hd
    exact ⟨_, by simpa [e0, e1, e2, e3, e4, e5] using (built_i6 _ _ _ _ _ _), rfl⟩), ?_⟩
  intro a w hk hb hd
  have d21 := fdone_of (hd 14 (by decide)) (t := 21) (V := isVal (.agg #[.int .i64 C.pages, .int .i64 (sizeC C), .int .i64 C.slots, .int .i64 (2 * C.buffer), .int .i64 (2 * C.nodes), .int .i64 C.queue])) (by kernel_rfl) (by kernel_rfl)
  have e2' : a.tmps.getD 2 undef = .pointer (some ⟨r, 0, none⟩) := (hk.2.2 2 (by kernel_rfl)).trans e2
  refine tail_storeN 41 (.tmp 2) (.tmp 21) r [.int .i64 C.pages, .int .i64 (sizeC C), .int .i64 C.slots, .int .i64 (2 * C.buffer), .int .i64 (2 * C.nodes), .int .i64 C.queue] old (by kernel_rfl) (by kernel_rfl) size_i6 e2' d21 (hr.keep hb).cells hol (hr.keep hb).free (ones_i6 _ _ _ _ _ _) ?_
  exact hQ a w hk.1 e2' hb
set_option maxRecDepth 100000 in
set_option maxHeartbeats 2000000 in
theorem rft_any (C : Cf) (w : World) : Calls Try.prog 28 #[(.agg #[.int .i64 C.nodes, .int .i64 C.slots, .int .i64 C.pages, .int .i64 C.room, .int .i64 C.chunk, .int .i64 C.buffer, .int .i64 C.queue, .int .i64 C.wear])] w fun e w' => e = .returned (footV C) ∧ Below w.heap.size w w' := by
  obtain ⟨hB, HC⟩ := cbox w C w.heap.size rfl
  have hb6 : Below (w.alloc (.cells #[.int .i64 C.nodes, .int .i64 C.slots, .int .i64 C.pages, .int .i64 C.room, .int .i64 C.chunk, .int .i64 C.buffer, .int .i64 C.queue, .int .i64 C.wear] 38)).heap.size (w.alloc (.cells #[.int .i64 C.nodes, .int .i64 C.slots, .int .i64 C.pages, .int .i64 C.room, .int .i64 C.chunk, .int .i64 C.buffer, .int .i64 C.queue, .int .i64 C.wear] 38)) ((w.alloc (.cells #[.int .i64 C.nodes, .int .i64 C.slots, .int .i64 C.pages, .int .i64 C.room, .int .i64 C.chunk, .int .i64 C.buffer, .int .i64 C.queue, .int .i64 C.wear] 38)).alloc (.cells #[.int .i64 0, .int .i64 0, .int .i64 0, .int .i64 0, .int .i64 0, .int .i64 0] 41)) := (Below.refl _ _).alloc (Nat.le_refl _) _
  have HR := Kept.mk (Hold.new (w.alloc (.cells #[.int .i64 C.nodes, .int .i64 C.slots, .int .i64 C.pages, .int .i64 C.room, .int .i64 C.chunk, .int .i64 C.buffer, .int .i64 C.queue, .int .i64 C.wear] 38)) 41 [.int .i64 0, .int .i64 0, .int .i64 0, .int .i64 0, .int .i64 0, .int .i64 0] (w.heap.size + 1) (by simp))
  replace hB := Kept.mk (hB.out.trans (hb6.mono hB.out.size))
  replace HC := Kept.mk (HC.out.keep hb6)
  clear hb6
  have kc0 := HC.out.cells.2 0 _ rfl
  have kc1 := HC.out.cells.2 1 _ rfl
  have kc2 := HC.out.cells.2 2 _ rfl
  have kc3 := HC.out.cells.2 3 _ rfl
  have kc4 := HC.out.cells.2 4 _ rfl
  have kc5 := HC.out.cells.2 5 _ rfl
  have kc6 := HC.out.cells.2 6 _ rfl
  have kc7 := HC.out.cells.2 7 _ rfl
  go_enter Try.func28, Try.ntmps28
  go_wp2_with fail
  clear kc0 kc1 kc2 kc3 kc4 kc5 kc6 kc7
  generalize (w.alloc (.cells #[.int .i64 C.nodes, .int .i64 C.slots, .int .i64 C.pages, .int .i64 C.room, .int .i64 C.chunk, .int .i64 C.buffer, .int .i64 C.queue, .int .i64 C.wear] 38)).alloc (.cells #[.int .i64 0, .int .i64 0, .int .i64 0, .int .i64 0, .int .i64 0, .int .i64 0] 41) = W0 at *
  refine (rfcheck_C C W0).mono ?_
  rintro e W1 ⟨rfl, hb⟩
  replace HR := Kept.mk (HR.out.keep hb)
  replace hB := Kept.mk (hB.out.trans (hb.mono hB.out.size))
  replace HC := Kept.mk (HC.out.keep hb)
  clear hb
  cases hok : okC C with
  | false =>
    have HZ := Kept.mk hok
    clear hok
    have KO := Kept.mk (ones_i6 0 0 0 0 0 0)
    have hbz := fun ws : World => run_build (P := Try.prog) ws 41 #[] _ built_z6
    go_wp2_with (have hz0 := KO; refine wpList_storeN 41 rfl (.tmp 2) (.tmp 6) rfl (w.heap.size + 1) [.int .i64 0, .int .i64 0, .int .i64 0, .int .i64 0, .int .i64 0, .int .i64 0] size_i6 rfl rfl HR.out.cells rfl HR.out.free KO.out ?_; clear hz0 KO)
    have hH := HR.out.all_ (l := [.int .i64 0, .int .i64 0, .int .i64 0, .int .i64 0, .int .i64 0, .int .i64 0]) rfl
    refine bodyPost_ret (resultsN1 rfl _ _ (w.heap.size + 1) [.int .i64 0, .int .i64 0, .int .i64 0, .int .i64 0, .int .i64 0, .int .i64 0] size_i6 agg_i6 rfl hH.cells) rfl ?_
    exact ⟨by rw [footV_no HZ.out], below_setN (by omega) _ 0 _ hB.out⟩
  | true =>
    have HO := Kept.mk (okC_spec.1 hok)
    have HZ := Kept.mk hok
    clear hok
    go_wp2_with fail
    refine rft_region _ _ _ rfl (w.heap.size + 1) _ w.heap.size C HC.out.cells HO.out rfl rfl HR.out rfl ?_
    intro a w2 hd h2 hb9
    replace HR := Kept.mk (HR.out.keep hb9)
    replace hB := Kept.mk (hB.out.trans (hb9.mono hB.out.size))
    go_wp2
    have hH := HR.out.all_ (l := [.int .i64 C.pages, .int .i64 (sizeC C), .int .i64 C.slots, .int .i64 (2 * C.buffer), .int .i64 (2 * C.nodes), .int .i64 C.queue]) rfl
    refine bodyPost_ret (resultsN1 rfl _ _ (w.heap.size + 1) [.int .i64 C.pages, .int .i64 (sizeC C), .int .i64 C.slots, .int .i64 (2 * C.buffer), .int .i64 (2 * C.nodes), .int .i64 C.queue] size_i6 agg_i6 h2 hH.cells) hd ?_
    exact ⟨by rw [footV_yes HZ.out], below_setN (by omega) _ 0 _ hB.out⟩
end Go.Proofs.Ytpjafjnokgeifaa
end
