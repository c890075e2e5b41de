/- A config whose number is one below the least, or one above the most, may not be; at both it may (config.Check). No condition. -/
import Derived.Test.YtpjafjnokgeifaaPartB
import Derived.SizedLaws
import Derived.ProofKit
import Derived.OpenShut
import Derived.ShutString
import Derived.ChangeOld
import Derived.Below
namespace Go.Proofs.Ytpjafjnokgeifaa
open Go.RowKit
open Go.ChangeShapes Go.WideShapes Go.ChangeAt Go.RowKit
open Go.ChangeMaps (open_string shut_string)
set_option linter.unusedVariables false
set_option linter.unusedSimpArgs false
attribute [local irreducible] setN

theorem Hold.drew_ {w : World} {b : Nat} {cs : List Value} (h : Hold w b cs) : Hold w.drew b cs := ⟨⟨h.cells.1, h.cells.2⟩, h.free⟩
theorem range_of_u8 {x : Int} (h : (Lit.int .u8 x).wf = true) : 0 ≤ x ∧ x ≤ 255 := by
  unfold Lit.wf at h
  rw [Bool.and_eq_true] at h
  exact ⟨of_decide_eq_true h.1, of_decide_eq_true h.2⟩
set_option maxRecDepth 100000 in
set_option maxHeartbeats 2000000 in
theorem configEdges_walk (C : Cf) (v0 : Value) (a1 : Int) (w0 : CameC C) (w1 : (Lit.int .u8 a1).wf = true) (w : World) (fl0 : isCf C v0 w) :
    Calls Try.prog 7 #[v0, .int .u8 a1] w fun e w' => e = .returned (.bool true) ∧ Below w.heap.size w w' := by
  unfold isCf at fl0
  subst fl0
  have b1 : 0 ≤ a1 ∧ a1 ≤ 255 := range_of_u8 w1
  obtain ⟨hB, HC⟩ := cbox w C w.heap.size rfl
  go_enter Try.func7, Try.ntmps7
  go_wp2_with fail
  generalize w.alloc (.cells #[.int .i64 C.nodes, .int .i64 C.slots, .int .i64 C.pages, .int .i64 C.room, .int .i64 C.chunk, .int .i64 C.buffer, .int .i64 C.queue, .int .i64 C.wear] 38) = W0 at *
  refine (cfworks_any W0).mono ?_
  rintro e W1 ⟨rfl, hb⟩
  replace hB := Kept.mk (hB.out.trans (hb.mono hB.out.size))
  replace HC := Kept.mk (HC.out.keep hb)
  clear hb
  have kc0 := HC.out.cells.2 0 _ rfl
  have kc1 := HC.out.cells.2 1 _ rfl
  have kc2 := HC.out.cells.2 2 _ rfl
  have kc3 := HC.out.cells.2 3 _ rfl
  have kc4 := HC.out.cells.2 4 _ rfl
  have kc5 := HC.out.cells.2 5 _ rfl
  have kc6 := HC.out.cells.2 6 _ rfl
  have kc7 := HC.out.cells.2 7 _ rfl
  go_wp2_with fail
  clear kc0 kc1 kc2 kc3 kc4 kc5 kc6 kc7
  cases hok : okC C with
  | false =>
    have HOK := Kept.mk hok
    clear hok
    refine (gc_check C 1 W1 (chkC_no HOK.out)).mono ?_
    rintro e W2 ⟨rfl, hb⟩
    replace hB := Kept.mk (hB.out.trans (hb.mono hB.out.size))
    replace HC := Kept.mk (HC.out.keep hb)
    clear hb
    go_wp2
    go_ret
    exact ⟨rfl, hB.out⟩
  | true =>
    have HOK := Kept.mk hok
    clear hok
    refine (gc_check C 0 W1 (chkC_yes HOK.out)).mono ?_
    rintro e W2 ⟨rfl, hb⟩
    replace hB := Kept.mk (hB.out.trans (hb.mono hB.out.size))
    replace HC := Kept.mk (HC.out.keep hb)
    clear hb
    have hO := okC_spec.1 HOK.out
    have n2 := hO.slots
    have HO2 := Kept.mk hO
    clear hO
    obtain ⟨m, hm⟩ : ∃ m, a1.tmod 7 = m := ⟨_, rfl⟩
    have hm7 : 0 ≤ m ∧ m < 7 := by rw [← hm, Int.tmod_eq_emod_of_nonneg b1.1]; omega
    clear b1
    have hmc : m = 0 ∨ m = 1 ∨ m = 2 ∨ m = 3 ∨ m = 4 ∨ m = 5 ∨ m = 6 := by omega
    rcases hmc with hmc | hmc | hmc | hmc | hmc | hmc | hmc
    · subst hmc
      have ke00 := HC.out.cells.2 0 _ rfl
      have ke01 := HC.out.cells.2 1 _ rfl
      have ke02 := HC.out.cells.2 2 _ rfl
      have ke03 := HC.out.cells.2 3 _ rfl
      have ke04 := HC.out.cells.2 4 _ rfl
      have ke05 := HC.out.cells.2 5 _ rfl
      have ke06 := HC.out.cells.2 6 _ rfl
      have ke07 := HC.out.cells.2 7 _ rfl
      have ke10 := (HC.out.alloc (.cells #[.int .i64 C.nodes, .int .i64 C.slots, .int .i64 C.pages, .int .i64 C.room, .int .i64 C.chunk, .int .i64 C.buffer, .int .i64 C.queue, .int .i64 C.wear] 38)).cells.2 0 _ rfl
      have ke11 := (HC.out.alloc (.cells #[.int .i64 C.nodes, .int .i64 C.slots, .int .i64 C.pages, .int .i64 C.room, .int .i64 C.chunk, .int .i64 C.buffer, .int .i64 C.queue, .int .i64 C.wear] 38)).cells.2 1 _ rfl
      have ke12 := (HC.out.alloc (.cells #[.int .i64 C.nodes, .int .i64 C.slots, .int .i64 C.pages, .int .i64 C.room, .int .i64 C.chunk, .int .i64 C.buffer, .int .i64 C.queue, .int .i64 C.wear] 38)).cells.2 2 _ rfl
      have ke13 := (HC.out.alloc (.cells #[.int .i64 C.nodes, .int .i64 C.slots, .int .i64 C.pages, .int .i64 C.room, .int .i64 C.chunk, .int .i64 C.buffer, .int .i64 C.queue, .int .i64 C.wear] 38)).cells.2 3 _ rfl
      have ke14 := (HC.out.alloc (.cells #[.int .i64 C.nodes, .int .i64 C.slots, .int .i64 C.pages, .int .i64 C.room, .int .i64 C.chunk, .int .i64 C.buffer, .int .i64 C.queue, .int .i64 C.wear] 38)).cells.2 4 _ rfl
      have ke15 := (HC.out.alloc (.cells #[.int .i64 C.nodes, .int .i64 C.slots, .int .i64 C.pages, .int .i64 C.room, .int .i64 C.chunk, .int .i64 C.buffer, .int .i64 C.queue, .int .i64 C.wear] 38)).cells.2 5 _ rfl
      have ke16 := (HC.out.alloc (.cells #[.int .i64 C.nodes, .int .i64 C.slots, .int .i64 C.pages, .int .i64 C.room, .int .i64 C.chunk, .int .i64 C.buffer, .int .i64 C.queue, .int .i64 C.wear] 38)).cells.2 6 _ rfl
      have ke17 := (HC.out.alloc (.cells #[.int .i64 C.nodes, .int .i64 C.slots, .int .i64 C.pages, .int .i64 C.room, .int .i64 C.chunk, .int .i64 C.buffer, .int .i64 C.queue, .int .i64 C.wear] 38)).cells.2 7 _ rfl
      have ke20 := ((HC.out.alloc (.cells #[.int .i64 C.nodes, .int .i64 C.slots, .int .i64 C.pages, .int .i64 C.room, .int .i64 C.chunk, .int .i64 C.buffer, .int .i64 C.queue, .int .i64 C.wear] 38)).alloc (.cells #[.int .i64 C.nodes, .int .i64 C.slots, .int .i64 C.pages, .int .i64 C.room, .int .i64 C.chunk, .int .i64 C.buffer, .int .i64 C.queue, .int .i64 C.wear] 38)).cells.2 0 _ rfl
      have ke21 := ((HC.out.alloc (.cells #[.int .i64 C.nodes, .int .i64 C.slots, .int .i64 C.pages, .int .i64 C.room, .int .i64 C.chunk, .int .i64 C.buffer, .int .i64 C.queue, .int .i64 C.wear] 38)).alloc (.cells #[.int .i64 C.nodes, .int .i64 C.slots, .int .i64 C.pages, .int .i64 C.room, .int .i64 C.chunk, .int .i64 C.buffer, .int .i64 C.queue, .int .i64 C.wear] 38)).cells.2 1 _ rfl
      have ke22 := ((HC.out.alloc (.cells #[.int .i64 C.nodes, .int .i64 C.slots, .int .i64 C.pages, .int .i64 C.room, .int .i64 C.chunk, .int .i64 C.buffer, .int .i64 C.queue, .int .i64 C.wear] 38)).alloc (.cells #[.int .i64 C.nodes, .int .i64 C.slots, .int .i64 C.pages, .int .i64 C.room, .int .i64 C.chunk, .int .i64 C.buffer, .int .i64 C.queue, .int .i64 C.wear] 38)).cells.2 2 _ rfl
      have ke23 := ((HC.out.alloc (.cells #[.int .i64 C.nodes, .int .i64 C.slots, .int .i64 C.pages, .int .i64 C.room, .int .i64 C.chunk, .int .i64 C.buffer, .int .i64 C.queue, .int .i64 C.wear] 38)).alloc (.cells #[.int .i64 C.nodes, .int .i64 C.slots, .int .i64 C.pages, .int .i64 C.room, .int .i64 C.chunk, .int .i64 C.buffer, .int .i64 C.queue, .int .i64 C.wear] 38)).cells.2 3 _ rfl
      have ke24 := ((HC.out.alloc (.cells #[.int .i64 C.nodes, .int .i64 C.slots, .int .i64 C.pages, .int .i64 C.room, .int .i64 C.chunk, .int .i64 C.buffer, .int .i64 C.queue, .int .i64 C.wear] 38)).alloc (.cells #[.int .i64 C.nodes, .int .i64 C.slots, .int .i64 C.pages, .int .i64 C.room, .int .i64 C.chunk, .int .i64 C.buffer, .int .i64 C.queue, .int .i64 C.wear] 38)).cells.2 4 _ rfl
      have ke25 := ((HC.out.alloc (.cells #[.int .i64 C.nodes, .int .i64 C.slots, .int .i64 C.pages, .int .i64 C.room, .int .i64 C.chunk, .int .i64 C.buffer, .int .i64 C.queue, .int .i64 C.wear] 38)).alloc (.cells #[.int .i64 C.nodes, .int .i64 C.slots, .int .i64 C.pages, .int .i64 C.room, .int .i64 C.chunk, .int .i64 C.buffer, .int .i64 C.queue, .int .i64 C.wear] 38)).cells.2 5 _ rfl
      have ke26 := ((HC.out.alloc (.cells #[.int .i64 C.nodes, .int .i64 C.slots, .int .i64 C.pages, .int .i64 C.room, .int .i64 C.chunk, .int .i64 C.buffer, .int .i64 C.queue, .int .i64 C.wear] 38)).alloc (.cells #[.int .i64 C.nodes, .int .i64 C.slots, .int .i64 C.pages, .int .i64 C.room, .int .i64 C.chunk, .int .i64 C.buffer, .int .i64 C.queue, .int .i64 C.wear] 38)).cells.2 6 _ rfl
      have ke27 := ((HC.out.alloc (.cells #[.int .i64 C.nodes, .int .i64 C.slots, .int .i64 C.pages, .int .i64 C.room, .int .i64 C.chunk, .int .i64 C.buffer, .int .i64 C.queue, .int .i64 C.wear] 38)).alloc (.cells #[.int .i64 C.nodes, .int .i64 C.slots, .int .i64 C.pages, .int .i64 C.room, .int .i64 C.chunk, .int .i64 C.buffer, .int .i64 C.queue, .int .i64 C.wear] 38)).cells.2 7 _ rfl
      have ke30 := (((HC.out.alloc (.cells #[.int .i64 C.nodes, .int .i64 C.slots, .int .i64 C.pages, .int .i64 C.room, .int .i64 C.chunk, .int .i64 C.buffer, .int .i64 C.queue, .int .i64 C.wear] 38)).alloc (.cells #[.int .i64 C.nodes, .int .i64 C.slots, .int .i64 C.pages, .int .i64 C.room, .int .i64 C.chunk, .int .i64 C.buffer, .int .i64 C.queue, .int .i64 C.wear] 38)).alloc (.cells #[.int .i64 C.nodes, .int .i64 C.slots, .int .i64 C.pages, .int .i64 C.room, .int .i64 C.chunk, .int .i64 C.buffer, .int .i64 C.queue, .int .i64 C.wear] 38)).cells.2 0 _ rfl
      have ke31 := (((HC.out.alloc (.cells #[.int .i64 C.nodes, .int .i64 C.slots, .int .i64 C.pages, .int .i64 C.room, .int .i64 C.chunk, .int .i64 C.buffer, .int .i64 C.queue, .int .i64 C.wear] 38)).alloc (.cells #[.int .i64 C.nodes, .int .i64 C.slots, .int .i64 C.pages, .int .i64 C.room, .int .i64 C.chunk, .int .i64 C.buffer, .int .i64 C.queue, .int .i64 C.wear] 38)).alloc (.cells #[.int .i64 C.nodes, .int .i64 C.slots, .int .i64 C.pages, .int .i64 C.room, .int .i64 C.chunk, .int .i64 C.buffer, .int .i64 C.queue, .int .i64 C.wear] 38)).cells.2 1 _ rfl
      have ke32 := (((HC.out.alloc (.cells #[.int .i64 C.nodes, .int .i64 C.slots, .int .i64 C.pages, .int .i64 C.room, .int .i64 C.chunk, .int .i64 C.buffer, .int .i64 C.queue, .int .i64 C.wear] 38)).alloc (.cells #[.int .i64 C.nodes, .int .i64 C.slots, .int .i64 C.pages, .int .i64 C.room, .int .i64 C.chunk, .int .i64 C.buffer, .int .i64 C.queue, .int .i64 C.wear] 38)).alloc (.cells #[.int .i64 C.nodes, .int .i64 C.slots, .int .i64 C.pages, .int .i64 C.room, .int .i64 C.chunk, .int .i64 C.buffer, .int .i64 C.queue, .int .i64 C.wear] 38)).cells.2 2 _ rfl
      have ke33 := (((HC.out.alloc (.cells #[.int .i64 C.nodes, .int .i64 C.slots, .int .i64 C.pages, .int .i64 C.room, .int .i64 C.chunk, .int .i64 C.buffer, .int .i64 C.queue, .int .i64 C.wear] 38)).alloc (.cells #[.int .i64 C.nodes, .int .i64 C.slots, .int .i64 C.pages, .int .i64 C.room, .int .i64 C.chunk, .int .i64 C.buffer, .int .i64 C.queue, .int .i64 C.wear] 38)).alloc (.cells #[.int .i64 C.nodes, .int .i64 C.slots, .int .i64 C.pages, .int .i64 C.room, .int .i64 C.chunk, .int .i64 C.buffer, .int .i64 C.queue, .int .i64 C.wear] 38)).cells.2 3 _ rfl
      have ke34 := (((HC.out.alloc (.cells #[.int .i64 C.nodes, .int .i64 C.slots, .int .i64 C.pages, .int .i64 C.room, .int .i64 C.chunk, .int .i64 C.buffer, .int .i64 C.queue, .int .i64 C.wear] 38)).alloc (.cells #[.int .i64 C.nodes, .int .i64 C.slots, .int .i64 C.pages, .int .i64 C.room, .int .i64 C.chunk, .int .i64 C.buffer, .int .i64 C.queue, .int .i64 C.wear] 38)).alloc (.cells #[.int .i64 C.nodes, .int .i64 C.slots, .int .i64 C.pages, .int .i64 C.room, .int .i64 C.chunk, .int .i64 C.buffer, .int .i64 C.queue, .int .i64 C.wear] 38)).cells.2 4 _ rfl
      have ke35 := (((HC.out.alloc (.cells #[.int .i64 C.nodes, .int .i64 C.slots, .int .i64 C.pages, .int .i64 C.room, .int .i64 C.chunk, .int .i64 C.buffer, .int .i64 C.queue, .int .i64 C.wear] 38)).alloc (.cells #[.int .i64 C.nodes, .int .i64 C.slots, .int .i64 C.pages, .int .i64 C.room, .int .i64 C.chunk, .int .i64 C.buffer, .int .i64 C.queue, .int .i64 C.wear] 38)).alloc (.cells #[.int .i64 C.nodes, .int .i64 C.slots, .int .i64 C.pages, .int .i64 C.room, .int .i64 C.chunk, .int .i64 C.buffer, .int .i64 C.queue, .int .i64 C.wear] 38)).cells.2 5 _ rfl
      have ke36 := (((HC.out.alloc (.cells #[.int .i64 C.nodes, .int .i64 C.slots, .int .i64 C.pages, .int .i64 C.room, .int .i64 C.chunk, .int .i64 C.buffer, .int .i64 C.queue, .int .i64 C.wear] 38)).alloc (.cells #[.int .i64 C.nodes, .int .i64 C.slots, .int .i64 C.pages, .int .i64 C.room, .int .i64 C.chunk, .int .i64 C.buffer, .int .i64 C.queue, .int .i64 C.wear] 38)).alloc (.cells #[.int .i64 C.nodes, .int .i64 C.slots, .int .i64 C.pages, .int .i64 C.room, .int .i64 C.chunk, .int .i64 C.buffer, .int .i64 C.queue, .int .i64 C.wear] 38)).cells.2 6 _ rfl
      have ke37 := (((HC.out.alloc (.cells #[.int .i64 C.nodes, .int .i64 C.slots, .int .i64 C.pages, .int .i64 C.room, .int .i64 C.chunk, .int .i64 C.buffer, .int .i64 C.queue, .int .i64 C.wear] 38)).alloc (.cells #[.int .i64 C.nodes, .int .i64 C.slots, .int .i64 C.pages, .int .i64 C.room, .int .i64 C.chunk, .int .i64 C.buffer, .int .i64 C.queue, .int .i64 C.wear] 38)).alloc (.cells #[.int .i64 C.nodes, .int .i64 C.slots, .int .i64 C.pages, .int .i64 C.room, .int .i64 C.chunk, .int .i64 C.buffer, .int .i64 C.queue, .int .i64 C.wear] 38)).cells.2 7 _ rfl
      have HL := Kept.mk (Hold.new W2 38 [.int .i64 2, .int .i64 C.slots, .int .i64 C.pages, .int .i64 C.room, .int .i64 C.chunk, .int .i64 C.buffer, .int .i64 C.queue, .int .i64 C.wear] (W2.heap.size) (by first | rfl | simp))
      replace HL := Kept.mk (HL.out.alloc (.cells #[.int .i64 8, .int .i64 C.slots, .int .i64 C.pages, .int .i64 C.room, .int .i64 C.chunk, .int .i64 C.buffer, .int .i64 C.queue, .int .i64 C.wear] 38))
      replace HL := Kept.mk (HL.out.alloc (.cells #[.int .i64 1, .int .i64 C.slots, .int .i64 C.pages, .int .i64 C.room, .int .i64 C.chunk, .int .i64 C.buffer, .int .i64 C.queue, .int .i64 C.wear] 38))
      replace HL := Kept.mk (HL.out.alloc (.cells #[.int .i64 9, .int .i64 C.slots, .int .i64 C.pages, .int .i64 C.room, .int .i64 C.chunk, .int .i64 C.buffer, .int .i64 C.queue, .int .i64 C.wear] 38))
      have HH := Kept.mk (Hold.new (W2.alloc (.cells #[.int .i64 2, .int .i64 C.slots, .int .i64 C.pages, .int .i64 C.room, .int .i64 C.chunk, .int .i64 C.buffer, .int .i64 C.queue, .int .i64 C.wear] 38)) 38 [.int .i64 8, .int .i64 C.slots, .int .i64 C.pages, .int .i64 C.room, .int .i64 C.chunk, .int .i64 C.buffer, .int .i64 C.queue, .int .i64 C.wear] (W2.heap.size + 1) (by first | rfl | simp))
      replace HH := Kept.mk (HH.out.alloc (.cells #[.int .i64 1, .int .i64 C.slots, .int .i64 C.pages, .int .i64 C.room, .int .i64 C.chunk, .int .i64 C.buffer, .int .i64 C.queue, .int .i64 C.wear] 38))
      replace HH := Kept.mk (HH.out.alloc (.cells #[.int .i64 9, .int .i64 C.slots, .int .i64 C.pages, .int .i64 C.room, .int .i64 C.chunk, .int .i64 C.buffer, .int .i64 C.queue, .int .i64 C.wear] 38))
      have HO_ := Kept.mk (Hold.new ((W2.alloc (.cells #[.int .i64 2, .int .i64 C.slots, .int .i64 C.pages, .int .i64 C.room, .int .i64 C.chunk, .int .i64 C.buffer, .int .i64 C.queue, .int .i64 C.wear] 38)).alloc (.cells #[.int .i64 8, .int .i64 C.slots, .int .i64 C.pages, .int .i64 C.room, .int .i64 C.chunk, .int .i64 C.buffer, .int .i64 C.queue, .int .i64 C.wear] 38)) 38 [.int .i64 1, .int .i64 C.slots, .int .i64 C.pages, .int .i64 C.room, .int .i64 C.chunk, .int .i64 C.buffer, .int .i64 C.queue, .int .i64 C.wear] (W2.heap.size + 1 + 1) (by first | rfl | simp))
      replace HO_ := Kept.mk (HO_.out.alloc (.cells #[.int .i64 9, .int .i64 C.slots, .int .i64 C.pages, .int .i64 C.room, .int .i64 C.chunk, .int .i64 C.buffer, .int .i64 C.queue, .int .i64 C.wear] 38))
      have HF := Kept.mk (Hold.new (((W2.alloc (.cells #[.int .i64 2, .int .i64 C.slots, .int .i64 C.pages, .int .i64 C.room, .int .i64 C.chunk, .int .i64 C.buffer, .int .i64 C.queue, .int .i64 C.wear] 38)).alloc (.cells #[.int .i64 8, .int .i64 C.slots, .int .i64 C.pages, .int .i64 C.room, .int .i64 C.chunk, .int .i64 C.buffer, .int .i64 C.queue, .int .i64 C.wear] 38)).alloc (.cells #[.int .i64 1, .int .i64 C.slots, .int .i64 C.pages, .int .i64 C.room, .int .i64 C.chunk, .int .i64 C.buffer, .int .i64 C.queue, .int .i64 C.wear] 38)) 38 [.int .i64 9, .int .i64 C.slots, .int .i64 C.pages, .int .i64 C.room, .int .i64 C.chunk, .int .i64 C.buffer, .int .i64 C.queue, .int .i64 C.wear] (W2.heap.size + 1 + 1 + 1) (by first | rfl | simp))
      have hbn : Below W2.heap.size W2 ((((W2.alloc (.cells #[.int .i64 2, .int .i64 C.slots, .int .i64 C.pages, .int .i64 C.room, .int .i64 C.chunk, .int .i64 C.buffer, .int .i64 C.queue, .int .i64 C.wear] 38)).alloc (.cells #[.int .i64 8, .int .i64 C.slots, .int .i64 C.pages, .int .i64 C.room, .int .i64 C.chunk, .int .i64 C.buffer, .int .i64 C.queue, .int .i64 C.wear] 38)).alloc (.cells #[.int .i64 1, .int .i64 C.slots, .int .i64 C.pages, .int .i64 C.room, .int .i64 C.chunk, .int .i64 C.buffer, .int .i64 C.queue, .int .i64 C.wear] 38)).alloc (.cells #[.int .i64 9, .int .i64 C.slots, .int .i64 C.pages, .int .i64 C.room, .int .i64 C.chunk, .int .i64 C.buffer, .int .i64 C.queue, .int .i64 C.wear] 38)) := ((((Below.refl _ _).alloc (Nat.le_refl _) _).alloc (by simp) _).alloc (by simp; omega) _).alloc (by simp; omega) _
      have HBN := Kept.mk hbn
      clear hbn
      have hg0 := HC.out.lt
      have HW2 := Kept.mk hB.out.size
      go_wp2_with fail
      clear ke00 ke01 ke02 ke03 ke04 ke05 ke06 ke07 ke10 ke11 ke12 ke13 ke14 ke15 ke16 ke17 ke20 ke21 ke22 ke23 ke24 ke25 ke26 ke27 ke30 ke31 ke32 ke33 ke34 ke35 ke36 ke37
      replace hB := Kept.mk (hB.out.trans (HBN.out.mono hB.out.size))
      replace HC := Kept.mk (HC.out.keep HBN.out)
      generalize ((((W2.alloc (.cells #[.int .i64 2, .int .i64 C.slots, .int .i64 C.pages, .int .i64 C.room, .int .i64 C.chunk, .int .i64 C.buffer, .int .i64 C.queue, .int .i64 C.wear] 38)).alloc (.cells #[.int .i64 8, .int .i64 C.slots, .int .i64 C.pages, .int .i64 C.room, .int .i64 C.chunk, .int .i64 C.buffer, .int .i64 C.queue, .int .i64 C.wear] 38)).alloc (.cells #[.int .i64 1, .int .i64 C.slots, .int .i64 C.pages, .int .i64 C.room, .int .i64 C.chunk, .int .i64 C.buffer, .int .i64 C.queue, .int .i64 C.wear] 38)).alloc (.cells #[.int .i64 9, .int .i64 C.slots, .int .i64 C.pages, .int .i64 C.room, .int .i64 C.chunk, .int .i64 C.buffer, .int .i64 C.queue, .int .i64 C.wear] 38)) = W3 at *
      refine (gc_check (⟨2, C.slots, C.pages, C.room, C.chunk, C.buffer, C.queue, C.wear⟩ : Cf) 0 _ (chkC_yes (okC_spec.2 ⟨⟨show (2 : Int) ≤ 2 by decide, show (2 : Int) ≤ 8 by decide⟩, HO2.out.slots, HO2.out.pages, HO2.out.room, HO2.out.chunk, HO2.out.buffer, HO2.out.queue, HO2.out.wear⟩))).mono ?_
      rintro e V0 ⟨rfl, hb⟩
      replace hB := Kept.mk (hB.out.trans (hb.mono hB.out.size))
      replace HL := Kept.mk (HL.out.keep hb)
      replace HH := Kept.mk (HH.out.keep hb)
      replace HO_ := Kept.mk (HO_.out.keep hb)
      replace HF := Kept.mk (HF.out.keep hb)
      clear hb
      have kk00 := HL.out.cells.2 0 _ rfl
      have kk01 := HL.out.cells.2 1 _ rfl
      have kk02 := HL.out.cells.2 2 _ rfl
      have kk03 := HL.out.cells.2 3 _ rfl
      have kk04 := HL.out.cells.2 4 _ rfl
      have kk05 := HL.out.cells.2 5 _ rfl
      have kk06 := HL.out.cells.2 6 _ rfl
      have kk07 := HL.out.cells.2 7 _ rfl
      have kk10 := HH.out.cells.2 0 _ rfl
      have kk11 := HH.out.cells.2 1 _ rfl
      have kk12 := HH.out.cells.2 2 _ rfl
      have kk13 := HH.out.cells.2 3 _ rfl
      have kk14 := HH.out.cells.2 4 _ rfl
      have kk15 := HH.out.cells.2 5 _ rfl
      have kk16 := HH.out.cells.2 6 _ rfl
      have kk17 := HH.out.cells.2 7 _ rfl
      have kk20 := HO_.out.cells.2 0 _ rfl
      have kk21 := HO_.out.cells.2 1 _ rfl
      have kk22 := HO_.out.cells.2 2 _ rfl
      have kk23 := HO_.out.cells.2 3 _ rfl
      have kk24 := HO_.out.cells.2 4 _ rfl
      have kk25 := HO_.out.cells.2 5 _ rfl
      have kk26 := HO_.out.cells.2 6 _ rfl
      have kk27 := HO_.out.cells.2 7 _ rfl
      have kk30 := HF.out.cells.2 0 _ rfl
      have kk31 := HF.out.cells.2 1 _ rfl
      have kk32 := HF.out.cells.2 2 _ rfl
      have kk33 := HF.out.cells.2 3 _ rfl
      have kk34 := HF.out.cells.2 4 _ rfl
      have kk35 := HF.out.cells.2 5 _ rfl
      have kk36 := HF.out.cells.2 6 _ rfl
      have kk37 := HF.out.cells.2 7 _ rfl
      go_wp2_with fail
      clear kk00 kk01 kk02 kk03 kk04 kk05 kk06 kk07 kk10 kk11 kk12 kk13 kk14 kk15 kk16 kk17 kk20 kk21 kk22 kk23 kk24 kk25 kk26 kk27 kk30 kk31 kk32 kk33 kk34 kk35 kk36 kk37
      refine (gc_check (⟨8, C.slots, C.pages, C.room, C.chunk, C.buffer, C.queue, C.wear⟩ : Cf) 0 _ (chkC_yes (okC_spec.2 ⟨⟨show (2 : Int) ≤ 8 by decide, show (8 : Int) ≤ 8 by decide⟩, HO2.out.slots, HO2.out.pages, HO2.out.room, HO2.out.chunk, HO2.out.buffer, HO2.out.queue, HO2.out.wear⟩))).mono ?_
      rintro e V1 ⟨rfl, hb⟩
      replace hB := Kept.mk (hB.out.trans (hb.mono hB.out.size))
      replace HL := Kept.mk (HL.out.keep hb)
      replace HH := Kept.mk (HH.out.keep hb)
      replace HO_ := Kept.mk (HO_.out.keep hb)
      replace HF := Kept.mk (HF.out.keep hb)
      clear hb
      have kk00 := HL.out.cells.2 0 _ rfl
      have kk01 := HL.out.cells.2 1 _ rfl
      have kk02 := HL.out.cells.2 2 _ rfl
      have kk03 := HL.out.cells.2 3 _ rfl
      have kk04 := HL.out.cells.2 4 _ rfl
      have kk05 := HL.out.cells.2 5 _ rfl
      have kk06 := HL.out.cells.2 6 _ rfl
      have kk07 := HL.out.cells.2 7 _ rfl
      have kk10 := HH.out.cells.2 0 _ rfl
      have kk11 := HH.out.cells.2 1 _ rfl
      have kk12 := HH.out.cells.2 2 _ rfl
      have kk13 := HH.out.cells.2 3 _ rfl
      have kk14 := HH.out.cells.2 4 _ rfl
      have kk15 := HH.out.cells.2 5 _ rfl
      have kk16 := HH.out.cells.2 6 _ rfl
      have kk17 := HH.out.cells.2 7 _ rfl
      have kk20 := HO_.out.cells.2 0 _ rfl
      have kk21 := HO_.out.cells.2 1 _ rfl
      have kk22 := HO_.out.cells.2 2 _ rfl
      have kk23 := HO_.out.cells.2 3 _ rfl
      have kk24 := HO_.out.cells.2 4 _ rfl
      have kk25 := HO_.out.cells.2 5 _ rfl
      have kk26 := HO_.out.cells.2 6 _ rfl
      have kk27 := HO_.out.cells.2 7 _ rfl
      have kk30 := HF.out.cells.2 0 _ rfl
      have kk31 := HF.out.cells.2 1 _ rfl
      have kk32 := HF.out.cells.2 2 _ rfl
      have kk33 := HF.out.cells.2 3 _ rfl
      have kk34 := HF.out.cells.2 4 _ rfl
      have kk35 := HF.out.cells.2 5 _ rfl
      have kk36 := HF.out.cells.2 6 _ rfl
      have kk37 := HF.out.cells.2 7 _ rfl
      go_wp2_with fail
      clear kk00 kk01 kk02 kk03 kk04 kk05 kk06 kk07 kk10 kk11 kk12 kk13 kk14 kk15 kk16 kk17 kk20 kk21 kk22 kk23 kk24 kk25 kk26 kk27 kk30 kk31 kk32 kk33 kk34 kk35 kk36 kk37
      refine (gc_check (⟨1, C.slots, C.pages, C.room, C.chunk, C.buffer, C.queue, C.wear⟩ : Cf) 1 _ (chkC_no (okC_false (k := 0) (by decide) (by show inC 1 2 8 = false; decide)))).mono ?_
      rintro e V2 ⟨rfl, hb⟩
      replace hB := Kept.mk (hB.out.trans (hb.mono hB.out.size))
      replace HL := Kept.mk (HL.out.keep hb)
      replace HH := Kept.mk (HH.out.keep hb)
      replace HO_ := Kept.mk (HO_.out.keep hb)
      replace HF := Kept.mk (HF.out.keep hb)
      clear hb
      have kk00 := HL.out.cells.2 0 _ rfl
      have kk01 := HL.out.cells.2 1 _ rfl
      have kk02 := HL.out.cells.2 2 _ rfl
      have kk03 := HL.out.cells.2 3 _ rfl
      have kk04 := HL.out.cells.2 4 _ rfl
      have kk05 := HL.out.cells.2 5 _ rfl
      have kk06 := HL.out.cells.2 6 _ rfl
      have kk07 := HL.out.cells.2 7 _ rfl
      have kk10 := HH.out.cells.2 0 _ rfl
      have kk11 := HH.out.cells.2 1 _ rfl
      have kk12 := HH.out.cells.2 2 _ rfl
      have kk13 := HH.out.cells.2 3 _ rfl
      have kk14 := HH.out.cells.2 4 _ rfl
      have kk15 := HH.out.cells.2 5 _ rfl
      have kk16 := HH.out.cells.2 6 _ rfl
      have kk17 := HH.out.cells.2 7 _ rfl
      have kk20 := HO_.out.cells.2 0 _ rfl
      have kk21 := HO_.out.cells.2 1 _ rfl
      have kk22 := HO_.out.cells.2 2 _ rfl
      have kk23 := HO_.out.cells.2 3 _ rfl
      have kk24 := HO_.out.cells.2 4 _ rfl
      have kk25 := HO_.out.cells.2 5 _ rfl
      have kk26 := HO_.out.cells.2 6 _ rfl
      have kk27 := HO_.out.cells.2 7 _ rfl
      have kk30 := HF.out.cells.2 0 _ rfl
      have kk31 := HF.out.cells.2 1 _ rfl
      have kk32 := HF.out.cells.2 2 _ rfl
      have kk33 := HF.out.cells.2 3 _ rfl
      have kk34 := HF.out.cells.2 4 _ rfl
      have kk35 := HF.out.cells.2 5 _ rfl
      have kk36 := HF.out.cells.2 6 _ rfl
      have kk37 := HF.out.cells.2 7 _ rfl
      go_wp2_with fail
      clear kk00 kk01 kk02 kk03 kk04 kk05 kk06 kk07 kk10 kk11 kk12 kk13 kk14 kk15 kk16 kk17 kk20 kk21 kk22 kk23 kk24 kk25 kk26 kk27 kk30 kk31 kk32 kk33 kk34 kk35 kk36 kk37
      refine (gc_check (⟨9, C.slots, C.pages, C.room, C.chunk, C.buffer, C.queue, C.wear⟩ : Cf) 1 _ (chkC_no (okC_false (k := 0) (by decide) (by show inC 9 2 8 = false; decide)))).mono ?_
      rintro e V3 ⟨rfl, hb⟩
      replace hB := Kept.mk (hB.out.trans (hb.mono hB.out.size))
      replace HL := Kept.mk (HL.out.keep hb)
      replace HH := Kept.mk (HH.out.keep hb)
      replace HO_ := Kept.mk (HO_.out.keep hb)
      replace HF := Kept.mk (HF.out.keep hb)
      clear hb
      go_wp2
      go_ret
      exact ⟨rfl, hB.out⟩
    · subst hmc
      have ke00 := HC.out.cells.2 0 _ rfl
      have ke01 := HC.out.cells.2 1 _ rfl
      have ke02 := HC.out.cells.2 2 _ rfl
      have ke03 := HC.out.cells.2 3 _ rfl
      have ke04 := HC.out.cells.2 4 _ rfl
      have ke05 := HC.out.cells.2 5 _ rfl
      have ke06 := HC.out.cells.2 6 _ rfl
      have ke07 := HC.out.cells.2 7 _ rfl
      have ke10 := (HC.out.alloc (.cells #[.int .i64 C.nodes, .int .i64 C.slots, .int .i64 C.pages, .int .i64 C.room, .int .i64 C.chunk, .int .i64 C.buffer, .int .i64 C.queue, .int .i64 C.wear] 38)).cells.2 0 _ rfl
      have ke11 := (HC.out.alloc (.cells #[.int .i64 C.nodes, .int .i64 C.slots, .int .i64 C.pages, .int .i64 C.room, .int .i64 C.chunk, .int .i64 C.buffer, .int .i64 C.queue, .int .i64 C.wear] 38)).cells.2 1 _ rfl
      have ke12 := (HC.out.alloc (.cells #[.int .i64 C.nodes, .int .i64 C.slots, .int .i64 C.pages, .int .i64 C.room, .int .i64 C.chunk, .int .i64 C.buffer, .int .i64 C.queue, .int .i64 C.wear] 38)).cells.2 2 _ rfl
      have ke13 := (HC.out.alloc (.cells #[.int .i64 C.nodes, .int .i64 C.slots, .int .i64 C.pages, .int .i64 C.room, .int .i64 C.chunk, .int .i64 C.buffer, .int .i64 C.queue, .int .i64 C.wear] 38)).cells.2 3 _ rfl
      have ke14 := (HC.out.alloc (.cells #[.int .i64 C.nodes, .int .i64 C.slots, .int .i64 C.pages, .int .i64 C.room, .int .i64 C.chunk, .int .i64 C.buffer, .int .i64 C.queue, .int .i64 C.wear] 38)).cells.2 4 _ rfl
      have ke15 := (HC.out.alloc (.cells #[.int .i64 C.nodes, .int .i64 C.slots, .int .i64 C.pages, .int .i64 C.room, .int .i64 C.chunk, .int .i64 C.buffer, .int .i64 C.queue, .int .i64 C.wear] 38)).cells.2 5 _ rfl
      have ke16 := (HC.out.alloc (.cells #[.int .i64 C.nodes, .int .i64 C.slots, .int .i64 C.pages, .int .i64 C.room, .int .i64 C.chunk, .int .i64 C.buffer, .int .i64 C.queue, .int .i64 C.wear] 38)).cells.2 6 _ rfl
      have ke17 := (HC.out.alloc (.cells #[.int .i64 C.nodes, .int .i64 C.slots, .int .i64 C.pages, .int .i64 C.room, .int .i64 C.chunk, .int .i64 C.buffer, .int .i64 C.queue, .int .i64 C.wear] 38)).cells.2 7 _ rfl
      have ke20 := ((HC.out.alloc (.cells #[.int .i64 C.nodes, .int .i64 C.slots, .int .i64 C.pages, .int .i64 C.room, .int .i64 C.chunk, .int .i64 C.buffer, .int .i64 C.queue, .int .i64 C.wear] 38)).alloc (.cells #[.int .i64 C.nodes, .int .i64 C.slots, .int .i64 C.pages, .int .i64 C.room, .int .i64 C.chunk, .int .i64 C.buffer, .int .i64 C.queue, .int .i64 C.wear] 38)).cells.2 0 _ rfl
      have ke21 := ((HC.out.alloc (.cells #[.int .i64 C.nodes, .int .i64 C.slots, .int .i64 C.pages, .int .i64 C.room, .int .i64 C.chunk, .int .i64 C.buffer, .int .i64 C.queue, .int .i64 C.wear] 38)).alloc (.cells #[.int .i64 C.nodes, .int .i64 C.slots, .int .i64 C.pages, .int .i64 C.room, .int .i64 C.chunk, .int .i64 C.buffer, .int .i64 C.queue, .int .i64 C.wear] 38)).cells.2 1 _ rfl
      have ke22 := ((HC.out.alloc (.cells #[.int .i64 C.nodes, .int .i64 C.slots, .int .i64 C.pages, .int .i64 C.room, .int .i64 C.chunk, .int .i64 C.buffer, .int .i64 C.queue, .int .i64 C.wear] 38)).alloc (.cells #[.int .i64 C.nodes, .int .i64 C.slots, .int .i64 C.pages, .int .i64 C.room, .int .i64 C.chunk, .int .i64 C.buffer, .int .i64 C.queue, .int .i64 C.wear] 38)).cells.2 2 _ rfl
      have ke23 := ((HC.out.alloc (.cells #[.int .i64 C.nodes, .int .i64 C.slots, .int .i64 C.pages, .int .i64 C.room, .int .i64 C.chunk, .int .i64 C.buffer, .int .i64 C.queue, .int .i64 C.wear] 38)).alloc (.cells #[.int .i64 C.nodes, .int .i64 C.slots, .int .i64 C.pages, .int .i64 C.room, .int .i64 C.chunk, .int .i64 C.buffer, .int .i64 C.queue, .int .i64 C.wear] 38)).cells.2 3 _ rfl
      have ke24 := ((HC.out.alloc (.cells #[.int .i64 C.nodes, .int .i64 C.slots, .int .i64 C.pages, .int .i64 C.room, .int .i64 C.chunk, .int .i64 C.buffer, .int .i64 C.queue, .int .i64 C.wear] 38)).alloc (.cells #[.int .i64 C.nodes, .int .i64 C.slots, .int .i64 C.pages, .int .i64 C.room, .int .i64 C.chunk, .int .i64 C.buffer, .int .i64 C.queue, .int .i64 C.wear] 38)).cells.2 4 _ rfl
      have ke25 := ((HC.out.alloc (.cells #[.int .i64 C.nodes, .int .i64 C.slots, .int .i64 C.pages, .int .i64 C.room, .int .i64 C.chunk, .int .i64 C.buffer, .int .i64 C.queue, .int .i64 C.wear] 38)).alloc (.cells #[.int .i64 C.nodes, .int .i64 C.slots, .int .i64 C.pages, .int .i64 C.room, .int .i64 C.chunk, .int .i64 C.buffer, .int .i64 C.queue, .int .i64 C.wear] 38)).cells.2 5 _ rfl
      have ke26 := ((HC.out.alloc (.cells #[.int .i64 C.nodes, .int .i64 C.slots, .int .i64 C.pages, .int .i64 C.room, .int .i64 C.chunk, .int .i64 C.buffer, .int .i64 C.queue, .int .i64 C.wear] 38)).alloc (.cells #[.int .i64 C.nodes, .int .i64 C.slots, .int .i64 C.pages, .int .i64 C.room, .int .i64 C.chunk, .int .i64 C.buffer, .int .i64 C.queue, .int .i64 C.wear] 38)).cells.2 6 _ rfl
      have ke27 := ((HC.out.alloc (.cells #[.int .i64 C.nodes, .int .i64 C.slots, .int .i64 C.pages, .int .i64 C.room, .int .i64 C.chunk, .int .i64 C.buffer, .int .i64 C.queue, .int .i64 C.wear] 38)).alloc (.cells #[.int .i64 C.nodes, .int .i64 C.slots, .int .i64 C.pages, .int .i64 C.room, .int .i64 C.chunk, .int .i64 C.buffer, .int .i64 C.queue, .int .i64 C.wear] 38)).cells.2 7 _ rfl
      have ke30 := (((HC.out.alloc (.cells #[.int .i64 C.nodes, .int .i64 C.slots, .int .i64 C.pages, .int .i64 C.room, .int .i64 C.chunk, .int .i64 C.buffer, .int .i64 C.queue, .int .i64 C.wear] 38)).alloc (.cells #[.int .i64 C.nodes, .int .i64 C.slots, .int .i64 C.pages, .int .i64 C.room, .int .i64 C.chunk, .int .i64 C.buffer, .int .i64 C.queue, .int .i64 C.wear] 38)).alloc (.cells #[.int .i64 C.nodes, .int .i64 C.slots, .int .i64 C.pages, .int .i64 C.room, .int .i64 C.chunk, .int .i64 C.buffer, .int .i64 C.queue, .int .i64 C.wear] 38)).cells.2 0 _ rfl
      have ke31 := (((HC.out.alloc (.cells #[.int .i64 C.nodes, .int .i64 C.slots, .int .i64 C.pages, .int .i64 C.room, .int .i64 C.chunk, .int .i64 C.buffer, .int .i64 C.queue, .int .i64 C.wear] 38)).alloc (.cells #[.int .i64 C.nodes, .int .i64 C.slots, .int .i64 C.pages, .int .i64 C.room, .int .i64 C.chunk, .int .i64 C.buffer, .int .i64 C.queue, .int .i64 C.wear] 38)).alloc (.cells #[.int .i64 C.nodes, .int .i64 C.slots, .int .i64 C.pages, .int .i64 C.room, .int .i64 C.chunk, .int .i64 C.buffer, .int .i64 C.queue, .int .i64 C.wear] 38)).cells.2 1 _ rfl
      have ke32 := (((HC.out.alloc (.cells #[.int .i64 C.nodes, .int .i64 C.slots, .int .i64 C.pages, .int .i64 C.room, .int .i64 C.chunk, .int .i64 C.buffer, .int .i64 C.queue, .int .i64 C.wear] 38)).alloc (.cells #[.int .i64 C.nodes, .int .i64 C.slots, .int .i64 C.pages, .int .i64 C.room, .int .i64 C.chunk, .int .i64 C.buffer, .int .i64 C.queue, .int .i64 C.wear] 38)).alloc (.cells #[.int .i64 C.nodes, .int .i64 C.slots, .int .i64 C.pages, .int .i64 C.room, .int .i64 C.chunk, .int .i64 C.buffer, .int .i64 C.queue, .int .i64 C.wear] 38)).cells.2 2 _ rfl
      have ke33 := (((HC.out.alloc (.cells #[.int .i64 C.nodes, .int .i64 C.slots, .int .i64 C.pages, .int .i64 C.room, .int .i64 C.chunk, .int .i64 C.buffer, .int .i64 C.queue, .int .i64 C.wear] 38)).alloc (.cells #[.int .i64 C.nodes, .int .i64 C.slots, .int .i64 C.pages, .int .i64 C.room, .int .i64 C.chunk, .int .i64 C.buffer, .int .i64 C.queue, .int .i64 C.wear] 38)).alloc (.cells #[.int .i64 C.nodes, .int .i64 C.slots, .int .i64 C.pages, .int .i64 C.room, .int .i64 C.chunk, .int .i64 C.buffer, .int .i64 C.queue, .int .i64 C.wear] 38)).cells.2 3 _ rfl
      have ke34 := (((HC.out.alloc (.cells #[.int .i64 C.nodes, .int .i64 C.slots, .int .i64 C.pages, .int .i64 C.room, .int .i64 C.chunk, .int .i64 C.buffer, .int .i64 C.queue, .int .i64 C.wear] 38)).alloc (.cells #[.int .i64 C.nodes, .int .i64 C.slots, .int .i64 C.pages, .int .i64 C.room, .int .i64 C.chunk, .int .i64 C.buffer, .int .i64 C.queue, .int .i64 C.wear] 38)).alloc (.cells #[.int .i64 C.nodes, .int .i64 C.slots, .int .i64 C.pages, .int .i64 C.room, .int .i64 C.chunk, .int .i64 C.buffer, .int .i64 C.queue, .int .i64 C.wear] 38)).cells.2 4 _ rfl
      have ke35 := (((HC.out.alloc (.cells #[.int .i64 C.nodes, .int .i64 C.slots, .int .i64 C.pages, .int .i64 C.room, .int .i64 C.chunk, .int .i64 C.buffer, .int .i64 C.queue, .int .i64 C.wear] 38)).alloc (.cells #[.int .i64 C.nodes, .int .i64 C.slots, .int .i64 C.pages, .int .i64 C.room, .int .i64 C.chunk, .int .i64 C.buffer, .int .i64 C.queue, .int .i64 C.wear] 38)).alloc (.cells #[.int .i64 C.nodes, .int .i64 C.slots, .int .i64 C.pages, .int .i64 C.room, .int .i64 C.chunk, .int .i64 C.buffer, .int .i64 C.queue, .int .i64 C.wear] 38)).cells.2 5 _ rfl
      have ke36 := (((HC.out.alloc (.cells #[.int .i64 C.nodes, .int .i64 C.slots, .int .i64 C.pages, .int .i64 C.room, .int .i64 C.chunk, .int .i64 C.buffer, .int .i64 C.queue, .int .i64 C.wear] 38)).alloc (.cells #[.int .i64 C.nodes, .int .i64 C.slots, .int .i64 C.pages, .int .i64 C.room, .int .i64 C.chunk, .int .i64 C.buffer, .int .i64 C.queue, .int .i64 C.wear] 38)).alloc (.cells #[.int .i64 C.nodes, .int .i64 C.slots, .int .i64 C.pages, .int .i64 C.room, .int .i64 C.chunk, .int .i64 C.buffer, .int .i64 C.queue, .int .i64 C.wear] 38)).cells.2 6 _ rfl
      have ke37 := (((HC.out.alloc (.cells #[.int .i64 C.nodes, .int .i64 C.slots, .int .i64 C.pages, .int .i64 C.room, .int .i64 C.chunk, .int .i64 C.buffer, .int .i64 C.queue, .int .i64 C.wear] 38)).alloc (.cells #[.int .i64 C.nodes, .int .i64 C.slots, .int .i64 C.pages, .int .i64 C.room, .int .i64 C.chunk, .int .i64 C.buffer, .int .i64 C.queue, .int .i64 C.wear] 38)).alloc (.cells #[.int .i64 C.nodes, .int .i64 C.slots, .int .i64 C.pages, .int .i64 C.room, .int .i64 C.chunk, .int .i64 C.buffer, .int .i64 C.queue, .int .i64 C.wear] 38)).cells.2 7 _ rfl
      have HL := Kept.mk (Hold.new W2 38 [.int .i64 C.nodes, .int .i64 C.slots, .int .i64 3, .int .i64 C.room, .int .i64 C.chunk, .int .i64 C.buffer, .int .i64 C.queue, .int .i64 C.wear] (W2.heap.size) (by first | rfl | simp))
      replace HL := Kept.mk (HL.out.alloc (.cells #[.int .i64 C.nodes, .int .i64 C.slots, .int .i64 6, .int .i64 C.room, .int .i64 C.chunk, .int .i64 C.buffer, .int .i64 C.queue, .int .i64 C.wear] 38))
      replace HL := Kept.mk (HL.out.alloc (.cells #[.int .i64 C.nodes, .int .i64 C.slots, .int .i64 2, .int .i64 C.room, .int .i64 C.chunk, .int .i64 C.buffer, .int .i64 C.queue, .int .i64 C.wear] 38))
      replace HL := Kept.mk (HL.out.alloc (.cells #[.int .i64 C.nodes, .int .i64 C.slots, .int .i64 7, .int .i64 C.room, .int .i64 C.chunk, .int .i64 C.buffer, .int .i64 C.queue, .int .i64 C.wear] 38))
      have HH := Kept.mk (Hold.new (W2.alloc (.cells #[.int .i64 C.nodes, .int .i64 C.slots, .int .i64 3, .int .i64 C.room, .int .i64 C.chunk, .int .i64 C.buffer, .int .i64 C.queue, .int .i64 C.wear] 38)) 38 [.int .i64 C.nodes, .int .i64 C.slots, .int .i64 6, .int .i64 C.room, .int .i64 C.chunk, .int .i64 C.buffer, .int .i64 C.queue, .int .i64 C.wear] (W2.heap.size + 1) (by first | rfl | simp))
      replace HH := Kept.mk (HH.out.alloc (.cells #[.int .i64 C.nodes, .int .i64 C.slots, .int .i64 2, .int .i64 C.room, .int .i64 C.chunk, .int .i64 C.buffer, .int .i64 C.queue, .int .i64 C.wear] 38))
      replace HH := Kept.mk (HH.out.alloc (.cells #[.int .i64 C.nodes, .int .i64 C.slots, .int .i64 7, .int .i64 C.room, .int .i64 C.chunk, .int .i64 C.buffer, .int .i64 C.queue, .int .i64 C.wear] 38))
      have HO_ := Kept.mk (Hold.new ((W2.alloc (.cells #[.int .i64 C.nodes, .int .i64 C.slots, .int .i64 3, .int .i64 C.room, .int .i64 C.chunk, .int .i64 C.buffer, .int .i64 C.queue, .int .i64 C.wear] 38)).alloc (.cells #[.int .i64 C.nodes, .int .i64 C.slots, .int .i64 6, .int .i64 C.room, .int .i64 C.chunk, .int .i64 C.buffer, .int .i64 C.queue, .int .i64 C.wear] 38)) 38 [.int .i64 C.nodes, .int .i64 C.slots, .int .i64 2, .int .i64 C.room, .int .i64 C.chunk, .int .i64 C.buffer, .int .i64 C.queue, .int .i64 C.wear] (W2.heap.size + 1 + 1) (by first | rfl | simp))
      replace HO_ := Kept.mk (HO_.out.alloc (.cells #[.int .i64 C.nodes, .int .i64 C.slots, .int .i64 7, .int .i64 C.room, .int .i64 C.chunk, .int .i64 C.buffer, .int .i64 C.queue, .int .i64 C.wear] 38))
      have HF := Kept.mk (Hold.new (((W2.alloc (.cells #[.int .i64 C.nodes, .int .i64 C.slots, .int .i64 3, .int .i64 C.room, .int .i64 C.chunk, .int .i64 C.buffer, .int .i64 C.queue, .int .i64 C.wear] 38)).alloc (.cells #[.int .i64 C.nodes, .int .i64 C.slots, .int .i64 6, .int .i64 C.room, .int .i64 C.chunk, .int .i64 C.buffer, .int .i64 C.queue, .int .i64 C.wear] 38)).alloc (.cells #[.int .i64 C.nodes, .int .i64 C.slots, .int .i64 2, .int .i64 C.room, .int .i64 C.chunk, .int .i64 C.buffer, .int .i64 C.queue, .int .i64 C.wear] 38)) 38 [.int .i64 C.nodes, .int .i64 C.slots, .int .i64 7, .int .i64 C.room, .int .i64 C.chunk, .int .i64 C.buffer, .int .i64 C.queue, .int .i64 C.wear] (W2.heap.size + 1 + 1 + 1) (by first | rfl | simp))
      have hbn : Below W2.heap.size W2 ((((W2.alloc (.cells #[.int .i64 C.nodes, .int .i64 C.slots, .int .i64 3, .int .i64 C.room, .int .i64 C.chunk, .int .i64 C.buffer, .int .i64 C.queue, .int .i64 C.wear] 38)).alloc (.cells #[.int .i64 C.nodes, .int .i64 C.slots, .int .i64 6, .int .i64 C.room, .int .i64 C.chunk, .int .i64 C.buffer, .int .i64 C.queue, .int .i64 C.wear] 38)).alloc (.cells #[.int .i64 C.nodes, .int .i64 C.slots, .int .i64 2, .int .i64 C.room, .int .i64 C.chunk, .int .i64 C.buffer, .int .i64 C.queue, .int .i64 C.wear] 38)).alloc (.cells #[.int .i64 C.nodes, .int .i64 C.slots, .int .i64 7, .int .i64 C.room, .int .i64 C.chunk, .int .i64 C.buffer, .int .i64 C.queue, .int .i64 C.wear] 38)) := ((((Below.refl _ _).alloc (Nat.le_refl _) _).alloc (by simp) _).alloc (by simp; omega) _).alloc (by simp; omega) _
      have HBN := Kept.mk hbn
      clear hbn
      have hg0 := HC.out.lt
      have HW2 := Kept.mk hB.out.size
      go_wp2_with fail
      clear ke00 ke01 ke02 ke03 ke04 ke05 ke06 ke07 ke10 ke11 ke12 ke13 ke14 ke15 ke16 ke17 ke20 ke21 ke22 ke23 ke24 ke25 ke26 ke27 ke30 ke31 ke32 ke33 ke34 ke35 ke36 ke37
      replace hB := Kept.mk (hB.out.trans (HBN.out.mono hB.out.size))
      replace HC := Kept.mk (HC.out.keep HBN.out)
      generalize ((((W2.alloc (.cells #[.int .i64 C.nodes, .int .i64 C.slots, .int .i64 3, .int .i64 C.room, .int .i64 C.chunk, .int .i64 C.buffer, .int .i64 C.queue, .int .i64 C.wear] 38)).alloc (.cells #[.int .i64 C.nodes, .int .i64 C.slots, .int .i64 6, .int .i64 C.room, .int .i64 C.chunk, .int .i64 C.buffer, .int .i64 C.queue, .int .i64 C.wear] 38)).alloc (.cells #[.int .i64 C.nodes, .int .i64 C.slots, .int .i64 2, .int .i64 C.room, .int .i64 C.chunk, .int .i64 C.buffer, .int .i64 C.queue, .int .i64 C.wear] 38)).alloc (.cells #[.int .i64 C.nodes, .int .i64 C.slots, .int .i64 7, .int .i64 C.room, .int .i64 C.chunk, .int .i64 C.buffer, .int .i64 C.queue, .int .i64 C.wear] 38)) = W3 at *
      refine (gc_check (⟨C.nodes, C.slots, 3, C.room, C.chunk, C.buffer, C.queue, C.wear⟩ : Cf) 0 _ (chkC_yes (okC_spec.2 ⟨HO2.out.nodes, HO2.out.slots, ⟨show (3 : Int) ≤ 3 by decide, show (3 : Int) ≤ 6 by decide⟩, HO2.out.room, HO2.out.chunk, HO2.out.buffer, HO2.out.queue, HO2.out.wear⟩))).mono ?_
      rintro e V0 ⟨rfl, hb⟩
      replace hB := Kept.mk (hB.out.trans (hb.mono hB.out.size))
      replace HL := Kept.mk (HL.out.keep hb)
      replace HH := Kept.mk (HH.out.keep hb)
      replace HO_ := Kept.mk (HO_.out.keep hb)
      replace HF := Kept.mk (HF.out.keep hb)
      clear hb
      have kk00 := HL.out.cells.2 0 _ rfl
      have kk01 := HL.out.cells.2 1 _ rfl
      have kk02 := HL.out.cells.2 2 _ rfl
      have kk03 := HL.out.cells.2 3 _ rfl
      have kk04 := HL.out.cells.2 4 _ rfl
      have kk05 := HL.out.cells.2 5 _ rfl
      have kk06 := HL.out.cells.2 6 _ rfl
      have kk07 := HL.out.cells.2 7 _ rfl
      have kk10 := HH.out.cells.2 0 _ rfl
      have kk11 := HH.out.cells.2 1 _ rfl
      have kk12 := HH.out.cells.2 2 _ rfl
      have kk13 := HH.out.cells.2 3 _ rfl
      have kk14 := HH.out.cells.2 4 _ rfl
      have kk15 := HH.out.cells.2 5 _ rfl
      have kk16 := HH.out.cells.2 6 _ rfl
      have kk17 := HH.out.cells.2 7 _ rfl
      have kk20 := HO_.out.cells.2 0 _ rfl
      have kk21 := HO_.out.cells.2 1 _ rfl
      have kk22 := HO_.out.cells.2 2 _ rfl
      have kk23 := HO_.out.cells.2 3 _ rfl
      have kk24 := HO_.out.cells.2 4 _ rfl
      have kk25 := HO_.out.cells.2 5 _ rfl
      have kk26 := HO_.out.cells.2 6 _ rfl
      have kk27 := HO_.out.cells.2 7 _ rfl
      have kk30 := HF.out.cells.2 0 _ rfl
      have kk31 := HF.out.cells.2 1 _ rfl
      have kk32 := HF.out.cells.2 2 _ rfl
      have kk33 := HF.out.cells.2 3 _ rfl
      have kk34 := HF.out.cells.2 4 _ rfl
      have kk35 := HF.out.cells.2 5 _ rfl
      have kk36 := HF.out.cells.2 6 _ rfl
      have kk37 := HF.out.cells.2 7 _ rfl
      go_wp2_with fail
      clear kk00 kk01 kk02 kk03 kk04 kk05 kk06 kk07 kk10 kk11 kk12 kk13 kk14 kk15 kk16 kk17 kk20 kk21 kk22 kk23 kk24 kk25 kk26 kk27 kk30 kk31 kk32 kk33 kk34 kk35 kk36 kk37
      refine (gc_check (⟨C.nodes, C.slots, 6, C.room, C.chunk, C.buffer, C.queue, C.wear⟩ : Cf) 0 _ (chkC_yes (okC_spec.2 ⟨HO2.out.nodes, HO2.out.slots, ⟨show (3 : Int) ≤ 6 by decide, show (6 : Int) ≤ 6 by decide⟩, HO2.out.room, HO2.out.chunk, HO2.out.buffer, HO2.out.queue, HO2.out.wear⟩))).mono ?_
      rintro e V1 ⟨rfl, hb⟩
      replace hB := Kept.mk (hB.out.trans (hb.mono hB.out.size))
      replace HL := Kept.mk (HL.out.keep hb)
      replace HH := Kept.mk (HH.out.keep hb)
      replace HO_ := Kept.mk (HO_.out.keep hb)
      replace HF := Kept.mk (HF.out.keep hb)
      clear hb
      have kk00 := HL.out.cells.2 0 _ rfl
      have kk01 := HL.out.cells.2 1 _ rfl
      have kk02 := HL.out.cells.2 2 _ rfl
      have kk03 := HL.out.cells.2 3 _ rfl
      have kk04 := HL.out.cells.2 4 _ rfl
      have kk05 := HL.out.cells.2 5 _ rfl
      have kk06 := HL.out.cells.2 6 _ rfl
      have kk07 := HL.out.cells.2 7 _ rfl
      have kk10 := HH.out.cells.2 0 _ rfl
      have kk11 := HH.out.cells.2 1 _ rfl
      have kk12 := HH.out.cells.2 2 _ rfl
      have kk13 := HH.out.cells.2 3 _ rfl
      have kk14 := HH.out.cells.2 4 _ rfl
      have kk15 := HH.out.cells.2 5 _ rfl
      have kk16 := HH.out.cells.2 6 _ rfl
      have kk17 := HH.out.cells.2 7 _ rfl
      have kk20 := HO_.out.cells.2 0 _ rfl
      have kk21 := HO_.out.cells.2 1 _ rfl
      have kk22 := HO_.out.cells.2 2 _ rfl
      have kk23 := HO_.out.cells.2 3 _ rfl
      have kk24 := HO_.out.cells.2 4 _ rfl
      have kk25 := HO_.out.cells.2 5 _ rfl
      have kk26 := HO_.out.cells.2 6 _ rfl
      have kk27 := HO_.out.cells.2 7 _ rfl
      have kk30 := HF.out.cells.2 0 _ rfl
      have kk31 := HF.out.cells.2 1 _ rfl
      have kk32 := HF.out.cells.2 2 _ rfl
      have kk33 := HF.out.cells.2 3 _ rfl
      have kk34 := HF.out.cells.2 4 _ rfl
      have kk35 := HF.out.cells.2 5 _ rfl
      have kk36 := HF.out.cells.2 6 _ rfl
      have kk37 := HF.out.cells.2 7 _ rfl
      go_wp2_with fail
      clear kk00 kk01 kk02 kk03 kk04 kk05 kk06 kk07 kk10 kk11 kk12 kk13 kk14 kk15 kk16 kk17 kk20 kk21 kk22 kk23 kk24 kk25 kk26 kk27 kk30 kk31 kk32 kk33 kk34 kk35 kk36 kk37
      refine (gc_check (⟨C.nodes, C.slots, 2, C.room, C.chunk, C.buffer, C.queue, C.wear⟩ : Cf) 1 _ (chkC_no (okC_false (k := 2) (by decide) (by show inC 2 3 6 = false; decide)))).mono ?_
      rintro e V2 ⟨rfl, hb⟩
      replace hB := Kept.mk (hB.out.trans (hb.mono hB.out.size))
      replace HL := Kept.mk (HL.out.keep hb)
      replace HH := Kept.mk (HH.out.keep hb)
      replace HO_ := Kept.mk (HO_.out.keep hb)
      replace HF := Kept.mk (HF.out.keep hb)
      clear hb
      have kk00 := HL.out.cells.2 0 _ rfl
      have kk01 := HL.out.cells.2 1 _ rfl
      have kk02 := HL.out.cells.2 2 _ rfl
      have kk03 := HL.out.cells.2 3 _ rfl
      have kk04 := HL.out.cells.2 4 _ rfl
      have kk05 := HL.out.cells.2 5 _ rfl
      have kk06 := HL.out.cells.2 6 _ rfl
      have kk07 := HL.out.cells.2 7 _ rfl
      have kk10 := HH.out.cells.2 0 _ rfl
      have kk11 := HH.out.cells.2 1 _ rfl
      have kk12 := HH.out.cells.2 2 _ rfl
      have kk13 := HH.out.cells.2 3 _ rfl
      have kk14 := HH.out.cells.2 4 _ rfl
      have kk15 := HH.out.cells.2 5 _ rfl
      have kk16 := HH.out.cells.2 6 _ rfl
      have kk17 := HH.out.cells.2 7 _ rfl
      have kk20 := HO_.out.cells.2 0 _ rfl
      have kk21 := HO_.out.cells.2 1 _ rfl
      have kk22 := HO_.out.cells.2 2 _ rfl
      have kk23 := HO_.out.cells.2 3 _ rfl
      have kk24 := HO_.out.cells.2 4 _ rfl
      have kk25 := HO_.out.cells.2 5 _ rfl
      have kk26 := HO_.out.cells.2 6 _ rfl
      have kk27 := HO_.out.cells.2 7 _ rfl
      have kk30 := HF.out.cells.2 0 _ rfl
      have kk31 := HF.out.cells.2 1 _ rfl
      have kk32 := HF.out.cells.2 2 _ rfl
      have kk33 := HF.out.cells.2 3 _ rfl
      have kk34 := HF.out.cells.2 4 _ rfl
      have kk35 := HF.out.cells.2 5 _ rfl
      have kk36 := HF.out.cells.2 6 _ rfl
      have kk37 := HF.out.cells.2 7 _ rfl
      go_wp2_with fail
      clear kk00 kk01 kk02 kk03 kk04 kk05 kk06 kk07 kk10 kk11 kk12 kk13 kk14 kk15 kk16 kk17 kk20 kk21 kk22 kk23 kk24 kk25 kk26 kk27 kk30 kk31 kk32 kk33 kk34 kk35 kk36 kk37
      refine (gc_check (⟨C.nodes, C.slots, 7, C.room, C.chunk, C.buffer, C.queue, C.wear⟩ : Cf) 1 _ (chkC_no (okC_false (k := 2) (by decide) (by show inC 7 3 6 = false; decide)))).mono ?_
      rintro e V3 ⟨rfl, hb⟩
      replace hB := Kept.mk (hB.out.trans (hb.mono hB.out.size))
      replace HL := Kept.mk (HL.out.keep hb)
      replace HH := Kept.mk (HH.out.keep hb)
      replace HO_ := Kept.mk (HO_.out.keep hb)
      replace HF := Kept.mk (HF.out.keep hb)
      clear hb
      go_wp2
      go_ret
      exact ⟨rfl, hB.out⟩
    · subst hmc
      have ke00 := HC.out.cells.2 0 _ rfl
      have ke01 := HC.out.cells.2 1 _ rfl
      have ke02 := HC.out.cells.2 2 _ rfl
      have ke03 := HC.out.cells.2 3 _ rfl
      have ke04 := HC.out.cells.2 4 _ rfl
      have ke05 := HC.out.cells.2 5 _ rfl
      have ke06 := HC.out.cells.2 6 _ rfl
      have ke07 := HC.out.cells.2 7 _ rfl
      have ke10 := (HC.out.alloc (.cells #[.int .i64 C.nodes, .int .i64 C.slots, .int .i64 C.pages, .int .i64 C.room, .int .i64 C.chunk, .int .i64 C.buffer, .int .i64 C.queue, .int .i64 C.wear] 38)).cells.2 0 _ rfl
      have ke11 := (HC.out.alloc (.cells #[.int .i64 C.nodes, .int .i64 C.slots, .int .i64 C.pages, .int .i64 C.room, .int .i64 C.chunk, .int .i64 C.buffer, .int .i64 C.queue, .int .i64 C.wear] 38)).cells.2 1 _ rfl
      have ke12 := (HC.out.alloc (.cells #[.int .i64 C.nodes, .int .i64 C.slots, .int .i64 C.pages, .int .i64 C.room, .int .i64 C.chunk, .int .i64 C.buffer, .int .i64 C.queue, .int .i64 C.wear] 38)).cells.2 2 _ rfl
      have ke13 := (HC.out.alloc (.cells #[.int .i64 C.nodes, .int .i64 C.slots, .int .i64 C.pages, .int .i64 C.room, .int .i64 C.chunk, .int .i64 C.buffer, .int .i64 C.queue, .int .i64 C.wear] 38)).cells.2 3 _ rfl
      have ke14 := (HC.out.alloc (.cells #[.int .i64 C.nodes, .int .i64 C.slots, .int .i64 C.pages, .int .i64 C.room, .int .i64 C.chunk, .int .i64 C.buffer, .int .i64 C.queue, .int .i64 C.wear] 38)).cells.2 4 _ rfl
      have ke15 := (HC.out.alloc (.cells #[.int .i64 C.nodes, .int .i64 C.slots, .int .i64 C.pages, .int .i64 C.room, .int .i64 C.chunk, .int .i64 C.buffer, .int .i64 C.queue, .int .i64 C.wear] 38)).cells.2 5 _ rfl
      have ke16 := (HC.out.alloc (.cells #[.int .i64 C.nodes, .int .i64 C.slots, .int .i64 C.pages, .int .i64 C.room, .int .i64 C.chunk, .int .i64 C.buffer, .int .i64 C.queue, .int .i64 C.wear] 38)).cells.2 6 _ rfl
      have ke17 := (HC.out.alloc (.cells #[.int .i64 C.nodes, .int .i64 C.slots, .int .i64 C.pages, .int .i64 C.room, .int .i64 C.chunk, .int .i64 C.buffer, .int .i64 C.queue, .int .i64 C.wear] 38)).cells.2 7 _ rfl
      have ke20 := ((HC.out.alloc (.cells #[.int .i64 C.nodes, .int .i64 C.slots, .int .i64 C.pages, .int .i64 C.room, .int .i64 C.chunk, .int .i64 C.buffer, .int .i64 C.queue, .int .i64 C.wear] 38)).alloc (.cells #[.int .i64 C.nodes, .int .i64 C.slots, .int .i64 C.pages, .int .i64 C.room, .int .i64 C.chunk, .int .i64 C.buffer, .int .i64 C.queue, .int .i64 C.wear] 38)).cells.2 0 _ rfl
      have ke21 := ((HC.out.alloc (.cells #[.int .i64 C.nodes, .int .i64 C.slots, .int .i64 C.pages, .int .i64 C.room, .int .i64 C.chunk, .int .i64 C.buffer, .int .i64 C.queue, .int .i64 C.wear] 38)).alloc (.cells #[.int .i64 C.nodes, .int .i64 C.slots, .int .i64 C.pages, .int .i64 C.room, .int .i64 C.chunk, .int .i64 C.buffer, .int .i64 C.queue, .int .i64 C.wear] 38)).cells.2 1 _ rfl
      have ke22 := ((HC.out.alloc (.cells #[.int .i64 C.nodes, .int .i64 C.slots, .int .i64 C.pages, .int .i64 C.room, .int .i64 C.chunk, .int .i64 C.buffer, .int .i64 C.queue, .int .i64 C.wear] 38)).alloc (.cells #[.int .i64 C.nodes, .int .i64 C.slots, .int .i64 C.pages, .int .i64 C.room, .int .i64 C.chunk, .int .i64 C.buffer, .int .i64 C.queue, .int .i64 C.wear] 38)).cells.2 2 _ rfl
      have ke23 := ((HC.out.alloc (.cells #[.int .i64 C.nodes, .int .i64 C.slots, .int .i64 C.pages, .int .i64 C.room, .int .i64 C.chunk, .int .i64 C.buffer, .int .i64 C.queue, .int .i64 C.wear] 38)).alloc (.cells #[.int .i64 C.nodes, .int .i64 C.slots, .int .i64 C.pages, .int .i64 C.room, .int .i64 C.chunk, .int .i64 C.buffer, .int .i64 C.queue, .int .i64 C.wear] 38)).cells.2 3 _ rfl
      have ke24 := ((HC.out.alloc (.cells #[.int .i64 C.nodes, .int .i64 C.slots, .int .i64 C.pages, .int .i64 C.room, .int .i64 C.chunk, .int .i64 C.buffer, .int .i64 C.queue, .int .i64 C.wear] 38)).alloc (.cells #[.int .i64 C.nodes, .int .i64 C.slots, .int .i64 C.pages, .int .i64 C.room, .int .i64 C.chunk, .int .i64 C.buffer, .int .i64 C.queue, .int .i64 C.wear] 38)).cells.2 4 _ rfl
      have ke25 := ((HC.out.alloc (.cells #[.int .i64 C.nodes, .int .i64 C.slots, .int .i64 C.pages, .int .i64 C.room, .int .i64 C.chunk, .int .i64 C.buffer, .int .i64 C.queue, .int .i64 C.wear] 38)).alloc (.cells #[.int .i64 C.nodes, .int .i64 C.slots, .int .i64 C.pages, .int .i64 C.room, .int .i64 C.chunk, .int .i64 C.buffer, .int .i64 C.queue, .int .i64 C.wear] 38)).cells.2 5 _ rfl
      have ke26 := ((HC.out.alloc (.cells #[.int .i64 C.nodes, .int .i64 C.slots, .int .i64 C.pages, .int .i64 C.room, .int .i64 C.chunk, .int .i64 C.buffer, .int .i64 C.queue, .int .i64 C.wear] 38)).alloc (.cells #[.int .i64 C.nodes, .int .i64 C.slots, .int .i64 C.pages, .int .i64 C.room, .int .i64 C.chunk, .int .i64 C.buffer, .int .i64 C.queue, .int .i64 C.wear] 38)).cells.2 6 _ rfl
      have ke27 := ((HC.out.alloc (.cells #[.int .i64 C.nodes, .int .i64 C.slots, .int .i64 C.pages, .int .i64 C.room, .int .i64 C.chunk, .int .i64 C.buffer, .int .i64 C.queue, .int .i64 C.wear] 38)).alloc (.cells #[.int .i64 C.nodes, .int .i64 C.slots, .int .i64 C.pages, .int .i64 C.room, .int .i64 C.chunk, .int .i64 C.buffer, .int .i64 C.queue, .int .i64 C.wear] 38)).cells.2 7 _ rfl
      have ke30 := (((HC.out.alloc (.cells #[.int .i64 C.nodes, .int .i64 C.slots, .int .i64 C.pages, .int .i64 C.room, .int .i64 C.chunk, .int .i64 C.buffer, .int .i64 C.queue, .int .i64 C.wear] 38)).alloc (.cells #[.int .i64 C.nodes, .int .i64 C.slots, .int .i64 C.pages, .int .i64 C.room, .int .i64 C.chunk, .int .i64 C.buffer, .int .i64 C.queue, .int .i64 C.wear] 38)).alloc (.cells #[.int .i64 C.nodes, .int .i64 C.slots, .int .i64 C.pages, .int .i64 C.room, .int .i64 C.chunk, .int .i64 C.buffer, .int .i64 C.queue, .int .i64 C.wear] 38)).cells.2 0 _ rfl
      have ke31 := (((HC.out.alloc (.cells #[.int .i64 C.nodes, .int .i64 C.slots, .int .i64 C.pages, .int .i64 C.room, .int .i64 C.chunk, .int .i64 C.buffer, .int .i64 C.queue, .int .i64 C.wear] 38)).alloc (.cells #[.int .i64 C.nodes, .int .i64 C.slots, .int .i64 C.pages, .int .i64 C.room, .int .i64 C.chunk, .int .i64 C.buffer, .int .i64 C.queue, .int .i64 C.wear] 38)).alloc (.cells #[.int .i64 C.nodes, .int .i64 C.slots, .int .i64 C.pages, .int .i64 C.room, .int .i64 C.chunk, .int .i64 C.buffer, .int .i64 C.queue, .int .i64 C.wear] 38)).cells.2 1 _ rfl
      have ke32 := (((HC.out.alloc (.cells #[.int .i64 C.nodes, .int .i64 C.slots, .int .i64 C.pages, .int .i64 C.room, .int .i64 C.chunk, .int .i64 C.buffer, .int .i64 C.queue, .int .i64 C.wear] 38)).alloc (.cells #[.int .i64 C.nodes, .int .i64 C.slots, .int .i64 C.pages, .int .i64 C.room, .int .i64 C.chunk, .int .i64 C.buffer, .int .i64 C.queue, .int .i64 C.wear] 38)).alloc (.cells #[.int .i64 C.nodes, .int .i64 C.slots, .int .i64 C.pages, .int .i64 C.room, .int .i64 C.chunk, .int .i64 C.buffer, .int .i64 C.queue, .int .i64 C.wear] 38)).cells.2 2 _ rfl
      have ke33 := (((HC.out.alloc (.cells #[.int .i64 C.nodes, .int .i64 C.slots, .int .i64 C.pages, .int .i64 C.room, .int .i64 C.chunk, .int .i64 C.buffer, .int .i64 C.queue, .int .i64 C.wear] 38)).alloc (.cells #[.int .i64 C.nodes, .int .i64 C.slots, .int .i64 C.pages, .int .i64 C.room, .int .i64 C.chunk, .int .i64 C.buffer, .int .i64 C.queue, .int .i64 C.wear] 38)).alloc (.cells #[.int .i64 C.nodes, .int .i64 C.slots, .int .i64 C.pages, .int .i64 C.room, .int .i64 C.chunk, .int .i64 C.buffer, .int .i64 C.queue, .int .i64 C.wear] 38)).cells.2 3 _ rfl
      have ke34 := (((HC.out.alloc (.cells #[.int .i64 C.nodes, .int .i64 C.slots, .int .i64 C.pages, .int .i64 C.room, .int .i64 C.chunk, .int .i64 C.buffer, .int .i64 C.queue, .int .i64 C.wear] 38)).alloc (.cells #[.int .i64 C.nodes, .int .i64 C.slots, .int .i64 C.pages, .int .i64 C.room, .int .i64 C.chunk, .int .i64 C.buffer, .int .i64 C.queue, .int .i64 C.wear] 38)).alloc (.cells #[.int .i64 C.nodes, .int .i64 C.slots, .int .i64 C.pages, .int .i64 C.room, .int .i64 C.chunk, .int .i64 C.buffer, .int .i64 C.queue, .int .i64 C.wear] 38)).cells.2 4 _ rfl
      have ke35 := (((HC.out.alloc (.cells #[.int .i64 C.nodes, .int .i64 C.slots, .int .i64 C.pages, .int .i64 C.room, .int .i64 C.chunk, .int .i64 C.buffer, .int .i64 C.queue, .int .i64 C.wear] 38)).alloc (.cells #[.int .i64 C.nodes, .int .i64 C.slots, .int .i64 C.pages, .int .i64 C.room, .int .i64 C.chunk, .int .i64 C.buffer, .int .i64 C.queue, .int .i64 C.wear] 38)).alloc (.cells #[.int .i64 C.nodes, .int .i64 C.slots, .int .i64 C.pages, .int .i64 C.room, .int .i64 C.chunk, .int .i64 C.buffer, .int .i64 C.queue, .int .i64 C.wear] 38)).cells.2 5 _ rfl
      have ke36 := (((HC.out.alloc (.cells #[.int .i64 C.nodes, .int .i64 C.slots, .int .i64 C.pages, .int .i64 C.room, .int .i64 C.chunk, .int .i64 C.buffer, .int .i64 C.queue, .int .i64 C.wear] 38)).alloc (.cells #[.int .i64 C.nodes, .int .i64 C.slots, .int .i64 C.pages, .int .i64 C.room, .int .i64 C.chunk, .int .i64 C.buffer, .int .i64 C.queue, .int .i64 C.wear] 38)).alloc (.cells #[.int .i64 C.nodes, .int .i64 C.slots, .int .i64 C.pages, .int .i64 C.room, .int .i64 C.chunk, .int .i64 C.buffer, .int .i64 C.queue, .int .i64 C.wear] 38)).cells.2 6 _ rfl
      have ke37 := (((HC.out.alloc (.cells #[.int .i64 C.nodes, .int .i64 C.slots, .int .i64 C.pages, .int .i64 C.room, .int .i64 C.chunk, .int .i64 C.buffer, .int .i64 C.queue, .int .i64 C.wear] 38)).alloc (.cells #[.int .i64 C.nodes, .int .i64 C.slots, .int .i64 C.pages, .int .i64 C.room, .int .i64 C.chunk, .int .i64 C.buffer, .int .i64 C.queue, .int .i64 C.wear] 38)).alloc (.cells #[.int .i64 C.nodes, .int .i64 C.slots, .int .i64 C.pages, .int .i64 C.room, .int .i64 C.chunk, .int .i64 C.buffer, .int .i64 C.queue, .int .i64 C.wear] 38)).cells.2 7 _ rfl
      have HL := Kept.mk (Hold.new W2 38 [.int .i64 C.nodes, .int .i64 C.slots, .int .i64 C.pages, .int .i64 C.room, .int .i64 C.chunk, .int .i64 C.buffer, .int .i64 C.queue, .int .i64 C.wear] (W2.heap.size) (by first | rfl | simp))
      replace HL := Kept.mk (HL.out.alloc (.cells #[.int .i64 C.nodes, .int .i64 C.slots, .int .i64 C.pages, .int .i64 C.room, .int .i64 C.chunk, .int .i64 C.buffer, .int .i64 C.queue, .int .i64 C.wear] 38))
      replace HL := Kept.mk (HL.out.alloc (.cells #[.int .i64 C.nodes, .int .i64 C.slots, .int .i64 C.pages, .int .i64 C.room, .int .i64 C.chunk, .int .i64 C.buffer, .int .i64 C.queue, .int .i64 C.wear] 38))
      replace HL := Kept.mk (HL.out.alloc (.cells #[.int .i64 C.nodes, .int .i64 C.slots, .int .i64 C.pages, .int .i64 C.room, .int .i64 C.chunk, .int .i64 C.buffer, .int .i64 C.queue, .int .i64 C.wear] 38))
      have HH := Kept.mk (Hold.new (W2.alloc (.cells #[.int .i64 C.nodes, .int .i64 C.slots, .int .i64 C.pages, .int .i64 C.room, .int .i64 C.chunk, .int .i64 C.buffer, .int .i64 C.queue, .int .i64 C.wear] 38)) 38 [.int .i64 C.nodes, .int .i64 C.slots, .int .i64 C.pages, .int .i64 C.room, .int .i64 C.chunk, .int .i64 C.buffer, .int .i64 C.queue, .int .i64 C.wear] (W2.heap.size + 1) (by first | rfl | simp))
      replace HH := Kept.mk (HH.out.alloc (.cells #[.int .i64 C.nodes, .int .i64 C.slots, .int .i64 C.pages, .int .i64 C.room, .int .i64 C.chunk, .int .i64 C.buffer, .int .i64 C.queue, .int .i64 C.wear] 38))
      replace HH := Kept.mk (HH.out.alloc (.cells #[.int .i64 C.nodes, .int .i64 C.slots, .int .i64 C.pages, .int .i64 C.room, .int .i64 C.chunk, .int .i64 C.buffer, .int .i64 C.queue, .int .i64 C.wear] 38))
      have HO_ := Kept.mk (Hold.new ((W2.alloc (.cells #[.int .i64 C.nodes, .int .i64 C.slots, .int .i64 C.pages, .int .i64 C.room, .int .i64 C.chunk, .int .i64 C.buffer, .int .i64 C.queue, .int .i64 C.wear] 38)).alloc (.cells #[.int .i64 C.nodes, .int .i64 C.slots, .int .i64 C.pages, .int .i64 C.room, .int .i64 C.chunk, .int .i64 C.buffer, .int .i64 C.queue, .int .i64 C.wear] 38)) 38 [.int .i64 C.nodes, .int .i64 C.slots, .int .i64 C.pages, .int .i64 C.room, .int .i64 C.chunk, .int .i64 C.buffer, .int .i64 C.queue, .int .i64 C.wear] (W2.heap.size + 1 + 1) (by first | rfl | simp))
      replace HO_ := Kept.mk (HO_.out.alloc (.cells #[.int .i64 C.nodes, .int .i64 C.slots, .int .i64 C.pages, .int .i64 C.room, .int .i64 C.chunk, .int .i64 C.buffer, .int .i64 C.queue, .int .i64 C.wear] 38))
      have HF := Kept.mk (Hold.new (((W2.alloc (.cells #[.int .i64 C.nodes, .int .i64 C.slots, .int .i64 C.pages, .int .i64 C.room, .int .i64 C.chunk, .int .i64 C.buffer, .int .i64 C.queue, .int .i64 C.wear] 38)).alloc (.cells #[.int .i64 C.nodes, .int .i64 C.slots, .int .i64 C.pages, .int .i64 C.room, .int .i64 C.chunk, .int .i64 C.buffer, .int .i64 C.queue, .int .i64 C.wear] 38)).alloc (.cells #[.int .i64 C.nodes, .int .i64 C.slots, .int .i64 C.pages, .int .i64 C.room, .int .i64 C.chunk, .int .i64 C.buffer, .int .i64 C.queue, .int .i64 C.wear] 38)) 38 [.int .i64 C.nodes, .int .i64 C.slots, .int .i64 C.pages, .int .i64 C.room, .int .i64 C.chunk, .int .i64 C.buffer, .int .i64 C.queue, .int .i64 C.wear] (W2.heap.size + 1 + 1 + 1) (by first | rfl | simp))
      have hbn : Below W2.heap.size W2 ((((W2.alloc (.cells #[.int .i64 C.nodes, .int .i64 C.slots, .int .i64 C.pages, .int .i64 C.room, .int .i64 C.chunk, .int .i64 C.buffer, .int .i64 C.queue, .int .i64 C.wear] 38)).alloc (.cells #[.int .i64 C.nodes, .int .i64 C.slots, .int .i64 C.pages, .int .i64 C.room, .int .i64 C.chunk, .int .i64 C.buffer, .int .i64 C.queue, .int .i64 C.wear] 38)).alloc (.cells #[.int .i64 C.nodes, .int .i64 C.slots, .int .i64 C.pages, .int .i64 C.room, .int .i64 C.chunk, .int .i64 C.buffer, .int .i64 C.queue, .int .i64 C.wear] 38)).alloc (.cells #[.int .i64 C.nodes, .int .i64 C.slots, .int .i64 C.pages, .int .i64 C.room, .int .i64 C.chunk, .int .i64 C.buffer, .int .i64 C.queue, .int .i64 C.wear] 38)) := ((((Below.refl _ _).alloc (Nat.le_refl _) _).alloc (by simp) _).alloc (by simp; omega) _).alloc (by simp; omega) _
      have HBN := Kept.mk hbn
      clear hbn
      have hg0 := HC.out.lt
      have HW2 := Kept.mk hB.out.size
      go_wp2_with fail
      clear ke00 ke01 ke02 ke03 ke04 ke05 ke06 ke07 ke10 ke11 ke12 ke13 ke14 ke15 ke16 ke17 ke20 ke21 ke22 ke23 ke24 ke25 ke26 ke27 ke30 ke31 ke32 ke33 ke34 ke35 ke36 ke37
      replace hB := Kept.mk (hB.out.trans (HBN.out.mono hB.out.size))
      replace HC := Kept.mk (HC.out.keep HBN.out)
      generalize ((((W2.alloc (.cells #[.int .i64 C.nodes, .int .i64 C.slots, .int .i64 C.pages, .int .i64 C.room, .int .i64 C.chunk, .int .i64 C.buffer, .int .i64 C.queue, .int .i64 C.wear] 38)).alloc (.cells #[.int .i64 C.nodes, .int .i64 C.slots, .int .i64 C.pages, .int .i64 C.room, .int .i64 C.chunk, .int .i64 C.buffer, .int .i64 C.queue, .int .i64 C.wear] 38)).alloc (.cells #[.int .i64 C.nodes, .int .i64 C.slots, .int .i64 C.pages, .int .i64 C.room, .int .i64 C.chunk, .int .i64 C.buffer, .int .i64 C.queue, .int .i64 C.wear] 38)).alloc (.cells #[.int .i64 C.nodes, .int .i64 C.slots, .int .i64 C.pages, .int .i64 C.room, .int .i64 C.chunk, .int .i64 C.buffer, .int .i64 C.queue, .int .i64 C.wear] 38)) = W3 at *
      have kc1 := HC.out.cells.2 1 _ rfl
      obtain ⟨g0, hg0e⟩ : ∃ b, w.heap.size = b := ⟨_, rfl⟩
      obtain ⟨gl, hgl⟩ : ∃ b, W2.heap.size = b := ⟨_, rfl⟩
      obtain ⟨gh, hgh⟩ : ∃ b, W2.heap.size + 1 = b := ⟨_, rfl⟩
      obtain ⟨go, hgo⟩ : ∃ b, W2.heap.size + 1 + 1 = b := ⟨_, rfl⟩
      obtain ⟨gf, hgf⟩ : ∃ b, W2.heap.size + 1 + 1 + 1 = b := ⟨_, rfl⟩
      have nlh : (gl = gh) = False := eq_false (by omega)
      have nlo : (gl = go) = False := eq_false (by omega)
      have nlf : (gl = gf) = False := eq_false (by omega)
      have nho : (gh = go) = False := eq_false (by omega)
      have nhf : (gh = gf) = False := eq_false (by omega)
      have nof : (go = gf) = False := eq_false (by omega)
      have nhl : (gh = gl) = False := eq_false (by omega)
      have nol : (go = gl) = False := eq_false (by omega)
      have nfl : (gf = gl) = False := eq_false (by omega)
      have noh : (go = gh) = False := eq_false (by omega)
      have nfh : (gf = gh) = False := eq_false (by omega)
      have nfo : (gf = go) = False := eq_false (by omega)
      have HGE := Kept.mk (show w.heap.size < gl by omega)
      have HLE := Kept.mk (show gl < gh ∧ gh < go ∧ go < gf by omega)
      rw [hgf] at HF ⊢
      rw [hgo] at HO_ ⊢
      rw [hgh] at HH ⊢
      rw [hgl] at HL ⊢
      have ogl := HL.out.cells.2 3 _ rfl
      have ogh := HH.out.cells.2 3 _ rfl
      have ogo := HO_.out.cells.2 3 _ rfl
      have ogf := HF.out.cells.2 3 _ rfl
      have fgl := HL.out.free 3
      have fgh := HH.out.free 3
      have fgo := HO_.out.free 3
      have fgf := HF.out.free 3
      clear hg0 hgl hgh hgo hgf hg0e
      go_region
      replace HL := Kept.mk (show Hold ((((W3.setCell ⟨gl, 3, none⟩ (.int .i64 (C.slots + 3))).setCell ⟨gh, 3, none⟩ (.int .i64 24)).setCell ⟨go, 3, none⟩ (.int .i64 (C.slots + 2))).setCell ⟨gf, 3, none⟩ (.int .i64 25)).drew gl [.int .i64 C.nodes, .int .i64 C.slots, .int .i64 C.pages, .int .i64 (C.slots + 3), .int .i64 C.chunk, .int .i64 C.buffer, .int .i64 C.queue, .int .i64 C.wear] from Hold.drew_ ((((HL.out.set 3 (.int .i64 (C.slots + 3)) (by simp)).apart (b' := gh) (fun e => by rw [nlh] at e; exact e) 3 (.int .i64 24)).apart (b' := go) (fun e => by rw [nlo] at e; exact e) 3 (.int .i64 (C.slots + 2))).apart (b' := gf) (fun e => by rw [nlf] at e; exact e) 3 (.int .i64 25)))
      replace HH := Kept.mk (show Hold ((((W3.setCell ⟨gl, 3, none⟩ (.int .i64 (C.slots + 3))).setCell ⟨gh, 3, none⟩ (.int .i64 24)).setCell ⟨go, 3, none⟩ (.int .i64 (C.slots + 2))).setCell ⟨gf, 3, none⟩ (.int .i64 25)).drew gh [.int .i64 C.nodes, .int .i64 C.slots, .int .i64 C.pages, .int .i64 24, .int .i64 C.chunk, .int .i64 C.buffer, .int .i64 C.queue, .int .i64 C.wear] from Hold.drew_ ((((HH.out.apart (b' := gl) (fun e => by rw [nhl] at e; exact e) 3 (.int .i64 (C.slots + 3))).set 3 (.int .i64 24) (by simp)).apart (b' := go) (fun e => by rw [nho] at e; exact e) 3 (.int .i64 (C.slots + 2))).apart (b' := gf) (fun e => by rw [nhf] at e; exact e) 3 (.int .i64 25)))
      replace HO_ := Kept.mk (show Hold ((((W3.setCell ⟨gl, 3, none⟩ (.int .i64 (C.slots + 3))).setCell ⟨gh, 3, none⟩ (.int .i64 24)).setCell ⟨go, 3, none⟩ (.int .i64 (C.slots + 2))).setCell ⟨gf, 3, none⟩ (.int .i64 25)).drew go [.int .i64 C.nodes, .int .i64 C.slots, .int .i64 C.pages, .int .i64 (C.slots + 2), .int .i64 C.chunk, .int .i64 C.buffer, .int .i64 C.queue, .int .i64 C.wear] from Hold.drew_ ((((HO_.out.apart (b' := gl) (fun e => by rw [nol] at e; exact e) 3 (.int .i64 (C.slots + 3))).apart (b' := gh) (fun e => by rw [noh] at e; exact e) 3 (.int .i64 24)).set 3 (.int .i64 (C.slots + 2)) (by simp)).apart (b' := gf) (fun e => by rw [nof] at e; exact e) 3 (.int .i64 25)))
      replace HF := Kept.mk (show Hold ((((W3.setCell ⟨gl, 3, none⟩ (.int .i64 (C.slots + 3))).setCell ⟨gh, 3, none⟩ (.int .i64 24)).setCell ⟨go, 3, none⟩ (.int .i64 (C.slots + 2))).setCell ⟨gf, 3, none⟩ (.int .i64 25)).drew gf [.int .i64 C.nodes, .int .i64 C.slots, .int .i64 C.pages, .int .i64 25, .int .i64 C.chunk, .int .i64 C.buffer, .int .i64 C.queue, .int .i64 C.wear] from Hold.drew_ ((((HF.out.apart (b' := gl) (fun e => by rw [nfl] at e; exact e) 3 (.int .i64 (C.slots + 3))).apart (b' := gh) (fun e => by rw [nfh] at e; exact e) 3 (.int .i64 24)).apart (b' := go) (fun e => by rw [nfo] at e; exact e) 3 (.int .i64 (C.slots + 2))).set 3 (.int .i64 25) (by simp)))
      have hge := HGE.out
      have hg1 := HLE.out.1
      have hg2 := HLE.out.2.1
      have hg3 := HLE.out.2.2
      replace hB := Kept.mk (show Below w.heap.size w ((((W3.setCell ⟨gl, 3, none⟩ (.int .i64 (C.slots + 3))).setCell ⟨gh, 3, none⟩ (.int .i64 24)).setCell ⟨go, 3, none⟩ (.int .i64 (C.slots + 2))).setCell ⟨gf, 3, none⟩ (.int .i64 25)).drew from ((((hB.out.setCell (p := ⟨gl, 3, none⟩) (show w.heap.size ≤ gl by omega) (.int .i64 (C.slots + 3))).setCell (p := ⟨gh, 3, none⟩) (show w.heap.size ≤ gh by omega) (.int .i64 24)).setCell (p := ⟨go, 3, none⟩) (show w.heap.size ≤ go by omega) (.int .i64 (C.slots + 2))).setCell (p := ⟨gf, 3, none⟩) (show w.heap.size ≤ gf by omega) (.int .i64 25)).drew)
      clear hge hg1 hg2 hg3
      generalize ((((W3.setCell ⟨gl, 3, none⟩ (.int .i64 (C.slots + 3))).setCell ⟨gh, 3, none⟩ (.int .i64 24)).setCell ⟨go, 3, none⟩ (.int .i64 (C.slots + 2))).setCell ⟨gf, 3, none⟩ (.int .i64 25)).drew = w4 at *
      clear nlh nlo nlf nho nhf nof nhl nol nfl noh nfh nfo ogl ogh ogo ogf fgl fgh fgo fgf kc1
      have kk00 := HL.out.cells.2 0 _ rfl
      have kk01 := HL.out.cells.2 1 _ rfl
      have kk02 := HL.out.cells.2 2 _ rfl
      have kk03 := HL.out.cells.2 3 _ rfl
      have kk04 := HL.out.cells.2 4 _ rfl
      have kk05 := HL.out.cells.2 5 _ rfl
      have kk06 := HL.out.cells.2 6 _ rfl
      have kk07 := HL.out.cells.2 7 _ rfl
      have kk10 := HH.out.cells.2 0 _ rfl
      have kk11 := HH.out.cells.2 1 _ rfl
      have kk12 := HH.out.cells.2 2 _ rfl
      have kk13 := HH.out.cells.2 3 _ rfl
      have kk14 := HH.out.cells.2 4 _ rfl
      have kk15 := HH.out.cells.2 5 _ rfl
      have kk16 := HH.out.cells.2 6 _ rfl
      have kk17 := HH.out.cells.2 7 _ rfl
      have kk20 := HO_.out.cells.2 0 _ rfl
      have kk21 := HO_.out.cells.2 1 _ rfl
      have kk22 := HO_.out.cells.2 2 _ rfl
      have kk23 := HO_.out.cells.2 3 _ rfl
      have kk24 := HO_.out.cells.2 4 _ rfl
      have kk25 := HO_.out.cells.2 5 _ rfl
      have kk26 := HO_.out.cells.2 6 _ rfl
      have kk27 := HO_.out.cells.2 7 _ rfl
      have kk30 := HF.out.cells.2 0 _ rfl
      have kk31 := HF.out.cells.2 1 _ rfl
      have kk32 := HF.out.cells.2 2 _ rfl
      have kk33 := HF.out.cells.2 3 _ rfl
      have kk34 := HF.out.cells.2 4 _ rfl
      have kk35 := HF.out.cells.2 5 _ rfl
      have kk36 := HF.out.cells.2 6 _ rfl
      have kk37 := HF.out.cells.2 7 _ rfl
      go_wp2_with fail
      clear kk00 kk01 kk02 kk03 kk04 kk05 kk06 kk07 kk10 kk11 kk12 kk13 kk14 kk15 kk16 kk17 kk20 kk21 kk22 kk23 kk24 kk25 kk26 kk27 kk30 kk31 kk32 kk33 kk34 kk35 kk36 kk37
      refine (gc_check (⟨C.nodes, C.slots, C.pages, C.slots + 3, C.chunk, C.buffer, C.queue, C.wear⟩ : Cf) 0 _ (chkC_yes (okC_spec.2 ⟨HO2.out.nodes, HO2.out.slots, HO2.out.pages, ⟨by show C.slots + 3 ≤ C.slots + 3; have := HO2.out.slots; omega, by show C.slots + 3 ≤ 24; have := HO2.out.slots; omega⟩, HO2.out.chunk, HO2.out.buffer, HO2.out.queue, HO2.out.wear⟩))).mono ?_
      rintro e V0 ⟨rfl, hb⟩
      replace hB := Kept.mk (hB.out.trans (hb.mono hB.out.size))
      replace HL := Kept.mk (HL.out.keep hb)
      replace HH := Kept.mk (HH.out.keep hb)
      replace HO_ := Kept.mk (HO_.out.keep hb)
      replace HF := Kept.mk (HF.out.keep hb)
      clear hb
      have kk00 := HL.out.cells.2 0 _ rfl
      have kk01 := HL.out.cells.2 1 _ rfl
      have kk02 := HL.out.cells.2 2 _ rfl
      have kk03 := HL.out.cells.2 3 _ rfl
      have kk04 := HL.out.cells.2 4 _ rfl
      have kk05 := HL.out.cells.2 5 _ rfl
      have kk06 := HL.out.cells.2 6 _ rfl
      have kk07 := HL.out.cells.2 7 _ rfl
      have kk10 := HH.out.cells.2 0 _ rfl
      have kk11 := HH.out.cells.2 1 _ rfl
      have kk12 := HH.out.cells.2 2 _ rfl
      have kk13 := HH.out.cells.2 3 _ rfl
      have kk14 := HH.out.cells.2 4 _ rfl
      have kk15 := HH.out.cells.2 5 _ rfl
      have kk16 := HH.out.cells.2 6 _ rfl
      have kk17 := HH.out.cells.2 7 _ rfl
      have kk20 := HO_.out.cells.2 0 _ rfl
      have kk21 := HO_.out.cells.2 1 _ rfl
      have kk22 := HO_.out.cells.2 2 _ rfl
      have kk23 := HO_.out.cells.2 3 _ rfl
      have kk24 := HO_.out.cells.2 4 _ rfl
      have kk25 := HO_.out.cells.2 5 _ rfl
      have kk26 := HO_.out.cells.2 6 _ rfl
      have kk27 := HO_.out.cells.2 7 _ rfl
      have kk30 := HF.out.cells.2 0 _ rfl
      have kk31 := HF.out.cells.2 1 _ rfl
      have kk32 := HF.out.cells.2 2 _ rfl
      have kk33 := HF.out.cells.2 3 _ rfl
      have kk34 := HF.out.cells.2 4 _ rfl
      have kk35 := HF.out.cells.2 5 _ rfl
      have kk36 := HF.out.cells.2 6 _ rfl
      have kk37 := HF.out.cells.2 7 _ rfl
      go_wp2_with fail
      clear kk00 kk01 kk02 kk03 kk04 kk05 kk06 kk07 kk10 kk11 kk12 kk13 kk14 kk15 kk16 kk17 kk20 kk21 kk22 kk23 kk24 kk25 kk26 kk27 kk30 kk31 kk32 kk33 kk34 kk35 kk36 kk37
      refine (gc_check (⟨C.nodes, C.slots, C.pages, 24, C.chunk, C.buffer, C.queue, C.wear⟩ : Cf) 0 _ (chkC_yes (okC_spec.2 ⟨HO2.out.nodes, HO2.out.slots, HO2.out.pages, ⟨by show C.slots + 3 ≤ 24; have := HO2.out.slots; omega, by show 24 ≤ 24; have := HO2.out.slots; omega⟩, HO2.out.chunk, HO2.out.buffer, HO2.out.queue, HO2.out.wear⟩))).mono ?_
      rintro e V1 ⟨rfl, hb⟩
      replace hB := Kept.mk (hB.out.trans (hb.mono hB.out.size))
      replace HL := Kept.mk (HL.out.keep hb)
      replace HH := Kept.mk (HH.out.keep hb)
      replace HO_ := Kept.mk (HO_.out.keep hb)
      replace HF := Kept.mk (HF.out.keep hb)
      clear hb
      have kk00 := HL.out.cells.2 0 _ rfl
      have kk01 := HL.out.cells.2 1 _ rfl
      have kk02 := HL.out.cells.2 2 _ rfl
      have kk03 := HL.out.cells.2 3 _ rfl
      have kk04 := HL.out.cells.2 4 _ rfl
      have kk05 := HL.out.cells.2 5 _ rfl
      have kk06 := HL.out.cells.2 6 _ rfl
      have kk07 := HL.out.cells.2 7 _ rfl
      have kk10 := HH.out.cells.2 0 _ rfl
      have kk11 := HH.out.cells.2 1 _ rfl
      have kk12 := HH.out.cells.2 2 _ rfl
      have kk13 := HH.out.cells.2 3 _ rfl
      have kk14 := HH.out.cells.2 4 _ rfl
      have kk15 := HH.out.cells.2 5 _ rfl
      have kk16 := HH.out.cells.2 6 _ rfl
      have kk17 := HH.out.cells.2 7 _ rfl
      have kk20 := HO_.out.cells.2 0 _ rfl
      have kk21 := HO_.out.cells.2 1 _ rfl
      have kk22 := HO_.out.cells.2 2 _ rfl
      have kk23 := HO_.out.cells.2 3 _ rfl
      have kk24 := HO_.out.cells.2 4 _ rfl
      have kk25 := HO_.out.cells.2 5 _ rfl
      have kk26 := HO_.out.cells.2 6 _ rfl
      have kk27 := HO_.out.cells.2 7 _ rfl
      have kk30 := HF.out.cells.2 0 _ rfl
      have kk31 := HF.out.cells.2 1 _ rfl
      have kk32 := HF.out.cells.2 2 _ rfl
      have kk33 := HF.out.cells.2 3 _ rfl
      have kk34 := HF.out.cells.2 4 _ rfl
      have kk35 := HF.out.cells.2 5 _ rfl
      have kk36 := HF.out.cells.2 6 _ rfl
      have kk37 := HF.out.cells.2 7 _ rfl
      go_wp2_with fail
      clear kk00 kk01 kk02 kk03 kk04 kk05 kk06 kk07 kk10 kk11 kk12 kk13 kk14 kk15 kk16 kk17 kk20 kk21 kk22 kk23 kk24 kk25 kk26 kk27 kk30 kk31 kk32 kk33 kk34 kk35 kk36 kk37
      refine (gc_check (⟨C.nodes, C.slots, C.pages, C.slots + 2, C.chunk, C.buffer, C.queue, C.wear⟩ : Cf) 1 _ (chkC_no (okC_false (k := 3) (by decide) (by exact inC_no.2 (by show C.slots + 2 < C.slots + 3 ∨ 24 < C.slots + 2; have := HO2.out.slots; omega))))).mono ?_
      rintro e V2 ⟨rfl, hb⟩
      replace hB := Kept.mk (hB.out.trans (hb.mono hB.out.size))
      replace HL := Kept.mk (HL.out.keep hb)
      replace HH := Kept.mk (HH.out.keep hb)
      replace HO_ := Kept.mk (HO_.out.keep hb)
      replace HF := Kept.mk (HF.out.keep hb)
      clear hb
      have kk00 := HL.out.cells.2 0 _ rfl
      have kk01 := HL.out.cells.2 1 _ rfl
      have kk02 := HL.out.cells.2 2 _ rfl
      have kk03 := HL.out.cells.2 3 _ rfl
      have kk04 := HL.out.cells.2 4 _ rfl
      have kk05 := HL.out.cells.2 5 _ rfl
      have kk06 := HL.out.cells.2 6 _ rfl
      have kk07 := HL.out.cells.2 7 _ rfl
      have kk10 := HH.out.cells.2 0 _ rfl
      have kk11 := HH.out.cells.2 1 _ rfl
      have kk12 := HH.out.cells.2 2 _ rfl
      have kk13 := HH.out.cells.2 3 _ rfl
      have kk14 := HH.out.cells.2 4 _ rfl
      have kk15 := HH.out.cells.2 5 _ rfl
      have kk16 := HH.out.cells.2 6 _ rfl
      have kk17 := HH.out.cells.2 7 _ rfl
      have kk20 := HO_.out.cells.2 0 _ rfl
      have kk21 := HO_.out.cells.2 1 _ rfl
      have kk22 := HO_.out.cells.2 2 _ rfl
      have kk23 := HO_.out.cells.2 3 _ rfl
      have kk24 := HO_.out.cells.2 4 _ rfl
      have kk25 := HO_.out.cells.2 5 _ rfl
      have kk26 := HO_.out.cells.2 6 _ rfl
      have kk27 := HO_.out.cells.2 7 _ rfl
      have kk30 := HF.out.cells.2 0 _ rfl
      have kk31 := HF.out.cells.2 1 _ rfl
      have kk32 := HF.out.cells.2 2 _ rfl
      have kk33 := HF.out.cells.2 3 _ rfl
      have kk34 := HF.out.cells.2 4 _ rfl
      have kk35 := HF.out.cells.2 5 _ rfl
      have kk36 := HF.out.cells.2 6 _ rfl
      have kk37 := HF.out.cells.2 7 _ rfl
      go_wp2_with fail
      clear kk00 kk01 kk02 kk03 kk04 kk05 kk06 kk07 kk10 kk11 kk12 kk13 kk14 kk15 kk16 kk17 kk20 kk21 kk22 kk23 kk24 kk25 kk26 kk27 kk30 kk31 kk32 kk33 kk34 kk35 kk36 kk37
      refine (gc_check (⟨C.nodes, C.slots, C.pages, 25, C.chunk, C.buffer, C.queue, C.wear⟩ : Cf) 1 _ (chkC_no (okC_false (k := 3) (by decide) (by exact inC_no.2 (by show 25 < C.slots + 3 ∨ 24 < 25; have := HO2.out.slots; omega))))).mono ?_
      rintro e V3 ⟨rfl, hb⟩
      replace hB := Kept.mk (hB.out.trans (hb.mono hB.out.size))
      replace HL := Kept.mk (HL.out.keep hb)
      replace HH := Kept.mk (HH.out.keep hb)
      replace HO_ := Kept.mk (HO_.out.keep hb)
      replace HF := Kept.mk (HF.out.keep hb)
      clear hb
      go_wp2
      go_ret
      exact ⟨rfl, hB.out⟩
    · subst hmc
      have ke00 := HC.out.cells.2 0 _ rfl
      have ke01 := HC.out.cells.2 1 _ rfl
      have ke02 := HC.out.cells.2 2 _ rfl
      have ke03 := HC.out.cells.2 3 _ rfl
      have ke04 := HC.out.cells.2 4 _ rfl
      have ke05 := HC.out.cells.2 5 _ rfl
      have ke06 := HC.out.cells.2 6 _ rfl
      have ke07 := HC.out.cells.2 7 _ rfl
      have ke10 := (HC.out.alloc (.cells #[.int .i64 C.nodes, .int .i64 C.slots, .int .i64 C.pages, .int .i64 C.room, .int .i64 C.chunk, .int .i64 C.buffer, .int .i64 C.queue, .int .i64 C.wear] 38)).cells.2 0 _ rfl
      have ke11 := (HC.out.alloc (.cells #[.int .i64 C.nodes, .int .i64 C.slots, .int .i64 C.pages, .int .i64 C.room, .int .i64 C.chunk, .int .i64 C.buffer, .int .i64 C.queue, .int .i64 C.wear] 38)).cells.2 1 _ rfl
      have ke12 := (HC.out.alloc (.cells #[.int .i64 C.nodes, .int .i64 C.slots, .int .i64 C.pages, .int .i64 C.room, .int .i64 C.chunk, .int .i64 C.buffer, .int .i64 C.queue, .int .i64 C.wear] 38)).cells.2 2 _ rfl
      have ke13 := (HC.out.alloc (.cells #[.int .i64 C.nodes, .int .i64 C.slots, .int .i64 C.pages, .int .i64 C.room, .int .i64 C.chunk, .int .i64 C.buffer, .int .i64 C.queue, .int .i64 C.wear] 38)).cells.2 3 _ rfl
      have ke14 := (HC.out.alloc (.cells #[.int .i64 C.nodes, .int .i64 C.slots, .int .i64 C.pages, .int .i64 C.room, .int .i64 C.chunk, .int .i64 C.buffer, .int .i64 C.queue, .int .i64 C.wear] 38)).cells.2 4 _ rfl
      have ke15 := (HC.out.alloc (.cells #[.int .i64 C.nodes, .int .i64 C.slots, .int .i64 C.pages, .int .i64 C.room, .int .i64 C.chunk, .int .i64 C.buffer, .int .i64 C.queue, .int .i64 C.wear] 38)).cells.2 5 _ rfl
      have ke16 := (HC.out.alloc (.cells #[.int .i64 C.nodes, .int .i64 C.slots, .int .i64 C.pages, .int .i64 C.room, .int .i64 C.chunk, .int .i64 C.buffer, .int .i64 C.queue, .int .i64 C.wear] 38)).cells.2 6 _ rfl
      have ke17 := (HC.out.alloc (.cells #[.int .i64 C.nodes, .int .i64 C.slots, .int .i64 C.pages, .int .i64 C.room, .int .i64 C.chunk, .int .i64 C.buffer, .int .i64 C.queue, .int .i64 C.wear] 38)).cells.2 7 _ rfl
      have ke20 := ((HC.out.alloc (.cells #[.int .i64 C.nodes, .int .i64 C.slots, .int .i64 C.pages, .int .i64 C.room, .int .i64 C.chunk, .int .i64 C.buffer, .int .i64 C.queue, .int .i64 C.wear] 38)).alloc (.cells #[.int .i64 C.nodes, .int .i64 C.slots, .int .i64 C.pages, .int .i64 C.room, .int .i64 C.chunk, .int .i64 C.buffer, .int .i64 C.queue, .int .i64 C.wear] 38)).cells.2 0 _ rfl
      have ke21 := ((HC.out.alloc (.cells #[.int .i64 C.nodes, .int .i64 C.slots, .int .i64 C.pages, .int .i64 C.room, .int .i64 C.chunk, .int .i64 C.buffer, .int .i64 C.queue, .int .i64 C.wear] 38)).alloc (.cells #[.int .i64 C.nodes, .int .i64 C.slots, .int .i64 C.pages, .int .i64 C.room, .int .i64 C.chunk, .int .i64 C.buffer, .int .i64 C.queue, .int .i64 C.wear] 38)).cells.2 1 _ rfl
      have ke22 := ((HC.out.alloc (.cells #[.int .i64 C.nodes, .int .i64 C.slots, .int .i64 C.pages, .int .i64 C.room, .int .i64 C.chunk, .int .i64 C.buffer, .int .i64 C.queue, .int .i64 C.wear] 38)).alloc (.cells #[.int .i64 C.nodes, .int .i64 C.slots, .int .i64 C.pages, .int .i64 C.room, .int .i64 C.chunk, .int .i64 C.buffer, .int .i64 C.queue, .int .i64 C.wear] 38)).cells.2 2 _ rfl
      have ke23 := ((HC.out.alloc (.cells #[.int .i64 C.nodes, .int .i64 C.slots, .int .i64 C.pages, .int .i64 C.room, .int .i64 C.chunk, .int .i64 C.buffer, .int .i64 C.queue, .int .i64 C.wear] 38)).alloc (.cells #[.int .i64 C.nodes, .int .i64 C.slots, .int .i64 C.pages, .int .i64 C.room, .int .i64 C.chunk, .int .i64 C.buffer, .int .i64 C.queue, .int .i64 C.wear] 38)).cells.2 3 _ rfl
      have ke24 := ((HC.out.alloc (.cells #[.int .i64 C.nodes, .int .i64 C.slots, .int .i64 C.pages, .int .i64 C.room, .int .i64 C.chunk, .int .i64 C.buffer, .int .i64 C.queue, .int .i64 C.wear] 38)).alloc (.cells #[.int .i64 C.nodes, .int .i64 C.slots, .int .i64 C.pages, .int .i64 C.room, .int .i64 C.chunk, .int .i64 C.buffer, .int .i64 C.queue, .int .i64 C.wear] 38)).cells.2 4 _ rfl
      have ke25 := ((HC.out.alloc (.cells #[.int .i64 C.nodes, .int .i64 C.slots, .int .i64 C.pages, .int .i64 C.room, .int .i64 C.chunk, .int .i64 C.buffer, .int .i64 C.queue, .int .i64 C.wear] 38)).alloc (.cells #[.int .i64 C.nodes, .int .i64 C.slots, .int .i64 C.pages, .int .i64 C.room, .int .i64 C.chunk, .int .i64 C.buffer, .int .i64 C.queue, .int .i64 C.wear] 38)).cells.2 5 _ rfl
      have ke26 := ((HC.out.alloc (.cells #[.int .i64 C.nodes, .int .i64 C.slots, .int .i64 C.pages, .int .i64 C.room, .int .i64 C.chunk, .int .i64 C.buffer, .int .i64 C.queue, .int .i64 C.wear] 38)).alloc (.cells #[.int .i64 C.nodes, .int .i64 C.slots, .int .i64 C.pages, .int .i64 C.room, .int .i64 C.chunk, .int .i64 C.buffer, .int .i64 C.queue, .int .i64 C.wear] 38)).cells.2 6 _ rfl
      have ke27 := ((HC.out.alloc (.cells #[.int .i64 C.nodes, .int .i64 C.slots, .int .i64 C.pages, .int .i64 C.room, .int .i64 C.chunk, .int .i64 C.buffer, .int .i64 C.queue, .int .i64 C.wear] 38)).alloc (.cells #[.int .i64 C.nodes, .int .i64 C.slots, .int .i64 C.pages, .int .i64 C.room, .int .i64 C.chunk, .int .i64 C.buffer, .int .i64 C.queue, .int .i64 C.wear] 38)).cells.2 7 _ rfl
      have ke30 := (((HC.out.alloc (.cells #[.int .i64 C.nodes, .int .i64 C.slots, .int .i64 C.pages, .int .i64 C.room, .int .i64 C.chunk, .int .i64 C.buffer, .int .i64 C.queue, .int .i64 C.wear] 38)).alloc (.cells #[.int .i64 C.nodes, .int .i64 C.slots, .int .i64 C.pages, .int .i64 C.room, .int .i64 C.chunk, .int .i64 C.buffer, .int .i64 C.queue, .int .i64 C.wear] 38)).alloc (.cells #[.int .i64 C.nodes, .int .i64 C.slots, .int .i64 C.pages, .int .i64 C.room, .int .i64 C.chunk, .int .i64 C.buffer, .int .i64 C.queue, .int .i64 C.wear] 38)).cells.2 0 _ rfl
      have ke31 := (((HC.out.alloc (.cells #[.int .i64 C.nodes, .int .i64 C.slots, .int .i64 C.pages, .int .i64 C.room, .int .i64 C.chunk, .int .i64 C.buffer, .int .i64 C.queue, .int .i64 C.wear] 38)).alloc (.cells #[.int .i64 C.nodes, .int .i64 C.slots, .int .i64 C.pages, .int .i64 C.room, .int .i64 C.chunk, .int .i64 C.buffer, .int .i64 C.queue, .int .i64 C.wear] 38)).alloc (.cells #[.int .i64 C.nodes, .int .i64 C.slots, .int .i64 C.pages, .int .i64 C.room, .int .i64 C.chunk, .int .i64 C.buffer, .int .i64 C.queue, .int .i64 C.wear] 38)).cells.2 1 _ rfl
      have ke32 := (((HC.out.alloc (.cells #[.int .i64 C.nodes, .int .i64 C.slots, .int .i64 C.pages, .int .i64 C.room, .int .i64 C.chunk, .int .i64 C.buffer, .int .i64 C.queue, .int .i64 C.wear] 38)).alloc (.cells #[.int .i64 C.nodes, .int .i64 C.slots, .int .i64 C.pages, .int .i64 C.room, .int .i64 C.chunk, .int .i64 C.buffer, .int .i64 C.queue, .int .i64 C.wear] 38)).alloc (.cells #[.int .i64 C.nodes, .int .i64 C.slots, .int .i64 C.pages, .int .i64 C.room, .int .i64 C.chunk, .int .i64 C.buffer, .int .i64 C.queue, .int .i64 C.wear] 38)).cells.2 2 _ rfl
      have ke33 := (((HC.out.alloc (.cells #[.int .i64 C.nodes, .int .i64 C.slots, .int .i64 C.pages, .int .i64 C.room, .int .i64 C.chunk, .int .i64 C.buffer, .int .i64 C.queue, .int .i64 C.wear] 38)).alloc (.cells #[.int .i64 C.nodes, .int .i64 C.slots, .int .i64 C.pages, .int .i64 C.room, .int .i64 C.chunk, .int .i64 C.buffer, .int .i64 C.queue, .int .i64 C.wear] 38)).alloc (.cells #[.int .i64 C.nodes, .int .i64 C.slots, .int .i64 C.pages, .int .i64 C.room, .int .i64 C.chunk, .int .i64 C.buffer, .int .i64 C.queue, .int .i64 C.wear] 38)).cells.2 3 _ rfl
      have ke34 := (((HC.out.alloc (.cells #[.int .i64 C.nodes, .int .i64 C.slots, .int .i64 C.pages, .int .i64 C.room, .int .i64 C.chunk, .int .i64 C.buffer, .int .i64 C.queue, .int .i64 C.wear] 38)).alloc (.cells #[.int .i64 C.nodes, .int .i64 C.slots, .int .i64 C.pages, .int .i64 C.room, .int .i64 C.chunk, .int .i64 C.buffer, .int .i64 C.queue, .int .i64 C.wear] 38)).alloc (.cells #[.int .i64 C.nodes, .int .i64 C.slots, .int .i64 C.pages, .int .i64 C.room, .int .i64 C.chunk, .int .i64 C.buffer, .int .i64 C.queue, .int .i64 C.wear] 38)).cells.2 4 _ rfl
      have ke35 := (((HC.out.alloc (.cells #[.int .i64 C.nodes, .int .i64 C.slots, .int .i64 C.pages, .int .i64 C.room, .int .i64 C.chunk, .int .i64 C.buffer, .int .i64 C.queue, .int .i64 C.wear] 38)).alloc (.cells #[.int .i64 C.nodes, .int .i64 C.slots, .int .i64 C.pages, .int .i64 C.room, .int .i64 C.chunk, .int .i64 C.buffer, .int .i64 C.queue, .int .i64 C.wear] 38)).alloc (.cells #[.int .i64 C.nodes, .int .i64 C.slots, .int .i64 C.pages, .int .i64 C.room, .int .i64 C.chunk, .int .i64 C.buffer, .int .i64 C.queue, .int .i64 C.wear] 38)).cells.2 5 _ rfl
      have ke36 := (((HC.out.alloc (.cells #[.int .i64 C.nodes, .int .i64 C.slots, .int .i64 C.pages, .int .i64 C.room, .int .i64 C.chunk, .int .i64 C.buffer, .int .i64 C.queue, .int .i64 C.wear] 38)).alloc (.cells #[.int .i64 C.nodes, .int .i64 C.slots, .int .i64 C.pages, .int .i64 C.room, .int .i64 C.chunk, .int .i64 C.buffer, .int .i64 C.queue, .int .i64 C.wear] 38)).alloc (.cells #[.int .i64 C.nodes, .int .i64 C.slots, .int .i64 C.pages, .int .i64 C.room, .int .i64 C.chunk, .int .i64 C.buffer, .int .i64 C.queue, .int .i64 C.wear] 38)).cells.2 6 _ rfl
      have ke37 := (((HC.out.alloc (.cells #[.int .i64 C.nodes, .int .i64 C.slots, .int .i64 C.pages, .int .i64 C.room, .int .i64 C.chunk, .int .i64 C.buffer, .int .i64 C.queue, .int .i64 C.wear] 38)).alloc (.cells #[.int .i64 C.nodes, .int .i64 C.slots, .int .i64 C.pages, .int .i64 C.room, .int .i64 C.chunk, .int .i64 C.buffer, .int .i64 C.queue, .int .i64 C.wear] 38)).alloc (.cells #[.int .i64 C.nodes, .int .i64 C.slots, .int .i64 C.pages, .int .i64 C.room, .int .i64 C.chunk, .int .i64 C.buffer, .int .i64 C.queue, .int .i64 C.wear] 38)).cells.2 7 _ rfl
      have HL := Kept.mk (Hold.new W2 38 [.int .i64 C.nodes, .int .i64 C.slots, .int .i64 C.pages, .int .i64 C.room, .int .i64 1, .int .i64 C.buffer, .int .i64 C.queue, .int .i64 C.wear] (W2.heap.size) (by first | rfl | simp))
      replace HL := Kept.mk (HL.out.alloc (.cells #[.int .i64 C.nodes, .int .i64 C.slots, .int .i64 C.pages, .int .i64 C.room, .int .i64 4, .int .i64 C.buffer, .int .i64 C.queue, .int .i64 C.wear] 38))
      replace HL := Kept.mk (HL.out.alloc (.cells #[.int .i64 C.nodes, .int .i64 C.slots, .int .i64 C.pages, .int .i64 C.room, .int .i64 0, .int .i64 C.buffer, .int .i64 C.queue, .int .i64 C.wear] 38))
      replace HL := Kept.mk (HL.out.alloc (.cells #[.int .i64 C.nodes, .int .i64 C.slots, .int .i64 C.pages, .int .i64 C.room, .int .i64 5, .int .i64 C.buffer, .int .i64 C.queue, .int .i64 C.wear] 38))
      have HH := Kept.mk (Hold.new (W2.alloc (.cells #[.int .i64 C.nodes, .int .i64 C.slots, .int .i64 C.pages, .int .i64 C.room, .int .i64 1, .int .i64 C.buffer, .int .i64 C.queue, .int .i64 C.wear] 38)) 38 [.int .i64 C.nodes, .int .i64 C.slots, .int .i64 C.pages, .int .i64 C.room, .int .i64 4, .int .i64 C.buffer, .int .i64 C.queue, .int .i64 C.wear] (W2.heap.size + 1) (by first | rfl | simp))
      replace HH := Kept.mk (HH.out.alloc (.cells #[.int .i64 C.nodes, .int .i64 C.slots, .int .i64 C.pages, .int .i64 C.room, .int .i64 0, .int .i64 C.buffer, .int .i64 C.queue, .int .i64 C.wear] 38))
      replace HH := Kept.mk (HH.out.alloc (.cells #[.int .i64 C.nodes, .int .i64 C.slots, .int .i64 C.pages, .int .i64 C.room, .int .i64 5, .int .i64 C.buffer, .int .i64 C.queue, .int .i64 C.wear] 38))
      have HO_ := Kept.mk (Hold.new ((W2.alloc (.cells #[.int .i64 C.nodes, .int .i64 C.slots, .int .i64 C.pages, .int .i64 C.room, .int .i64 1, .int .i64 C.buffer, .int .i64 C.queue, .int .i64 C.wear] 38)).alloc (.cells #[.int .i64 C.nodes, .int .i64 C.slots, .int .i64 C.pages, .int .i64 C.room, .int .i64 4, .int .i64 C.buffer, .int .i64 C.queue, .int .i64 C.wear] 38)) 38 [.int .i64 C.nodes, .int .i64 C.slots, .int .i64 C.pages, .int .i64 C.room, .int .i64 0, .int .i64 C.buffer, .int .i64 C.queue, .int .i64 C.wear] (W2.heap.size + 1 + 1) (by first | rfl | simp))
      replace HO_ := Kept.mk (HO_.out.alloc (.cells #[.int .i64 C.nodes, .int .i64 C.slots, .int .i64 C.pages, .int .i64 C.room, .int .i64 5, .int .i64 C.buffer, .int .i64 C.queue, .int .i64 C.wear] 38))
      have HF := Kept.mk (Hold.new (((W2.alloc (.cells #[.int .i64 C.nodes, .int .i64 C.slots, .int .i64 C.pages, .int .i64 C.room, .int .i64 1, .int .i64 C.buffer, .int .i64 C.queue, .int .i64 C.wear] 38)).alloc (.cells #[.int .i64 C.nodes, .int .i64 C.slots, .int .i64 C.pages, .int .i64 C.room, .int .i64 4, .int .i64 C.buffer, .int .i64 C.queue, .int .i64 C.wear] 38)).alloc (.cells #[.int .i64 C.nodes, .int .i64 C.slots, .int .i64 C.pages, .int .i64 C.room, .int .i64 0, .int .i64 C.buffer, .int .i64 C.queue, .int .i64 C.wear] 38)) 38 [.int .i64 C.nodes, .int .i64 C.slots, .int .i64 C.pages, .int .i64 C.room, .int .i64 5, .int .i64 C.buffer, .int .i64 C.queue, .int .i64 C.wear] (W2.heap.size + 1 + 1 + 1) (by first | rfl | simp))
      have hbn : Below W2.heap.size W2 ((((W2.alloc (.cells #[.int .i64 C.nodes, .int .i64 C.slots, .int .i64 C.pages, .int .i64 C.room, .int .i64 1, .int .i64 C.buffer, .int .i64 C.queue, .int .i64 C.wear] 38)).alloc (.cells #[.int .i64 C.nodes, .int .i64 C.slots, .int .i64 C.pages, .int .i64 C.room, .int .i64 4, .int .i64 C.buffer, .int .i64 C.queue, .int .i64 C.wear] 38)).alloc (.cells #[.int .i64 C.nodes, .int .i64 C.slots, .int .i64 C.pages, .int .i64 C.room, .int .i64 0, .int .i64 C.buffer, .int .i64 C.queue, .int .i64 C.wear] 38)).alloc (.cells #[.int .i64 C.nodes, .int .i64 C.slots, .int .i64 C.pages, .int .i64 C.room, .int .i64 5, .int .i64 C.buffer, .int .i64 C.queue, .int .i64 C.wear] 38)) := ((((Below.refl _ _).alloc (Nat.le_refl _) _).alloc (by simp) _).alloc (by simp; omega) _).alloc (by simp; omega) _
      have HBN := Kept.mk hbn
      clear hbn
      have hg0 := HC.out.lt
      have HW2 := Kept.mk hB.out.size
      go_wp2_with fail
      clear ke00 ke01 ke02 ke03 ke04 ke05 ke06 ke07 ke10 ke11 ke12 ke13 ke14 ke15 ke16 ke17 ke20 ke21 ke22 ke23 ke24 ke25 ke26 ke27 ke30 ke31 ke32 ke33 ke34 ke35 ke36 ke37
      replace hB := Kept.mk (hB.out.trans (HBN.out.mono hB.out.size))
      replace HC := Kept.mk (HC.out.keep HBN.out)
      generalize ((((W2.alloc (.cells #[.int .i64 C.nodes, .int .i64 C.slots, .int .i64 C.pages, .int .i64 C.room, .int .i64 1, .int .i64 C.buffer, .int .i64 C.queue, .int .i64 C.wear] 38)).alloc (.cells #[.int .i64 C.nodes, .int .i64 C.slots, .int .i64 C.pages, .int .i64 C.room, .int .i64 4, .int .i64 C.buffer, .int .i64 C.queue, .int .i64 C.wear] 38)).alloc (.cells #[.int .i64 C.nodes, .int .i64 C.slots, .int .i64 C.pages, .int .i64 C.room, .int .i64 0, .int .i64 C.buffer, .int .i64 C.queue, .int .i64 C.wear] 38)).alloc (.cells #[.int .i64 C.nodes, .int .i64 C.slots, .int .i64 C.pages, .int .i64 C.room, .int .i64 5, .int .i64 C.buffer, .int .i64 C.queue, .int .i64 C.wear] 38)) = W3 at *
      refine (gc_check (⟨C.nodes, C.slots, C.pages, C.room, 1, C.buffer, C.queue, C.wear⟩ : Cf) 0 _ (chkC_yes (okC_spec.2 ⟨HO2.out.nodes, HO2.out.slots, HO2.out.pages, HO2.out.room, ⟨show (1 : Int) ≤ 1 by decide, show (1 : Int) ≤ 4 by decide⟩, HO2.out.buffer, HO2.out.queue, HO2.out.wear⟩))).mono ?_
      rintro e V0 ⟨rfl, hb⟩
      replace hB := Kept.mk (hB.out.trans (hb.mono hB.out.size))
      replace HL := Kept.mk (HL.out.keep hb)
      replace HH := Kept.mk (HH.out.keep hb)
      replace HO_ := Kept.mk (HO_.out.keep hb)
      replace HF := Kept.mk (HF.out.keep hb)
      clear hb
      have kk00 := HL.out.cells.2 0 _ rfl
      have kk01 := HL.out.cells.2 1 _ rfl
      have kk02 := HL.out.cells.2 2 _ rfl
      have kk03 := HL.out.cells.2 3 _ rfl
      have kk04 := HL.out.cells.2 4 _ rfl
      have kk05 := HL.out.cells.2 5 _ rfl
      have kk06 := HL.out.cells.2 6 _ rfl
      have kk07 := HL.out.cells.2 7 _ rfl
      have kk10 := HH.out.cells.2 0 _ rfl
      have kk11 := HH.out.cells.2 1 _ rfl
      have kk12 := HH.out.cells.2 2 _ rfl
      have kk13 := HH.out.cells.2 3 _ rfl
      have kk14 := HH.out.cells.2 4 _ rfl
      have kk15 := HH.out.cells.2 5 _ rfl
      have kk16 := HH.out.cells.2 6 _ rfl
      have kk17 := HH.out.cells.2 7 _ rfl
      have kk20 := HO_.out.cells.2 0 _ rfl
      have kk21 := HO_.out.cells.2 1 _ rfl
      have kk22 := HO_.out.cells.2 2 _ rfl
      have kk23 := HO_.out.cells.2 3 _ rfl
      have kk24 := HO_.out.cells.2 4 _ rfl
      have kk25 := HO_.out.cells.2 5 _ rfl
      have kk26 := HO_.out.cells.2 6 _ rfl
      have kk27 := HO_.out.cells.2 7 _ rfl
      have kk30 := HF.out.cells.2 0 _ rfl
      have kk31 := HF.out.cells.2 1 _ rfl
      have kk32 := HF.out.cells.2 2 _ rfl
      have kk33 := HF.out.cells.2 3 _ rfl
      have kk34 := HF.out.cells.2 4 _ rfl
      have kk35 := HF.out.cells.2 5 _ rfl
      have kk36 := HF.out.cells.2 6 _ rfl
      have kk37 := HF.out.cells.2 7 _ rfl
      go_wp2_with fail
      clear kk00 kk01 kk02 kk03 kk04 kk05 kk06 kk07 kk10 kk11 kk12 kk13 kk14 kk15 kk16 kk17 kk20 kk21 kk22 kk23 kk24 kk25 kk26 kk27 kk30 kk31 kk32 kk33 kk34 kk35 kk36 kk37
      refine (gc_check (⟨C.nodes, C.slots, C.pages, C.room, 4, C.buffer, C.queue, C.wear⟩ : Cf) 0 _ (chkC_yes (okC_spec.2 ⟨HO2.out.nodes, HO2.out.slots, HO2.out.pages, HO2.out.room, ⟨show (1 : Int) ≤ 4 by decide, show (4 : Int) ≤ 4 by decide⟩, HO2.out.buffer, HO2.out.queue, HO2.out.wear⟩))).mono ?_
      rintro e V1 ⟨rfl, hb⟩
      replace hB := Kept.mk (hB.out.trans (hb.mono hB.out.size))
      replace HL := Kept.mk (HL.out.keep hb)
      replace HH := Kept.mk (HH.out.keep hb)
      replace HO_ := Kept.mk (HO_.out.keep hb)
      replace HF := Kept.mk (HF.out.keep hb)
      clear hb
      have kk00 := HL.out.cells.2 0 _ rfl
      have kk01 := HL.out.cells.2 1 _ rfl
      have kk02 := HL.out.cells.2 2 _ rfl
      have kk03 := HL.out.cells.2 3 _ rfl
      have kk04 := HL.out.cells.2 4 _ rfl
      have kk05 := HL.out.cells.2 5 _ rfl
      have kk06 := HL.out.cells.2 6 _ rfl
      have kk07 := HL.out.cells.2 7 _ rfl
      have kk10 := HH.out.cells.2 0 _ rfl
      have kk11 := HH.out.cells.2 1 _ rfl
      have kk12 := HH.out.cells.2 2 _ rfl
      have kk13 := HH.out.cells.2 3 _ rfl
      have kk14 := HH.out.cells.2 4 _ rfl
      have kk15 := HH.out.cells.2 5 _ rfl
      have kk16 := HH.out.cells.2 6 _ rfl
      have kk17 := HH.out.cells.2 7 _ rfl
      have kk20 := HO_.out.cells.2 0 _ rfl
      have kk21 := HO_.out.cells.2 1 _ rfl
      have kk22 := HO_.out.cells.2 2 _ rfl
      have kk23 := HO_.out.cells.2 3 _ rfl
      have kk24 := HO_.out.cells.2 4 _ rfl
      have kk25 := HO_.out.cells.2 5 _ rfl
      have kk26 := HO_.out.cells.2 6 _ rfl
      have kk27 := HO_.out.cells.2 7 _ rfl
      have kk30 := HF.out.cells.2 0 _ rfl
      have kk31 := HF.out.cells.2 1 _ rfl
      have kk32 := HF.out.cells.2 2 _ rfl
      have kk33 := HF.out.cells.2 3 _ rfl
      have kk34 := HF.out.cells.2 4 _ rfl
      have kk35 := HF.out.cells.2 5 _ rfl
      have kk36 := HF.out.cells.2 6 _ rfl
      have kk37 := HF.out.cells.2 7 _ rfl
      go_wp2_with fail
      clear kk00 kk01 kk02 kk03 kk04 kk05 kk06 kk07 kk10 kk11 kk12 kk13 kk14 kk15 kk16 kk17 kk20 kk21 kk22 kk23 kk24 kk25 kk26 kk27 kk30 kk31 kk32 kk33 kk34 kk35 kk36 kk37
      refine (gc_check (⟨C.nodes, C.slots, C.pages, C.room, 0, C.buffer, C.queue, C.wear⟩ : Cf) 1 _ (chkC_no (okC_false (k := 4) (by decide) (by show inC 0 1 4 = false; decide)))).mono ?_
      rintro e V2 ⟨rfl, hb⟩
      replace hB := Kept.mk (hB.out.trans (hb.mono hB.out.size))
      replace HL := Kept.mk (HL.out.keep hb)
      replace HH := Kept.mk (HH.out.keep hb)
      replace HO_ := Kept.mk (HO_.out.keep hb)
      replace HF := Kept.mk (HF.out.keep hb)
      clear hb
      have kk00 := HL.out.cells.2 0 _ rfl
      have kk01 := HL.out.cells.2 1 _ rfl
      have kk02 := HL.out.cells.2 2 _ rfl
      have kk03 := HL.out.cells.2 3 _ rfl
      have kk04 := HL.out.cells.2 4 _ rfl
      have kk05 := HL.out.cells.2 5 _ rfl
      have kk06 := HL.out.cells.2 6 _ rfl
      have kk07 := HL.out.cells.2 7 _ rfl
      have kk10 := HH.out.cells.2 0 _ rfl
      have kk11 := HH.out.cells.2 1 _ rfl
      have kk12 := HH.out.cells.2 2 _ rfl
      have kk13 := HH.out.cells.2 3 _ rfl
      have kk14 := HH.out.cells.2 4 _ rfl
      have kk15 := HH.out.cells.2 5 _ rfl
      have kk16 := HH.out.cells.2 6 _ rfl
      have kk17 := HH.out.cells.2 7 _ rfl
      have kk20 := HO_.out.cells.2 0 _ rfl
      have kk21 := HO_.out.cells.2 1 _ rfl
      have kk22 := HO_.out.cells.2 2 _ rfl
      have kk23 := HO_.out.cells.2 3 _ rfl
      have kk24 := HO_.out.cells.2 4 _ rfl
      have kk25 := HO_.out.cells.2 5 _ rfl
      have kk26 := HO_.out.cells.2 6 _ rfl
      have kk27 := HO_.out.cells.2 7 _ rfl
      have kk30 := HF.out.cells.2 0 _ rfl
      have kk31 := HF.out.cells.2 1 _ rfl
      have kk32 := HF.out.cells.2 2 _ rfl
      have kk33 := HF.out.cells.2 3 _ rfl
      have kk34 := HF.out.cells.2 4 _ rfl
      have kk35 := HF.out.cells.2 5 _ rfl
      have kk36 := HF.out.cells.2 6 _ rfl
      have kk37 := HF.out.cells.2 7 _ rfl
      go_wp2_with fail
      clear kk00 kk01 kk02 kk03 kk04 kk05 kk06 kk07 kk10 kk11 kk12 kk13 kk14 kk15 kk16 kk17 kk20 kk21 kk22 kk23 kk24 kk25 kk26 kk27 kk30 kk31 kk32 kk33 kk34 kk35 kk36 kk37
      refine (gc_check (⟨C.nodes, C.slots, C.pages, C.room, 5, C.buffer, C.queue, C.wear⟩ : Cf) 1 _ (chkC_no (okC_false (k := 4) (by decide) (by show inC 5 1 4 = false; decide)))).mono ?_
      rintro e V3 ⟨rfl, hb⟩
      replace hB := Kept.mk (hB.out.trans (hb.mono hB.out.size))
      replace HL := Kept.mk (HL.out.keep hb)
      replace HH := Kept.mk (HH.out.keep hb)
      replace HO_ := Kept.mk (HO_.out.keep hb)
      replace HF := Kept.mk (HF.out.keep hb)
      clear hb
      go_wp2
      go_ret
      exact ⟨rfl, hB.out⟩
    · subst hmc
      have ke00 := HC.out.cells.2 0 _ rfl
      have ke01 := HC.out.cells.2 1 _ rfl
      have ke02 := HC.out.cells.2 2 _ rfl
      have ke03 := HC.out.cells.2 3 _ rfl
      have ke04 := HC.out.cells.2 4 _ rfl
      have ke05 := HC.out.cells.2 5 _ rfl
      have ke06 := HC.out.cells.2 6 _ rfl
      have ke07 := HC.out.cells.2 7 _ rfl
      have ke10 := (HC.out.alloc (.cells #[.int .i64 C.nodes, .int .i64 C.slots, .int .i64 C.pages, .int .i64 C.room, .int .i64 C.chunk, .int .i64 C.buffer, .int .i64 C.queue, .int .i64 C.wear] 38)).cells.2 0 _ rfl
      have ke11 := (HC.out.alloc (.cells #[.int .i64 C.nodes, .int .i64 C.slots, .int .i64 C.pages, .int .i64 C.room, .int .i64 C.chunk, .int .i64 C.buffer, .int .i64 C.queue, .int .i64 C.wear] 38)).cells.2 1 _ rfl
      have ke12 := (HC.out.alloc (.cells #[.int .i64 C.nodes, .int .i64 C.slots, .int .i64 C.pages, .int .i64 C.room, .int .i64 C.chunk, .int .i64 C.buffer, .int .i64 C.queue, .int .i64 C.wear] 38)).cells.2 2 _ rfl
      have ke13 := (HC.out.alloc (.cells #[.int .i64 C.nodes, .int .i64 C.slots, .int .i64 C.pages, .int .i64 C.room, .int .i64 C.chunk, .int .i64 C.buffer, .int .i64 C.queue, .int .i64 C.wear] 38)).cells.2 3 _ rfl
      have ke14 := (HC.out.alloc (.cells #[.int .i64 C.nodes, .int .i64 C.slots, .int .i64 C.pages, .int .i64 C.room, .int .i64 C.chunk, .int .i64 C.buffer, .int .i64 C.queue, .int .i64 C.wear] 38)).cells.2 4 _ rfl
      have ke15 := (HC.out.alloc (.cells #[.int .i64 C.nodes, .int .i64 C.slots, .int .i64 C.pages, .int .i64 C.room, .int .i64 C.chunk, .int .i64 C.buffer, .int .i64 C.queue, .int .i64 C.wear] 38)).cells.2 5 _ rfl
      have ke16 := (HC.out.alloc (.cells #[.int .i64 C.nodes, .int .i64 C.slots, .int .i64 C.pages, .int .i64 C.room, .int .i64 C.chunk, .int .i64 C.buffer, .int .i64 C.queue, .int .i64 C.wear] 38)).cells.2 6 _ rfl
      have ke17 := (HC.out.alloc (.cells #[.int .i64 C.nodes, .int .i64 C.slots, .int .i64 C.pages, .int .i64 C.room, .int .i64 C.chunk, .int .i64 C.buffer, .int .i64 C.queue, .int .i64 C.wear] 38)).cells.2 7 _ rfl
      have ke20 := ((HC.out.alloc (.cells #[.int .i64 C.nodes, .int .i64 C.slots, .int .i64 C.pages, .int .i64 C.room, .int .i64 C.chunk, .int .i64 C.buffer, .int .i64 C.queue, .int .i64 C.wear] 38)).alloc (.cells #[.int .i64 C.nodes, .int .i64 C.slots, .int .i64 C.pages, .int .i64 C.room, .int .i64 C.chunk, .int .i64 C.buffer, .int .i64 C.queue, .int .i64 C.wear] 38)).cells.2 0 _ rfl
      have ke21 := ((HC.out.alloc (.cells #[.int .i64 C.nodes, .int .i64 C.slots, .int .i64 C.pages, .int .i64 C.room, .int .i64 C.chunk, .int .i64 C.buffer, .int .i64 C.queue, .int .i64 C.wear] 38)).alloc (.cells #[.int .i64 C.nodes, .int .i64 C.slots, .int .i64 C.pages, .int .i64 C.room, .int .i64 C.chunk, .int .i64 C.buffer, .int .i64 C.queue, .int .i64 C.wear] 38)).cells.2 1 _ rfl
      have ke22 := ((HC.out.alloc (.cells #[.int .i64 C.nodes, .int .i64 C.slots, .int .i64 C.pages, .int .i64 C.room, .int .i64 C.chunk, .int .i64 C.buffer, .int .i64 C.queue, .int .i64 C.wear] 38)).alloc (.cells #[.int .i64 C.nodes, .int .i64 C.slots, .int .i64 C.pages, .int .i64 C.room, .int .i64 C.chunk, .int .i64 C.buffer, .int .i64 C.queue, .int .i64 C.wear] 38)).cells.2 2 _ rfl
      have ke23 := ((HC.out.alloc (.cells #[.int .i64 C.nodes, .int .i64 C.slots, .int .i64 C.pages, .int .i64 C.room, .int .i64 C.chunk, .int .i64 C.buffer, .int .i64 C.queue, .int .i64 C.wear] 38)).alloc (.cells #[.int .i64 C.nodes, .int .i64 C.slots, .int .i64 C.pages, .int .i64 C.room, .int .i64 C.chunk, .int .i64 C.buffer, .int .i64 C.queue, .int .i64 C.wear] 38)).cells.2 3 _ rfl
      have ke24 := ((HC.out.alloc (.cells #[.int .i64 C.nodes, .int .i64 C.slots, .int .i64 C.pages, .int .i64 C.room, .int .i64 C.chunk, .int .i64 C.buffer, .int .i64 C.queue, .int .i64 C.wear] 38)).alloc (.cells #[.int .i64 C.nodes, .int .i64 C.slots, .int .i64 C.pages, .int .i64 C.room, .int .i64 C.chunk, .int .i64 C.buffer, .int .i64 C.queue, .int .i64 C.wear] 38)).cells.2 4 _ rfl
      have ke25 := ((HC.out.alloc (.cells #[.int .i64 C.nodes, .int .i64 C.slots, .int .i64 C.pages, .int .i64 C.room, .int .i64 C.chunk, .int .i64 C.buffer, .int .i64 C.queue, .int .i64 C.wear] 38)).alloc (.cells #[.int .i64 C.nodes, .int .i64 C.slots, .int .i64 C.pages, .int .i64 C.room, .int .i64 C.chunk, .int .i64 C.buffer, .int .i64 C.queue, .int .i64 C.wear] 38)).cells.2 5 _ rfl
      have ke26 := ((HC.out.alloc (.cells #[.int .i64 C.nodes, .int .i64 C.slots, .int .i64 C.pages, .int .i64 C.room, .int .i64 C.chunk, .int .i64 C.buffer, .int .i64 C.queue, .int .i64 C.wear] 38)).alloc (.cells #[.int .i64 C.nodes, .int .i64 C.slots, .int .i64 C.pages, .int .i64 C.room, .int .i64 C.chunk, .int .i64 C.buffer, .int .i64 C.queue, .int .i64 C.wear] 38)).cells.2 6 _ rfl
      have ke27 := ((HC.out.alloc (.cells #[.int .i64 C.nodes, .int .i64 C.slots, .int .i64 C.pages, .int .i64 C.room, .int .i64 C.chunk, .int .i64 C.buffer, .int .i64 C.queue, .int .i64 C.wear] 38)).alloc (.cells #[.int .i64 C.nodes, .int .i64 C.slots, .int .i64 C.pages, .int .i64 C.room, .int .i64 C.chunk, .int .i64 C.buffer, .int .i64 C.queue, .int .i64 C.wear] 38)).cells.2 7 _ rfl
      have ke30 := (((HC.out.alloc (.cells #[.int .i64 C.nodes, .int .i64 C.slots, .int .i64 C.pages, .int .i64 C.room, .int .i64 C.chunk, .int .i64 C.buffer, .int .i64 C.queue, .int .i64 C.wear] 38)).alloc (.cells #[.int .i64 C.nodes, .int .i64 C.slots, .int .i64 C.pages, .int .i64 C.room, .int .i64 C.chunk, .int .i64 C.buffer, .int .i64 C.queue, .int .i64 C.wear] 38)).alloc (.cells #[.int .i64 C.nodes, .int .i64 C.slots, .int .i64 C.pages, .int .i64 C.room, .int .i64 C.chunk, .int .i64 C.buffer, .int .i64 C.queue, .int .i64 C.wear] 38)).cells.2 0 _ rfl
      have ke31 := (((HC.out.alloc (.cells #[.int .i64 C.nodes, .int .i64 C.slots, .int .i64 C.pages, .int .i64 C.room, .int .i64 C.chunk, .int .i64 C.buffer, .int .i64 C.queue, .int .i64 C.wear] 38)).alloc (.cells #[.int .i64 C.nodes, .int .i64 C.slots, .int .i64 C.pages, .int .i64 C.room, .int .i64 C.chunk, .int .i64 C.buffer, .int .i64 C.queue, .int .i64 C.wear] 38)).alloc (.cells #[.int .i64 C.nodes, .int .i64 C.slots, .int .i64 C.pages, .int .i64 C.room, .int .i64 C.chunk, .int .i64 C.buffer, .int .i64 C.queue, .int .i64 C.wear] 38)).cells.2 1 _ rfl
      have ke32 := (((HC.out.alloc (.cells #[.int .i64 C.nodes, .int .i64 C.slots, .int .i64 C.pages, .int .i64 C.room, .int .i64 C.chunk, .int .i64 C.buffer, .int .i64 C.queue, .int .i64 C.wear] 38)).alloc (.cells #[.int .i64 C.nodes, .int .i64 C.slots, .int .i64 C.pages, .int .i64 C.room, .int .i64 C.chunk, .int .i64 C.buffer, .int .i64 C.queue, .int .i64 C.wear] 38)).alloc (.cells #[.int .i64 C.nodes, .int .i64 C.slots, .int .i64 C.pages, .int .i64 C.room, .int .i64 C.chunk, .int .i64 C.buffer, .int .i64 C.queue, .int .i64 C.wear] 38)).cells.2 2 _ rfl
      have ke33 := (((HC.out.alloc (.cells #[.int .i64 C.nodes, .int .i64 C.slots, .int .i64 C.pages, .int .i64 C.room, .int .i64 C.chunk, .int .i64 C.buffer, .int .i64 C.queue, .int .i64 C.wear] 38)).alloc (.cells #[.int .i64 C.nodes, .int .i64 C.slots, .int .i64 C.pages, .int .i64 C.room, .int .i64 C.chunk, .int .i64 C.buffer, .int .i64 C.queue, .int .i64 C.wear] 38)).alloc (.cells #[.int .i64 C.nodes, .int .i64 C.slots, .int .i64 C.pages, .int .i64 C.room, .int .i64 C.chunk, .int .i64 C.buffer, .int .i64 C.queue, .int .i64 C.wear] 38)).cells.2 3 _ rfl
      have ke34 := (((HC.out.alloc (.cells #[.int .i64 C.nodes, .int .i64 C.slots, .int .i64 C.pages, .int .i64 C.room, .int .i64 C.chunk, .int .i64 C.buffer, .int .i64 C.queue, .int .i64 C.wear] 38)).alloc (.cells #[.int .i64 C.nodes, .int .i64 C.slots, .int .i64 C.pages, .int .i64 C.room, .int .i64 C.chunk, .int .i64 C.buffer, .int .i64 C.queue, .int .i64 C.wear] 38)).alloc (.cells #[.int .i64 C.nodes, .int .i64 C.slots, .int .i64 C.pages, .int .i64 C.room, .int .i64 C.chunk, .int .i64 C.buffer, .int .i64 C.queue, .int .i64 C.wear] 38)).cells.2 4 _ rfl
      have ke35 := (((HC.out.alloc (.cells #[.int .i64 C.nodes, .int .i64 C.slots, .int .i64 C.pages, .int .i64 C.room, .int .i64 C.chunk, .int .i64 C.buffer, .int .i64 C.queue, .int .i64 C.wear] 38)).alloc (.cells #[.int .i64 C.nodes, .int .i64 C.slots, .int .i64 C.pages, .int .i64 C.room, .int .i64 C.chunk, .int .i64 C.buffer, .int .i64 C.queue, .int .i64 C.wear] 38)).alloc (.cells #[.int .i64 C.nodes, .int .i64 C.slots, .int .i64 C.pages, .int .i64 C.room, .int .i64 C.chunk, .int .i64 C.buffer, .int .i64 C.queue, .int .i64 C.wear] 38)).cells.2 5 _ rfl
      have ke36 := (((HC.out.alloc (.cells #[.int .i64 C.nodes, .int .i64 C.slots, .int .i64 C.pages, .int .i64 C.room, .int .i64 C.chunk, .int .i64 C.buffer, .int .i64 C.queue, .int .i64 C.wear] 38)).alloc (.cells #[.int .i64 C.nodes, .int .i64 C.slots, .int .i64 C.pages, .int .i64 C.room, .int .i64 C.chunk, .int .i64 C.buffer, .int .i64 C.queue, .int .i64 C.wear] 38)).alloc (.cells #[.int .i64 C.nodes, .int .i64 C.slots, .int .i64 C.pages, .int .i64 C.room, .int .i64 C.chunk, .int .i64 C.buffer, .int .i64 C.queue, .int .i64 C.wear] 38)).cells.2 6 _ rfl
      have ke37 := (((HC.out.alloc (.cells #[.int .i64 C.nodes, .int .i64 C.slots, .int .i64 C.pages, .int .i64 C.room, .int .i64 C.chunk, .int .i64 C.buffer, .int .i64 C.queue, .int .i64 C.wear] 38)).alloc (.cells #[.int .i64 C.nodes, .int .i64 C.slots, .int .i64 C.pages, .int .i64 C.room, .int .i64 C.chunk, .int .i64 C.buffer, .int .i64 C.queue, .int .i64 C.wear] 38)).alloc (.cells #[.int .i64 C.nodes, .int .i64 C.slots, .int .i64 C.pages, .int .i64 C.room, .int .i64 C.chunk, .int .i64 C.buffer, .int .i64 C.queue, .int .i64 C.wear] 38)).cells.2 7 _ rfl
      have HL := Kept.mk (Hold.new W2 38 [.int .i64 C.nodes, .int .i64 C.slots, .int .i64 C.pages, .int .i64 C.room, .int .i64 C.chunk, .int .i64 1, .int .i64 C.queue, .int .i64 C.wear] (W2.heap.size) (by first | rfl | simp))
      replace HL := Kept.mk (HL.out.alloc (.cells #[.int .i64 C.nodes, .int .i64 C.slots, .int .i64 C.pages, .int .i64 C.room, .int .i64 C.chunk, .int .i64 8, .int .i64 C.queue, .int .i64 C.wear] 38))
      replace HL := Kept.mk (HL.out.alloc (.cells #[.int .i64 C.nodes, .int .i64 C.slots, .int .i64 C.pages, .int .i64 C.room, .int .i64 C.chunk, .int .i64 0, .int .i64 C.queue, .int .i64 C.wear] 38))
      replace HL := Kept.mk (HL.out.alloc (.cells #[.int .i64 C.nodes, .int .i64 C.slots, .int .i64 C.pages, .int .i64 C.room, .int .i64 C.chunk, .int .i64 9, .int .i64 C.queue, .int .i64 C.wear] 38))
      have HH := Kept.mk (Hold.new (W2.alloc (.cells #[.int .i64 C.nodes, .int .i64 C.slots, .int .i64 C.pages, .int .i64 C.room, .int .i64 C.chunk, .int .i64 1, .int .i64 C.queue, .int .i64 C.wear] 38)) 38 [.int .i64 C.nodes, .int .i64 C.slots, .int .i64 C.pages, .int .i64 C.room, .int .i64 C.chunk, .int .i64 8, .int .i64 C.queue, .int .i64 C.wear] (W2.heap.size + 1) (by first | rfl | simp))
      replace HH := Kept.mk (HH.out.alloc (.cells #[.int .i64 C.nodes, .int .i64 C.slots, .int .i64 C.pages, .int .i64 C.room, .int .i64 C.chunk, .int .i64 0, .int .i64 C.queue, .int .i64 C.wear] 38))
      replace HH := Kept.mk (HH.out.alloc (.cells #[.int .i64 C.nodes, .int .i64 C.slots, .int .i64 C.pages, .int .i64 C.room, .int .i64 C.chunk, .int .i64 9, .int .i64 C.queue, .int .i64 C.wear] 38))
      have HO_ := Kept.mk (Hold.new ((W2.alloc (.cells #[.int .i64 C.nodes, .int .i64 C.slots, .int .i64 C.pages, .int .i64 C.room, .int .i64 C.chunk, .int .i64 1, .int .i64 C.queue, .int .i64 C.wear] 38)).alloc (.cells #[.int .i64 C.nodes, .int .i64 C.slots, .int .i64 C.pages, .int .i64 C.room, .int .i64 C.chunk, .int .i64 8, .int .i64 C.queue, .int .i64 C.wear] 38)) 38 [.int .i64 C.nodes, .int .i64 C.slots, .int .i64 C.pages, .int .i64 C.room, .int .i64 C.chunk, .int .i64 0, .int .i64 C.queue, .int .i64 C.wear] (W2.heap.size + 1 + 1) (by first | rfl | simp))
      replace HO_ := Kept.mk (HO_.out.alloc (.cells #[.int .i64 C.nodes, .int .i64 C.slots, .int .i64 C.pages, .int .i64 C.room, .int .i64 C.chunk, .int .i64 9, .int .i64 C.queue, .int .i64 C.wear] 38))
      have HF := Kept.mk (Hold.new (((W2.alloc (.cells #[.int .i64 C.nodes, .int .i64 C.slots, .int .i64 C.pages, .int .i64 C.room, .int .i64 C.chunk, .int .i64 1, .int .i64 C.queue, .int .i64 C.wear] 38)).alloc (.cells #[.int .i64 C.nodes, .int .i64 C.slots, .int .i64 C.pages, .int .i64 C.room, .int .i64 C.chunk, .int .i64 8, .int .i64 C.queue, .int .i64 C.wear] 38)).alloc (.cells #[.int .i64 C.nodes, .int .i64 C.slots, .int .i64 C.pages, .int .i64 C.room, .int .i64 C.chunk, .int .i64 0, .int .i64 C.queue, .int .i64 C.wear] 38)) 38 [.int .i64 C.nodes, .int .i64 C.slots, .int .i64 C.pages, .int .i64 C.room, .int .i64 C.chunk, .int .i64 9, .int .i64 C.queue, .int .i64 C.wear] (W2.heap.size + 1 + 1 + 1) (by first | rfl | simp))
      have hbn : Below W2.heap.size W2 ((((W2.alloc (.cells #[.int .i64 C.nodes, .int .i64 C.slots, .int .i64 C.pages, .int .i64 C.room, .int .i64 C.chunk, .int .i64 1, .int .i64 C.queue, .int .i64 C.wear] 38)).alloc (.cells #[.int .i64 C.nodes, .int .i64 C.slots, .int .i64 C.pages, .int .i64 C.room, .int .i64 C.chunk, .int .i64 8, .int .i64 C.queue, .int .i64 C.wear] 38)).alloc (.cells #[.int .i64 C.nodes, .int .i64 C.slots, .int .i64 C.pages, .int .i64 C.room, .int .i64 C.chunk, .int .i64 0, .int .i64 C.queue, .int .i64 C.wear] 38)).alloc (.cells #[.int .i64 C.nodes, .int .i64 C.slots, .int .i64 C.pages, .int .i64 C.room, .int .i64 C.chunk, .int .i64 9, .int .i64 C.queue, .int .i64 C.wear] 38)) := ((((Below.refl _ _).alloc (Nat.le_refl _) _).alloc (by simp) _).alloc (by simp; omega) _).alloc (by simp; omega) _
      have HBN := Kept.mk hbn
      clear hbn
      have hg0 := HC.out.lt
      have HW2 := Kept.mk hB.out.size
      go_wp2_with fail
      clear ke00 ke01 ke02 ke03 ke04 ke05 ke06 ke07 ke10 ke11 ke12 ke13 ke14 ke15 ke16 ke17 ke20 ke21 ke22 ke23 ke24 ke25 ke26 ke27 ke30 ke31 ke32 ke33 ke34 ke35 ke36 ke37
      replace hB := Kept.mk (hB.out.trans (HBN.out.mono hB.out.size))
      replace HC := Kept.mk (HC.out.keep HBN.out)
      generalize ((((W2.alloc (.cells #[.int .i64 C.nodes, .int .i64 C.slots, .int .i64 C.pages, .int .i64 C.room, .int .i64 C.chunk, .int .i64 1, .int .i64 C.queue, .int .i64 C.wear] 38)).alloc (.cells #[.int .i64 C.nodes, .int .i64 C.slots, .int .i64 C.pages, .int .i64 C.room, .int .i64 C.chunk, .int .i64 8, .int .i64 C.queue, .int .i64 C.wear] 38)).alloc (.cells #[.int .i64 C.nodes, .int .i64 C.slots, .int .i64 C.pages, .int .i64 C.room, .int .i64 C.chunk, .int .i64 0, .int .i64 C.queue, .int .i64 C.wear] 38)).alloc (.cells #[.int .i64 C.nodes, .int .i64 C.slots, .int .i64 C.pages, .int .i64 C.room, .int .i64 C.chunk, .int .i64 9, .int .i64 C.queue, .int .i64 C.wear] 38)) = W3 at *
      refine (gc_check (⟨C.nodes, C.slots, C.pages, C.room, C.chunk, 1, C.queue, C.wear⟩ : Cf) 0 _ (chkC_yes (okC_spec.2 ⟨HO2.out.nodes, HO2.out.slots, HO2.out.pages, HO2.out.room, HO2.out.chunk, ⟨show (1 : Int) ≤ 1 by decide, show (1 : Int) ≤ 8 by decide⟩, HO2.out.queue, HO2.out.wear⟩))).mono ?_
      rintro e V0 ⟨rfl, hb⟩
      replace hB := Kept.mk (hB.out.trans (hb.mono hB.out.size))
      replace HL := Kept.mk (HL.out.keep hb)
      replace HH := Kept.mk (HH.out.keep hb)
      replace HO_ := Kept.mk (HO_.out.keep hb)
      replace HF := Kept.mk (HF.out.keep hb)
      clear hb
      have kk00 := HL.out.cells.2 0 _ rfl
      have kk01 := HL.out.cells.2 1 _ rfl
      have kk02 := HL.out.cells.2 2 _ rfl
      have kk03 := HL.out.cells.2 3 _ rfl
      have kk04 := HL.out.cells.2 4 _ rfl
      have kk05 := HL.out.cells.2 5 _ rfl
      have kk06 := HL.out.cells.2 6 _ rfl
      have kk07 := HL.out.cells.2 7 _ rfl
      have kk10 := HH.out.cells.2 0 _ rfl
      have kk11 := HH.out.cells.2 1 _ rfl
      have kk12 := HH.out.cells.2 2 _ rfl
      have kk13 := HH.out.cells.2 3 _ rfl
      have kk14 := HH.out.cells.2 4 _ rfl
      have kk15 := HH.out.cells.2 5 _ rfl
      have kk16 := HH.out.cells.2 6 _ rfl
      have kk17 := HH.out.cells.2 7 _ rfl
      have kk20 := HO_.out.cells.2 0 _ rfl
      have kk21 := HO_.out.cells.2 1 _ rfl
      have kk22 := HO_.out.cells.2 2 _ rfl
      have kk23 := HO_.out.cells.2 3 _ rfl
      have kk24 := HO_.out.cells.2 4 _ rfl
      have kk25 := HO_.out.cells.2 5 _ rfl
      have kk26 := HO_.out.cells.2 6 _ rfl
      have kk27 := HO_.out.cells.2 7 _ rfl
      have kk30 := HF.out.cells.2 0 _ rfl
      have kk31 := HF.out.cells.2 1 _ rfl
      have kk32 := HF.out.cells.2 2 _ rfl
      have kk33 := HF.out.cells.2 3 _ rfl
      have kk34 := HF.out.cells.2 4 _ rfl
      have kk35 := HF.out.cells.2 5 _ rfl
      have kk36 := HF.out.cells.2 6 _ rfl
      have kk37 := HF.out.cells.2 7 _ rfl
      go_wp2_with fail
      clear kk00 kk01 kk02 kk03 kk04 kk05 kk06 kk07 kk10 kk11 kk12 kk13 kk14 kk15 kk16 kk17 kk20 kk21 kk22 kk23 kk24 kk25 kk26 kk27 kk30 kk31 kk32 kk33 kk34 kk35 kk36 kk37
      refine (gc_check (⟨C.nodes, C.slots, C.pages, C.room, C.chunk, 8, C.queue, C.wear⟩ : Cf) 0 _ (chkC_yes (okC_spec.2 ⟨HO2.out.nodes, HO2.out.slots, HO2.out.pages, HO2.out.room, HO2.out.chunk, ⟨show (1 : Int) ≤ 8 by decide, show (8 : Int) ≤ 8 by decide⟩, HO2.out.queue, HO2.out.wear⟩))).mono ?_
      rintro e V1 ⟨rfl, hb⟩
      replace hB := Kept.mk (hB.out.trans (hb.mono hB.out.size))
      replace HL := Kept.mk (HL.out.keep hb)
      replace HH := Kept.mk (HH.out.keep hb)
      replace HO_ := Kept.mk (HO_.out.keep hb)
      replace HF := Kept.mk (HF.out.keep hb)
      clear hb
      have kk00 := HL.out.cells.2 0 _ rfl
      have kk01 := HL.out.cells.2 1 _ rfl
      have kk02 := HL.out.cells.2 2 _ rfl
      have kk03 := HL.out.cells.2 3 _ rfl
      have kk04 := HL.out.cells.2 4 _ rfl
      have kk05 := HL.out.cells.2 5 _ rfl
      have kk06 := HL.out.cells.2 6 _ rfl
      have kk07 := HL.out.cells.2 7 _ rfl
      have kk10 := HH.out.cells.2 0 _ rfl
      have kk11 := HH.out.cells.2 1 _ rfl
      have kk12 := HH.out.cells.2 2 _ rfl
      have kk13 := HH.out.cells.2 3 _ rfl
      have kk14 := HH.out.cells.2 4 _ rfl
      have kk15 := HH.out.cells.2 5 _ rfl
      have kk16 := HH.out.cells.2 6 _ rfl
      have kk17 := HH.out.cells.2 7 _ rfl
      have kk20 := HO_.out.cells.2 0 _ rfl
      have kk21 := HO_.out.cells.2 1 _ rfl
      have kk22 := HO_.out.cells.2 2 _ rfl
      have kk23 := HO_.out.cells.2 3 _ rfl
      have kk24 := HO_.out.cells.2 4 _ rfl
      have kk25 := HO_.out.cells.2 5 _ rfl
      have kk26 := HO_.out.cells.2 6 _ rfl
      have kk27 := HO_.out.cells.2 7 _ rfl
      have kk30 := HF.out.cells.2 0 _ rfl
      have kk31 := HF.out.cells.2 1 _ rfl
      have kk32 := HF.out.cells.2 2 _ rfl
      have kk33 := HF.out.cells.2 3 _ rfl
      have kk34 := HF.out.cells.2 4 _ rfl
      have kk35 := HF.out.cells.2 5 _ rfl
      have kk36 := HF.out.cells.2 6 _ rfl
      have kk37 := HF.out.cells.2 7 _ rfl
      go_wp2_with fail
      clear kk00 kk01 kk02 kk03 kk04 kk05 kk06 kk07 kk10 kk11 kk12 kk13 kk14 kk15 kk16 kk17 kk20 kk21 kk22 kk23 kk24 kk25 kk26 kk27 kk30 kk31 kk32 kk33 kk34 kk35 kk36 kk37
      refine (gc_check (⟨C.nodes, C.slots, C.pages, C.room, C.chunk, 0, C.queue, C.wear⟩ : Cf) 1 _ (chkC_no (okC_false (k := 5) (by decide) (by show inC 0 1 8 = false; decide)))).mono ?_
      rintro e V2 ⟨rfl, hb⟩
      replace hB := Kept.mk (hB.out.trans (hb.mono hB.out.size))
      replace HL := Kept.mk (HL.out.keep hb)
      replace HH := Kept.mk (HH.out.keep hb)
      replace HO_ := Kept.mk (HO_.out.keep hb)
      replace HF := Kept.mk (HF.out.keep hb)
      clear hb
      have kk00 := HL.out.cells.2 0 _ rfl
      have kk01 := HL.out.cells.2 1 _ rfl
      have kk02 := HL.out.cells.2 2 _ rfl
      have kk03 := HL.out.cells.2 3 _ rfl
      have kk04 := HL.out.cells.2 4 _ rfl
      have kk05 := HL.out.cells.2 5 _ rfl
      have kk06 := HL.out.cells.2 6 _ rfl
      have kk07 := HL.out.cells.2 7 _ rfl
      have kk10 := HH.out.cells.2 0 _ rfl
      have kk11 := HH.out.cells.2 1 _ rfl
      have kk12 := HH.out.cells.2 2 _ rfl
      have kk13 := HH.out.cells.2 3 _ rfl
      have kk14 := HH.out.cells.2 4 _ rfl
      have kk15 := HH.out.cells.2 5 _ rfl
      have kk16 := HH.out.cells.2 6 _ rfl
      have kk17 := HH.out.cells.2 7 _ rfl
      have kk20 := HO_.out.cells.2 0 _ rfl
      have kk21 := HO_.out.cells.2 1 _ rfl
      have kk22 := HO_.out.cells.2 2 _ rfl
      have kk23 := HO_.out.cells.2 3 _ rfl
      have kk24 := HO_.out.cells.2 4 _ rfl
      have kk25 := HO_.out.cells.2 5 _ rfl
      have kk26 := HO_.out.cells.2 6 _ rfl
      have kk27 := HO_.out.cells.2 7 _ rfl
      have kk30 := HF.out.cells.2 0 _ rfl
      have kk31 := HF.out.cells.2 1 _ rfl
      have kk32 := HF.out.cells.2 2 _ rfl
      have kk33 := HF.out.cells.2 3 _ rfl
      have kk34 := HF.out.cells.2 4 _ rfl
      have kk35 := HF.out.cells.2 5 _ rfl
      have kk36 := HF.out.cells.2 6 _ rfl
      have kk37 := HF.out.cells.2 7 _ rfl
      go_wp2_with fail
      clear kk00 kk01 kk02 kk03 kk04 kk05 kk06 kk07 kk10 kk11 kk12 kk13 kk14 kk15 kk16 kk17 kk20 kk21 kk22 kk23 kk24 kk25 kk26 kk27 kk30 kk31 kk32 kk33 kk34 kk35 kk36 kk37
      refine (gc_check (⟨C.nodes, C.slots, C.pages, C.room, C.chunk, 9, C.queue, C.wear⟩ : Cf) 1 _ (chkC_no (okC_false (k := 5) (by decide) (by show inC 9 1 8 = false; decide)))).mono ?_
      rintro e V3 ⟨rfl, hb⟩
      replace hB := Kept.mk (hB.out.trans (hb.mono hB.out.size))
      replace HL := Kept.mk (HL.out.keep hb)
      replace HH := Kept.mk (HH.out.keep hb)
      replace HO_ := Kept.mk (HO_.out.keep hb)
      replace HF := Kept.mk (HF.out.keep hb)
      clear hb
      go_wp2
      go_ret
      exact ⟨rfl, hB.out⟩
    · subst hmc
      have ke00 := HC.out.cells.2 0 _ rfl
      have ke01 := HC.out.cells.2 1 _ rfl
      have ke02 := HC.out.cells.2 2 _ rfl
      have ke03 := HC.out.cells.2 3 _ rfl
      have ke04 := HC.out.cells.2 4 _ rfl
      have ke05 := HC.out.cells.2 5 _ rfl
      have ke06 := HC.out.cells.2 6 _ rfl
      have ke07 := HC.out.cells.2 7 _ rfl
      have ke10 := (HC.out.alloc (.cells #[.int .i64 C.nodes, .int .i64 C.slots, .int .i64 C.pages, .int .i64 C.room, .int .i64 C.chunk, .int .i64 C.buffer, .int .i64 C.queue, .int .i64 C.wear] 38)).cells.2 0 _ rfl
      have ke11 := (HC.out.alloc (.cells #[.int .i64 C.nodes, .int .i64 C.slots, .int .i64 C.pages, .int .i64 C.room, .int .i64 C.chunk, .int .i64 C.buffer, .int .i64 C.queue, .int .i64 C.wear] 38)).cells.2 1 _ rfl
      have ke12 := (HC.out.alloc (.cells #[.int .i64 C.nodes, .int .i64 C.slots, .int .i64 C.pages, .int .i64 C.room, .int .i64 C.chunk, .int .i64 C.buffer, .int .i64 C.queue, .int .i64 C.wear] 38)).cells.2 2 _ rfl
      have ke13 := (HC.out.alloc (.cells #[.int .i64 C.nodes, .int .i64 C.slots, .int .i64 C.pages, .int .i64 C.room, .int .i64 C.chunk, .int .i64 C.buffer, .int .i64 C.queue, .int .i64 C.wear] 38)).cells.2 3 _ rfl
      have ke14 := (HC.out.alloc (.cells #[.int .i64 C.nodes, .int .i64 C.slots, .int .i64 C.pages, .int .i64 C.room, .int .i64 C.chunk, .int .i64 C.buffer, .int .i64 C.queue, .int .i64 C.wear] 38)).cells.2 4 _ rfl
      have ke15 := (HC.out.alloc (.cells #[.int .i64 C.nodes, .int .i64 C.slots, .int .i64 C.pages, .int .i64 C.room, .int .i64 C.chunk, .int .i64 C.buffer, .int .i64 C.queue, .int .i64 C.wear] 38)).cells.2 5 _ rfl
      have ke16 := (HC.out.alloc (.cells #[.int .i64 C.nodes, .int .i64 C.slots, .int .i64 C.pages, .int .i64 C.room, .int .i64 C.chunk, .int .i64 C.buffer, .int .i64 C.queue, .int .i64 C.wear] 38)).cells.2 6 _ rfl
      have ke17 := (HC.out.alloc (.cells #[.int .i64 C.nodes, .int .i64 C.slots, .int .i64 C.pages, .int .i64 C.room, .int .i64 C.chunk, .int .i64 C.buffer, .int .i64 C.queue, .int .i64 C.wear] 38)).cells.2 7 _ rfl
      have ke20 := ((HC.out.alloc (.cells #[.int .i64 C.nodes, .int .i64 C.slots, .int .i64 C.pages, .int .i64 C.room, .int .i64 C.chunk, .int .i64 C.buffer, .int .i64 C.queue, .int .i64 C.wear] 38)).alloc (.cells #[.int .i64 C.nodes, .int .i64 C.slots, .int .i64 C.pages, .int .i64 C.room, .int .i64 C.chunk, .int .i64 C.buffer, .int .i64 C.queue, .int .i64 C.wear] 38)).cells.2 0 _ rfl
      have ke21 := ((HC.out.alloc (.cells #[.int .i64 C.nodes, .int .i64 C.slots, .int .i64 C.pages, .int .i64 C.room, .int .i64 C.chunk, .int .i64 C.buffer, .int .i64 C.queue, .int .i64 C.wear] 38)).alloc (.cells #[.int .i64 C.nodes, .int .i64 C.slots, .int .i64 C.pages, .int .i64 C.room, .int .i64 C.chunk, .int .i64 C.buffer, .int .i64 C.queue, .int .i64 C.wear] 38)).cells.2 1 _ rfl
      have ke22 := ((HC.out.alloc (.cells #[.int .i64 C.nodes, .int .i64 C.slots, .int .i64 C.pages, .int .i64 C.room, .int .i64 C.chunk, .int .i64 C.buffer, .int .i64 C.queue, .int .i64 C.wear] 38)).alloc (.cells #[.int .i64 C.nodes, .int .i64 C.slots, .int .i64 C.pages, .int .i64 C.room, .int .i64 C.chunk, .int .i64 C.buffer, .int .i64 C.queue, .int .i64 C.wear] 38)).cells.2 2 _ rfl
      have ke23 := ((HC.out.alloc (.cells #[.int .i64 C.nodes, .int .i64 C.slots, .int .i64 C.pages, .int .i64 C.room, .int .i64 C.chunk, .int .i64 C.buffer, .int .i64 C.queue, .int .i64 C.wear] 38)).alloc (.cells #[.int .i64 C.nodes, .int .i64 C.slots, .int .i64 C.pages, .int .i64 C.room, .int .i64 C.chunk, .int .i64 C.buffer, .int .i64 C.queue, .int .i64 C.wear] 38)).cells.2 3 _ rfl
      have ke24 := ((HC.out.alloc (.cells #[.int .i64 C.nodes, .int .i64 C.slots, .int .i64 C.pages, .int .i64 C.room, .int .i64 C.chunk, .int .i64 C.buffer, .int .i64 C.queue, .int .i64 C.wear] 38)).alloc (.cells #[.int .i64 C.nodes, .int .i64 C.slots, .int .i64 C.pages, .int .i64 C.room, .int .i64 C.chunk, .int .i64 C.buffer, .int .i64 C.queue, .int .i64 C.wear] 38)).cells.2 4 _ rfl
      have ke25 := ((HC.out.alloc (.cells #[.int .i64 C.nodes, .int .i64 C.slots, .int .i64 C.pages, .int .i64 C.room, .int .i64 C.chunk, .int .i64 C.buffer, .int .i64 C.queue, .int .i64 C.wear] 38)).alloc (.cells #[.int .i64 C.nodes, .int .i64 C.slots, .int .i64 C.pages, .int .i64 C.room, .int .i64 C.chunk, .int .i64 C.buffer, .int .i64 C.queue, .int .i64 C.wear] 38)).cells.2 5 _ rfl
      have ke26 := ((HC.out.alloc (.cells #[.int .i64 C.nodes, .int .i64 C.slots, .int .i64 C.pages, .int .i64 C.room, .int .i64 C.chunk, .int .i64 C.buffer, .int .i64 C.queue, .int .i64 C.wear] 38)).alloc (.cells #[.int .i64 C.nodes, .int .i64 C.slots, .int .i64 C.pages, .int .i64 C.room, .int .i64 C.chunk, .int .i64 C.buffer, .int .i64 C.queue, .int .i64 C.wear] 38)).cells.2 6 _ rfl
      have ke27 := ((HC.out.alloc (.cells #[.int .i64 C.nodes, .int .i64 C.slots, .int .i64 C.pages, .int .i64 C.room, .int .i64 C.chunk, .int .i64 C.buffer, .int .i64 C.queue, .int .i64 C.wear] 38)).alloc (.cells #[.int .i64 C.nodes, .int .i64 C.slots, .int .i64 C.pages, .int .i64 C.room, .int .i64 C.chunk, .int .i64 C.buffer, .int .i64 C.queue, .int .i64 C.wear] 38)).cells.2 7 _ rfl
      have ke30 := (((HC.out.alloc (.cells #[.int .i64 C.nodes, .int .i64 C.slots, .int .i64 C.pages, .int .i64 C.room, .int .i64 C.chunk, .int .i64 C.buffer, .int .i64 C.queue, .int .i64 C.wear] 38)).alloc (.cells #[.int .i64 C.nodes, .int .i64 C.slots, .int .i64 C.pages, .int .i64 C.room, .int .i64 C.chunk, .int .i64 C.buffer, .int .i64 C.queue, .int .i64 C.wear] 38)).alloc (.cells #[.int .i64 C.nodes, .int .i64 C.slots, .int .i64 C.pages, .int .i64 C.room, .int .i64 C.chunk, .int .i64 C.buffer, .int .i64 C.queue, .int .i64 C.wear] 38)).cells.2 0 _ rfl
      have ke31 := (((HC.out.alloc (.cells #[.int .i64 C.nodes, .int .i64 C.slots, .int .i64 C.pages, .int .i64 C.room, .int .i64 C.chunk, .int .i64 C.buffer, .int .i64 C.queue, .int .i64 C.wear] 38)).alloc (.cells #[.int .i64 C.nodes, .int .i64 C.slots, .int .i64 C.pages, .int .i64 C.room, .int .i64 C.chunk, .int .i64 C.buffer, .int .i64 C.queue, .int .i64 C.wear] 38)).alloc (.cells #[.int .i64 C.nodes, .int .i64 C.slots, .int .i64 C.pages, .int .i64 C.room, .int .i64 C.chunk, .int .i64 C.buffer, .int .i64 C.queue, .int .i64 C.wear] 38)).cells.2 1 _ rfl
      have ke32 := (((HC.out.alloc (.cells #[.int .i64 C.nodes, .int .i64 C.slots, .int .i64 C.pages, .int .i64 C.room, .int .i64 C.chunk, .int .i64 C.buffer, .int .i64 C.queue, .int .i64 C.wear] 38)).alloc (.cells #[.int .i64 C.nodes, .int .i64 C.slots, .int .i64 C.pages, .int .i64 C.room, .int .i64 C.chunk, .int .i64 C.buffer, .int .i64 C.queue, .int .i64 C.wear] 38)).alloc (.cells #[.int .i64 C.nodes, .int .i64 C.slots, .int .i64 C.pages, .int .i64 C.room, .int .i64 C.chunk, .int .i64 C.buffer, .int .i64 C.queue, .int .i64 C.wear] 38)).cells.2 2 _ rfl
      have ke33 := (((HC.out.alloc (.cells #[.int .i64 C.nodes, .int .i64 C.slots, .int .i64 C.pages, .int .i64 C.room, .int .i64 C.chunk, .int .i64 C.buffer, .int .i64 C.queue, .int .i64 C.wear] 38)).alloc (.cells #[.int .i64 C.nodes, .int .i64 C.slots, .int .i64 C.pages, .int .i64 C.room, .int .i64 C.chunk, .int .i64 C.buffer, .int .i64 C.queue, .int .i64 C.wear] 38)).alloc (.cells #[.int .i64 C.nodes, .int .i64 C.slots, .int .i64 C.pages, .int .i64 C.room, .int .i64 C.chunk, .int .i64 C.buffer, .int .i64 C.queue, .int .i64 C.wear] 38)).cells.2 3 _ rfl
      have ke34 := (((HC.out.alloc (.cells #[.int .i64 C.nodes, .int .i64 C.slots, .int .i64 C.pages, .int .i64 C.room, .int .i64 C.chunk, .int .i64 C.buffer, .int .i64 C.queue, .int .i64 C.wear] 38)).alloc (.cells #[.int .i64 C.nodes, .int .i64 C.slots, .int .i64 C.pages, .int .i64 C.room, .int .i64 C.chunk, .int .i64 C.buffer, .int .i64 C.queue, .int .i64 C.wear] 38)).alloc (.cells #[.int .i64 C.nodes, .int .i64 C.slots, .int .i64 C.pages, .int .i64 C.room, .int .i64 C.chunk, .int .i64 C.buffer, .int .i64 C.queue, .int .i64 C.wear] 38)).cells.2 4 _ rfl
      have ke35 := (((HC.out.alloc (.cells #[.int .i64 C.nodes, .int .i64 C.slots, .int .i64 C.pages, .int .i64 C.room, .int .i64 C.chunk, .int .i64 C.buffer, .int .i64 C.queue, .int .i64 C.wear] 38)).alloc (.cells #[.int .i64 C.nodes, .int .i64 C.slots, .int .i64 C.pages, .int .i64 C.room, .int .i64 C.chunk, .int .i64 C.buffer, .int .i64 C.queue, .int .i64 C.wear] 38)).alloc (.cells #[.int .i64 C.nodes, .int .i64 C.slots, .int .i64 C.pages, .int .i64 C.room, .int .i64 C.chunk, .int .i64 C.buffer, .int .i64 C.queue, .int .i64 C.wear] 38)).cells.2 5 _ rfl
      have ke36 := (((HC.out.alloc (.cells #[.int .i64 C.nodes, .int .i64 C.slots, .int .i64 C.pages, .int .i64 C.room, .int .i64 C.chunk, .int .i64 C.buffer, .int .i64 C.queue, .int .i64 C.wear] 38)).alloc (.cells #[.int .i64 C.nodes, .int .i64 C.slots, .int .i64 C.pages, .int .i64 C.room, .int .i64 C.chunk, .int .i64 C.buffer, .int .i64 C.queue, .int .i64 C.wear] 38)).alloc (.cells #[.int .i64 C.nodes, .int .i64 C.slots, .int .i64 C.pages, .int .i64 C.room, .int .i64 C.chunk, .int .i64 C.buffer, .int .i64 C.queue, .int .i64 C.wear] 38)).cells.2 6 _ rfl
      have ke37 := (((HC.out.alloc (.cells #[.int .i64 C.nodes, .int .i64 C.slots, .int .i64 C.pages, .int .i64 C.room, .int .i64 C.chunk, .int .i64 C.buffer, .int .i64 C.queue, .int .i64 C.wear] 38)).alloc (.cells #[.int .i64 C.nodes, .int .i64 C.slots, .int .i64 C.pages, .int .i64 C.room, .int .i64 C.chunk, .int .i64 C.buffer, .int .i64 C.queue, .int .i64 C.wear] 38)).alloc (.cells #[.int .i64 C.nodes, .int .i64 C.slots, .int .i64 C.pages, .int .i64 C.room, .int .i64 C.chunk, .int .i64 C.buffer, .int .i64 C.queue, .int .i64 C.wear] 38)).cells.2 7 _ rfl
      have HL := Kept.mk (Hold.new W2 38 [.int .i64 C.nodes, .int .i64 C.slots, .int .i64 C.pages, .int .i64 C.room, .int .i64 C.chunk, .int .i64 C.buffer, .int .i64 2, .int .i64 C.wear] (W2.heap.size) (by first | rfl | simp))
      replace HL := Kept.mk (HL.out.alloc (.cells #[.int .i64 C.nodes, .int .i64 C.slots, .int .i64 C.pages, .int .i64 C.room, .int .i64 C.chunk, .int .i64 C.buffer, .int .i64 8, .int .i64 C.wear] 38))
      replace HL := Kept.mk (HL.out.alloc (.cells #[.int .i64 C.nodes, .int .i64 C.slots, .int .i64 C.pages, .int .i64 C.room, .int .i64 C.chunk, .int .i64 C.buffer, .int .i64 1, .int .i64 C.wear] 38))
      replace HL := Kept.mk (HL.out.alloc (.cells #[.int .i64 C.nodes, .int .i64 C.slots, .int .i64 C.pages, .int .i64 C.room, .int .i64 C.chunk, .int .i64 C.buffer, .int .i64 9, .int .i64 C.wear] 38))
      have HH := Kept.mk (Hold.new (W2.alloc (.cells #[.int .i64 C.nodes, .int .i64 C.slots, .int .i64 C.pages, .int .i64 C.room, .int .i64 C.chunk, .int .i64 C.buffer, .int .i64 2, .int .i64 C.wear] 38)) 38 [.int .i64 C.nodes, .int .i64 C.slots, .int .i64 C.pages, .int .i64 C.room, .int .i64 C.chunk, .int .i64 C.buffer, .int .i64 8, .int .i64 C.wear] (W2.heap.size + 1) (by first | rfl | simp))
      replace HH := Kept.mk (HH.out.alloc (.cells #[.int .i64 C.nodes, .int .i64 C.slots, .int .i64 C.pages, .int .i64 C.room, .int .i64 C.chunk, .int .i64 C.buffer, .int .i64 1, .int .i64 C.wear] 38))
      replace HH := Kept.mk (HH.out.alloc (.cells #[.int .i64 C.nodes, .int .i64 C.slots, .int .i64 C.pages, .int .i64 C.room, .int .i64 C.chunk, .int .i64 C.buffer, .int .i64 9, .int .i64 C.wear] 38))
      have HO_ := Kept.mk (Hold.new ((W2.alloc (.cells #[.int .i64 C.nodes, .int .i64 C.slots, .int .i64 C.pages, .int .i64 C.room, .int .i64 C.chunk, .int .i64 C.buffer, .int .i64 2, .int .i64 C.wear] 38)).alloc (.cells #[.int .i64 C.nodes, .int .i64 C.slots, .int .i64 C.pages, .int .i64 C.room, .int .i64 C.chunk, .int .i64 C.buffer, .int .i64 8, .int .i64 C.wear] 38)) 38 [.int .i64 C.nodes, .int .i64 C.slots, .int .i64 C.pages, .int .i64 C.room, .int .i64 C.chunk, .int .i64 C.buffer, .int .i64 1, .int .i64 C.wear] (W2.heap.size + 1 + 1) (by first | rfl | simp))
      replace HO_ := Kept.mk (HO_.out.alloc (.cells #[.int .i64 C.nodes, .int .i64 C.slots, .int .i64 C.pages, .int .i64 C.room, .int .i64 C.chunk, .int .i64 C.buffer, .int .i64 9, .int .i64 C.wear] 38))
      have HF := Kept.mk (Hold.new (((W2.alloc (.cells #[.int .i64 C.nodes, .int .i64 C.slots, .int .i64 C.pages, .int .i64 C.room, .int .i64 C.chunk, .int .i64 C.buffer, .int .i64 2, .int .i64 C.wear] 38)).alloc (.cells #[.int .i64 C.nodes, .int .i64 C.slots, .int .i64 C.pages, .int .i64 C.room, .int .i64 C.chunk, .int .i64 C.buffer, .int .i64 8, .int .i64 C.wear] 38)).alloc (.cells #[.int .i64 C.nodes, .int .i64 C.slots, .int .i64 C.pages, .int .i64 C.room, .int .i64 C.chunk, .int .i64 C.buffer, .int .i64 1, .int .i64 C.wear] 38)) 38 [.int .i64 C.nodes, .int .i64 C.slots, .int .i64 C.pages, .int .i64 C.room, .int .i64 C.chunk, .int .i64 C.buffer, .int .i64 9, .int .i64 C.wear] (W2.heap.size + 1 + 1 + 1) (by first | rfl | simp))
      have hbn : Below W2.heap.size W2 ((((W2.alloc (.cells #[.int .i64 C.nodes, .int .i64 C.slots, .int .i64 C.pages, .int .i64 C.room, .int .i64 C.chunk, .int .i64 C.buffer, .int .i64 2, .int .i64 C.wear] 38)).alloc (.cells #[.int .i64 C.nodes, .int .i64 C.slots, .int .i64 C.pages, .int .i64 C.room, .int .i64 C.chunk, .int .i64 C.buffer, .int .i64 8, .int .i64 C.wear] 38)).alloc (.cells #[.int .i64 C.nodes, .int .i64 C.slots, .int .i64 C.pages, .int .i64 C.room, .int .i64 C.chunk, .int .i64 C.buffer, .int .i64 1, .int .i64 C.wear] 38)).alloc (.cells #[.int .i64 C.nodes, .int .i64 C.slots, .int .i64 C.pages, .int .i64 C.room, .int .i64 C.chunk, .int .i64 C.buffer, .int .i64 9, .int .i64 C.wear] 38)) := ((((Below.refl _ _).alloc (Nat.le_refl _) _).alloc (by simp) _).alloc (by simp; omega) _).alloc (by simp; omega) _
      have HBN := Kept.mk hbn
      clear hbn
      have hg0 := HC.out.lt
      have HW2 := Kept.mk hB.out.size
      go_wp2_with fail
      clear ke00 ke01 ke02 ke03 ke04 ke05 ke06 ke07 ke10 ke11 ke12 ke13 ke14 ke15 ke16 ke17 ke20 ke21 ke22 ke23 ke24 ke25 ke26 ke27 ke30 ke31 ke32 ke33 ke34 ke35 ke36 ke37
      replace hB := Kept.mk (hB.out.trans (HBN.out.mono hB.out.size))
      replace HC := Kept.mk (HC.out.keep HBN.out)
      generalize ((((W2.alloc (.cells #[.int .i64 C.nodes, .int .i64 C.slots, .int .i64 C.pages, .int .i64 C.room, .int .i64 C.chunk, .int .i64 C.buffer, .int .i64 2, .int .i64 C.wear] 38)).alloc (.cells #[.int .i64 C.nodes, .int .i64 C.slots, .int .i64 C.pages, .int .i64 C.room, .int .i64 C.chunk, .int .i64 C.buffer, .int .i64 8, .int .i64 C.wear] 38)).alloc (.cells #[.int .i64 C.nodes, .int .i64 C.slots, .int .i64 C.pages, .int .i64 C.room, .int .i64 C.chunk, .int .i64 C.buffer, .int .i64 1, .int .i64 C.wear] 38)).alloc (.cells #[.int .i64 C.nodes, .int .i64 C.slots, .int .i64 C.pages, .int .i64 C.room, .int .i64 C.chunk, .int .i64 C.buffer, .int .i64 9, .int .i64 C.wear] 38)) = W3 at *
      refine (gc_check (⟨C.nodes, C.slots, C.pages, C.room, C.chunk, C.buffer, 2, C.wear⟩ : Cf) 0 _ (chkC_yes (okC_spec.2 ⟨HO2.out.nodes, HO2.out.slots, HO2.out.pages, HO2.out.room, HO2.out.chunk, HO2.out.buffer, ⟨show (2 : Int) ≤ 2 by decide, show (2 : Int) ≤ 8 by decide⟩, HO2.out.wear⟩))).mono ?_
      rintro e V0 ⟨rfl, hb⟩
      replace hB := Kept.mk (hB.out.trans (hb.mono hB.out.size))
      replace HL := Kept.mk (HL.out.keep hb)
      replace HH := Kept.mk (HH.out.keep hb)
      replace HO_ := Kept.mk (HO_.out.keep hb)
      replace HF := Kept.mk (HF.out.keep hb)
      clear hb
      have kk00 := HL.out.cells.2 0 _ rfl
      have kk01 := HL.out.cells.2 1 _ rfl
      have kk02 := HL.out.cells.2 2 _ rfl
      have kk03 := HL.out.cells.2 3 _ rfl
      have kk04 := HL.out.cells.2 4 _ rfl
      have kk05 := HL.out.cells.2 5 _ rfl
      have kk06 := HL.out.cells.2 6 _ rfl
      have kk07 := HL.out.cells.2 7 _ rfl
      have kk10 := HH.out.cells.2 0 _ rfl
      have kk11 := HH.out.cells.2 1 _ rfl
      have kk12 := HH.out.cells.2 2 _ rfl
      have kk13 := HH.out.cells.2 3 _ rfl
      have kk14 := HH.out.cells.2 4 _ rfl
      have kk15 := HH.out.cells.2 5 _ rfl
      have kk16 := HH.out.cells.2 6 _ rfl
      have kk17 := HH.out.cells.2 7 _ rfl
      have kk20 := HO_.out.cells.2 0 _ rfl
      have kk21 := HO_.out.cells.2 1 _ rfl
      have kk22 := HO_.out.cells.2 2 _ rfl
      have kk23 := HO_.out.cells.2 3 _ rfl
      have kk24 := HO_.out.cells.2 4 _ rfl
      have kk25 := HO_.out.cells.2 5 _ rfl
      have kk26 := HO_.out.cells.2 6 _ rfl
      have kk27 := HO_.out.cells.2 7 _ rfl
      have kk30 := HF.out.cells.2 0 _ rfl
      have kk31 := HF.out.cells.2 1 _ rfl
      have kk32 := HF.out.cells.2 2 _ rfl
      have kk33 := HF.out.cells.2 3 _ rfl
      have kk34 := HF.out.cells.2 4 _ rfl
      have kk35 := HF.out.cells.2 5 _ rfl
      have kk36 := HF.out.cells.2 6 _ rfl
      have kk37 := HF.out.cells.2 7 _ rfl
      go_wp2_with fail
      clear kk00 kk01 kk02 kk03 kk04 kk05 kk06 kk07 kk10 kk11 kk12 kk13 kk14 kk15 kk16 kk17 kk20 kk21 kk22 kk23 kk24 kk25 kk26 kk27 kk30 kk31 kk32 kk33 kk34 kk35 kk36 kk37
      refine (gc_check (⟨C.nodes, C.slots, C.pages, C.room, C.chunk, C.buffer, 8, C.wear⟩ : Cf) 0 _ (chkC_yes (okC_spec.2 ⟨HO2.out.nodes, HO2.out.slots, HO2.out.pages, HO2.out.room, HO2.out.chunk, HO2.out.buffer, ⟨show (2 : Int) ≤ 8 by decide, show (8 : Int) ≤ 8 by decide⟩, HO2.out.wear⟩))).mono ?_
      rintro e V1 ⟨rfl, hb⟩
      replace hB := Kept.mk (hB.out.trans (hb.mono hB.out.size))
      replace HL := Kept.mk (HL.out.keep hb)
      replace HH := Kept.mk (HH.out.keep hb)
      replace HO_ := Kept.mk (HO_.out.keep hb)
      replace HF := Kept.mk (HF.out.keep hb)
      clear hb
      have kk00 := HL.out.cells.2 0 _ rfl
      have kk01 := HL.out.cells.2 1 _ rfl
      have kk02 := HL.out.cells.2 2 _ rfl
      have kk03 := HL.out.cells.2 3 _ rfl
      have kk04 := HL.out.cells.2 4 _ rfl
      have kk05 := HL.out.cells.2 5 _ rfl
      have kk06 := HL.out.cells.2 6 _ rfl
      have kk07 := HL.out.cells.2 7 _ rfl
      have kk10 := HH.out.cells.2 0 _ rfl
      have kk11 := HH.out.cells.2 1 _ rfl
      have kk12 := HH.out.cells.2 2 _ rfl
      have kk13 := HH.out.cells.2 3 _ rfl
      have kk14 := HH.out.cells.2 4 _ rfl
      have kk15 := HH.out.cells.2 5 _ rfl
      have kk16 := HH.out.cells.2 6 _ rfl
      have kk17 := HH.out.cells.2 7 _ rfl
      have kk20 := HO_.out.cells.2 0 _ rfl
      have kk21 := HO_.out.cells.2 1 _ rfl
      have kk22 := HO_.out.cells.2 2 _ rfl
      have kk23 := HO_.out.cells.2 3 _ rfl
      have kk24 := HO_.out.cells.2 4 _ rfl
      have kk25 := HO_.out.cells.2 5 _ rfl
      have kk26 := HO_.out.cells.2 6 _ rfl
      have kk27 := HO_.out.cells.2 7 _ rfl
      have kk30 := HF.out.cells.2 0 _ rfl
      have kk31 := HF.out.cells.2 1 _ rfl
      have kk32 := HF.out.cells.2 2 _ rfl
      have kk33 := HF.out.cells.2 3 _ rfl
      have kk34 := HF.out.cells.2 4 _ rfl
      have kk35 := HF.out.cells.2 5 _ rfl
      have kk36 := HF.out.cells.2 6 _ rfl
      have kk37 := HF.out.cells.2 7 _ rfl
      go_wp2_with fail
      clear kk00 kk01 kk02 kk03 kk04 kk05 kk06 kk07 kk10 kk11 kk12 kk13 kk14 kk15 kk16 kk17 kk20 kk21 kk22 kk23 kk24 kk25 kk26 kk27 kk30 kk31 kk32 kk33 kk34 kk35 kk36 kk37
      refine (gc_check (⟨C.nodes, C.slots, C.pages, C.room, C.chunk, C.buffer, 1, C.wear⟩ : Cf) 1 _ (chkC_no (okC_false (k := 6) (by decide) (by show inC 1 2 8 = false; decide)))).mono ?_
      rintro e V2 ⟨rfl, hb⟩
      replace hB := Kept.mk (hB.out.trans (hb.mono hB.out.size))
      replace HL := Kept.mk (HL.out.keep hb)
      replace HH := Kept.mk (HH.out.keep hb)
      replace HO_ := Kept.mk (HO_.out.keep hb)
      replace HF := Kept.mk (HF.out.keep hb)
      clear hb
      have kk00 := HL.out.cells.2 0 _ rfl
      have kk01 := HL.out.cells.2 1 _ rfl
      have kk02 := HL.out.cells.2 2 _ rfl
      have kk03 := HL.out.cells.2 3 _ rfl
      have kk04 := HL.out.cells.2 4 _ rfl
      have kk05 := HL.out.cells.2 5 _ rfl
      have kk06 := HL.out.cells.2 6 _ rfl
      have kk07 := HL.out.cells.2 7 _ rfl
      have kk10 := HH.out.cells.2 0 _ rfl
      have kk11 := HH.out.cells.2 1 _ rfl
      have kk12 := HH.out.cells.2 2 _ rfl
      have kk13 := HH.out.cells.2 3 _ rfl
      have kk14 := HH.out.cells.2 4 _ rfl
      have kk15 := HH.out.cells.2 5 _ rfl
      have kk16 := HH.out.cells.2 6 _ rfl
      have kk17 := HH.out.cells.2 7 _ rfl
      have kk20 := HO_.out.cells.2 0 _ rfl
      have kk21 := HO_.out.cells.2 1 _ rfl
      have kk22 := HO_.out.cells.2 2 _ rfl
      have kk23 := HO_.out.cells.2 3 _ rfl
      have kk24 := HO_.out.cells.2 4 _ rfl
      have kk25 := HO_.out.cells.2 5 _ rfl
      have kk26 := HO_.out.cells.2 6 _ rfl
      have kk27 := HO_.out.cells.2 7 _ rfl
      have kk30 := HF.out.cells.2 0 _ rfl
      have kk31 := HF.out.cells.2 1 _ rfl
      have kk32 := HF.out.cells.2 2 _ rfl
      have kk33 := HF.out.cells.2 3 _ rfl
      have kk34 := HF.out.cells.2 4 _ rfl
      have kk35 := HF.out.cells.2 5 _ rfl
      have kk36 := HF.out.cells.2 6 _ rfl
      have kk37 := HF.out.cells.2 7 _ rfl
      go_wp2_with fail
      clear kk00 kk01 kk02 kk03 kk04 kk05 kk06 kk07 kk10 kk11 kk12 kk13 kk14 kk15 kk16 kk17 kk20 kk21 kk22 kk23 kk24 kk25 kk26 kk27 kk30 kk31 kk32 kk33 kk34 kk35 kk36 kk37
      refine (gc_check (⟨C.nodes, C.slots, C.pages, C.room, C.chunk, C.buffer, 9, C.wear⟩ : Cf) 1 _ (chkC_no (okC_false (k := 6) (by decide) (by show inC 9 2 8 = false; decide)))).mono ?_
      rintro e V3 ⟨rfl, hb⟩
      replace hB := Kept.mk (hB.out.trans (hb.mono hB.out.size))
      replace HL := Kept.mk (HL.out.keep hb)
      replace HH := Kept.mk (HH.out.keep hb)
      replace HO_ := Kept.mk (HO_.out.keep hb)
      replace HF := Kept.mk (HF.out.keep hb)
      clear hb
      go_wp2
      go_ret
      exact ⟨rfl, hB.out⟩
    · subst hmc
      have ke00 := HC.out.cells.2 0 _ rfl
      have ke01 := HC.out.cells.2 1 _ rfl
      have ke02 := HC.out.cells.2 2 _ rfl
      have ke03 := HC.out.cells.2 3 _ rfl
      have ke04 := HC.out.cells.2 4 _ rfl
      have ke05 := HC.out.cells.2 5 _ rfl
      have ke06 := HC.out.cells.2 6 _ rfl
      have ke07 := HC.out.cells.2 7 _ rfl
      have ke10 := (HC.out.alloc (.cells #[.int .i64 C.nodes, .int .i64 C.slots, .int .i64 C.pages, .int .i64 C.room, .int .i64 C.chunk, .int .i64 C.buffer, .int .i64 C.queue, .int .i64 C.wear] 38)).cells.2 0 _ rfl
      have ke11 := (HC.out.alloc (.cells #[.int .i64 C.nodes, .int .i64 C.slots, .int .i64 C.pages, .int .i64 C.room, .int .i64 C.chunk, .int .i64 C.buffer, .int .i64 C.queue, .int .i64 C.wear] 38)).cells.2 1 _ rfl
      have ke12 := (HC.out.alloc (.cells #[.int .i64 C.nodes, .int .i64 C.slots, .int .i64 C.pages, .int .i64 C.room, .int .i64 C.chunk, .int .i64 C.buffer, .int .i64 C.queue, .int .i64 C.wear] 38)).cells.2 2 _ rfl
      have ke13 := (HC.out.alloc (.cells #[.int .i64 C.nodes, .int .i64 C.slots, .int .i64 C.pages, .int .i64 C.room, .int .i64 C.chunk, .int .i64 C.buffer, .int .i64 C.queue, .int .i64 C.wear] 38)).cells.2 3 _ rfl
      have ke14 := (HC.out.alloc (.cells #[.int .i64 C.nodes, .int .i64 C.slots, .int .i64 C.pages, .int .i64 C.room, .int .i64 C.chunk, .int .i64 C.buffer, .int .i64 C.queue, .int .i64 C.wear] 38)).cells.2 4 _ rfl
      have ke15 := (HC.out.alloc (.cells #[.int .i64 C.nodes, .int .i64 C.slots, .int .i64 C.pages, .int .i64 C.room, .int .i64 C.chunk, .int .i64 C.buffer, .int .i64 C.queue, .int .i64 C.wear] 38)).cells.2 5 _ rfl
      have ke16 := (HC.out.alloc (.cells #[.int .i64 C.nodes, .int .i64 C.slots, .int .i64 C.pages, .int .i64 C.room, .int .i64 C.chunk, .int .i64 C.buffer, .int .i64 C.queue, .int .i64 C.wear] 38)).cells.2 6 _ rfl
      have ke17 := (HC.out.alloc (.cells #[.int .i64 C.nodes, .int .i64 C.slots, .int .i64 C.pages, .int .i64 C.room, .int .i64 C.chunk, .int .i64 C.buffer, .int .i64 C.queue, .int .i64 C.wear] 38)).cells.2 7 _ rfl
      have ke20 := ((HC.out.alloc (.cells #[.int .i64 C.nodes, .int .i64 C.slots, .int .i64 C.pages, .int .i64 C.room, .int .i64 C.chunk, .int .i64 C.buffer, .int .i64 C.queue, .int .i64 C.wear] 38)).alloc (.cells #[.int .i64 C.nodes, .int .i64 C.slots, .int .i64 C.pages, .int .i64 C.room, .int .i64 C.chunk, .int .i64 C.buffer, .int .i64 C.queue, .int .i64 C.wear] 38)).cells.2 0 _ rfl
      have ke21 := ((HC.out.alloc (.cells #[.int .i64 C.nodes, .int .i64 C.slots, .int .i64 C.pages, .int .i64 C.room, .int .i64 C.chunk, .int .i64 C.buffer, .int .i64 C.queue, .int .i64 C.wear] 38)).alloc (.cells #[.int .i64 C.nodes, .int .i64 C.slots, .int .i64 C.pages, .int .i64 C.room, .int .i64 C.chunk, .int .i64 C.buffer, .int .i64 C.queue, .int .i64 C.wear] 38)).cells.2 1 _ rfl
      have ke22 := ((HC.out.alloc (.cells #[.int .i64 C.nodes, .int .i64 C.slots, .int .i64 C.pages, .int .i64 C.room, .int .i64 C.chunk, .int .i64 C.buffer, .int .i64 C.queue, .int .i64 C.wear] 38)).alloc (.cells #[.int .i64 C.nodes, .int .i64 C.slots, .int .i64 C.pages, .int .i64 C.room, .int .i64 C.chunk, .int .i64 C.buffer, .int .i64 C.queue, .int .i64 C.wear] 38)).cells.2 2 _ rfl
      have ke23 := ((HC.out.alloc (.cells #[.int .i64 C.nodes, .int .i64 C.slots, .int .i64 C.pages, .int .i64 C.room, .int .i64 C.chunk, .int .i64 C.buffer, .int .i64 C.queue, .int .i64 C.wear] 38)).alloc (.cells #[.int .i64 C.nodes, .int .i64 C.slots, .int .i64 C.pages, .int .i64 C.room, .int .i64 C.chunk, .int .i64 C.buffer, .int .i64 C.queue, .int .i64 C.wear] 38)).cells.2 3 _ rfl
      have ke24 := ((HC.out.alloc (.cells #[.int .i64 C.nodes, .int .i64 C.slots, .int .i64 C.pages, .int .i64 C.room, .int .i64 C.chunk, .int .i64 C.buffer, .int .i64 C.queue, .int .i64 C.wear] 38)).alloc (.cells #[.int .i64 C.nodes, .int .i64 C.slots, .int .i64 C.pages, .int .i64 C.room, .int .i64 C.chunk, .int .i64 C.buffer, .int .i64 C.queue, .int .i64 C.wear] 38)).cells.2 4 _ rfl
      have ke25 := ((HC.out.alloc (.cells #[.int .i64 C.nodes, .int .i64 C.slots, .int .i64 C.pages, .int .i64 C.room, .int .i64 C.chunk, .int .i64 C.buffer, .int .i64 C.queue, .int .i64 C.wear] 38)).alloc (.cells #[.int .i64 C.nodes, .int .i64 C.slots, .int .i64 C.pages, .int .i64 C.room, .int .i64 C.chunk, .int .i64 C.buffer, .int .i64 C.queue, .int .i64 C.wear] 38)).cells.2 5 _ rfl
      have ke26 := ((HC.out.alloc (.cells #[.int .i64 C.nodes, .int .i64 C.slots, .int .i64 C.pages, .int .i64 C.room, .int .i64 C.chunk, .int .i64 C.buffer, .int .i64 C.queue, .int .i64 C.wear] 38)).alloc (.cells #[.int .i64 C.nodes, .int .i64 C.slots, .int .i64 C.pages, .int .i64 C.room, .int .i64 C.chunk, .int .i64 C.buffer, .int .i64 C.queue, .int .i64 C.wear] 38)).cells.2 6 _ rfl
      have ke27 := ((HC.out.alloc (.cells #[.int .i64 C.nodes, .int .i64 C.slots, .int .i64 C.pages, .int .i64 C.room, .int .i64 C.chunk, .int .i64 C.buffer, .int .i64 C.queue, .int .i64 C.wear] 38)).alloc (.cells #[.int .i64 C.nodes, .int .i64 C.slots, .int .i64 C.pages, .int .i64 C.room, .int .i64 C.chunk, .int .i64 C.buffer, .int .i64 C.queue, .int .i64 C.wear] 38)).cells.2 7 _ rfl
      have ke30 := (((HC.out.alloc (.cells #[.int .i64 C.nodes, .int .i64 C.slots, .int .i64 C.pages, .int .i64 C.room, .int .i64 C.chunk, .int .i64 C.buffer, .int .i64 C.queue, .int .i64 C.wear] 38)).alloc (.cells #[.int .i64 C.nodes, .int .i64 C.slots, .int .i64 C.pages, .int .i64 C.room, .int .i64 C.chunk, .int .i64 C.buffer, .int .i64 C.queue, .int .i64 C.wear] 38)).alloc (.cells #[.int .i64 C.nodes, .int .i64 C.slots, .int .i64 C.pages, .int .i64 C.room, .int .i64 C.chunk, .int .i64 C.buffer, .int .i64 C.queue, .int .i64 C.wear] 38)).cells.2 0 _ rfl
      have ke31 := (((HC.out.alloc (.cells #[.int .i64 C.nodes, .int .i64 C.slots, .int .i64 C.pages, .int .i64 C.room, .int .i64 C.chunk, .int .i64 C.buffer, .int .i64 C.queue, .int .i64 C.wear] 38)).alloc (.cells #[.int .i64 C.nodes, .int .i64 C.slots, .int .i64 C.pages, .int .i64 C.room, .int .i64 C.chunk, .int .i64 C.buffer, .int .i64 C.queue, .int .i64 C.wear] 38)).alloc (.cells #[.int .i64 C.nodes, .int .i64 C.slots, .int .i64 C.pages, .int .i64 C.room, .int .i64 C.chunk, .int .i64 C.buffer, .int .i64 C.queue, .int .i64 C.wear] 38)).cells.2 1 _ rfl
      have ke32 := (((HC.out.alloc (.cells #[.int .i64 C.nodes, .int .i64 C.slots, .int .i64 C.pages, .int .i64 C.room, .int .i64 C.chunk, .int .i64 C.buffer, .int .i64 C.queue, .int .i64 C.wear] 38)).alloc (.cells #[.int .i64 C.nodes, .int .i64 C.slots, .int .i64 C.pages, .int .i64 C.room, .int .i64 C.chunk, .int .i64 C.buffer, .int .i64 C.queue, .int .i64 C.wear] 38)).alloc (.cells #[.int .i64 C.nodes, .int .i64 C.slots, .int .i64 C.pages, .int .i64 C.room, .int .i64 C.chunk, .int .i64 C.buffer, .int .i64 C.queue, .int .i64 C.wear] 38)).cells.2 2 _ rfl
      have ke33 := (((HC.out.alloc (.cells #[.int .i64 C.nodes, .int .i64 C.slots, .int .i64 C.pages, .int .i64 C.room, .int .i64 C.chunk, .int .i64 C.buffer, .int .i64 C.queue, .int .i64 C.wear] 38)).alloc (.cells #[.int .i64 C.nodes, .int .i64 C.slots, .int .i64 C.pages, .int .i64 C.room, .int .i64 C.chunk, .int .i64 C.buffer, .int .i64 C.queue, .int .i64 C.wear] 38)).alloc (.cells #[.int .i64 C.nodes, .int .i64 C.slots, .int .i64 C.pages, .int .i64 C.room, .int .i64 C.chunk, .int .i64 C.buffer, .int .i64 C.queue, .int .i64 C.wear] 38)).cells.2 3 _ rfl
      have ke34 := (((HC.out.alloc (.cells #[.int .i64 C.nodes, .int .i64 C.slots, .int .i64 C.pages, .int .i64 C.room, .int .i64 C.chunk, .int .i64 C.buffer, .int .i64 C.queue, .int .i64 C.wear] 38)).alloc (.cells #[.int .i64 C.nodes, .int .i64 C.slots, .int .i64 C.pages, .int .i64 C.room, .int .i64 C.chunk, .int .i64 C.buffer, .int .i64 C.queue, .int .i64 C.wear] 38)).alloc (.cells #[.int .i64 C.nodes, .int .i64 C.slots, .int .i64 C.pages, .int .i64 C.room, .int .i64 C.chunk, .int .i64 C.buffer, .int .i64 C.queue, .int .i64 C.wear] 38)).cells.2 4 _ rfl
      have ke35 := (((HC.out.alloc (.cells #[.int .i64 C.nodes, .int .i64 C.slots, .int .i64 C.pages, .int .i64 C.room, .int .i64 C.chunk, .int .i64 C.buffer, .int .i64 C.queue, .int .i64 C.wear] 38)).alloc (.cells #[.int .i64 C.nodes, .int .i64 C.slots, .int .i64 C.pages, .int .i64 C.room, .int .i64 C.chunk, .int .i64 C.buffer, .int .i64 C.queue, .int .i64 C.wear] 38)).alloc (.cells #[.int .i64 C.nodes, .int .i64 C.slots, .int .i64 C.pages, .int .i64 C.room, .int .i64 C.chunk, .int .i64 C.buffer, .int .i64 C.queue, .int .i64 C.wear] 38)).cells.2 5 _ rfl
      have ke36 := (((HC.out.alloc (.cells #[.int .i64 C.nodes, .int .i64 C.slots, .int .i64 C.pages, .int .i64 C.room, .int .i64 C.chunk, .int .i64 C.buffer, .int .i64 C.queue, .int .i64 C.wear] 38)).alloc (.cells #[.int .i64 C.nodes, .int .i64 C.slots, .int .i64 C.pages, .int .i64 C.room, .int .i64 C.chunk, .int .i64 C.buffer, .int .i64 C.queue, .int .i64 C.wear] 38)).alloc (.cells #[.int .i64 C.nodes, .int .i64 C.slots, .int .i64 C.pages, .int .i64 C.room, .int .i64 C.chunk, .int .i64 C.buffer, .int .i64 C.queue, .int .i64 C.wear] 38)).cells.2 6 _ rfl
      have ke37 := (((HC.out.alloc (.cells #[.int .i64 C.nodes, .int .i64 C.slots, .int .i64 C.pages, .int .i64 C.room, .int .i64 C.chunk, .int .i64 C.buffer, .int .i64 C.queue, .int .i64 C.wear] 38)).alloc (.cells #[.int .i64 C.nodes, .int .i64 C.slots, .int .i64 C.pages, .int .i64 C.room, .int .i64 C.chunk, .int .i64 C.buffer, .int .i64 C.queue, .int .i64 C.wear] 38)).alloc (.cells #[.int .i64 C.nodes, .int .i64 C.slots, .int .i64 C.pages, .int .i64 C.room, .int .i64 C.chunk, .int .i64 C.buffer, .int .i64 C.queue, .int .i64 C.wear] 38)).cells.2 7 _ rfl
      have HL := Kept.mk (Hold.new W2 38 [.int .i64 C.nodes, .int .i64 C.slots, .int .i64 C.pages, .int .i64 C.room, .int .i64 C.chunk, .int .i64 C.buffer, .int .i64 C.queue, .int .i64 1] (W2.heap.size) (by first | rfl | simp))
      replace HL := Kept.mk (HL.out.alloc (.cells #[.int .i64 C.nodes, .int .i64 C.slots, .int .i64 C.pages, .int .i64 C.room, .int .i64 C.chunk, .int .i64 C.buffer, .int .i64 C.queue, .int .i64 2147483647] 38))
      replace HL := Kept.mk (HL.out.alloc (.cells #[.int .i64 C.nodes, .int .i64 C.slots, .int .i64 C.pages, .int .i64 C.room, .int .i64 C.chunk, .int .i64 C.buffer, .int .i64 C.queue, .int .i64 0] 38))
      replace HL := Kept.mk (HL.out.alloc (.cells #[.int .i64 C.nodes, .int .i64 C.slots, .int .i64 C.pages, .int .i64 C.room, .int .i64 C.chunk, .int .i64 C.buffer, .int .i64 C.queue, .int .i64 2147483648] 38))
      have HH := Kept.mk (Hold.new (W2.alloc (.cells #[.int .i64 C.nodes, .int .i64 C.slots, .int .i64 C.pages, .int .i64 C.room, .int .i64 C.chunk, .int .i64 C.buffer, .int .i64 C.queue, .int .i64 1] 38)) 38 [.int .i64 C.nodes, .int .i64 C.slots, .int .i64 C.pages, .int .i64 C.room, .int .i64 C.chunk, .int .i64 C.buffer, .int .i64 C.queue, .int .i64 2147483647] (W2.heap.size + 1) (by first | rfl | simp))
      replace HH := Kept.mk (HH.out.alloc (.cells #[.int .i64 C.nodes, .int .i64 C.slots, .int .i64 C.pages, .int .i64 C.room, .int .i64 C.chunk, .int .i64 C.buffer, .int .i64 C.queue, .int .i64 0] 38))
      replace HH := Kept.mk (HH.out.alloc (.cells #[.int .i64 C.nodes, .int .i64 C.slots, .int .i64 C.pages, .int .i64 C.room, .int .i64 C.chunk, .int .i64 C.buffer, .int .i64 C.queue, .int .i64 2147483648] 38))
      have HO_ := Kept.mk (Hold.new ((W2.alloc (.cells #[.int .i64 C.nodes, .int .i64 C.slots, .int .i64 C.pages, .int .i64 C.room, .int .i64 C.chunk, .int .i64 C.buffer, .int .i64 C.queue, .int .i64 1] 38)).alloc (.cells #[.int .i64 C.nodes, .int .i64 C.slots, .int .i64 C.pages, .int .i64 C.room, .int .i64 C.chunk, .int .i64 C.buffer, .int .i64 C.queue, .int .i64 2147483647] 38)) 38 [.int .i64 C.nodes, .int .i64 C.slots, .int .i64 C.pages, .int .i64 C.room, .int .i64 C.chunk, .int .i64 C.buffer, .int .i64 C.queue, .int .i64 0] (W2.heap.size + 1 + 1) (by first | rfl | simp))
      replace HO_ := Kept.mk (HO_.out.alloc (.cells #[.int .i64 C.nodes, .int .i64 C.slots, .int .i64 C.pages, .int .i64 C.room, .int .i64 C.chunk, .int .i64 C.buffer, .int .i64 C.queue, .int .i64 2147483648] 38))
      have HF := Kept.mk (Hold.new (((W2.alloc (.cells #[.int .i64 C.nodes, .int .i64 C.slots, .int .i64 C.pages, .int .i64 C.room, .int .i64 C.chunk, .int .i64 C.buffer, .int .i64 C.queue, .int .i64 1] 38)).alloc (.cells #[.int .i64 C.nodes, .int .i64 C.slots, .int .i64 C.pages, .int .i64 C.room, .int .i64 C.chunk, .int .i64 C.buffer, .int .i64 C.queue, .int .i64 2147483647] 38)).alloc (.cells #[.int .i64 C.nodes, .int .i64 C.slots, .int .i64 C.pages, .int .i64 C.room, .int .i64 C.chunk, .int .i64 C.buffer, .int .i64 C.queue, .int .i64 0] 38)) 38 [.int .i64 C.nodes, .int .i64 C.slots, .int .i64 C.pages, .int .i64 C.room, .int .i64 C.chunk, .int .i64 C.buffer, .int .i64 C.queue, .int .i64 2147483648] (W2.heap.size + 1 + 1 + 1) (by first | rfl | simp))
      have hbn : Below W2.heap.size W2 ((((W2.alloc (.cells #[.int .i64 C.nodes, .int .i64 C.slots, .int .i64 C.pages, .int .i64 C.room, .int .i64 C.chunk, .int .i64 C.buffer, .int .i64 C.queue, .int .i64 1] 38)).alloc (.cells #[.int .i64 C.nodes, .int .i64 C.slots, .int .i64 C.pages, .int .i64 C.room, .int .i64 C.chunk, .int .i64 C.buffer, .int .i64 C.queue, .int .i64 2147483647] 38)).alloc (.cells #[.int .i64 C.nodes, .int .i64 C.slots, .int .i64 C.pages, .int .i64 C.room, .int .i64 C.chunk, .int .i64 C.buffer, .int .i64 C.queue, .int .i64 0] 38)).alloc (.cells #[.int .i64 C.nodes, .int .i64 C.slots, .int .i64 C.pages, .int .i64 C.room, .int .i64 C.chunk, .int .i64 C.buffer, .int .i64 C.queue, .int .i64 2147483648] 38)) := ((((Below.refl _ _).alloc (Nat.le_refl _) _).alloc (by simp) _).alloc (by simp; omega) _).alloc (by simp; omega) _
      have HBN := Kept.mk hbn
      clear hbn
      have hg0 := HC.out.lt
      have HW2 := Kept.mk hB.out.size
      go_wp2_with fail
      clear ke00 ke01 ke02 ke03 ke04 ke05 ke06 ke07 ke10 ke11 ke12 ke13 ke14 ke15 ke16 ke17 ke20 ke21 ke22 ke23 ke24 ke25 ke26 ke27 ke30 ke31 ke32 ke33 ke34 ke35 ke36 ke37
      replace hB := Kept.mk (hB.out.trans (HBN.out.mono hB.out.size))
      replace HC := Kept.mk (HC.out.keep HBN.out)
      generalize ((((W2.alloc (.cells #[.int .i64 C.nodes, .int .i64 C.slots, .int .i64 C.pages, .int .i64 C.room, .int .i64 C.chunk, .int .i64 C.buffer, .int .i64 C.queue, .int .i64 1] 38)).alloc (.cells #[.int .i64 C.nodes, .int .i64 C.slots, .int .i64 C.pages, .int .i64 C.room, .int .i64 C.chunk, .int .i64 C.buffer, .int .i64 C.queue, .int .i64 2147483647] 38)).alloc (.cells #[.int .i64 C.nodes, .int .i64 C.slots, .int .i64 C.pages, .int .i64 C.room, .int .i64 C.chunk, .int .i64 C.buffer, .int .i64 C.queue, .int .i64 0] 38)).alloc (.cells #[.int .i64 C.nodes, .int .i64 C.slots, .int .i64 C.pages, .int .i64 C.room, .int .i64 C.chunk, .int .i64 C.buffer, .int .i64 C.queue, .int .i64 2147483648] 38)) = W3 at *
      refine (gc_check (⟨C.nodes, C.slots, C.pages, C.room, C.chunk, C.buffer, C.queue, 1⟩ : Cf) 0 _ (chkC_yes (okC_spec.2 ⟨HO2.out.nodes, HO2.out.slots, HO2.out.pages, HO2.out.room, HO2.out.chunk, HO2.out.buffer, HO2.out.queue, ⟨show (1 : Int) ≤ 1 by decide, show (1 : Int) ≤ 2147483647 by decide⟩⟩))).mono ?_
      rintro e V0 ⟨rfl, hb⟩
      replace hB := Kept.mk (hB.out.trans (hb.mono hB.out.size))
      replace HL := Kept.mk (HL.out.keep hb)
      replace HH := Kept.mk (HH.out.keep hb)
      replace HO_ := Kept.mk (HO_.out.keep hb)
      replace HF := Kept.mk (HF.out.keep hb)
      clear hb
      have kk00 := HL.out.cells.2 0 _ rfl
      have kk01 := HL.out.cells.2 1 _ rfl
      have kk02 := HL.out.cells.2 2 _ rfl
      have kk03 := HL.out.cells.2 3 _ rfl
      have kk04 := HL.out.cells.2 4 _ rfl
      have kk05 := HL.out.cells.2 5 _ rfl
      have kk06 := HL.out.cells.2 6 _ rfl
      have kk07 := HL.out.cells.2 7 _ rfl
      have kk10 := HH.out.cells.2 0 _ rfl
      have kk11 := HH.out.cells.2 1 _ rfl
      have kk12 := HH.out.cells.2 2 _ rfl
      have kk13 := HH.out.cells.2 3 _ rfl
      have kk14 := HH.out.cells.2 4 _ rfl
      have kk15 := HH.out.cells.2 5 _ rfl
      have kk16 := HH.out.cells.2 6 _ rfl
      have kk17 := HH.out.cells.2 7 _ rfl
      have kk20 := HO_.out.cells.2 0 _ rfl
      have kk21 := HO_.out.cells.2 1 _ rfl
      have kk22 := HO_.out.cells.2 2 _ rfl
      have kk23 := HO_.out.cells.2 3 _ rfl
      have kk24 := HO_.out.cells.2 4 _ rfl
      have kk25 := HO_.out.cells.2 5 _ rfl
      have kk26 := HO_.out.cells.2 6 _ rfl
      have kk27 := HO_.out.cells.2 7 _ rfl
      have kk30 := HF.out.cells.2 0 _ rfl
      have kk31 := HF.out.cells.2 1 _ rfl
      have kk32 := HF.out.cells.2 2 _ rfl
      have kk33 := HF.out.cells.2 3 _ rfl
      have kk34 := HF.out.cells.2 4 _ rfl
      have kk35 := HF.out.cells.2 5 _ rfl
      have kk36 := HF.out.cells.2 6 _ rfl
      have kk37 := HF.out.cells.2 7 _ rfl
      go_wp2_with fail
      clear kk00 kk01 kk02 kk03 kk04 kk05 kk06 kk07 kk10 kk11 kk12 kk13 kk14 kk15 kk16 kk17 kk20 kk21 kk22 kk23 kk24 kk25 kk26 kk27 kk30 kk31 kk32 kk33 kk34 kk35 kk36 kk37
      refine (gc_check (⟨C.nodes, C.slots, C.pages, C.room, C.chunk, C.buffer, C.queue, 2147483647⟩ : Cf) 0 _ (chkC_yes (okC_spec.2 ⟨HO2.out.nodes, HO2.out.slots, HO2.out.pages, HO2.out.room, HO2.out.chunk, HO2.out.buffer, HO2.out.queue, ⟨show (1 : Int) ≤ 2147483647 by decide, show (2147483647 : Int) ≤ 2147483647 by decide⟩⟩))).mono ?_
      rintro e V1 ⟨rfl, hb⟩
      replace hB := Kept.mk (hB.out.trans (hb.mono hB.out.size))
      replace HL := Kept.mk (HL.out.keep hb)
      replace HH := Kept.mk (HH.out.keep hb)
      replace HO_ := Kept.mk (HO_.out.keep hb)
      replace HF := Kept.mk (HF.out.keep hb)
      clear hb
      have kk00 := HL.out.cells.2 0 _ rfl
      have kk01 := HL.out.cells.2 1 _ rfl
      have kk02 := HL.out.cells.2 2 _ rfl
      have kk03 := HL.out.cells.2 3 _ rfl
      have kk04 := HL.out.cells.2 4 _ rfl
      have kk05 := HL.out.cells.2 5 _ rfl
      have kk06 := HL.out.cells.2 6 _ rfl
      have kk07 := HL.out.cells.2 7 _ rfl
      have kk10 := HH.out.cells.2 0 _ rfl
      have kk11 := HH.out.cells.2 1 _ rfl
      have kk12 := HH.out.cells.2 2 _ rfl
      have kk13 := HH.out.cells.2 3 _ rfl
      have kk14 := HH.out.cells.2 4 _ rfl
      have kk15 := HH.out.cells.2 5 _ rfl
      have kk16 := HH.out.cells.2 6 _ rfl
      have kk17 := HH.out.cells.2 7 _ rfl
      have kk20 := HO_.out.cells.2 0 _ rfl
      have kk21 := HO_.out.cells.2 1 _ rfl
      have kk22 := HO_.out.cells.2 2 _ rfl
      have kk23 := HO_.out.cells.2 3 _ rfl
      have kk24 := HO_.out.cells.2 4 _ rfl
      have kk25 := HO_.out.cells.2 5 _ rfl
      have kk26 := HO_.out.cells.2 6 _ rfl
      have kk27 := HO_.out.cells.2 7 _ rfl
      have kk30 := HF.out.cells.2 0 _ rfl
      have kk31 := HF.out.cells.2 1 _ rfl
      have kk32 := HF.out.cells.2 2 _ rfl
      have kk33 := HF.out.cells.2 3 _ rfl
      have kk34 := HF.out.cells.2 4 _ rfl
      have kk35 := HF.out.cells.2 5 _ rfl
      have kk36 := HF.out.cells.2 6 _ rfl
      have kk37 := HF.out.cells.2 7 _ rfl
      go_wp2_with fail
      clear kk00 kk01 kk02 kk03 kk04 kk05 kk06 kk07 kk10 kk11 kk12 kk13 kk14 kk15 kk16 kk17 kk20 kk21 kk22 kk23 kk24 kk25 kk26 kk27 kk30 kk31 kk32 kk33 kk34 kk35 kk36 kk37
      refine (gc_check (⟨C.nodes, C.slots, C.pages, C.room, C.chunk, C.buffer, C.queue, 0⟩ : Cf) 1 _ (chkC_no (okC_false (k := 7) (by decide) (by show inC 0 1 2147483647 = false; decide)))).mono ?_
      rintro e V2 ⟨rfl, hb⟩
      replace hB := Kept.mk (hB.out.trans (hb.mono hB.out.size))
      replace HL := Kept.mk (HL.out.keep hb)
      replace HH := Kept.mk (HH.out.keep hb)
      replace HO_ := Kept.mk (HO_.out.keep hb)
      replace HF := Kept.mk (HF.out.keep hb)
      clear hb
      have kk00 := HL.out.cells.2 0 _ rfl
      have kk01 := HL.out.cells.2 1 _ rfl
      have kk02 := HL.out.cells.2 2 _ rfl
      have kk03 := HL.out.cells.2 3 _ rfl
      have kk04 := HL.out.cells.2 4 _ rfl
      have kk05 := HL.out.cells.2 5 _ rfl
      have kk06 := HL.out.cells.2 6 _ rfl
      have kk07 := HL.out.cells.2 7 _ rfl
      have kk10 := HH.out.cells.2 0 _ rfl
      have kk11 := HH.out.cells.2 1 _ rfl
      have kk12 := HH.out.cells.2 2 _ rfl
      have kk13 := HH.out.cells.2 3 _ rfl
      have kk14 := HH.out.cells.2 4 _ rfl
      have kk15 := HH.out.cells.2 5 _ rfl
      have kk16 := HH.out.cells.2 6 _ rfl
      have kk17 := HH.out.cells.2 7 _ rfl
      have kk20 := HO_.out.cells.2 0 _ rfl
      have kk21 := HO_.out.cells.2 1 _ rfl
      have kk22 := HO_.out.cells.2 2 _ rfl
      have kk23 := HO_.out.cells.2 3 _ rfl
      have kk24 := HO_.out.cells.2 4 _ rfl
      have kk25 := HO_.out.cells.2 5 _ rfl
      have kk26 := HO_.out.cells.2 6 _ rfl
      have kk27 := HO_.out.cells.2 7 _ rfl
      have kk30 := HF.out.cells.2 0 _ rfl
      have kk31 := HF.out.cells.2 1 _ rfl
      have kk32 := HF.out.cells.2 2 _ rfl
      have kk33 := HF.out.cells.2 3 _ rfl
      have kk34 := HF.out.cells.2 4 _ rfl
      have kk35 := HF.out.cells.2 5 _ rfl
      have kk36 := HF.out.cells.2 6 _ rfl
      have kk37 := HF.out.cells.2 7 _ rfl
      go_wp2_with fail
      clear kk00 kk01 kk02 kk03 kk04 kk05 kk06 kk07 kk10 kk11 kk12 kk13 kk14 kk15 kk16 kk17 kk20 kk21 kk22 kk23 kk24 kk25 kk26 kk27 kk30 kk31 kk32 kk33 kk34 kk35 kk36 kk37
      refine (gc_check (⟨C.nodes, C.slots, C.pages, C.room, C.chunk, C.buffer, C.queue, 2147483648⟩ : Cf) 1 _ (chkC_no (okC_false (k := 7) (by decide) (by show inC 2147483648 1 2147483647 = false; decide)))).mono ?_
      rintro e V3 ⟨rfl, hb⟩
      replace hB := Kept.mk (hB.out.trans (hb.mono hB.out.size))
      replace HL := Kept.mk (HL.out.keep hb)
      replace HH := Kept.mk (HH.out.keep hb)
      replace HO_ := Kept.mk (HO_.out.keep hb)
      replace HF := Kept.mk (HF.out.keep hb)
      clear hb
      go_wp2
      go_ret
      exact ⟨rfl, hB.out⟩
set_option maxRecDepth 100000 in
theorem configEdges_lifted (os : Os) (started : os.Started) (H : Type) (enc : TypeId × Value → H) :
    ReturnsInHanded {} Try.checked os 7 .any (Rows.configEdgesSpec.pre6 enc Try.prog Try.f7 Rows.configEdgesRow.domain false) (Rows.configEdgesSpec.post enc Try.prog Try.f7 false true false false) := by
  refine returnsInHanded_of_change (C := Try.checked) (by kernel_rfl : ownKnob Try.prog.godebug = none) started (by kernel_rfl) Try.func7
    (ChangeSpec.witness6 (enc := enc) (C := Try.checked) false ⟨#[], #[.agg #[.int .i64 0, .int .i64 0, .int .i64 0, .int .i64 0, .int .i64 0, .int .i64 0, .int .i64 0, .int .i64 0], .int .u8 0], []⟩ 8 (by kernel_rfl) (by kernel_rfl) (by kernel_rfl) (by kernel_rfl)) ?_
  intro W base args ds gs before hval0 hW hcnd _
  have hval : ∀ (j : Nat) t v, Try.f7.params[j]? = some t → args[j]? = some v → Value.okWide Try.prog W .any base t v := hval0
  have hW' := hW
  obtain ⟨p, q, hA0, hV, rfl, hfz, hnd⟩ := hW
  have hA : DataW.TrodAll enc Try.prog W 0 (fun _ => true) true Try.f7.params.toList args.toList ds p := hA0
  rw [Try.params7] at hA hval
  obtain ⟨v0, vs0, d0, ds0, p0, q0, hargs, rfl, rfl, h0, r0⟩ := trodAll_cons hA
  obtain ⟨v1, vs1, d1, ds1, p1, q1, rfl, rfl, rfl, h1, r1⟩ := trodAll_cons r0
  obtain ⟨rfl, rfl, rfl⟩ := trodAll_nil r1
  obtain rfl : args = #[v0, v1] := by cases args; simp_all
  obtain ⟨rfl, rfl⟩ := trodVars_none hV
  obtain ⟨F0, fl0, w0⟩ := open_cf (hval 0 38 v0 rfl rfl) h0
  have lt0 : ∀ x ∈ p0, x.block < W.heap.size := fun x hx => by obtain ⟨fuel, hf⟩ := h0; exact DataW.trod_lt fuel _ _ _ hf x hx
  obtain ⟨a1, rfl, rfl, rfl, w1⟩ := open_int Try.underlying5 (hval 1 5 v1 rfl rfl) h1
  clear hA0 hval0
  simp only [List.append_nil] at hW'
  refine (configEdges_walk F0 v0 a1 w0 w1 W fl0).mono fun e W' ⟨he, bel⟩ => ?_
  subst he
  exact ⟨_, rfl, _, _, _, [], _, [], hW', trodAll_mk1 (shut_bool Try.underlying4 _), (trodAll_cons_mk (Below.trod (by kernel_rfl) (by kernel_rfl) (of_decide_eq_true (by kernel_rfl)) h0 bel lt0) (trodAll_cons_mk (shut_int Try.underlying5 w1) trodAll_mk0)), rfl, bel.frame _, fun h => by cases h⟩
/-- THE STATEMENT. -/
theorem configEdges_proved : Rows.ConfigEdgesSaid :=
  OpenClaim.holds_of_wide 7 Try.f7 rfl rfl rfl rfl rfl rfl rfl ⟨rfl, rfl, rfl, rfl, rfl⟩ rfl rfl rfl rfl rfl (by kernel_rfl) Try.func7 (by kernel_rfl)
    (of_decide_eq_true (by kernel_rfl)) (by unfold Func.isWrapper; first | (rw [if_pos (by decide +kernel)]; kernel_rfl) | (rw [if_neg (by decide +kernel)]; exact ⟨rfl, rfl⟩))
    (fun os started H enc _ => configEdges_lifted os started H enc)
#print axioms configEdges_proved
end Go.Proofs.Ytpjafjnokgeifaa
