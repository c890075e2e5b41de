/- Contracts of the writer's and the reader's smallest steps. -/
import Derived.Test.YtebjljiklacolaaEnBase
import Derived.Test.YtebjljiklacolaaFlowMore
namespace Go.Proofs.Ytebjljiklacolaa
open Go.RowKit
set_option linter.unusedVariables false
set_option linter.unusedSimpArgs false

abbrev ptr (g : Nat) : Value := .pointer (some ⟨g, 0, none⟩)
abbrev txt (l : List UInt8) : Value := .string ⟨l.toArray⟩
abbrev unitV : Value := .tuple #[]

set_option maxHeartbeats 800000 in
theorem add_any (g : Nat) (t s : List UInt8) (w : World) (h : At w g (txt t)) (ht : t.length ≤ 1000000) (hs : s.length ≤ 1000000) :
    Calls Try.prog 19 #[ptr g, txt s] w fun e w' => e = .returned unitV ∧ Wr g (txt (t ++ s)) w w' := by
  have hc := h.cell
  have hf := h.free
  have hcat := fun W => run_string_add_lists (P := Try.prog) W t s (by omega) (by omega)
  go_enter Try.func19, Try.ntmps19
  go_wp2
  go_end0
  exact ⟨rfl, Wr.set h _⟩

set_option maxHeartbeats 800000 in
theorem number_any (g : Nat) (t : List UInt8) (n width : Int) (w : World) (h : At w g (txt t)) (ht : t.length ≤ 1000) (hn : n ≤ 9223372036854775807) (hw : (putS n width).length ≤ 1000) :
    Calls Try.prog 18 #[ptr g, .int .i64 n, .int .i64 width] w fun e w' => e = .returned unitV ∧ Wr g (txt (t ++ putS n width)) w w' := by
  go_enter Try.func18, Try.ntmps18
  go_wp2_with fail
  refine (put_any n width w hn).mono ?_
  rintro e w1 ⟨rfl, hb⟩
  have h1 := Kept.mk (h.keep hb)
  generalize putE n width = pe
  go_wp2_with fail
  refine (add_any g t (putS n width) w1 h1.out (by omega) (by omega)).mono ?_
  rintro e w2 ⟨rfl, hw2⟩
  replace hw2 := Kept.mk (Wr.behind hb hw2)
  clear hb h1
  go_wp2
  go_end0
  exact ⟨rfl, hw2.out⟩

set_option maxHeartbeats 800000 in
theorem take_any (g : Nat) (l : List UInt8) (n : Nat) (w : World) (h : At w g (txt l)) (hn : n ≤ l.length) (hl : l.length ≤ 1000) :
    Calls Try.prog 43 #[ptr g, .int .i64 (n : Int)] w fun e w' => e = .returned (txt (l.take n)) ∧ Wr g (txt (l.drop n)) w w' := by
  have hc := h.cell
  have hf := h.free
  have hs1 : ∀ W, (Instr.sliceAt 9 (.string ⟨l.toArray⟩) none (some (.int .i64 (n : Int))) none).run Try.prog W = .ok (.string ⟨(l.take n).toArray⟩) W := fun W => head_str l n hn W
  have hs2 : ∀ W, (Instr.sliceAt 9 (.string ⟨l.toArray⟩) (some (.int .i64 (n : Int))) none none).run Try.prog W = .ok (.string ⟨(l.drop n).toArray⟩) W := fun W => rest_str l n hn W
  go_enter Try.func43, Try.ntmps43
  go_wp2
  go_ret
  exact ⟨rfl, Wr.set h _⟩

set_option maxHeartbeats 800000 in
theorem rnumber_any (g : Nat) (l : List UInt8) (n : Nat) (w : World) (h : At w g (txt l)) (h1 : 1 ≤ n) (h7 : n ≤ 7) (hn : n ≤ l.length) (hl : l.length ≤ 1000) :
    Calls Try.prog 33 #[ptr g, .int .i64 (n : Int)] w fun e w' => e = .returned (.int .i64 (getN (l.take n) : Int)) ∧ Wr g (txt (l.drop n)) w w' := by
  go_enter Try.func33, Try.ntmps33
  go_wp2_with fail
  refine (take_any g l n w h hn hl).mono ?_
  rintro e w1 ⟨rfl, hw1⟩
  have HW := Kept.mk hw1
  clear hw1
  go_wp2_with fail
  have hlen : (l.take n).length = n := by rw [List.length_take]; omega
  have ev : getV ⟨(l.take n).toArray⟩ 0 (n : Int) = (getN (l.take n) : Int) := by
    unfold getV
    rw [if_pos ⟨by simp [isWidthB]; omega, by simp [okGet, ByteArray.size, hlen]⟩]
    simp [List.take_of_length_le, hlen]
  refine (get_any ⟨(l.take n).toArray⟩ 0 (n : Int) w1 (by simp [ByteArray.size]; omega)).mono ?_
  rintro e w2 ⟨rfl, hb⟩
  replace HW := Kept.mk (HW.out.then_ hb)
  clear hb
  rw [ev]
  generalize getE _ 0 (n : Int) = ge
  clear ev hlen
  generalize hgn : getN (l.take n) = gn
  have HG := Kept.mk hgn
  clear hgn
  go_wp2
  go_ret
  exact ⟨by rw [HG.out]; rfl, HW.out⟩

abbrev Gave : Ending := .panicked [{ v := .iface 30 (.int .i64 2), recovered := false }]
set_option maxHeartbeats 800000 in
theorem insist_yes (b : Bool) (hb : b = true) (w : World) : Calls Try.prog 32 #[.bool b] w fun e w' => e = .returned unitV ∧ w = w' := by
  subst hb
  go_enter Try.func32, Try.ntmps32
  go_wp2
  go_end0
  exact ⟨rfl, rfl⟩
set_option maxHeartbeats 800000 in
theorem insist_no (b : Bool) (hb : b = false) (w : World) : Calls Try.prog 32 #[.bool b] w fun e w' => e = Gave ∧ w = w' := by
  subst hb
  go_enter Try.func32, Try.ntmps32
  go_wp2
  exact ⟨rfl, rfl, rfl⟩
end Go.Proofs.Ytebjljiklacolaa
