/- A value among a law's arguments: opened. -/
import Derived.Test.YtebjljiklacolaaVaBelow
import Derived.SizedLaws
import Derived.SliceStrings
import Derived.Carry
namespace Go.Proofs.Ytebjljiklacolaa
open Go.RowKit Go.ChangeShapes Go.WideShapes
set_option linter.unusedVariables false
set_option linter.unusedSimpArgs false

theorem spot_none {w : World} {a : Addr} {v : Value} (h : w.cell? a = some v) : a = ⟨a.block, a.off, none⟩ := by
  obtain ⟨b, o, s⟩ := a
  cases s with
  | none => rfl
  | some s =>
    simp only [World.cell?] at h
    split at h <;> simp at h
theorem add_plain (b o i : Nat) : (⟨b, o, none⟩ : Addr).add i = ⟨b, o + i, none⟩ := by
  by_cases e : i = 0
  · subst e; simp [Addr.add]
  · simp [Addr.add, e]
/-- A row that came in. -/
theorem cells_came {w : World} {a : Addr} {len cap : Nat} (cs : List Value) (hl : cs.length = len) (hc : ∀ (i : Nat) (x : Value), cs[i]? = some x → w.cell? (a.add i) = some x) : isCells cs (.slice (some a) len cap) w := by
  cases cs with
  | nil => subst hl; exact .inr (.inl ⟨a, cap, rfl, rfl⟩)
  | cons x cs =>
    have h0 := hc 0 x rfl
    have e0 : a.add 0 = a := by simp [Addr.add]
    rw [e0] at h0
    have ha := spot_none h0
    rw [ha] at hc ⊢
    subst hl
    refine .inr (.inr ⟨a.block, a.off, cap, rfl, ?_, fun j y hy => ?_⟩)
    · simp only [World.cell?] at h0
      split at h0
      · rename_i h; exact (Array.getElem?_eq_some_iff.1 h).1
      · simp at h0
    · have := hc j y hy
      rwa [add_plain] at this
section
variable {W : World} {H : Type} {enc : TypeId × Value → H} {base : Nat} {spare : Nat → Bool} {held : Bool} {n : Nat}
theorem open_row {v : Value} {y : DataW H × List MemPlace} (g : DataW.trod enc Try.prog W base spare held n 22 [v] = some y) :
    ∃ l : List Int, isCells (l.map intC) v W ∧ l.length ≤ maxLen ∧ (∀ x ∈ l, (Lit.int .i64 x).wf = true) := by
  rcases open_ints Try.underlying22 Try.underlying3 (by kernel_rfl) g with ⟨hc, _⟩ | ⟨a, len, cap, zs, hc, _, hl, hm, hz, hx0, hcell, hs⟩
  · injection hc with hc _
    subst hc
    exact ⟨[], .inl ⟨rfl, rfl⟩, Nat.zero_le _, (fun s hs => by simp at hs)⟩
  · injection hc with hc _
    subst hc
    have hle : len ≤ zs.length := by rw [hz]; split <;> omega
    refine ⟨zs.take len, cells_came _ (by simp; omega) (fun i x hx => ?_), by simp; omega, (fun s h => hs s (List.mem_of_mem_take h))⟩
    have hi : i < len := by have := (List.getElem?_eq_some_iff.1 hx).1; simp at this; omega
    rw [hcell i (by omega)]
    rw [List.getElem?_map, List.getElem?_take, if_pos hi, List.getElem?_eq_getElem (by omega : i < zs.length)] at hx
    simp only [Option.map_some, Option.some.injEq] at hx
    rw [← hx]
    simp [List.getD_eq_getElem?_getD, show i < zs.length by omega, intC]
end
theorem wf_i64 {x : Int} (h : (Lit.int .i64 x).wf = true) : -9223372036854775808 ≤ x ∧ x ≤ 9223372036854775807 := by
  unfold Lit.wf at h
  rw [Bool.and_eq_true] at h
  exact ⟨of_decide_eq_true h.1, of_decide_eq_true h.2⟩
theorem wf_u64 {x : Int} (h : (Lit.int .u64 x).wf = true) : 0 ≤ x ∧ x ≤ 18446744073709551615 := by
  unfold Lit.wf at h
  rw [Bool.and_eq_true] at h
  exact ⟨of_decide_eq_true h.1, of_decide_eq_true h.2⟩
/-- What a value that came in is. -/
structure CameV (A : Va) : Prop where
  kind : (Lit.int .i64 A.kind).wf = true
  time : (Lit.int .i64 A.time).wf = true
  node : (Lit.int .i64 A.node).wf = true
  text : A.text.length ≤ maxLen
  plus : ∀ x ∈ A.plus, (Lit.int .i64 x).wf = true
  minus : ∀ x ∈ A.minus, (Lit.int .i64 x).wf = true
  np : A.plus.length ≤ maxLen
  nm : A.minus.length ≤ maxLen
set_option maxRecDepth 100000 in
set_option maxHeartbeats 1000000 in
theorem open_va {W : World} {H : Type} {enc : TypeId × Value → H} {base b0 : Nat} {spare : Nat → Bool} {held : Bool} {v : Value} {d : DataW H} {p : List MemPlace} (hv : Value.okWide Try.prog W .any b0 25 v)
    (h : DataW.Trod enc Try.prog W base spare held 25 v d p) : ∃ A : Va, isVa A v W ∧ CameV A := by
  obtain ⟨⟨l⟩, rfl, hsz⟩ := okWide_struct Try.underlying25 hv
  have hl : l.length = 8 := hsz.trans (by kernel_rfl)
  match l, hl with
  | [v0, v1, v2, v3, v4, v5, v6, v7], _ =>
    obtain ⟨fuel, hf⟩ := h
    obtain ⟨xs, n, _, hxe, _, hxl, hg⟩ := DataW.trod_struct Try.underlying25 hf
    have at_ : ∀ i, i < 8 → ∃ y, xs[i]? = some y := fun i hi => ⟨_, List.getElem?_eq_getElem (by rw [hxl]; exact hi)⟩
    have c2 : Try.prog.cellsOf 22 = 1 := by kernel_rfl
    have c3 : Try.prog.cellsOf 3 = 1 := by kernel_rfl
    have c4 : Try.prog.cellsOf 9 = 1 := by kernel_rfl
    have c5 : Try.prog.cellsOf 4 = 1 := by kernel_rfl
    have c6 : Try.prog.cellsOf 23 = 1 := by kernel_rfl
    obtain ⟨y0, e0⟩ := at_ 0 (by decide)
    obtain ⟨y1, e1⟩ := at_ 1 (by decide)
    obtain ⟨y2, e2⟩ := at_ 2 (by decide)
    obtain ⟨y3, e3⟩ := at_ 3 (by decide)
    obtain ⟨y4, e4⟩ := at_ 4 (by decide)
    obtain ⟨y5, e5⟩ := at_ 5 (by decide)
    obtain ⟨y6, e6⟩ := at_ 6 (by decide)
    obtain ⟨y7, e7⟩ := at_ 7 (by decide)
    have g0 := hg 0 _ rfl
    have g1 := hg 1 _ rfl
    have g2 := hg 2 _ rfl
    have g3 := hg 3 _ rfl
    have g4 := hg 4 _ rfl
    have g5 := hg 5 _ rfl
    have g6 := hg 6 _ rfl
    have g7 := hg 7 _ rfl
    simp only [Value.cells, c2, c3, c4, c5, c6, List.drop_zero, List.drop_succ_cons, List.take_succ_cons, List.take_zero] at g0 g1 g2 g3 g4 g5 g6 g7
    rw [e0] at g0
    rw [e1] at g1
    rw [e2] at g2
    rw [e3] at g3
    rw [e4] at g4
    rw [e5] at g5
    rw [e6] at g6
    rw [e7] at g7
    obtain ⟨kind, h0, _, w0⟩ := DataW.trod_int Try.underlying3 g0
    obtain ⟨time, h1, _, w1⟩ := DataW.trod_int Try.underlying3 g1
    obtain ⟨node, h2, _, w2⟩ := DataW.trod_int Try.underlying3 g2
    obtain ⟨dead, h3, _⟩ := DataW.trod_bool Try.underlying4 g3
    obtain ⟨text, h4, _, w4⟩ := DataW.trod_string Try.underlying9 g4
    obtain ⟨plus, hp, hpn, hpw⟩ := open_row g5
    obtain ⟨minus, hm, hmn, hmw⟩ := open_row g6
    obtain ⟨flags, h7, _, w7⟩ := DataW.trod_int Try.underlying23 g7
    injection h0 with h0 _
    injection h1 with h1 _
    injection h2 with h2 _
    injection h3 with h3 _
    injection h4 with h4 _
    injection h7 with h7 _
    subst h0 h1 h2 h3 h4 h7
    have b7 := wf_u64 w7
    have f7 : ((UInt64.ofNat flags.toNat).toNat : Int) = flags := by
      rw [UInt64.toNat_ofNat_of_lt' (by show flags.toNat < 18446744073709551616; omega)]
      omega
    refine ⟨⟨kind, time, node, dead, text.data.toList, plus, minus, UInt64.ofNat flags.toNat⟩, ⟨v5, v6, ?_, hp, hm⟩, ⟨w0, w1, w2, by simpa using w4, hpw, hmw, hpn, hmn⟩⟩
    show Value.agg #[.int .i64 kind, .int .i64 time, .int .i64 node, .bool dead, .string text, v5, v6, .int .u64 flags] = .agg #[.int .i64 kind, .int .i64 time, .int .i64 node, .bool dead, .string ⟨text.data.toList.toArray⟩, v5, v6, .int .u64 ((UInt64.ofNat flags.toNat).toNat : Int)]
    rw [f7, ← str_eta]
theorem joinE_self (A : Va) : (joinE A A == 0) = okV A := by
  unfold joinE
  cases okV A <;> simp
theorem checkV_zero (A : Va) : (checkV A == 0) = okV A := by
  unfold checkV
  cases okV A <;> simp
theorem joinE_no {A B : Va} (h : okV A = false) : (joinE A B == 0) = false := by
  unfold joinE
  rw [h]
  rfl
theorem joinE_no2 {A B : Va} (h : okV B = false) : (joinE A B == 0) = false := by
  unfold joinE
  rw [h, Bool.and_false]
  rfl
end Go.Proofs.Ytebjljiklacolaa
