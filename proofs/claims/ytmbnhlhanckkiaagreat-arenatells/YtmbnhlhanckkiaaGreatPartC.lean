/- Joined texts: contracts of the program's functions, and the mathematics that they lean on. -/
import Derived.Test.YtmbnhlhanckkiaaGreatPartB
import Derived.SizedLaws
import Derived.SliceStrings
import Derived.Carry
section
namespace Go.Proofs.YtmbnhlhanckkiaaGreat
open Go.RowKit Go.ChangeShapes Go.WideShapes
set_option linter.unusedVariables false
set_option linter.unusedSimpArgs false

theorem spot_none {w : World} {a : Addr} {v : Value} (h : w.cell? a = some v) : a = ⟨a.block, a.off, none⟩ := by
  obtain ⟨b, o, s⟩ := a
  cases s with
  | none => rfl
  | some s =>
    simp only [World.cell?] at h
    split at h <;> simp at h
theorem add_plain (b o i : Nat) : (⟨b, o, none⟩ : Addr).add i = ⟨b, o + i, none⟩ := by
  by_cases e : i = 0
  · subst e; simp [Addr.add]
  · simp [Addr.add, e]
/-- A row that came in. -/
theorem cells_came {w : World} {a : Addr} {len cap : Nat} (cs : List Value) (hl : cs.length = len) (hc : ∀ (i : Nat) (x : Value), cs[i]? = some x → w.cell? (a.add i) = some x) : isCells cs (.slice (some a) len cap) w := by
  cases cs with
  | nil => subst hl; exact .inr (.inl ⟨a, cap, rfl, rfl⟩)
  | cons x cs =>
    have h0 := hc 0 x rfl
    have e0 : a.add 0 = a := by simp [Addr.add]
    rw [e0] at h0
    have ha := spot_none h0
    rw [ha] at hc ⊢
    subst hl
    refine .inr (.inr ⟨a.block, a.off, cap, rfl, ?_, fun j y hy => ?_⟩)
    · simp only [World.cell?] at h0
      split at h0
      · rename_i h; exact (Array.getElem?_eq_some_iff.1 h).1
      · simp at h0
    · have := hc j y hy
      rwa [add_plain] at this
section
variable {W : World} {H : Type} {enc : TypeId × Value → H} {base : Nat} {spare : Nat → Bool} {held : Bool} {n : Nat}
theorem open_row {v : Value} {y : DataW H × List MemPlace} (g : DataW.trod enc Tryz.prog W base spare held n 23 [v] = some y) :
    ∃ l : List Int, isCells (l.map intC) v W ∧ l.length ≤ maxLen ∧ (∀ x ∈ l, (Lit.int .i64 x).wf = true) := by
  rcases open_ints Tryz.underlying23 Tryz.underlying3 (by kernel_rfl) g with ⟨hc, _⟩ | ⟨a, len, cap, zs, hc, _, hl, hm, hz, hx0, hcell, hs⟩
  · injection hc with hc _
    subst hc
    exact ⟨[], .inl ⟨rfl, rfl⟩, Nat.zero_le _, (fun s hs => by simp at hs)⟩
  · injection hc with hc _
    subst hc
    have hle : len ≤ zs.length := by rw [hz]; split <;> omega
    refine ⟨zs.take len, cells_came _ (by simp; omega) (fun i x hx => ?_), by simp; omega, (fun s h => hs s (List.mem_of_mem_take h))⟩
    have hi : i < len := by have := (List.getElem?_eq_some_iff.1 hx).1; simp at this; omega
    rw [hcell i (by omega)]
    rw [List.getElem?_map, List.getElem?_take, if_pos hi, List.getElem?_eq_getElem (by omega : i < zs.length)] at hx
    simp only [Option.map_some, Option.some.injEq] at hx
    rw [← hx]
    simp [List.getD_eq_getElem?_getD, show i < zs.length by omega, intC]
end
theorem wf_i64 {x : Int} (h : (Lit.int .i64 x).wf = true) : -9223372036854775808 ≤ x ∧ x ≤ 9223372036854775807 := by
  unfold Lit.wf at h
  rw [Bool.and_eq_true] at h
  exact ⟨of_decide_eq_true h.1, of_decide_eq_true h.2⟩
theorem wf_u64 {x : Int} (h : (Lit.int .u64 x).wf = true) : 0 ≤ x ∧ x ≤ 18446744073709551615 := by
  unfold Lit.wf at h
  rw [Bool.and_eq_true] at h
  exact ⟨of_decide_eq_true h.1, of_decide_eq_true h.2⟩
/-- What a value that came in is. -/
structure CameV (A : Va) : Prop where
  kind : (Lit.int .i64 A.kind).wf = true
  time : (Lit.int .i64 A.time).wf = true
  node : (Lit.int .i64 A.node).wf = true
  text : A.text.length ≤ maxLen
  plus : ∀ x ∈ A.plus, (Lit.int .i64 x).wf = true
  minus : ∀ x ∈ A.minus, (Lit.int .i64 x).wf = true
  np : A.plus.length ≤ maxLen
  nm : A.minus.length ≤ maxLen
set_option maxRecDepth 100000 in
set_option maxHeartbeats 1000000 in
theorem open_va {W : World} {H : Type} {enc : TypeId × Value → H} {base b0 : Nat} {spare : Nat → Bool} {held : Bool} {v : Value} {d : DataW H} {p : List MemPlace} (hv : Value.okWide Tryz.prog W .any b0 40 v)
    (h : DataW.Trod enc Tryz.prog W base spare held 40 v d p) : ∃ A : Va, isVa A v W ∧ CameV A := by
  obtain ⟨⟨l⟩, rfl, hsz⟩ := okWide_struct Tryz.underlying40 hv
  have hl : l.length = 8 := hsz.trans (by kernel_rfl)
  match l, hl with
  | [v0, v1, v2, v3, v4, v5, v6, v7], _ =>
    obtain ⟨fuel, hf⟩ := h
    obtain ⟨xs, n, _, hxe, _, hxl, hg⟩ := DataW.trod_struct Tryz.underlying40 hf
    have at_ : ∀ i, i < 8 → ∃ y, xs[i]? = some y := fun i hi => ⟨_, List.getElem?_eq_getElem (by rw [hxl]; exact hi)⟩
    have c2 : Tryz.prog.cellsOf 23 = 1 := by kernel_rfl
    have c3 : Tryz.prog.cellsOf 3 = 1 := by kernel_rfl
    have c4 : Tryz.prog.cellsOf 9 = 1 := by kernel_rfl
    have c5 : Tryz.prog.cellsOf 4 = 1 := by kernel_rfl
    have c6 : Tryz.prog.cellsOf 38 = 1 := by kernel_rfl
    obtain ⟨y0, e0⟩ := at_ 0 (by decide)
    obtain ⟨y1, e1⟩ := at_ 1 (by decide)
    obtain ⟨y2, e2⟩ := at_ 2 (by decide)
    obtain ⟨y3, e3⟩ := at_ 3 (by decide)
    obtain ⟨y4, e4⟩ := at_ 4 (by decide)
    obtain ⟨y5, e5⟩ := at_ 5 (by decide)
    obtain ⟨y6, e6⟩ := at_ 6 (by decide)
    obtain ⟨y7, e7⟩ := at_ 7 (by decide)
    have g0 := hg 0 _ rfl
    have g1 := hg 1 _ rfl
    have g2 := hg 2 _ rfl
    have g3 := hg 3 _ rfl
    have g4 := hg 4 _ rfl
    have g5 := hg 5 _ rfl
    have g6 := hg 6 _ rfl
    have g7 := hg 7 _ rfl
    simp only [Value.cells, c2, c3, c4, c5, c6, List.drop_zero, List.drop_succ_cons, List.take_succ_cons, List.take_zero] at g0 g1 g2 g3 g4 g5 g6 g7
    rw [e0] at g0
    rw [e1] at g1
    rw [e2] at g2
    rw [e3] at g3
    rw [e4] at g4
    rw [e5] at g5
    rw [e6] at g6
    rw [e7] at g7
    obtain ⟨kind, h0, _, w0⟩ := DataW.trod_int Tryz.underlying3 g0
    obtain ⟨time, h1, _, w1⟩ := DataW.trod_int Tryz.underlying3 g1
    obtain ⟨node, h2, _, w2⟩ := DataW.trod_int Tryz.underlying3 g2
    obtain ⟨dead, h3, _⟩ := DataW.trod_bool Tryz.underlying4 g3
    obtain ⟨text, h4, _, w4⟩ := DataW.trod_string Tryz.underlying9 g4
    obtain ⟨plus, hp, hpn, hpw⟩ := open_row g5
    obtain ⟨minus, hm, hmn, hmw⟩ := open_row g6
    obtain ⟨flags, h7, _, w7⟩ := DataW.trod_int Tryz.underlying38 g7
    injection h0 with h0 _
    injection h1 with h1 _
    injection h2 with h2 _
    injection h3 with h3 _
    injection h4 with h4 _
    injection h7 with h7 _
    subst h0 h1 h2 h3 h4 h7
    have b7 := wf_u64 w7
    have f7 : ((UInt64.ofNat flags.toNat).toNat : Int) = flags := by
      rw [UInt64.toNat_ofNat_of_lt' (by show flags.toNat < 18446744073709551616; omega)]
      omega
    refine ⟨⟨kind, time, node, dead, text.data.toList, plus, minus, UInt64.ofNat flags.toNat⟩, ⟨v5, v6, ?_, hp, hm⟩, ⟨w0, w1, w2, by simpa using w4, hpw, hmw, hpn, hmn⟩⟩
    show Value.agg #[.int .i64 kind, .int .i64 time, .int .i64 node, .bool dead, .string text, v5, v6, .int .u64 flags] = .agg #[.int .i64 kind, .int .i64 time, .int .i64 node, .bool dead, .string ⟨text.data.toList.toArray⟩, v5, v6, .int .u64 ((UInt64.ofNat flags.toNat).toNat : Int)]
    rw [f7, ← str_eta]
theorem joinE_self (A : Va) : (joinE A A == 0) = okV A := by
  unfold joinE
  cases okV A <;> simp
theorem checkV_zero (A : Va) : (checkV A == 0) = okV A := by
  unfold checkV
  cases okV A <;> simp
theorem joinE_no {A B : Va} (h : okV A = false) : (joinE A B == 0) = false := by
  unfold joinE
  rw [h]
  rfl
theorem joinE_no2 {A B : Va} (h : okV B = false) : (joinE A B == 0) = false := by
  unfold joinE
  rw [h, Bool.and_false]
  rfl
end Go.Proofs.YtmbnhlhanckkiaaGreat
end
section
namespace Go.Proofs.YtmbnhlhanckkiaaGreat
open Go.RowKit
set_option linter.unusedVariables false
set_option linter.unusedSimpArgs false
attribute [local irreducible] setN

def noCountB (A : Va) : Bool := decide (A.plus.length + A.minus.length = 0)
def noRegB (A : Va) : Bool := (A.time == 0) && (A.node == 0) && !A.dead && A.text.isEmpty
set_option maxRecDepth 20000 in
set_option maxHeartbeats 1000000 in
theorem noCount_any (A : Va) (v : Value) (w : World) (hv : isVa A v w) (hF : Fit A) :
    Calls Tryz.prog 140 #[v] w fun e w' => e = .returned (.bool (noCountB A)) ∧ Below w.heap.size w w' := by
  obtain ⟨vp, vm, rfl, hp, hm⟩ := hv
  obtain ⟨hB, _⟩ := vbox w A vp vm hp hm w.heap.size rfl
  obtain ⟨a, cap, rfl⟩ := hp.len
  obtain ⟨a2, cap2, rfl⟩ := hm.len
  clear hp hm
  rw [List.length_map, List.length_map] at *
  have h1 := hF.plus
  have h2 := hF.minus
  have HS := Kept.mk (show noCountB A = ((A.plus.length : Int) + (A.minus.length : Int) == 0) by unfold noCountB; rw [Bool.eq_iff_iff, decide_eq_true_eq, beq_iff_eq]; omega)
  generalize A.plus.length = n1 at *
  generalize A.minus.length = n2 at *
  go_enter Tryz.func140, Tryz.ntmps140
  go_wp2
  go_ret
  exact ⟨by rw [HS.out]; rfl, hB.out⟩
set_option maxRecDepth 20000 in
set_option maxHeartbeats 1000000 in
theorem noReg_any (A : Va) (v : Value) (w : World) (hv : isVa A v w) :
    Calls Tryz.prog 142 #[v] w fun e w' => e = .returned (.bool (noRegB A)) ∧ Below w.heap.size w w' := by
  obtain ⟨vp, vm, rfl, hp, hm⟩ := hv
  obtain ⟨hB, _⟩ := vbox w A vp vm hp hm w.heap.size rfl
  clear hp hm
  have HS := Kept.mk (show noRegB A = ((A.time == 0) && (A.node == 0) && !A.dead && A.text.isEmpty) from rfl)
  cases d0 : (A.time == 0) with
  | false =>
    go_enter Tryz.func142, Tryz.ntmps142
    go_wp2
    go_ret
    exact ⟨by rw [HS.out, d0]; rfl, hB.out⟩
  | true =>
    cases d1 : (A.node == 0) with
    | false =>
      go_enter Tryz.func142, Tryz.ntmps142
      go_wp2
      go_ret
      exact ⟨by rw [HS.out, d0, d1]; rfl, hB.out⟩
    | true =>
      cases d2 : A.dead with
      | true =>
        rw [d2] at hB
        go_enter Tryz.func142, Tryz.ntmps142
        go_wp2
        go_ret
        exact ⟨by rw [HS.out, d0, d1, d2]; rfl, hB.out⟩
      | false =>
        rw [d2] at hB
        go_enter Tryz.func142, Tryz.ntmps142
        go_wp2
        go_ret
        exact ⟨by rw [HS.out, d0, d1, d2]; rfl, hB.out⟩
set_option maxRecDepth 20000 in
set_option maxHeartbeats 1000000 in
theorem counts_any (l : List Int) (v : Value) (w : World) (hv : isCells (l.map intC) v w) (hl : l.length ≤ 1000000) :
    Calls Tryz.prog 141 #[v] w fun e w' => e = .returned (.bool (okRow l)) ∧ w = w' := by
  obtain ⟨a, cap, hva⟩ := hv.len
  rw [List.length_map] at hva
  subst hva
  have HV := Kept.mk hv
  clear hv
  go_enter Tryz.func141, Tryz.ntmps141
  go_wp2
  go_loop [3] (fun i => ∃ k : Nat, k ≤ l.length ∧ i = .int .i64 (k : Int) ∧ Kept ((l.take k).all okNum = true)) (fun i => l.length - (intOf i).toNat)
  case atStart => exact ⟨0, Nat.zero_le _, rfl, ⟨rfl⟩⟩
  case round =>
    obtain ⟨k, hk, rfl, HB⟩ := hrel
    by_cases hlt : k < l.length
    · obtain ⟨b, off, cap', hs, hb, hc⟩ := HV.out.some_ (by rw [List.length_map]; omega)
      rw [List.length_map] at hs
      injection hs with h1 h2 h3
      subst h1 h3
      have hcell := hc k _ (get_map intC l k hlt)
      have HD := Kept.mk (show (l.take (k + 1)).all okNum = ((l.take k).all okNum && okNum l[k]) by rw [List.take_succ_eq_append_getElem hlt, List.all_append]; simp)
      have HM := Kept.mk (List.getElem_mem hlt)
      obtain ⟨x, hx⟩ : ∃ x, x = l[k] := ⟨_, rfl⟩
      rw [← hx] at hcell HD HM
      unfold intC at hcell
      clear hc hx
      have d0 : decide ((k : Int) < (l.length : Int)) = true := by simp; omega
      have bad : okNum x = false → okRow l = false := fun h => by
        unfold okRow
        rw [Bool.and_eq_false_iff]
        right
        rw [List.all_eq_false]
        exact ⟨x, HM.out, by rw [h]; simp⟩
      by_cases hz : x < 0
      · have d : decide (x < 0) = true := by simpa using hz
        have HR := Kept.mk (bad (by unfold okNum; simp; omega))
        clear hz bad
        go_wp2
        all_goals go_ret
        all_goals exact ⟨by rw [HR.out]; rfl, rfl⟩
      · have d : decide (x < 0) = false := by simpa using hz
        by_cases hy : 65535 < x
        · have d2 : decide (65535 < x) = true := by simpa using hy
          have HR := Kept.mk (bad (by unfold okNum; simp; omega))
          clear hz hy bad
          go_wp2
          all_goals go_ret
          all_goals exact ⟨by rw [HR.out]; rfl, rfl⟩
        · have d2 : decide (65535 < x) = false := by simpa using hy
          have HR := Kept.mk (show (l.take (k + 1)).all okNum = true by rw [HD.out, HB.out, Bool.true_and]; unfold okNum; simp; omega)
          clear hz hy bad
          go_wp2
          all_goals go_round
          case rel => exact ⟨k + 1, by omega, by go_num, HR⟩
          case measure => simp [intOf]; omega
    · have HR := Kept.mk (show okRow l = ((l.length : Int) == 8) by
        have := HB.out
        rw [List.take_of_length_le (by omega)] at this
        unfold okRow
        rw [this, Bool.and_true, Bool.eq_iff_iff]
        simp
        omega)
      have d0 : decide ((k : Int) < (l.length : Int)) = false := by simp; omega
      go_wp2
      go_ret
      exact ⟨by rw [HR.out]; rfl, rfl⟩
theorem flags_zero (fl : UInt64) : fl = 0 ↔ (fl.toNat : Int) = 0 := by
  rw [← UInt64.toNat_inj]
  simp
theorem beq_nil (l : List UInt8) : (l == []) = l.isEmpty := by cases l <;> rfl
theorem ok_regs (A : Va) (h : A.kind = 1) : okV A = (decide (0 ≤ A.time) && decide (A.time ≤ 2147483647) && decide (0 ≤ A.node) && decide (A.node ≤ 7) && decide ((A.text.length : Int) ≤ 8) && (!A.dead || A.text.isEmpty) && noCountB A && ((A.flags.toNat : Int) == 0)) := by
  rw [Bool.eq_iff_iff]
  constructor
  · intro ho
    obtain ⟨r1, r2⟩ := ok_reg ho h
    have e1 : A.plus = [] := congrArg Va.plus r2
    have e2 : A.minus = [] := congrArg Va.minus r2
    have e3 : A.flags = 0 := congrArg Va.flags r2
    unfold inReg at r1
    rw [beq_nil] at r1
    simp only [Bool.and_eq_true, decide_eq_true_eq] at r1
    obtain ⟨⟨⟨⟨c1, c2⟩, ⟨c3, c4⟩⟩, c5⟩, c6⟩ := r1
    simp only [Bool.and_eq_true, decide_eq_true_eq]
    exact ⟨⟨⟨⟨⟨⟨⟨c1, c2⟩, c3⟩, c4⟩, c5⟩, c6⟩, by unfold noCountB; rw [e1, e2]; rfl⟩, by rw [e3]; rfl⟩
  · intro hh
    simp only [Bool.and_eq_true, decide_eq_true_eq] at hh
    obtain ⟨⟨⟨⟨⟨⟨⟨c1, c2⟩, c3⟩, c4⟩, c5⟩, c6⟩, c7⟩, c8⟩ := hh
    unfold noCountB at c7
    simp only [decide_eq_true_eq] at c7
    have e1 : A.plus = [] := List.eq_nil_of_length_eq_zero (by omega)
    have e2 : A.minus = [] := List.eq_nil_of_length_eq_zero (by omega)
    have e3 : A.flags = 0 := (flags_zero _).2 (by simpa using c8)
    refine reg_ok h ?_ ?_
    · unfold inReg
      rw [beq_nil]
      simp only [Bool.and_eq_true, decide_eq_true_eq]
      exact ⟨⟨⟨⟨c1, c2⟩, ⟨c3, c4⟩⟩, c5⟩, c6⟩
    · unfold onlyReg
      obtain ⟨k, t, n, d, tx, p, mi, fl⟩ := A
      simp only at h e1 e2 e3
      subst h e1 e2 e3
      rfl
theorem ok_counts (A : Va) (h : A.kind = 2) : okV A = (okRow A.plus && okRow A.minus && noRegB A && ((A.flags.toNat : Int) == 0)) := by
  rw [Bool.eq_iff_iff]
  constructor
  · intro ho
    obtain ⟨r1, r2⟩ := ok_count ho h
    have e1 : A.time = 0 := congrArg Va.time r2
    have e2 : A.node = 0 := congrArg Va.node r2
    have e3 : A.flags = 0 := congrArg Va.flags r2
    have e4 : A.dead = false := congrArg Va.dead r2
    have e5 : A.text = [] := congrArg Va.text r2
    unfold inCount at r1
    rw [r1, e3]
    unfold noRegB
    rw [e1, e2, e4, e5]
    rfl
  · intro hh
    simp only [Bool.and_eq_true] at hh
    obtain ⟨⟨⟨c1, c2⟩, c3⟩, c8⟩ := hh
    unfold noRegB at c3
    simp only [Bool.and_eq_true, beq_iff_eq] at c3
    obtain ⟨⟨⟨e1, e2⟩, e4⟩, e5⟩ := c3
    have e3 : A.flags = 0 := (flags_zero _).2 (by simpa using c8)
    refine count_ok h (by unfold inCount; rw [c1, c2]; rfl) ?_
    unfold onlyCount
    obtain ⟨k, t, n, d, tx, p, mi, fl⟩ := A
    simp only at h e1 e2 e3 e4 e5
    have e4' : d = false := by simpa using e4
    have e5' : tx = [] := by simpa using e5
    subst h e1 e2 e3 e4' e5'
    rfl
theorem ok_flagss (A : Va) (h : A.kind = 3) : okV A = (noRegB A && noCountB A) := by
  rw [Bool.eq_iff_iff]
  constructor
  · intro ho
    have r2 := ok_flags ho h
    have e1 : A.time = 0 := congrArg Va.time r2
    have e2 : A.node = 0 := congrArg Va.node r2
    have e4 : A.dead = false := congrArg Va.dead r2
    have e5 : A.text = [] := congrArg Va.text r2
    have e6 : A.plus = [] := congrArg Va.plus r2
    have e7 : A.minus = [] := congrArg Va.minus r2
    unfold noRegB noCountB
    rw [e1, e2, e4, e5, e6, e7]
    rfl
  · intro hh
    simp only [Bool.and_eq_true] at hh
    obtain ⟨c3, c7⟩ := hh
    unfold noRegB at c3
    simp only [Bool.and_eq_true, beq_iff_eq] at c3
    obtain ⟨⟨⟨e1, e2⟩, e4⟩, e5⟩ := c3
    unfold noCountB at c7
    simp only [decide_eq_true_eq] at c7
    have e6 : A.plus = [] := List.eq_nil_of_length_eq_zero (by omega)
    have e7 : A.minus = [] := List.eq_nil_of_length_eq_zero (by omega)
    refine flags_ok h ?_
    unfold onlyFlags
    obtain ⟨k, t, n, d, tx, p, mi, fl⟩ := A
    simp only at h e1 e2 e4 e5 e6 e7
    have e4' : d = false := by simpa using e4
    have e5' : tx = [] := by simpa using e5
    subst h e1 e2 e4' e5' e6 e7
    rfl
set_option maxRecDepth 20000 in
set_option maxHeartbeats 1000000 in
theorem rcheck_reg (A : Va) (v : Value) (w : World) (hv : isVa A v w) (hF : Fit A) (hk : A.kind = 1) :
    Calls Tryz.prog 132 #[v] w fun e w' => e = .returned (.bool (okV A)) ∧ Below w.heap.size w w' := by
  obtain ⟨vp, vm, rfl, hp, hm⟩ := hv
  obtain ⟨hB, hV⟩ := vbox w A vp vm hp hm w.heap.size rfl
  have HP := Kept.mk (stable_cells _ _ _ _ hp hB.out)
  have HM := Kept.mk (stable_cells _ _ _ _ hm hB.out)
  have HXa := Kept.mk (show isVa A (.agg #[.int .i64 A.kind, .int .i64 A.time, .int .i64 A.node, .bool A.dead, .string ⟨A.text.toArray⟩, vp, vm, .int .u64 (A.flags.toNat : Int)]) (w.alloc (.cells #[.int .i64 A.kind, .int .i64 A.time, .int .i64 A.node, .bool A.dead, .string ⟨A.text.toArray⟩, vp, vm, .int .u64 (A.flags.toNat : Int)] 40)) from ⟨vp, vm, rfl, HP.out, HM.out⟩)
  clear hp hm
  have HS := Kept.mk (ok_regs A hk)
  have kk : (A.kind == 1) = true := by simpa using hk
  have hsz : (⟨A.text.toArray⟩ : ByteArray).size = A.text.length := size_mk _
  clear hk
  cases d0 : decide (0 ≤ A.time) with
  | false =>
    go_enter Tryz.func132, Tryz.ntmps132
    go_wp2
    all_goals go_ret
    all_goals exact ⟨by rw [HS.out, d0]; rfl, hB.out⟩
  | true =>
    cases d1 : decide (A.time ≤ 2147483647) with
    | false =>
      go_enter Tryz.func132, Tryz.ntmps132
      go_wp2
      all_goals go_ret
      all_goals exact ⟨by rw [HS.out, d0, d1]; rfl, hB.out⟩
    | true =>
      cases d2 : decide (0 ≤ A.node) with
      | false =>
        go_enter Tryz.func132, Tryz.ntmps132
        go_wp2
        all_goals go_ret
        all_goals exact ⟨by rw [HS.out, d0, d1, d2]; rfl, hB.out⟩
      | true =>
        cases d3 : decide (A.node ≤ 7) with
        | false =>
          go_enter Tryz.func132, Tryz.ntmps132
          go_wp2
          all_goals go_ret
          all_goals exact ⟨by rw [HS.out, d0, d1, d2, d3]; rfl, hB.out⟩
        | true =>
          cases d4 : decide ((A.text.length : Int) ≤ 8) with
          | false =>
            go_enter Tryz.func132, Tryz.ntmps132
            go_wp2
            all_goals go_ret
            all_goals exact ⟨by rw [HS.out, d0, d1, d2, d3, d4]; rfl, hB.out⟩
          | true =>
            cases dd : A.dead with
            | false =>
              rw [dd] at hB hV HXa HS
              have dd2 := Kept.mk dd
              clear dd
              go_enter Tryz.func132, Tryz.ntmps132
              go_wp2_with fail
              ((with_reducible refine (noCount_any A _ _ HXa.out hF).mono ?_); rintro e w1 ⟨rfl, hb1⟩)
              obtain ⟨q, r, -, -, -, k0, k1, k2, k3, k4, k5, k6, k7⟩ := (hV.out.keep hb1).open_
              replace hB := Kept.mk (hB.out.trans (hb1.mono hB.out.size))
              clear hb1
              cases dn : noCountB A with
              | false =>
                go_wp2
                all_goals go_ret
                all_goals exact ⟨by rw [HS.out, d0, d1, d2, d3, d4, dn]; rfl, hB.out⟩
              | true =>
                go_wp2
                all_goals go_ret
                all_goals exact ⟨by rw [HS.out, d0, d1, d2, d3, d4, dn]; rfl, hB.out⟩
            | true =>
              rw [dd] at hB hV HXa HS
              clear dd
              cases de : A.text.isEmpty with
              | false =>
                go_enter Tryz.func132, Tryz.ntmps132
                go_wp2
                all_goals go_ret
                all_goals exact ⟨by rw [HS.out, d0, d1, d2, d3, d4, de]; rfl, hB.out⟩
              | true =>
                go_enter Tryz.func132, Tryz.ntmps132
                go_wp2_with fail
                ((with_reducible refine (noCount_any A _ _ HXa.out hF).mono ?_); rintro e w1 ⟨rfl, hb1⟩)
                obtain ⟨q, r, -, -, -, k0, k1, k2, k3, k4, k5, k6, k7⟩ := (hV.out.keep hb1).open_
                replace hB := Kept.mk (hB.out.trans (hb1.mono hB.out.size))
                clear hb1
                cases dn : noCountB A with
                | false =>
                  go_wp2
                  all_goals go_ret
                  all_goals exact ⟨by rw [HS.out, d0, d1, d2, d3, d4, de, dn]; rfl, hB.out⟩
                | true =>
                  go_wp2
                  all_goals go_ret
                  all_goals exact ⟨by rw [HS.out, d0, d1, d2, d3, d4, de, dn]; rfl, hB.out⟩
set_option maxRecDepth 20000 in
set_option maxHeartbeats 1000000 in
theorem rcheck_count (A : Va) (v : Value) (w : World) (hv : isVa A v w) (hF : Fit A) (hk : A.kind = 2) :
    Calls Tryz.prog 132 #[v] w fun e w' => e = .returned (.bool (okV A)) ∧ Below w.heap.size w w' := by
  obtain ⟨vp, vm, rfl, hp, hm⟩ := hv
  obtain ⟨hB, hV⟩ := vbox w A vp vm hp hm w.heap.size rfl
  have HP := Kept.mk (stable_cells _ _ _ _ hp hB.out)
  have HM := Kept.mk (stable_cells _ _ _ _ hm hB.out)
  have HXa := Kept.mk (show isVa A (.agg #[.int .i64 A.kind, .int .i64 A.time, .int .i64 A.node, .bool A.dead, .string ⟨A.text.toArray⟩, vp, vm, .int .u64 (A.flags.toNat : Int)]) (w.alloc (.cells #[.int .i64 A.kind, .int .i64 A.time, .int .i64 A.node, .bool A.dead, .string ⟨A.text.toArray⟩, vp, vm, .int .u64 (A.flags.toNat : Int)] 40)) from ⟨vp, vm, rfl, HP.out, HM.out⟩)
  clear hp hm
  have HS := Kept.mk (ok_counts A hk)
  have kk : (A.kind == 1) = false := by rw [hk]; decide
  have kk2 : (A.kind == 2) = true := by rw [hk]; decide
  clear hk
  go_enter Tryz.func132, Tryz.ntmps132
  go_wp2_with fail
  ((with_reducible refine (counts_any A.plus _ _ HP.out hF.plus).mono ?_); rintro e w1 ⟨rfl, rfl⟩)
  cases d1 : okRow A.plus with
  | false =>
    go_wp2
    all_goals go_ret
    all_goals exact ⟨by rw [HS.out, d1]; rfl, hB.out⟩
  | true =>
    go_wp2_with fail
    ((with_reducible refine (counts_any A.minus _ _ HM.out hF.minus).mono ?_); rintro e w1 ⟨rfl, rfl⟩)
    cases d2 : okRow A.minus with
    | false =>
      go_wp2
      all_goals go_ret
      all_goals exact ⟨by rw [HS.out, d1, d2]; rfl, hB.out⟩
    | true =>
      go_wp2_with fail
      ((with_reducible refine (noReg_any A _ _ HXa.out).mono ?_); rintro e w1 ⟨rfl, hb1⟩)
      obtain ⟨q, r, -, -, -, k0, k1, k2, k3, k4, k5, k6, k7⟩ := (hV.out.keep hb1).open_
      replace hB := Kept.mk (hB.out.trans (hb1.mono hB.out.size))
      clear hb1
      cases dn : noRegB A with
      | false =>
        go_wp2
        all_goals go_ret
        all_goals exact ⟨by rw [HS.out, d1, d2, dn]; rfl, hB.out⟩
      | true =>
        go_wp2
        all_goals go_ret
        all_goals exact ⟨by rw [HS.out, d1, d2, dn]; rfl, hB.out⟩
set_option maxRecDepth 20000 in
set_option maxHeartbeats 1000000 in
theorem rcheck_flags (A : Va) (v : Value) (w : World) (hv : isVa A v w) (hF : Fit A) (hk : A.kind = 3) :
    Calls Tryz.prog 132 #[v] w fun e w' => e = .returned (.bool (okV A)) ∧ Below w.heap.size w w' := by
  obtain ⟨vp, vm, rfl, hp, hm⟩ := hv
  obtain ⟨hB, hV⟩ := vbox w A vp vm hp hm w.heap.size rfl
  have HP := Kept.mk (stable_cells _ _ _ _ hp hB.out)
  have HM := Kept.mk (stable_cells _ _ _ _ hm hB.out)
  have HXa := Kept.mk (show isVa A (.agg #[.int .i64 A.kind, .int .i64 A.time, .int .i64 A.node, .bool A.dead, .string ⟨A.text.toArray⟩, vp, vm, .int .u64 (A.flags.toNat : Int)]) (w.alloc (.cells #[.int .i64 A.kind, .int .i64 A.time, .int .i64 A.node, .bool A.dead, .string ⟨A.text.toArray⟩, vp, vm, .int .u64 (A.flags.toNat : Int)] 40)) from ⟨vp, vm, rfl, HP.out, HM.out⟩)
  clear hp hm
  have HS := Kept.mk (ok_flagss A hk)
  have kk : (A.kind == 1) = false := by rw [hk]; decide
  have kk2 : (A.kind == 2) = false := by rw [hk]; decide
  have kk3 : (A.kind == 3) = true := by rw [hk]; decide
  clear hk
  go_enter Tryz.func132, Tryz.ntmps132
  go_wp2_with fail
  ((with_reducible refine (noReg_any A _ _ HXa.out).mono ?_); rintro e w1 ⟨rfl, hb1⟩)
  obtain ⟨q, r, x1, -, -, k0, k1, k2, k3, k4, k5, k6, k7⟩ := (hV.out.keep hb1).open_
  have X1 := Kept.mk x1
  replace hB := Kept.mk (hB.out.trans (hb1.mono hB.out.size))
  clear hb1 x1
  cases dn : noRegB A with
  | false =>
    go_wp2
    all_goals go_ret
    all_goals exact ⟨by rw [HS.out, dn]; rfl, hB.out⟩
  | true =>
    go_wp2_with fail
    ((with_reducible refine (noCount_any A _ _ X1.out hF).mono ?_); rintro e w2 ⟨rfl, hb1⟩)
    replace hB := Kept.mk (hB.out.trans (hb1.mono hB.out.size))
    clear hb1 X1 k0 k1 k2 k3 k4 k5 k6 k7
    cases d2 : noCountB A with
    | false =>
      go_wp2
      all_goals go_ret
      all_goals exact ⟨by rw [HS.out, dn, d2]; rfl, hB.out⟩
    | true =>
      go_wp2
      all_goals go_ret
      all_goals exact ⟨by rw [HS.out, dn, d2]; rfl, hB.out⟩
set_option maxRecDepth 20000 in
set_option maxHeartbeats 1000000 in
theorem rcheck_none (A : Va) (v : Value) (w : World) (hv : isVa A v w) (hF : Fit A) (h1 : A.kind ≠ 1) (h2 : A.kind ≠ 2) (h3 : A.kind ≠ 3) :
    Calls Tryz.prog 132 #[v] w fun e w' => e = .returned (.bool (okV A)) ∧ Below w.heap.size w w' := by
  obtain ⟨vp, vm, rfl, hp, hm⟩ := hv
  obtain ⟨hB, hV⟩ := vbox w A vp vm hp hm w.heap.size rfl
  have HP := Kept.mk (stable_cells _ _ _ _ hp hB.out)
  have HM := Kept.mk (stable_cells _ _ _ _ hm hB.out)
  have HXa := Kept.mk (show isVa A (.agg #[.int .i64 A.kind, .int .i64 A.time, .int .i64 A.node, .bool A.dead, .string ⟨A.text.toArray⟩, vp, vm, .int .u64 (A.flags.toNat : Int)]) (w.alloc (.cells #[.int .i64 A.kind, .int .i64 A.time, .int .i64 A.node, .bool A.dead, .string ⟨A.text.toArray⟩, vp, vm, .int .u64 (A.flags.toNat : Int)] 40)) from ⟨vp, vm, rfl, HP.out, HM.out⟩)
  clear hp hm
  have HS := Kept.mk (show okV A = false by unfold okV kindN; rw [if_neg h1, if_neg h2, if_neg h3]; rfl)
  have kk : (A.kind == 1) = false := by simpa using h1
  have kk2 : (A.kind == 2) = false := by simpa using h2
  have kk3 : (A.kind == 3) = false := by simpa using h3
  clear h1 h2 h3
  go_enter Tryz.func132, Tryz.ntmps132
  go_wp2
  all_goals go_ret
  all_goals exact ⟨by rw [HS.out]; rfl, hB.out⟩
theorem rcheck_any (A : Va) (v : Value) (w : World) (hv : isVa A v w) (hF : Fit A) :
    Calls Tryz.prog 132 #[v] w fun e w' => e = .returned (.bool (okV A)) ∧ Below w.heap.size w w' := by
  by_cases h1 : A.kind = 1
  · exact rcheck_reg A v w hv hF h1
  · by_cases h2 : A.kind = 2
    · exact rcheck_count A v w hv hF h2
    · by_cases h3 : A.kind = 3
      · exact rcheck_flags A v w hv hF h3
      · exact rcheck_none A v w hv hF h1 h2 h3
end Go.Proofs.YtmbnhlhanckkiaaGreat
end
section
namespace Go.Proofs.YtmbnhlhanckkiaaGreat
open Go.RowKit
set_option linter.unusedVariables false
set_option linter.unusedSimpArgs false

noncomputable def refIntsops : Array Oper := regionOf Tryz.f56 6
set_option maxRecDepth 100000 in
theorem refInts_region (Q : Exit → Act → World → Prop) (a0 : Act) (w0 : World) (hsz : a0.tmps.size = 26) (b1 o1 c1 b2 o2 c2 n j : Nat) (x y : Int) (z : Bool)
    (e0 : a0.tmps.getD 0 undef = .slice (some ⟨b1, o1, none⟩) n c1) (e1 : a0.tmps.getD 1 undef = .slice (some ⟨b2, o2, none⟩) n c2) (e5 : a0.tmps.getD 5 undef = .int .i64 (j : Int)) (hj : j < n)
    (p1 : w0.cell? ⟨b1, o1 + j, none⟩ = some (.int .i64 x)) (l1 : b1 < w0.heap.size) (p2 : w0.cell? ⟨b2, o2 + j, none⟩ = some (.int .i64 y)) (l2 : b2 < w0.heap.size) (hz : (x != y) = z)
    (hQ : ∀ (f : Nat → Value) (w : World), f 25 = .bool z → Below w0.heap.size w0 w → Q .normal { tmps := [17, 18, 19, 20, 21, 22, 23, 24, 25].foldl (fun t s => t.setIfInBounds s (f s)) a0.tmps, defers := a0.defers } w) :
    (Code.region 6 refIntsops true).wp Tryz.prog Q a0 w0 := by
  refine wp_region_flow mixed (by rw [hsz]; kernel_rfl) ?_
  rw [show refIntsops.size = 9 by kernel_rfl]
  refine ⟨isVal (.slice (some ⟨b1, o1, none⟩) n c1), step_move (.tmp 0) (by kernel_rfl) (wanted_none (by kernel_rfl)) (stable_val _) (knows_old 0 (.slice (some ⟨b1, o1, none⟩) n c1) (by kernel_rfl) e0), ?_⟩
  refine ⟨isVal (.int .i64 (j : Int)), step_move (.tmp 5) (by kernel_rfl) (wanted_none (by kernel_rfl)) (stable_val _) (knows_old 5 (.int .i64 (j : Int)) (by kernel_rfl) e5), ?_⟩
  refine ⟨isVal (.pointer (some ⟨b1, o1 + j, none⟩)), step_place 23 3 (.tmp 17) (.tmp 18) b1 o1 n c1 j (by kernel_rfl) (wanted_none (by kernel_rfl)) (knows_new (V := isVal (.slice (some ⟨b1, o1, none⟩) n c1)) 17 0 (by kernel_rfl) (by kernel_rfl) (by kernel_rfl)) (knows_new (V := isVal (.int .i64 (j : Int))) 18 1 (by kernel_rfl) (by kernel_rfl) (by kernel_rfl)) Tryz.underlying23 (by kernel_rfl) hj, ?_⟩
  refine ⟨isVal (.int .i64 x), step_read 3 (.tmp 19) ⟨b1, o1 + j, none⟩ (.int .i64 x) (by kernel_rfl) (wanted_none (by kernel_rfl)) (knows_new (V := isVal (.pointer (some ⟨b1, o1 + j, none⟩))) 19 2 (by kernel_rfl) (by kernel_rfl) (by kernel_rfl)) p1 l1 agg_int, ?_⟩
  refine ⟨isVal (.slice (some ⟨b2, o2, none⟩) n c2), step_move (.tmp 1) (by kernel_rfl) (wanted_none (by kernel_rfl)) (stable_val _) (knows_old 1 (.slice (some ⟨b2, o2, none⟩) n c2) (by kernel_rfl) e1), ?_⟩
  refine ⟨isVal (.int .i64 (j : Int)), step_move (.tmp 5) (by kernel_rfl) (wanted_none (by kernel_rfl)) (stable_val _) (knows_old 5 (.int .i64 (j : Int)) (by kernel_rfl) e5), ?_⟩
  refine ⟨isVal (.pointer (some ⟨b2, o2 + j, none⟩)), step_place 23 3 (.tmp 21) (.tmp 22) b2 o2 n c2 j (by kernel_rfl) (wanted_none (by kernel_rfl)) (knows_new (V := isVal (.slice (some ⟨b2, o2, none⟩) n c2)) 21 4 (by kernel_rfl) (by kernel_rfl) (by kernel_rfl)) (knows_new (V := isVal (.int .i64 (j : Int))) 22 5 (by kernel_rfl) (by kernel_rfl) (by kernel_rfl)) Tryz.underlying23 (by kernel_rfl) hj, ?_⟩
  refine ⟨isVal (.int .i64 y), step_read 3 (.tmp 23) ⟨b2, o2 + j, none⟩ (.int .i64 y) (by kernel_rfl) (wanted_none (by kernel_rfl)) (knows_new (V := isVal (.pointer (some ⟨b2, o2 + j, none⟩))) 23 6 (by kernel_rfl) (by kernel_rfl) (by kernel_rfl)) p2 l2 agg_int, ?_⟩
  refine ⟨isVal (.bool z), step_bin .neq 3 3 (.tmp 20) (.tmp 24) (.int .i64 x) (.int .i64 y) (.bool z) (by kernel_rfl) (wanted_none (by kernel_rfl)) (knows_new (V := isVal (.int .i64 x)) 20 3 (by kernel_rfl) (by kernel_rfl) (by kernel_rfl)) (knows_new (V := isVal (.int .i64 y)) 24 7 (by kernel_rfl) (by kernel_rfl) (by kernel_rfl)) (fun _ => rfl) (neq_int _ _ _ _ _ hz), ?_⟩
  intro a w hkp hb hd
  rw [kept_of hkp ((List.range 9).map fun i => some (i + 17)) [17, 18, 19, 20, 21, 22, 23, 24, 25] (by kernel_rfl) (by decide)]
  exact hQ (fun s => a.tmps.getD s undef) w (fdone_of (hd 8 (by rw [show refIntsops.size = 9 by kernel_rfl]; decide)) (t := 25) (V := isVal (.bool z)) (by kernel_rfl) (by kernel_rfl)) hb
set_option maxRecDepth 20000 in
set_option maxHeartbeats 1000000 in
theorem refInts_any (l m : List (Int)) (v u : Value) (w : World) (hv : isCells (l.map intC) v w) (hu : isCells (m.map intC) u w) (h1 : l.length ≤ 1000000000) (h2 : m.length ≤ 1000000000) :
    Calls Tryz.prog 56 #[v, u] w fun e w' => e = .returned (.bool (decide (l = m))) ∧ Below w.heap.size w w' := by
  by_cases hlen : l.length = m.length
  case neg =>
    obtain ⟨a, cap, rfl⟩ := hv.len
    obtain ⟨b, cap2, rfl⟩ := hu.len
    rw [List.length_map, List.length_map]
    have HN := Kept.mk (show decide (l = m) = false by simp; rintro rfl; exact hlen rfl)
    have d1 : ((l.length : Int) != (m.length : Int)) = true := by simp [bne]; omega
    clear hv hu hlen
    go_enter Tryz.func56, Tryz.ntmps56
    go_wp2
    go_ret
    exact ⟨by rw [HN.out]; rfl, Below.refl _ _⟩
  by_cases h0 : l = []
  · subst h0
    obtain rfl : m = [] := List.eq_nil_of_length_eq_zero (by simpa using hlen.symm)
    obtain ⟨a, cap, rfl⟩ := hv.len
    obtain ⟨b, cap2, rfl⟩ := hu.len
    clear hv hu
    simp only [List.map_nil, List.length_nil]
    go_enter Tryz.func56, Tryz.ntmps56
    go_wp2
    go_loop [5] (fun i => i = .int .i64 0) (fun _ => 0)
    case atStart => rfl
    case round =>
      subst hrel
      go_wp2
      go_ret
      exact ⟨by simp, Below.refl _ _⟩
  · have hl0 : 0 < l.length := List.length_pos_iff.2 h0
    obtain ⟨b1, o1, c1, hv', l1, hc1⟩ := hv.some_ (by simpa using hl0)
    obtain ⟨b2, o2, c2, hu', l2, hc2⟩ := hu.some_ (by rw [List.length_map]; omega)
    rw [List.length_map] at hv' hu'
    subst hv' hu'
    have HM := Kept.mk hlen
    have hmn : m.length = l.length := hlen.symm
    rw [hmn]
    obtain ⟨n, hn⟩ : ∃ n, n = l.length := ⟨_, rfl⟩
    have HN := Kept.mk hn
    rw [← hn] at h1 hl0 ⊢
    have HC1 := Kept.mk hc1
    have HC2 := Kept.mk hc2
    have hB : Below w.heap.size w w := Below.refl _ _
    clear hv hu hlen hmn hn hc1 hc2 h0
    go_enter Tryz.func56, Tryz.ntmps56
    go_wp2
    go_loopw [5] (fun i wr => ∃ j : Nat, j ≤ n ∧ i = .int .i64 (j : Int) ∧ Kept (l.take j = m.take j) ∧ Below w.heap.size w wr) (fun i _ => n - (intOf i).toNat)
    case atStart => exact ⟨0, Nat.zero_le _, rfl, ⟨rfl⟩, hB⟩
    case round =>
      clear hB
      obtain ⟨j, hj, rfl, HT, hB⟩ := hrel
      by_cases hlt : j < n
      · have d1 : decide ((j : Int) < (n : Int)) = true := by simpa using hlt
        have HA := Kept.mk (show j < l.length by rw [← HN.out]; exact hlt)
        have HB := Kept.mk (show j < m.length by rw [← HM.out, ← HN.out]; exact hlt)
        have q1 := Kept.mk ((hB.cell (p := ⟨b1, o1 + j, none⟩) l1).trans (HC1.out j _ (get_map intC l j HA.out)))
        have q2 := Kept.mk ((hB.cell (p := ⟨b2, o2 + j, none⟩) l2).trans (HC2.out j _ (get_map intC m j HB.out)))
        cases hz : (l[j]'HA.out != m[j]'HB.out) with
        | true =>
          have HR := Kept.mk (show decide (l = m) = false by
            simp only [decide_eq_false_iff_not]
            rintro rfl
            simp at hz)
          have HZ := Kept.mk hz
          clear hz
          go_wp2_with fail
          refine refInts_region _ _ _ rfl b1 o1 c1 b2 o2 c2 n j _ _ true rfl rfl rfl hlt q1.out (Nat.lt_of_lt_of_le l1 hB.size) q2.out (Nat.lt_of_lt_of_le l2 hB.size) HZ.out ?_
          clear q1 q2 HZ
          intro f9 W9 hg hb9
          replace hB := hB.trans (hb9.mono hB.size)
          clear hb9
          simp only [List.foldl_cons, List.foldl_nil, hg]
          generalize f9 17 = y17
          generalize f9 18 = y18
          generalize f9 19 = y19
          generalize f9 20 = y20
          generalize f9 21 = y21
          generalize f9 22 = y22
          generalize f9 23 = y23
          generalize f9 24 = y24
          clear hg
          simp only [List.setIfInBounds_toArray, List.set_cons_succ, List.set_cons_zero]
          go_wp2
          go_ret
          exact ⟨by rw [HR.out]; rfl, hB⟩
        | false =>
          have HR := Kept.mk (show l.take (j + 1) = m.take (j + 1) by
            rw [List.take_succ_eq_append_getElem HA.out, List.take_succ_eq_append_getElem HB.out, HT.out]
            simp at hz
            rw [hz])
          have HZ := Kept.mk hz
          clear hz HT
          go_wp2_with fail
          refine refInts_region _ _ _ rfl b1 o1 c1 b2 o2 c2 n j _ _ false rfl rfl rfl hlt q1.out (Nat.lt_of_lt_of_le l1 hB.size) q2.out (Nat.lt_of_lt_of_le l2 hB.size) HZ.out ?_
          clear q1 q2 HZ
          intro f9 W9 hg hb9
          replace hB := hB.trans (hb9.mono hB.size)
          clear hb9
          simp only [List.foldl_cons, List.foldl_nil, hg]
          generalize f9 17 = y17
          generalize f9 18 = y18
          generalize f9 19 = y19
          generalize f9 20 = y20
          generalize f9 21 = y21
          generalize f9 22 = y22
          generalize f9 23 = y23
          generalize f9 24 = y24
          clear hg
          simp only [List.setIfInBounds_toArray, List.set_cons_succ, List.set_cons_zero]
          go_wp2
          go_roundw
          case rel => exact ⟨j + 1, by omega, by go_num, HR, hB⟩
          case measure => simp [intOf]; omega
      · have d1 : decide ((j : Int) < (n : Int)) = false := by simp; omega
        have HR := Kept.mk (show decide (l = m) = true by
          have h := HT.out
          rw [List.take_of_length_le (by rw [← HN.out]; omega), List.take_of_length_le (by rw [← HM.out, ← HN.out]; omega)] at h
          simpa using h)
        go_wp2
        go_ret
        exact ⟨by rw [HR.out]; rfl, hB⟩
end Go.Proofs.YtmbnhlhanckkiaaGreat
end
section
namespace Go.Proofs.YtmbnhlhanckkiaaGreat
open Go.RowKit
set_option linter.unusedVariables false
set_option linter.unusedSimpArgs false
attribute [local irreducible] setN

theorem same_split2 (A B : Va) : decide (A = B) = ((A.kind == B.kind) && (A.time == B.time) && (A.node == B.node) && (A.dead == B.dead) && (A.text == B.text) && ((A.flags.toNat : Int) == (B.flags.toNat : Int)) && decide (A.plus = B.plus) && decide (A.minus = B.minus)) := by
  rw [same_split]
  generalize (A.kind == B.kind) = a
  generalize (A.time == B.time) = b
  generalize (A.node == B.node) = c
  generalize (A.dead == B.dead) = d
  generalize (A.text == B.text) = e
  generalize decide (A.plus = B.plus) = f
  generalize decide (A.minus = B.minus) = g
  generalize ((A.flags.toNat : Int) == (B.flags.toNat : Int)) = h
  cases a <;> cases b <;> cases c <;> cases d <;> cases e <;> cases f <;> cases g <;> cases h <;> rfl
set_option maxRecDepth 20000 in
set_option maxHeartbeats 2000000 in
theorem rsame_any (A B : Va) (v u : Value) (w : World) (hv : isVa A v w) (hu : isVa B u w) (hA : Fit A) (hC : Fit B) :
    Calls Tryz.prog 92 #[v, u] w fun e w' => e = .returned (.bool (decide (A = B))) ∧ Below w.heap.size w w' := by
  have hv0 := hv
  have hu0 := hu
  obtain ⟨pa, ma, rfl, hpa, hma⟩ := hv
  obtain ⟨pb, mb, rfl, hpb, hmb⟩ := hu
  obtain ⟨hB, Va⟩ := vbox w A pa ma hpa hma (w.heap.size) (by simp)
  obtain ⟨hBn, Vb⟩ := vbox (w.alloc (.cells #[.int .i64 A.kind, .int .i64 A.time, .int .i64 A.node, .bool A.dead, .string ⟨A.text.toArray⟩, pa, ma, .int .u64 (A.flags.toNat : Int)] 40)) B pb mb (stable_cells _ _ _ _ hpb hB.out) (stable_cells _ _ _ _ hmb hB.out) (w.heap.size + 1) (by simp)
  replace Va := Kept.mk (Va.out.keep hBn.out)
  replace hB := Kept.mk (hB.out.trans (hBn.out.mono hB.out.size))
  clear hBn
  clear hpa hma hpb hmb
  have HS := Kept.mk (same_split2 A B)
  have HA0 := Kept.mk (va_grow hv0 hB.out)
  have HU0 := Kept.mk (va_grow hu0 hB.out)
  clear hv0 hu0
  cases d0 : (A.kind == B.kind) with
  | false =>
    go_enter Tryz.func92, Tryz.ntmps92
    go_wp2
    all_goals go_ret
    all_goals exact ⟨by rw [HS.out, d0]; rfl, hB.out⟩
  | true =>
    cases d1 : (A.time == B.time) with
    | false =>
      go_enter Tryz.func92, Tryz.ntmps92
      go_wp2
      all_goals go_ret
      all_goals exact ⟨by rw [HS.out, d0, d1]; rfl, hB.out⟩
    | true =>
      cases d2 : (A.node == B.node) with
      | false =>
        go_enter Tryz.func92, Tryz.ntmps92
        go_wp2
        all_goals go_ret
        all_goals exact ⟨by rw [HS.out, d0, d1, d2]; rfl, hB.out⟩
      | true =>
        cases d3 : (A.dead == B.dead) with
        | false =>
          go_enter Tryz.func92, Tryz.ntmps92
          go_wp2
          all_goals go_ret
          all_goals exact ⟨by rw [HS.out, d0, d1, d2, d3]; rfl, hB.out⟩
        | true =>
          cases d4 : (A.text == B.text) with
          | false =>
            go_enter Tryz.func92, Tryz.ntmps92
            go_wp2
            all_goals go_ret
            all_goals exact ⟨by rw [HS.out, d0, d1, d2, d3, d4]; rfl, hB.out⟩
          | true =>
            cases d5 : ((A.flags.toNat : Int) == (B.flags.toNat : Int)) with
            | false =>
              go_enter Tryz.func92, Tryz.ntmps92
              go_wp2
              all_goals go_ret
              all_goals exact ⟨by rw [HS.out, d0, d1, d2, d3, d4, d5]; rfl, hB.out⟩
            | true =>
              go_enter Tryz.func92, Tryz.ntmps92
              go_wp2_with fail
              generalize (w.alloc (.cells #[.int .i64 A.kind, .int .i64 A.time, .int .i64 A.node, .bool A.dead, .string ⟨A.text.toArray⟩, pa, ma, .int .u64 (A.flags.toNat : Int)] 40)).alloc (.cells #[.int .i64 B.kind, .int .i64 B.time, .int .i64 B.node, .bool B.dead, .string ⟨B.text.toArray⟩, pb, mb, .int .u64 (B.flags.toNat : Int)] 40) = W0 at *
              obtain ⟨_, _, e1, e2, e3⟩ := HA0.out
              obtain ⟨_, _, e4, e5, e6⟩ := HU0.out
              cases e1
              cases e4
              ((with_reducible refine (refInts_any A.plus B.plus _ _ _ e2 e5 (by have := hA.plus; omega) (by have := hC.plus; omega)).mono ?_); rintro e W1 ⟨rfl, hb1⟩)
              replace hB := Kept.mk (hB.out.trans ((hb1).mono hB.out.size))
              replace Va := Kept.mk (Va.out.keep (hb1))
              replace Vb := Kept.mk (Vb.out.keep (hb1))
              clear hb1 e2 e3 e5 e6 HA0 HU0
              cases d6 : decide (A.plus = B.plus) with
              | false =>
                go_wp2
                all_goals go_ret
                all_goals exact ⟨by rw [HS.out, d0, d1, d2, d3, d4, d5, d6]; rfl, hB.out⟩
              | true =>
                obtain ⟨qa, ra, -, -, ma2, ka0, ka1, ka2, ka3, ka4, ka5, ka6, ka7⟩ := Va.out.open_
                obtain ⟨qb, rb, -, -, mb2, kb0, kb1, kb2, kb3, kb4, kb5, kb6, kb7⟩ := Vb.out.open_
                go_wp2_with fail
                ((with_reducible refine (refInts_any A.minus B.minus _ _ _ ma2.out mb2.out (by have := hA.minus; omega) (by have := hC.minus; omega)).mono ?_); rintro e W2 ⟨rfl, hb1⟩)
                clear ma2 mb2 ka0 ka1 ka2 ka3 ka4 ka5 ka6 ka7 kb0 kb1 kb2 kb3 kb4 kb5 kb6 kb7
                replace hB := Kept.mk (hB.out.trans ((hb1).mono hB.out.size))
                replace Va := Kept.mk (Va.out.keep (hb1))
                replace Vb := Kept.mk (Vb.out.keep (hb1))
                clear hb1
                obtain ⟨z, hz⟩ : ∃ z, z = decide (A.minus = B.minus) := ⟨_, rfl⟩
                rw [← hz] at HS ⊢
                clear hz
                go_wp2
                all_goals go_ret
                all_goals exact ⟨by rw [HS.out, d0, d1, d2, d3, d4, d5, d6]; rfl, hB.out⟩
theorem behind_split (A B : Va) : behindB A B = if A.time = B.time then (if A.node = B.node then (if A.dead = B.dead then (!(Op.bytesLess A.text B.text || A.text == B.text)) else A.dead) else decide (B.node < A.node)) else decide (B.time < A.time) := by
  rw [Bool.eq_iff_iff, behindB_iff]
  unfold Behind
  by_cases h1 : A.time = B.time
  · rw [if_pos h1]
    by_cases h2 : A.node = B.node
    · rw [if_pos h2]
      by_cases h3 : A.dead = B.dead
      · rw [if_pos h3]
        have e : (!(Op.bytesLess A.text B.text || A.text == B.text)) = Op.bytesLess B.text A.text := by
          cases a : Op.bytesLess A.text B.text with
          | true => rw [less_asymm a]; rfl
          | false =>
            cases b : Op.bytesLess B.text A.text with
            | true =>
              have : A.text ≠ B.text := by intro e; rw [e, less_irrefl] at b; cases b
              simp [this]
            | false => simp [less_total _ _ a b]
        rw [e]
        simp [h1, h2, h3]
      · rw [if_neg h3]
        cases ha : A.dead <;> cases hb : B.dead <;> simp [ha, hb] at h3 <;> simp [h1, h2, rankI]
    · rw [if_neg h2]
      simp [h1, h2]
  · rw [if_neg h1]
    simp [h1]
set_option maxRecDepth 20000 in
set_option maxHeartbeats 2000000 in
theorem rbehind_any (A B : Va) (v u : Value) (w : World) (hv : isVa A v w) (hu : isVa B u w) :
    Calls Tryz.prog 135 #[v, u] w fun e w' => e = .returned (.bool (behindB A B)) ∧ Below w.heap.size w w' := by
  obtain ⟨pa, ma, rfl, hpa, hma⟩ := hv
  obtain ⟨pb, mb, rfl, hpb, hmb⟩ := hu
  obtain ⟨hB, Va⟩ := vbox w A pa ma hpa hma (w.heap.size) (by simp)
  obtain ⟨hBn, Vb⟩ := vbox (w.alloc (.cells #[.int .i64 A.kind, .int .i64 A.time, .int .i64 A.node, .bool A.dead, .string ⟨A.text.toArray⟩, pa, ma, .int .u64 (A.flags.toNat : Int)] 40)) B pb mb (stable_cells _ _ _ _ hpb hB.out) (stable_cells _ _ _ _ hmb hB.out) (w.heap.size + 1) (by simp)
  replace Va := Kept.mk (Va.out.keep hBn.out)
  replace hB := Kept.mk (hB.out.trans (hBn.out.mono hB.out.size))
  clear hBn
  clear hpa hma hpb hmb
  have HS := Kept.mk (behind_split A B)
  clear Va Vb
  by_cases h1 : A.time = B.time
  case neg =>
    have d1 : (A.time == B.time) = false := by simpa using h1
    have HR := Kept.mk (show behindB A B = decide (B.time < A.time) by rw [HS.out, if_neg h1])
    clear h1 HS
    go_enter Tryz.func135, Tryz.ntmps135
    go_wp2
    all_goals go_ret
    all_goals exact ⟨by rw [HR.out]; rfl, hB.out⟩
  rw [if_pos h1] at HS
  have d1 : (A.time == B.time) = true := by simpa using h1
  clear h1
  by_cases h2 : A.node = B.node
  case neg =>
    have d2 : (A.node == B.node) = false := by simpa using h2
    have HR := Kept.mk (show behindB A B = decide (B.node < A.node) by rw [HS.out, if_neg h2])
    clear h2 HS
    go_enter Tryz.func135, Tryz.ntmps135
    go_wp2
    all_goals go_ret
    all_goals exact ⟨by rw [HR.out]; rfl, hB.out⟩
  rw [if_pos h2] at HS
  have d2 : (A.node == B.node) = true := by simpa using h2
  clear h2
  cases ha : A.dead with
  | false =>
    cases hb : B.dead with
    | false =>
      rw [ha, hb] at HS hB
      rw [if_pos rfl, Bool.not_or] at HS
      go_enter Tryz.func135, Tryz.ntmps135
      go_wp2
      all_goals go_ret
      all_goals exact ⟨by rw [HS.out]; rfl, hB.out⟩
    | true =>
      rw [ha, hb] at HS hB
      rw [if_neg (by decide)] at HS
      go_enter Tryz.func135, Tryz.ntmps135
      go_wp2
      all_goals go_ret
      all_goals exact ⟨by rw [HS.out]; rfl, hB.out⟩
  | true =>
    cases hb : B.dead with
    | false =>
      rw [ha, hb] at HS hB
      rw [if_neg (by decide)] at HS
      go_enter Tryz.func135, Tryz.ntmps135
      go_wp2
      all_goals go_ret
      all_goals exact ⟨by rw [HS.out]; rfl, hB.out⟩
    | true =>
      rw [ha, hb] at HS hB
      rw [if_pos rfl, Bool.not_or] at HS
      go_enter Tryz.func135, Tryz.ntmps135
      go_wp2
      all_goals go_ret
      all_goals exact ⟨by rw [HS.out]; rfl, hB.out⟩
end Go.Proofs.YtmbnhlhanckkiaaGreat
end
section
namespace Go.Proofs.YtmbnhlhanckkiaaGreat
open Go.RowKit
set_option linter.unusedVariables false
set_option linter.unusedSimpArgs false

/-- What may happen to memory. -/
structure Pre (R : World → World → Prop) : Prop where
  refl : ∀ w, R w w
  trans : ∀ a b c, R a b → R b c → R a c
  grow : ∀ w w', Below w.heap.size w w' → R w w'
  drew : ∀ w, R w w.drew
/-- What the first k operations do not write is as it was. -/
def FKeptN (ops : Array Oper) (k : Nat) (a0 a : Act) : Prop := a.defers = a0.defers ∧ a.tmps.size = a0.tmps.size ∧ ∀ t, ((List.range k).all fun i => (ops[i]?).all fun o => o.dst != some t) = true → a.tmps.getD t undef = a0.tmps.getD t undef
theorem FKeptN.f {ops : Array Oper} {k : Nat} {a0 a : Act} (h : FKeptN ops k a0 a) : FKept ops a0 a := by
  refine ⟨h.1, h.2.1, fun t ht => h.2.2 t ?_⟩
  rw [List.all_eq_true]
  intro i _
  cases ho : ops[i]? with
  | none => rfl
  | some o => exact List.all_eq_true.1 ht o (by rw [Array.mem_toList_iff]; exact Array.mem_of_getElem? ho)
def StableR (R : World → World → Prop) (V : VP) : Prop := ∀ v w w', V v w → R w w' → V v w'

section
variable (R : World → World → Prop) (P : Program) (ops : Array Oper) (base : World) (a0 : Act) (Q : Exit → Act → World → Prop)
/-- What operation j yielded, or did, is as it should be. -/
def RDone (kn : Nat → VP) (a : Act) (w : World) (j : Nat) : Prop := ∀ o, ops[j]? = some o → kn j (match o.dst with | some t => a.tmps.getD t undef | none => undef) w
def RDeps (kn : Nat → VP) (i : Nat) (a : Act) (w : World) : Prop := ∀ o, ops[i]? = some o → ∀ e ∈ o.after.toList, Region.binds .any e = true → RDone ops kn a w e.on
def RStep (k0 : Nat) (kn : Nat → VP) (i : Nat) (V : VP) : Prop := StableR R V ∧ ∀ o, ops[i]? = some o → ∀ a w, FKeptN ops k0 a0 a → R base w → RDeps ops kn i a w →
  wpOp P ops Q i (fun a' w' => ∃ v, a' = a.put o.dst v ∧ (o.dst = none → v = undef) ∧ V v w' ∧ R w w') a w
def RelTail (k0 c : Nat) : Nat → Nat → (Nat → VP) → Prop
  | 0, _, kn => ∀ a w, FKeptN ops k0 a0 a → R base w → (∀ j, j < k0 → RDone ops kn a w j) → Tail P ops Q c k0 a w
  | k + 1, i, kn => ∃ V, RStep R P ops base a0 Q k0 kn i V ∧ RelTail k0 c k (i + 1) (upd kn i V)
end

section
variable {R : World → World → Prop} {P : Program} {ops : Array Oper} {base : World} {a0 : Act} {Q : Exit → Act → World → Prop}
theorem rdone_congr {kn kn' : Nat → VP} {a : Act} {w : World} {j : Nat} (h : kn j = kn' j) (hd : RDone ops kn a w j) : RDone ops kn' a w j := by
  intro o ho
  rw [← h]
  exact hd o ho
theorem rdone_f {kn : Nat → VP} {a : Act} {w : World} {j : Nat} (h : RDone ops kn a w j) : FDone ops kn a w j := by
  intro o ho t ht
  have := h o ho
  rwa [ht] at this
/-- An operation that only reads, or makes memory. -/
theorem RStep.of {k0 : Nat} {kn : Nat → VP} {i : Nat} {V : VP} (hR : Pre R) (hst : StableR R V) (hd : ((ops[i]?).bind (·.dst)).isSome = true) (h : ∀ w, R base w → FStep P ops w a0 Q kn i V) : RStep R P ops base a0 Q k0 kn i V := by
  refine ⟨hst, fun o ho a w hk hb hdp => ?_⟩
  refine wpOp_mono ?_ ((h w hb).2 o ho a w hk.f (Below.refl _ _) (fun o' ho' e he hbd => rdone_f (hdp o' ho' e he hbd)))
  rintro a' w' ⟨v, e, hV, hbw⟩
  refine ⟨v, e, fun hn => ?_, hV, hR.grow _ _ hbw⟩
  rw [ho] at hd
  simp [hn] at hd

theorem wpAny_relTail {k0 : Nat} (hR : Pre R) (hok : flowOk ops a0.tmps.size = true) (ht : tailOk ops k0 = true) {kn : Nat → VP} (hs : ∀ m, m < k0 → RStep R P ops base a0 Q k0 kn m (kn m))
    (he : RelTail R P ops base a0 Q k0 (ops.size - k0) 0 k0 kn) :
    ∀ (u fuel : Nat) (listed : Array Bool) (a : Act) (w : World), listed.size = ops.size → ((List.range k0).filter fun i => !listed.getD i false).length ≤ u → u + (ops.size - k0) ≤ fuel → (∀ j, k0 ≤ j → listed.getD j false = false) →
      FKeptN ops k0 a0 a → R base w → (∀ j, listed.getD j false = true → RDone ops kn a w j) → wpAny P .any ops Q fuel listed a w := by
  obtain ⟨ok1, ok2, ok3⟩ := flowOk_spec hok
  have hk0 : k0 ≤ ops.size := by unfold tailOk at ht; simp only [Bool.and_eq_true, decide_eq_true_eq] at ht; exact ht.1
  have tk : ∀ j, j < ops.size → k0 < j → waits ops j (j - 1) = true := by
    intro j hj hk
    unfold tailOk at ht
    simp only [Bool.and_eq_true, List.all_eq_true, List.mem_range] at ht
    have := ht.2 j hj
    rwa [if_neg (by omega), if_neg (by omega)] at this
  have tk0 : ∀ m, k0 < ops.size → m < k0 → waits ops k0 m = true := by
    intro m hj hk
    unfold tailOk at ht
    simp only [Bool.and_eq_true, List.all_eq_true, List.mem_range] at ht
    have := ht.2 k0 hj
    rw [if_neg (by omega), if_pos rfl] at this
    exact List.all_eq_true.1 this m (by simpa using hk)
  intro u
  induction u with
  | zero =>
    intro fuel listed a w hl hu hf htl hk hb hd
    have hall : ∀ j, j < k0 → listed.getD j false = true := by
      intro j hj
      have h0 : ((List.range k0).filter fun i => !listed.getD i false) = [] := List.eq_nil_of_length_eq_zero (by omega)
      rw [List.filter_eq_nil_iff] at h0
      have := h0 j (by simpa using hj)
      simpa using this
    refine wpAny_tail hok ht (ops.size - k0) k0 fuel listed a w (by omega) (Nat.le_refl _) (by omega) hl ?_ (he a w hk hb (fun j hj => hd j (hall j hj)))
    intro j hj
    by_cases e : j < k0
    · rw [hall j e]; simp [e]
    · rw [htl j (by omega)]; simp [e]
  | succ u ih =>
    intro fuel listed a w hl hu hf htl hk hb hd
    by_cases hall : ∀ j, j < k0 → listed.getD j false = true
    · refine wpAny_tail hok ht (ops.size - k0) k0 fuel listed a w (by omega) (Nat.le_refl _) (by omega) hl ?_ (he a w hk hb (fun j hj => hd j (hall j hj)))
      intro j hj
      by_cases e : j < k0
      · rw [hall j e]; simp [e]
      · rw [htl j (by omega)]; simp [e]
    · -- the least that is not yet done
      have hex : ∃ m, m < k0 ∧ listed.getD m false = false ∧ ∀ j, j < m → listed.getD j false = true := by
        have key : ∀ n, n ≤ k0 → (∀ j, j < n → listed.getD j false = true) ∨ ∃ m, m < n ∧ listed.getD m false = false ∧ ∀ j, j < m → listed.getD j false = true := by
          intro n
          induction n with
          | zero => intro _; exact .inl (fun j hj => absurd hj (by omega))
          | succ n ihn =>
            intro hn
            rcases ihn (by omega) with h | ⟨m, hm, h1, h2⟩
            · cases hc : listed.getD n false with
              | true => exact .inl (fun j hj => by by_cases e : j = n; exact e ▸ hc; exact h j (by omega))
              | false => exact .inr ⟨n, by omega, hc, h⟩
            · exact .inr ⟨m, by omega, h1, h2⟩
        rcases key k0 (Nat.le_refl _) with h | h
        · exact absurd h hall
        · exact h
      obtain ⟨m, hm, hmu, hmd⟩ := hex
      have hmem : m ∈ Region.ready .any ops listed := ready_of hok hl (by omega) hmu hmd
      cases fuel with
      | zero => omega
      | succ fuel =>
        refine ⟨fun hr => (by rw [hr] at hmem; cases hmem), fun i hi => ?_⟩
        have hiu := ready_un hl hi
        have hik : i < k0 := by
          by_cases e : i < k0
          · exact e
          · exfalso
            by_cases e2 : i = k0
            · subst e2
              have := waits_ready hi (tk0 m hiu.1 hm)
              rw [hmu] at this
              cases this
            · have := waits_ready hi (tk i hiu.1 (by omega))
              rw [htl (i - 1) (by omega)] at this
              cases this
        obtain ⟨o, ho⟩ : ∃ o, ops[i]? = some o := ⟨_, Array.getElem?_eq_getElem hiu.1⟩
        have hstep := (hs i hik).2 o ho a w hk hb (by
          intro o' ho' e he' hbd
          rw [ho] at ho'
          cases ho'
          refine hd e.on (waits_ready hi ?_)
          unfold waits
          rw [ho]
          simp only [Option.any_some, List.any_eq_true, Bool.and_eq_true, beq_iff_eq]
          exact ⟨e, he', rfl, hbd⟩)
        refine wpOp_mono ?_ hstep
        rintro a' w' ⟨v, rfl, hvn, hV, hbw⟩
        refine ih fuel (listed.setIfInBounds i true) _ w' (by simpa using hl) ?_ (by omega) ?_ ?_ (hR.trans _ _ _ hb hbw) ?_
        · have hsub : ((List.range k0).filter fun j => !(listed.setIfInBounds i true).getD j false).length < ((List.range k0).filter fun j => !listed.getD j false).length := by
            have e1 : ((List.range k0).filter fun j => !(listed.setIfInBounds i true).getD j false) = ((List.range k0).filter fun j => !listed.getD j false).filter (fun j => j != i) := by
              rw [List.filter_filter]
              apply List.filter_congr
              intro j hj
              by_cases e : j = i
              · subst e; rw [getD_set_same (by omega)]; simp
              · rw [getD_set_ne e]; simp [e]
            rw [e1]
            refine List.length_filter_lt_length_iff_exists.2 ⟨i, ?_, by simp⟩
            simp only [List.mem_filter, List.mem_range]
            exact ⟨hik, by rw [hiu.2]; rfl⟩
          omega
        · intro j hj
          rw [getD_set_ne (by omega)]
          exact htl j hj
        · refine ⟨by rw [defers_put]; exact hk.1, by rw [size_put]; exact hk.2.1, fun t ht' => ?_⟩
          cases hdst : o.dst with
          | none => simp only [Act.put]; exact hk.2.2 t ht'
          | some s =>
            have : s ≠ t := by
              rintro rfl
              have := List.all_eq_true.1 ht' i (by simpa using hik)
              rw [ho] at this
              simp [hdst] at this
            rw [getD_put (fun h => this h.symm)]
            exact hk.2.2 t ht'
        · intro j hj o' ho'
          by_cases e : j = i
          · subst e
            rw [ho] at ho'
            cases ho'
            cases hdst : o.dst with
            | none => rw [hvn hdst] at hV; exact hV
            | some t =>
              show kn j (_) w'
              simp only []
              rw [getD_put_self (by rw [hk.2.1]; exact ok3 j o t ho hdst)]
              exact hV
          · rw [getD_set_ne e] at hj
            have hold := hd j hj o' ho'
            have hjk : j < k0 := by
              by_cases e2 : j < k0
              · exact e2
              · rw [htl j (by omega)] at hj; cases hj
            refine (hs j hjk).1 _ _ _ ?_ hbw
            cases hdst' : o'.dst with
            | none => rw [hdst'] at hold; exact hold
            | some t =>
              rw [hdst'] at hold
              have hne : o.dst ≠ some t := fun hh => e (ok2 j i o' o t ho' ho hdst' hh)
              have hslot : (a.put o.dst v).tmps.getD t undef = a.tmps.getD t undef := by
                cases hdst : o.dst with
                | none => rfl
                | some s => exact getD_put (fun h => hne (by rw [hdst, h]))
              simp only [hslot]
              exact hold

theorem relTail_family {n k0 c : Nat} (hok : flowOk ops n = true) : ∀ k i kn, i + k = k0 → (∀ m, m < i → RStep R P ops base a0 Q k0 kn m (kn m)) → RelTail R P ops base a0 Q k0 c k i kn →
    ∃ kn', (∀ m, m < k0 → RStep R P ops base a0 Q k0 kn' m (kn' m)) ∧ RelTail R P ops base a0 Q k0 c 0 k0 kn'
  | 0, i, kn, hi, hs, hf => ⟨kn, fun m hm => hs m (by omega), hf⟩
  | k + 1, i, kn, hi, hs, ⟨V, hV, hf⟩ => by
    have agree : ∀ m, m ≠ i → upd kn i V m = kn m := fun m hm => by simp [upd, hm]
    have self : upd kn i V i = V := by simp [upd]
    have shift : ∀ m W, m ≤ i → RStep R P ops base a0 Q k0 kn m W → RStep R P ops base a0 Q k0 (upd kn i V) m W := by
      intro m W hm h
      refine ⟨h.1, fun o ho a w hk hb hd => h.2 o ho a w hk hb ?_⟩
      intro o' ho' e he hbd
      have hlt := (flowOk_spec hok).1 m o' ho' e he hbd
      exact rdone_congr (agree e.on (by omega)) (hd o' ho' e he hbd)
    refine relTail_family hok k (i + 1) (upd kn i V) (by omega) (fun m hm => ?_) hf
    by_cases hmi : m = i
    · subst hmi; rw [self]; exact shift m V (Nat.le_refl _) hV
    · rw [agree m hmi]; exact shift m _ (by omega) (hs m (by omega))

/-- THE LAW. -/
theorem wp_region_rel (hR : Pre R) (k0 : Nat) {id : Nat} {a : Act} {w : World} (hm : P.follows .mixedOrders = true) (hok : flowOk ops a.tmps.size = true) (ht : tailOk ops k0 = true)
    (h : RelTail R P ops w a Q k0 (ops.size - k0) k0 0 (fun _ _ _ => False)) : (Code.region id ops true).wp P Q a w := by
  refine wp_region_any hm ?_
  obtain ⟨kn, hs, he⟩ := relTail_family hok k0 0 _ (by omega) (fun m hm => absurd hm (by omega)) h
  have hk0 : k0 ≤ ops.size := by unfold tailOk at ht; simp only [Bool.and_eq_true, decide_eq_true_eq] at ht; exact ht.1
  refine wpAny_relTail hR hok ht hs he k0 ops.size _ a _ (by simp) ?_ (by omega) ?_ ⟨rfl, rfl, fun _ _ => rfl⟩ (hR.drew w) ?_
  · exact Nat.le_trans (List.length_filter_le _ _) (by simp)
  · intro j hj
    simp [Array.getD_eq_getD_getElem?, Array.getElem?_replicate]
    split <;> rfl
  · intro j hj
    simp [Array.getD_eq_getD_getElem?, Array.getElem?_replicate] at hj
    split at hj <;> simp at hj
end
end Go.Proofs.YtmbnhlhanckkiaaGreat
end
section
namespace Go.Proofs.YtmbnhlhanckkiaaGreat
open Go.RowKit
set_option linter.unusedVariables false
set_option linter.unusedSimpArgs false
/-- Each of the first ones is waited for by a later one of them, or by the first of the last ones; each other of these waits for the one ahead of it. -/
def tailOkC (ops : Array Oper) (k0 : Nat) : Bool :=
  decide (k0 ≤ ops.size) && (List.range ops.size).all fun j => if j < k0 then ((List.range (k0 + 1)).any fun i => decide (j < i) && waits ops i j) else if j = k0 then true else waits ops j (j - 1)
section
variable {P : Program} {ops : Array Oper} {base : World} {a0 : Act} {Q : Exit → Act → World → Prop}
theorem wpAny_tailC {n k0 : Nat} (hok : flowOk ops n = true) (ht : tailOkC ops k0 = true) : ∀ (c i fuel : Nat) (listed : Array Bool) (a : Act) (w : World), i + c = ops.size → k0 ≤ i → c ≤ fuel → listed.size = ops.size →
    (∀ j, j < ops.size → listed.getD j false = decide (j < i)) → Tail P ops Q c i a w → wpAny P .any ops Q fuel listed a w := by
  have tk : ∀ j, j < ops.size → k0 < j → waits ops j (j - 1) = true := by
    intro j hj hk
    unfold tailOkC at ht
    simp only [Bool.and_eq_true, List.all_eq_true, List.mem_range] at ht
    have := ht.2 j hj
    rwa [if_neg (by omega), if_neg (by omega)] at this
  intro c
  induction c with
  | zero =>
    intro i fuel listed a w hi hk hc hl hd h
    have hr : Region.ready .any ops listed = [] := by
      apply List.eq_nil_iff_forall_not_mem.2
      intro j hj
      have := ready_un hl hj
      rw [hd j this.1] at this
      simp at this
      omega
    cases fuel with
    | zero => exact ⟨hr, h⟩
    | succ fuel => exact ⟨fun _ => h, fun j hj => by rw [hr] at hj; cases hj⟩
  | succ c ih =>
    intro i fuel listed a w hi hk hc hl hd h
    cases fuel with
    | zero => omega
    | succ fuel =>
      have hmem : i ∈ Region.ready .any ops listed := ready_of hok hl (by omega) (by rw [hd i (by omega)]; simp) (fun j hj => by rw [hd j (by omega)]; simpa using hj)
      refine ⟨fun hr => (by rw [hr] at hmem; cases hmem), fun j hj => ?_⟩
      have hju := ready_un hl hj
      have hji : j = i := by
        rw [hd j hju.1] at hju
        have hge : i ≤ j := by simpa using hju.2
        by_cases e : j = i
        · exact e
        · exfalso
          have := waits_ready hj (tk j hju.1 (by omega))
          rw [hd (j - 1) (by omega)] at this
          simp at this
          omega
      subst hji
      refine wpOp_mono ?_ h
      intro a' w' h'
      refine ih (j + 1) fuel (listed.setIfInBounds j true) a' w' (by omega) (by omega) (by omega) (by simpa using hl) ?_ h'
      intro m hm
      by_cases e : m = j
      · subst e; rw [getD_set_same (by omega)]; simp
      · rw [getD_set_ne e, hd m hm, decide_eq_decide]; omega

theorem wpAny_flowTailC {k0 : Nat} (hok : flowOk ops a0.tmps.size = true) (ht : tailOkC ops k0 = true) {kn : Nat → VP} (hs : ∀ m, m < k0 → FStep P ops base a0 Q kn m (kn m))
    (he : FlowTail P ops base a0 Q k0 (ops.size - k0) 0 k0 kn) :
    ∀ (u fuel : Nat) (listed : Array Bool) (a : Act) (w : World), listed.size = ops.size → ((List.range k0).filter fun i => !listed.getD i false).length ≤ u → u + (ops.size - k0) ≤ fuel → (∀ j, k0 ≤ j → listed.getD j false = false) → (∀ j, listed.getD j false = true → ∀ m, waits ops j m = true → listed.getD m false = true) →
      FKept ops a0 a → Below base.heap.size base w → (∀ j, listed.getD j false = true → FDone ops kn a w j) → wpAny P .any ops Q fuel listed a w := by
  obtain ⟨ok1, ok2, ok3⟩ := flowOk_spec hok
  have hk0 : k0 ≤ ops.size := by unfold tailOkC at ht; simp only [Bool.and_eq_true, decide_eq_true_eq] at ht; exact ht.1
  have tk : ∀ j, j < ops.size → k0 < j → waits ops j (j - 1) = true := by
    intro j hj hk
    unfold tailOkC at ht
    simp only [Bool.and_eq_true, List.all_eq_true, List.mem_range] at ht
    have := ht.2 j hj
    rwa [if_neg (by omega), if_neg (by omega)] at this
  have tk0 : ∀ m, m < k0 → ∃ j, m < j ∧ j ≤ k0 ∧ waits ops j m = true := by
    intro m hk
    unfold tailOkC at ht
    simp only [Bool.and_eq_true, List.all_eq_true, List.mem_range] at ht
    have := ht.2 m (by omega)
    rw [if_pos hk, List.any_eq_true] at this
    obtain ⟨j, hj, h⟩ := this
    rw [Bool.and_eq_true, decide_eq_true_eq] at h
    exact ⟨j, h.1, by simpa [Nat.lt_succ_iff] using hj, h.2⟩
  intro u
  induction u with
  | zero =>
    intro fuel listed a w hl hu hf htl hcl hk hb hd
    have hall : ∀ j, j < k0 → listed.getD j false = true := by
      intro j hj
      have h0 : ((List.range k0).filter fun i => !listed.getD i false) = [] := List.eq_nil_of_length_eq_zero (by omega)
      rw [List.filter_eq_nil_iff] at h0
      have := h0 j (by simpa using hj)
      simpa using this
    refine wpAny_tailC hok ht (ops.size - k0) k0 fuel listed a w (by omega) (Nat.le_refl _) (by omega) hl ?_ (he a w hk hb (fun j hj => hd j (hall j hj)))
    intro j hj
    by_cases e : j < k0
    · rw [hall j e]; simp [e]
    · rw [htl j (by omega)]; simp [e]
  | succ u ih =>
    intro fuel listed a w hl hu hf htl hcl hk hb hd
    by_cases hall : ∀ j, j < k0 → listed.getD j false = true
    · refine wpAny_tailC hok ht (ops.size - k0) k0 fuel listed a w (by omega) (Nat.le_refl _) (by omega) hl ?_ (he a w hk hb (fun j hj => hd j (hall j hj)))
      intro j hj
      by_cases e : j < k0
      · rw [hall j e]; simp [e]
      · rw [htl j (by omega)]; simp [e]
    · -- the least that is not yet done
      have hex : ∃ m, m < k0 ∧ listed.getD m false = false ∧ ∀ j, j < m → listed.getD j false = true := by
        have key : ∀ n, n ≤ k0 → (∀ j, j < n → listed.getD j false = true) ∨ ∃ m, m < n ∧ listed.getD m false = false ∧ ∀ j, j < m → listed.getD j false = true := by
          intro n
          induction n with
          | zero => intro _; exact .inl (fun j hj => absurd hj (by omega))
          | succ n ihn =>
            intro hn
            rcases ihn (by omega) with h | ⟨m, hm, h1, h2⟩
            · cases hc : listed.getD n false with
              | true => exact .inl (fun j hj => by by_cases e : j = n; exact e ▸ hc; exact h j (by omega))
              | false => exact .inr ⟨n, by omega, hc, h⟩
            · exact .inr ⟨m, by omega, h1, h2⟩
        rcases key k0 (Nat.le_refl _) with h | h
        · exact absurd h hall
        · exact h
      obtain ⟨m, hm, hmu, hmd⟩ := hex
      have hmem : m ∈ Region.ready .any ops listed := ready_of hok hl (by omega) hmu hmd
      cases fuel with
      | zero => omega
      | succ fuel =>
        refine ⟨fun hr => (by rw [hr] at hmem; cases hmem), fun i hi => ?_⟩
        have hiu := ready_un hl hi
        have hik : i < k0 := by
          by_cases e : i < k0
          · exact e
          · exfalso
            by_cases e2 : i = k0
            · subst e2
              have cov : ∀ d m, m + d = i → 0 < d → listed.getD m false = true := by
                intro d
                induction d using Nat.strongRecOn with
                | _ d ihd =>
                  intro m' hm' hd'
                  obtain ⟨j, h1, h2, h3⟩ := tk0 m' (by omega)
                  by_cases e3 : j = i
                  · rw [e3] at h3; exact waits_ready hi h3
                  · exact hcl j (ihd (i - j) (by omega) j (by omega) (by omega)) m' h3
              have := cov (i - m) m (by omega) (by omega)
              rw [hmu] at this
              cases this
            · have := waits_ready hi (tk i hiu.1 (by omega))
              rw [htl (i - 1) (by omega)] at this
              cases this
        obtain ⟨o, ho⟩ : ∃ o, ops[i]? = some o := ⟨_, Array.getElem?_eq_getElem hiu.1⟩
        have hstep := (hs i hik).2 o ho a w hk hb (by
          intro o' ho' e he' hbd
          rw [ho] at ho'
          cases ho'
          refine hd e.on (waits_ready hi ?_)
          unfold waits
          rw [ho]
          simp only [Option.any_some, List.any_eq_true, Bool.and_eq_true, beq_iff_eq]
          exact ⟨e, he', rfl, hbd⟩)
        refine wpOp_mono ?_ hstep
        rintro a' w' ⟨v, rfl, hV, hbw⟩
        refine ih fuel (listed.setIfInBounds i true) _ w' (by simpa using hl) ?_ (by omega) ?_ ?_ ?_ (hb.trans (hbw.mono hb.size)) ?_
        · have hsub : ((List.range k0).filter fun j => !(listed.setIfInBounds i true).getD j false).length < ((List.range k0).filter fun j => !listed.getD j false).length := by
            have e1 : ((List.range k0).filter fun j => !(listed.setIfInBounds i true).getD j false) = ((List.range k0).filter fun j => !listed.getD j false).filter (fun j => j != i) := by
              rw [List.filter_filter]
              apply List.filter_congr
              intro j hj
              by_cases e : j = i
              · subst e; rw [getD_set_same (by omega)]; simp
              · rw [getD_set_ne e]; simp [e]
            rw [e1]
            refine List.length_filter_lt_length_iff_exists.2 ⟨i, ?_, by simp⟩
            simp only [List.mem_filter, List.mem_range]
            exact ⟨hik, by rw [hiu.2]; rfl⟩
          omega
        · intro j hj
          rw [getD_set_ne (by omega)]
          exact htl j hj
        · intro j hj m' hm'
          by_cases e4 : m' = i
          · subst e4; exact getD_set_same (by omega)
          · rw [getD_set_ne e4]
            by_cases e5 : j = i
            · subst e5; exact waits_ready hi hm'
            · rw [getD_set_ne e5] at hj; exact hcl j hj m' hm'
        · refine ⟨by rw [defers_put]; exact hk.1, by rw [size_put]; exact hk.2.1, fun t ht' => ?_⟩
          cases hdst : o.dst with
          | none => simp only [Act.put]; exact hk.2.2 t ht'
          | some s =>
            have : s ≠ t := by
              rintro rfl
              have := List.all_eq_true.1 ht' o (by rw [Array.mem_toList_iff]; exact Array.mem_of_getElem? ho)
              rw [hdst] at this
              simp at this
            rw [getD_put (fun h => this h.symm)]
            exact hk.2.2 t ht'
        · intro j hj o' ho' t ht'
          by_cases e : j = i
          · subst e
            rw [ho] at ho'
            cases ho'
            rw [ht', getD_put_self (by rw [hk.2.1]; exact ok3 j o t ho ht')]
            exact hV
          · rw [getD_set_ne e] at hj
            have hne : o.dst ≠ some t := fun hh => e (ok2 j i o' o t ho' ho ht' hh)
            have hold := hd j hj o' ho' t ht'
            have hslot : (a.put o.dst v).tmps.getD t undef = a.tmps.getD t undef := by
              cases hdst : o.dst with
              | none => rfl
              | some s => exact getD_put (fun h => hne (by rw [hdst, h]))
            rw [hslot]
            have hjk : j < k0 := by
              by_cases e2 : j < k0
              · exact e2
              · rw [htl j (by omega)] at hj; cases hj
            exact (hs j hjk).1 _ _ _ hold hbw

/-- THE LAW. -/
theorem wp_region_cov (k0 : Nat) {id : Nat} {a : Act} {w : World} (hm : P.follows .mixedOrders = true) (hok : flowOk ops a.tmps.size = true) (ht : tailOkC ops k0 = true)
    (h : FlowTail P ops w a Q k0 (ops.size - k0) k0 0 (fun _ _ _ => False)) : (Code.region id ops true).wp P Q a w := by
  refine wp_region_any hm ?_
  obtain ⟨kn, hs, he⟩ := flowTail_family hok k0 0 _ (by omega) (fun m hm => absurd hm (by omega)) h
  have hk0 : k0 ≤ ops.size := by unfold tailOkC at ht; simp only [Bool.and_eq_true, decide_eq_true_eq] at ht; exact ht.1
  refine wpAny_flowTailC hok ht hs he k0 ops.size _ a _ (by simp) ?_ (by omega) ?_ ?_ ⟨rfl, rfl, fun _ _ => rfl⟩ ((Below.refl _ w).drew) ?_
  · exact Nat.le_trans (List.length_filter_le _ _) (by simp)
  · intro j hj
    simp [Array.getD_eq_getD_getElem?, Array.getElem?_replicate]
    split <;> rfl
  · intro j hj
    simp [Array.getD_eq_getD_getElem?, Array.getElem?_replicate] at hj
    split at hj <;> simp at hj
  · intro j hj
    simp [Array.getD_eq_getD_getElem?, Array.getElem?_replicate] at hj
    split at hj <;> simp at hj
end
section
variable {R : World → World → Prop} {P : Program} {ops : Array Oper} {base : World} {a0 : Act} {Q : Exit → Act → World → Prop}
theorem wpAny_relTailC {k0 : Nat} (hR : Pre R) (hok : flowOk ops a0.tmps.size = true) (ht : tailOkC ops k0 = true) {kn : Nat → VP} (hs : ∀ m, m < k0 → RStep R P ops base a0 Q k0 kn m (kn m))
    (he : RelTail R P ops base a0 Q k0 (ops.size - k0) 0 k0 kn) :
    ∀ (u fuel : Nat) (listed : Array Bool) (a : Act) (w : World), listed.size = ops.size → ((List.range k0).filter fun i => !listed.getD i false).length ≤ u → u + (ops.size - k0) ≤ fuel → (∀ j, k0 ≤ j → listed.getD j false = false) → (∀ j, listed.getD j false = true → ∀ m, waits ops j m = true → listed.getD m false = true) →
      FKeptN ops k0 a0 a → R base w → (∀ j, listed.getD j false = true → RDone ops kn a w j) → wpAny P .any ops Q fuel listed a w := by
  obtain ⟨ok1, ok2, ok3⟩ := flowOk_spec hok
  have hk0 : k0 ≤ ops.size := by unfold tailOkC at ht; simp only [Bool.and_eq_true, decide_eq_true_eq] at ht; exact ht.1
  have tk : ∀ j, j < ops.size → k0 < j → waits ops j (j - 1) = true := by
    intro j hj hk
    unfold tailOkC at ht
    simp only [Bool.and_eq_true, List.all_eq_true, List.mem_range] at ht
    have := ht.2 j hj
    rwa [if_neg (by omega), if_neg (by omega)] at this
  have tk0 : ∀ m, m < k0 → ∃ j, m < j ∧ j ≤ k0 ∧ waits ops j m = true := by
    intro m hk
    unfold tailOkC at ht
    simp only [Bool.and_eq_true, List.all_eq_true, List.mem_range] at ht
    have := ht.2 m (by omega)
    rw [if_pos hk, List.any_eq_true] at this
    obtain ⟨j, hj, h⟩ := this
    rw [Bool.and_eq_true, decide_eq_true_eq] at h
    exact ⟨j, h.1, by simpa [Nat.lt_succ_iff] using hj, h.2⟩
  intro u
  induction u with
  | zero =>
    intro fuel listed a w hl hu hf htl hcl hk hb hd
    have hall : ∀ j, j < k0 → listed.getD j false = true := by
      intro j hj
      have h0 : ((List.range k0).filter fun i => !listed.getD i false) = [] := List.eq_nil_of_length_eq_zero (by omega)
      rw [List.filter_eq_nil_iff] at h0
      have := h0 j (by simpa using hj)
      simpa using this
    refine wpAny_tailC hok ht (ops.size - k0) k0 fuel listed a w (by omega) (Nat.le_refl _) (by omega) hl ?_ (he a w hk hb (fun j hj => hd j (hall j hj)))
    intro j hj
    by_cases e : j < k0
    · rw [hall j e]; simp [e]
    · rw [htl j (by omega)]; simp [e]
  | succ u ih =>
    intro fuel listed a w hl hu hf htl hcl hk hb hd
    by_cases hall : ∀ j, j < k0 → listed.getD j false = true
    · refine wpAny_tailC hok ht (ops.size - k0) k0 fuel listed a w (by omega) (Nat.le_refl _) (by omega) hl ?_ (he a w hk hb (fun j hj => hd j (hall j hj)))
      intro j hj
      by_cases e : j < k0
      · rw [hall j e]; simp [e]
      · rw [htl j (by omega)]; simp [e]
    · -- the least that is not yet done
      have hex : ∃ m, m < k0 ∧ listed.getD m false = false ∧ ∀ j, j < m → listed.getD j false = true := by
        have key : ∀ n, n ≤ k0 → (∀ j, j < n → listed.getD j false = true) ∨ ∃ m, m < n ∧ listed.getD m false = false ∧ ∀ j, j < m → listed.getD j false = true := by
          intro n
          induction n with
          | zero => intro _; exact .inl (fun j hj => absurd hj (by omega))
          | succ n ihn =>
            intro hn
            rcases ihn (by omega) with h | ⟨m, hm, h1, h2⟩
            · cases hc : listed.getD n false with
              | true => exact .inl (fun j hj => by by_cases e : j = n; exact e ▸ hc; exact h j (by omega))
              | false => exact .inr ⟨n, by omega, hc, h⟩
            · exact .inr ⟨m, by omega, h1, h2⟩
        rcases key k0 (Nat.le_refl _) with h | h
        · exact absurd h hall
        · exact h
      obtain ⟨m, hm, hmu, hmd⟩ := hex
      have hmem : m ∈ Region.ready .any ops listed := ready_of hok hl (by omega) hmu hmd
      cases fuel with
      | zero => omega
      | succ fuel =>
        refine ⟨fun hr => (by rw [hr] at hmem; cases hmem), fun i hi => ?_⟩
        have hiu := ready_un hl hi
        have hik : i < k0 := by
          by_cases e : i < k0
          · exact e
          · exfalso
            by_cases e2 : i = k0
            · subst e2
              have cov : ∀ d m, m + d = i → 0 < d → listed.getD m false = true := by
                intro d
                induction d using Nat.strongRecOn with
                | _ d ihd =>
                  intro m' hm' hd'
                  obtain ⟨j, h1, h2, h3⟩ := tk0 m' (by omega)
                  by_cases e3 : j = i
                  · rw [e3] at h3; exact waits_ready hi h3
                  · exact hcl j (ihd (i - j) (by omega) j (by omega) (by omega)) m' h3
              have := cov (i - m) m (by omega) (by omega)
              rw [hmu] at this
              cases this
            · have := waits_ready hi (tk i hiu.1 (by omega))
              rw [htl (i - 1) (by omega)] at this
              cases this
        obtain ⟨o, ho⟩ : ∃ o, ops[i]? = some o := ⟨_, Array.getElem?_eq_getElem hiu.1⟩
        have hstep := (hs i hik).2 o ho a w hk hb (by
          intro o' ho' e he' hbd
          rw [ho] at ho'
          cases ho'
          refine hd e.on (waits_ready hi ?_)
          unfold waits
          rw [ho]
          simp only [Option.any_some, List.any_eq_true, Bool.and_eq_true, beq_iff_eq]
          exact ⟨e, he', rfl, hbd⟩)
        refine wpOp_mono ?_ hstep
        rintro a' w' ⟨v, rfl, hvn, hV, hbw⟩
        refine ih fuel (listed.setIfInBounds i true) _ w' (by simpa using hl) ?_ (by omega) ?_ ?_ ?_ (hR.trans _ _ _ hb hbw) ?_
        · have hsub : ((List.range k0).filter fun j => !(listed.setIfInBounds i true).getD j false).length < ((List.range k0).filter fun j => !listed.getD j false).length := by
            have e1 : ((List.range k0).filter fun j => !(listed.setIfInBounds i true).getD j false) = ((List.range k0).filter fun j => !listed.getD j false).filter (fun j => j != i) := by
              rw [List.filter_filter]
              apply List.filter_congr
              intro j hj
              by_cases e : j = i
              · subst e; rw [getD_set_same (by omega)]; simp
              · rw [getD_set_ne e]; simp [e]
            rw [e1]
            refine List.length_filter_lt_length_iff_exists.2 ⟨i, ?_, by simp⟩
            simp only [List.mem_filter, List.mem_range]
            exact ⟨hik, by rw [hiu.2]; rfl⟩
          omega
        · intro j hj
          rw [getD_set_ne (by omega)]
          exact htl j hj
        · intro j hj m' hm'
          by_cases e4 : m' = i
          · subst e4; exact getD_set_same (by omega)
          · rw [getD_set_ne e4]
            by_cases e5 : j = i
            · subst e5; exact waits_ready hi hm'
            · rw [getD_set_ne e5] at hj; exact hcl j hj m' hm'
        · refine ⟨by rw [defers_put]; exact hk.1, by rw [size_put]; exact hk.2.1, fun t ht' => ?_⟩
          cases hdst : o.dst with
          | none => simp only [Act.put]; exact hk.2.2 t ht'
          | some s =>
            have : s ≠ t := by
              rintro rfl
              have := List.all_eq_true.1 ht' i (by simpa using hik)
              rw [ho] at this
              simp [hdst] at this
            rw [getD_put (fun h => this h.symm)]
            exact hk.2.2 t ht'
        · intro j hj o' ho'
          by_cases e : j = i
          · subst e
            rw [ho] at ho'
            cases ho'
            cases hdst : o.dst with
            | none => rw [hvn hdst] at hV; exact hV
            | some t =>
              show kn j (_) w'
              simp only []
              rw [getD_put_self (by rw [hk.2.1]; exact ok3 j o t ho hdst)]
              exact hV
          · rw [getD_set_ne e] at hj
            have hold := hd j hj o' ho'
            have hjk : j < k0 := by
              by_cases e2 : j < k0
              · exact e2
              · rw [htl j (by omega)] at hj; cases hj
            refine (hs j hjk).1 _ _ _ ?_ hbw
            cases hdst' : o'.dst with
            | none => rw [hdst'] at hold; exact hold
            | some t =>
              rw [hdst'] at hold
              have hne : o.dst ≠ some t := fun hh => e (ok2 j i o' o t ho' ho hdst' hh)
              have hslot : (a.put o.dst v).tmps.getD t undef = a.tmps.getD t undef := by
                cases hdst : o.dst with
                | none => rfl
                | some s => exact getD_put (fun h => hne (by rw [hdst, h]))
              simp only [hslot]
              exact hold

theorem wp_region_relC (hR : Pre R) (k0 : Nat) {id : Nat} {a : Act} {w : World} (hm : P.follows .mixedOrders = true) (hok : flowOk ops a.tmps.size = true) (ht : tailOkC ops k0 = true)
    (h : RelTail R P ops w a Q k0 (ops.size - k0) k0 0 (fun _ _ _ => False)) : (Code.region id ops true).wp P Q a w := by
  refine wp_region_any hm ?_
  obtain ⟨kn, hs, he⟩ := relTail_family hok k0 0 _ (by omega) (fun m hm => absurd hm (by omega)) h
  have hk0 : k0 ≤ ops.size := by unfold tailOkC at ht; simp only [Bool.and_eq_true, decide_eq_true_eq] at ht; exact ht.1
  refine wpAny_relTailC hR hok ht hs he k0 ops.size _ a _ (by simp) ?_ (by omega) ?_ ?_ ⟨rfl, rfl, fun _ _ => rfl⟩ (hR.drew w) ?_
  · exact Nat.le_trans (List.length_filter_le _ _) (by simp)
  · intro j hj
    simp [Array.getD_eq_getD_getElem?, Array.getElem?_replicate]
    split <;> rfl
  · intro j hj
    simp [Array.getD_eq_getD_getElem?, Array.getElem?_replicate] at hj
    split at hj <;> simp at hj
  · intro j hj
    simp [Array.getD_eq_getD_getElem?, Array.getElem?_replicate] at hj
    split at hj <;> simp at hj
/-- Memory grows. -/
def Grows (w w' : World) : Prop := Below w.heap.size w w'
theorem grows_pre : Pre Grows where
  refl w := Below.refl _ _
  trans a b c h1 h2 := h1.trans (h2.mono h1.size)
  grow w w' h := h
  drew w := (Below.refl _ w).drew
/-- What stood in a slot that the last ones alone write. -/
theorem RStep.old {k0 : Nat} {kn : Nat → VP} {i : Nat} (t : Tmp) (v : Value) (hop : (ops[i]?).map (fun o => (o.op, o.guard)) = some (.move (.tmp t), none)) (hd : ((ops[i]?).bind (·.dst)).isSome = true) (hk : ((List.range k0).all fun i => (ops[i]?).all fun o => o.dst != some t) = true)
    (hv : a0.tmps.getD t undef = v) : RStep Grows P ops base a0 Q k0 kn i (isVal v) := by
  refine ⟨fun _ _ _ h _ => h, fun o ho a w hkp hb hdp => ?_⟩
  rw [ho] at hop hd
  simp only [Option.map_some, Option.some.injEq, Prod.mk.injEq] at hop
  have e : a.eval (.tmp t) = v := (hkp.2.2 t hk).trans hv
  unfold wpOp
  simp only [ho]
  rw [show Region.wanted o (yielded ops a.tmps) = true by simp [Region.wanted, hop.2]]
  refine .inl ?_
  unfold Oper.wp execOp
  rw [hop.1]
  refine ⟨_, rfl, fun hn => ?_, e, Below.refl _ _⟩
  simp [hn] at hd
end
end Go.Proofs.YtmbnhlhanckkiaaGreat
end
section
namespace Go.Proofs.YtmbnhlhanckkiaaGreat
open Go.RowKit
set_option linter.unusedVariables false
section
variable {P : Program} {ops : Array Oper} {base : World} {a0 : Act} {Q : Exit → Act → World → Prop} {kn : Nat → VP} {i : Nat} {V : VP}
theorem step_max (k : IntKind) (t1 t2 : TypeId) (x y : Operand) (m n r : Int) (hop : (ops[i]?).map (·.op) = some (.call { callee := .builtin .max, args := #[x, y], argTypes := #[t1, t2] })) (hw : Wanted ops a0 kn i) (hx : Knows ops a0 kn i x (isVal (.int k m))) (hy : Knows ops a0 kn i y (isVal (.int k n)))
    (hr : (if n > m then n else m) = r) : FStep P ops base a0 Q kn i (isVal (.int k r)) :=
  step_pure _ hop hw fun o a w ho hk hd => by
    have e1 : a.eval x = .int k m := hx a w hk hd
    have e2 : a.eval y = .int k n := hy a w hk hd
    unfold execOp
    rw [ho]
    simp only [resolve, Sem.run_bind, Sem.run_pure, Result.andThen_ok, invoke, builtin, List.map_toArray, List.map_cons, List.map_nil, e1, e2, run_max_int2, hr]
end
end Go.Proofs.YtmbnhlhanckkiaaGreat
end
section
namespace Go.Proofs.YtmbnhlhanckkiaaGreat
open Go.RowKit
set_option linter.unusedVariables false
set_option linter.unusedSimpArgs false

section
variable {P : Program} {ops : Array Oper} {base : World} {a0 : Act} {Q : Exit → Act → World → Prop} {kn : Nat → VP} {i : Nat} {V : VP}
theorem step_int1 (t e : TypeId) (x : Operand) (a1 : Int) (ie : TypeInfo) (hop : (ops[i]?).map (·.op) = some (.buildSlice t 1 #[(0, x)])) (hw : Wanted ops a0 kn i) (h0 : Knows ops a0 kn i x (isVal (.int .i64 a1)))
    (hu : P.underlying t = some (.slice e)) (hie : P.info? e = some ie) (hz : ie.zero = some (.int .i64 0)) (hsz : ie.size = 1) : FStep P ops base a0 Q kn i (isCells [intC a1]) :=
  step_mk (stable_cells _) hw fun o ho a w hk hb hd => by
    have e0 : a.eval x = intC a1 := h0 a w hk hd
    have hf : Instr.fill (fun i => some (i * ie.size, ie.size)) ((Array.range (1 * ie.size)).map ((Value.int .i64 0).cells[· % (Value.int .i64 0).cells.size]!)) ((#[(0, x)] : Array (Nat × Operand)).map fun (i, x) => (i, a.eval x)).toList = some #[intC a1] := by
      have e1 : ((#[(0, x)] : Array (Nat × Operand)).map fun (i, x) => (i, a.eval x)).toList = (([intC a1] : List Value).zipIdx 0).map fun x => (x.2, x.1) := by simp [e0]
      rw [e1, hsz, Great.fill_flat _ _ (fun v hv => by simp only [List.mem_cons, List.not_mem_nil, or_false] at hv; subst hv; rfl) (by simp)]
    refine wp_buildSlice t e 1 _ (op_of hop ho) _ ie (.int .i64 0) hu hie hz (by rw [hsz]; omega) (by rw [hsz]; omega) hf ?_
    refine ⟨_, rfl, .inr (.inr ⟨w.heap.size, 0, 1, rfl, by simp, fun j v hv => ?_⟩), (Below.refl _ _).alloc (Nat.le_refl _) _⟩
    rw [World.cell?_alloc_new]
    simpa using hv
end
theorem ownsRow_grow {W W' : World} {n₀ : Nat} {e : TypeId} {size : Nat} {v : Value} {k : Nat} {xs : List Value} (h : W.ownsRow n₀ e size v k xs) (hb : Below W.heap.size W W') : W'.ownsRow n₀ e size v k xs := by
  obtain ⟨hl, h | ⟨g, cap, cur, hv, hB, hg, rest⟩⟩ := h
  · exact ⟨hl, .inl h⟩
  · exact ⟨hl, .inr ⟨g, cap, cur, hv, hB, (hb.block g (Array.getElem?_eq_some_iff.1 hg).1).trans hg, rest⟩⟩
theorem ownsRow_at {w : World} {base : Nat} {e : TypeId} {z : Nat} {v : Value} {k : Nat} {xs : List Value} (h : w.ownsRow base e z v k xs) : ∀ j, v.ownBlock = some j → base ≤ j := by
  intro j hj
  obtain ⟨_, ⟨rfl, _⟩ | ⟨g, cap, cur, rfl, hB, _⟩⟩ := h
  · simp [Value.ownBlock] at hj
  · simp [Value.ownBlock] at hj; omega
noncomputable def mostOps : Array Oper := regionOf Tryz.f136 5
set_option maxRecDepth 100000 in
set_option maxHeartbeats 2000000 in
theorem most_region (Q : Exit → Act → World → Prop) (a0 : Act) (w0 : World) (hsz : a0.tmps.size = 26) (B : Nat) (v0 : Value) (xs : List Int) (b1 o1 c1 b2 o2 c2 n k : Nat) (x y : Int) (e5 : a0.tmps.getD 5 undef = v0) (e0 : a0.tmps.getD 0 undef = (.slice (some ⟨b1, o1, none⟩) n c1)) (e1 : a0.tmps.getD 1 undef = (.slice (some ⟨b2, o2, none⟩) n c2)) (e6 : a0.tmps.getD 6 undef = .int .i64 (k : Int)) (hk : k < n)
    (p1 : w0.cell? ⟨b1, o1 + k, none⟩ = some (.int .i64 x)) (l1 : b1 < w0.heap.size) (p2 : w0.cell? ⟨b2, o2 + k, none⟩ = some (.int .i64 y)) (l2 : b2 < w0.heap.size) (hown : w0.ownsRow B 3 1 v0 xs.length (xs.map intC)) (hx : xs.length ≤ 1000000) (hBs : B ≤ w0.heap.size)
    (hQ : ∀ (f : Nat → Value) (w1 : World), f 5 = f 24 → w1.ownsRow B 3 1 (f 24) (xs ++ [maxI x y]).length ((xs ++ [maxI x y]).map intC) → Below B w0 w1 → Q .normal { tmps := [13, 14, 15, 16, 17, 18, 19, 20, 21, 22, 23, 24, 5].foldl (fun t s => t.setIfInBounds s (f s)) a0.tmps, defers := a0.defers } w1) :
    (Code.region 5 mostOps true).wp Tryz.prog Q a0 w0 := by
  obtain ⟨iint, hiint, hzint, hsint, hbint⟩ := info_parts Tryz.infoInt
  refine wp_region_relC grows_pre 11 mixed (by rw [hsz]; kernel_rfl) (by kernel_rfl) ?_
  rw [show mostOps.size - 11 = 2 by kernel_rfl]
  refine ⟨isVal v0, RStep.old 5 v0 (by kernel_rfl) (by kernel_rfl) (by kernel_rfl) e5, ?_⟩
  refine ⟨isVal (.slice (some ⟨b1, o1, none⟩) n c1), RStep.of grows_pre (stable_val _) (by kernel_rfl) (by intro w hbw; exact step_move (.tmp 0) (by kernel_rfl) (wanted_none (by kernel_rfl)) (stable_val _) (knows_old 0 (.slice (some ⟨b1, o1, none⟩) n c1) (by kernel_rfl) e0)), ?_⟩
  refine ⟨isVal (.int .i64 (k : Int)), RStep.of grows_pre (stable_val _) (by kernel_rfl) (by intro w hbw; exact step_move (.tmp 6) (by kernel_rfl) (wanted_none (by kernel_rfl)) (stable_val _) (knows_old 6 (.int .i64 (k : Int)) (by kernel_rfl) e6)), ?_⟩
  refine ⟨isVal (.pointer (some ⟨b1, o1 + k, none⟩)), RStep.of grows_pre (stable_val _) (by kernel_rfl) (by intro w hbw; exact step_place 23 3 (.tmp 14) (.tmp 15) b1 o1 n c1 k (by kernel_rfl) (wanted_none (by kernel_rfl)) (knows_new (V := isVal (.slice (some ⟨b1, o1, none⟩) n c1)) 14 1 (by kernel_rfl) (by kernel_rfl) (by kernel_rfl)) (knows_new (V := isVal (.int .i64 (k : Int))) 15 2 (by kernel_rfl) (by kernel_rfl) (by kernel_rfl)) Tryz.underlying23 (by kernel_rfl) hk), ?_⟩
  refine ⟨isVal (.int .i64 x), RStep.of grows_pre (stable_val _) (by kernel_rfl) (by intro w hbw; exact step_read 3 (.tmp 16) ⟨b1, o1 + k, none⟩ (.int .i64 x) (by kernel_rfl) (wanted_none (by kernel_rfl)) (knows_new (V := isVal (.pointer (some ⟨b1, o1 + k, none⟩))) 16 3 (by kernel_rfl) (by kernel_rfl) (by kernel_rfl)) ((hbw.cell (p := ⟨b1, o1 + k, none⟩) l1).trans p1) (Nat.lt_of_lt_of_le l1 hbw.size) agg_int), ?_⟩
  refine ⟨isVal (.slice (some ⟨b2, o2, none⟩) n c2), RStep.of grows_pre (stable_val _) (by kernel_rfl) (by intro w hbw; exact step_move (.tmp 1) (by kernel_rfl) (wanted_none (by kernel_rfl)) (stable_val _) (knows_old 1 (.slice (some ⟨b2, o2, none⟩) n c2) (by kernel_rfl) e1)), ?_⟩
  refine ⟨isVal (.int .i64 (k : Int)), RStep.of grows_pre (stable_val _) (by kernel_rfl) (by intro w hbw; exact step_move (.tmp 6) (by kernel_rfl) (wanted_none (by kernel_rfl)) (stable_val _) (knows_old 6 (.int .i64 (k : Int)) (by kernel_rfl) e6)), ?_⟩
  refine ⟨isVal (.pointer (some ⟨b2, o2 + k, none⟩)), RStep.of grows_pre (stable_val _) (by kernel_rfl) (by intro w hbw; exact step_place 23 3 (.tmp 18) (.tmp 19) b2 o2 n c2 k (by kernel_rfl) (wanted_none (by kernel_rfl)) (knows_new (V := isVal (.slice (some ⟨b2, o2, none⟩) n c2)) 18 5 (by kernel_rfl) (by kernel_rfl) (by kernel_rfl)) (knows_new (V := isVal (.int .i64 (k : Int))) 19 6 (by kernel_rfl) (by kernel_rfl) (by kernel_rfl)) Tryz.underlying23 (by kernel_rfl) hk), ?_⟩
  refine ⟨isVal (.int .i64 y), RStep.of grows_pre (stable_val _) (by kernel_rfl) (by intro w hbw; exact step_read 3 (.tmp 20) ⟨b2, o2 + k, none⟩ (.int .i64 y) (by kernel_rfl) (wanted_none (by kernel_rfl)) (knows_new (V := isVal (.pointer (some ⟨b2, o2 + k, none⟩))) 20 7 (by kernel_rfl) (by kernel_rfl) (by kernel_rfl)) ((hbw.cell (p := ⟨b2, o2 + k, none⟩) l2).trans p2) (Nat.lt_of_lt_of_le l2 hbw.size) agg_int), ?_⟩
  refine ⟨isVal (.int .i64 (maxI x y)), RStep.of grows_pre (stable_val _) (by kernel_rfl) (by intro w hbw; exact step_max .i64 3 3 (.tmp 17) (.tmp 21) x y (maxI x y) (by kernel_rfl) (wanted_none (by kernel_rfl)) (knows_new (V := isVal (.int .i64 x)) 17 4 (by kernel_rfl) (by kernel_rfl) (by kernel_rfl)) (knows_new (V := isVal (.int .i64 y)) 21 8 (by kernel_rfl) (by kernel_rfl) (by kernel_rfl)) rfl), ?_⟩
  refine ⟨isCells [intC (maxI x y)], RStep.of grows_pre (stable_cells _) (by kernel_rfl) (by intro w hbw; exact step_int1 23 3 (.tmp 22) (maxI x y) iint (by kernel_rfl) (wanted_none (by kernel_rfl)) (knows_new (V := isVal (.int .i64 (maxI x y))) 22 9 (by kernel_rfl) (by kernel_rfl) (by kernel_rfl)) Tryz.underlying23 hiint hzint hsint), ?_⟩
  intro a w hk0 hb0 hd
  have hb : Below w0.heap.size w0 w := hb0
  have d13 := fdone_of (rdone_f (hd 0 (by decide))) (t := 13) (V := isVal v0) (by kernel_rfl) (by kernel_rfl)
  have d23 := fdone_of (rdone_f (hd 10 (by decide))) (t := 23) (V := isCells [intC (maxI x y)]) (by kernel_rfl) (by kernel_rfl)
  obtain ⟨bb, off, cap, hs23, hlt, hc⟩ := d23.some_ (by simp)
  have hown2 := ownsRow_grow hown hb
  have h24 : 24 < a.tmps.size := by rw [hk0.2.1, hsz]; decide
  refine tail_op (fun _ _ => True) (OP := .call { callee := .builtin .append, args := #[.tmp 13, .tmp 23], argTypes := #[23, 23] }) (by kernel_rfl) (fun o ho e => ?_)
  have hdst : o.dst = some 24 := by have : (mostOps[11]?).map (·.dst) = some (some 24) := by kernel_rfl
                                    rw [ho] at this; simpa using this
  refine wp_append_own _ (.tmp 13) (.tmp 23) 23 e B 3 iint (.int .i64 0) 1 8 Tryz.underlying23 hiint hzint hsint hbint rfl (by decide) v0 xs.length (xs.map intC) d13 hown2 ⟨bb, off, none⟩ 1 cap [intC (maxI x y)] hs23 rfl (fun j u hu => ?_) (fun u hu => by simp at hu; subst hu; rfl) (by unfold maxLen; omega) (by omega) (Nat.le_trans hBs hb.size) (fun v' w1 ho1 hgr _ => ?_)
  · have := hc j u hu
    by_cases e0 : j = 0
    · subst e0; simpa [Addr.add] using this
    · simpa [Addr.add, e0] using this
  rw [hdst]
  have hB1 : Below B w0 w1 := (hb.mono hBs).trans ((Below.refl B w).grown hgr (Nat.le_trans hBs hb.size) (ownsRow_at hown2))
  refine tail_op (fun _ _ => True) (OP := .assign (.tmp 24)) (by kernel_rfl) (fun o2 ho2 e2 => ?_)
  have hdst2 : o2.dst = some 5 := by have : (mostOps[12]?).map (·.dst) = some (some 5) := by kernel_rfl
                                     rw [ho2] at this; simpa using this
  have e24 : (a.put (some 24) v').tmps.getD 24 undef = v' := getD_put_self h24
  unfold Oper.wp execOp
  rw [e2]
  simp only [Oper.upon, Sem.run_pure, hdst2]
  show Tail Tryz.prog mostOps Q 0 13 (((a.put (some 24) v')).put (some 5) ((a.put (some 24) v').tmps.getD 24 undef)) w1
  rw [e24]
  have h5 : 5 < (a.put (some 24) v').tmps.size := by rw [size_put, hk0.2.1, hsz]; decide
  have f5 : ((a.put (some 24) v').put (some 5) v').tmps.getD 5 undef = v' := getD_put_self h5
  have f24 : ((a.put (some 24) v').put (some 5) v').tmps.getD 24 undef = v' := (getD_put (by decide)).trans e24
  show Q .normal ((a.put (some 24) v').put (some 5) v') w1
  have key := act_of (a := (a.put (some 24) v').put (some 5) v') (a0 := a0) (by rw [defers_put, defers_put]; exact hk0.1) (by rw [size_put, size_put]; exact hk0.2.1) [13, 14, 15, 16, 17, 18, 19, 20, 21, 22, 23, 24, 5] (fun t ht => by
    have n1 : t ≠ 5 := by rintro rfl; revert ht; decide
    have n2 : t ≠ 24 := by rintro rfl; revert ht; decide
    rw [getD_put n1, getD_put n2]
    refine hk0.2.2 t ?_
    have e13 : ((List.range 11).all fun i => (mostOps[i]?).all fun o => o.dst != some t) = ([13, 14, 15, 16, 17, 18, 19, 20, 21, 22, 23].all fun d => some d != some t) := by kernel_rfl
    rw [e13, List.all_eq_true]
    intro d hd'
    simp only [bne_iff_ne, ne_eq, Option.some.injEq]
    rintro rfl
    rw [List.contains_eq_mem] at ht
    simp only [decide_eq_false_iff_not] at ht
    exact ht (by simp only [List.mem_cons, List.not_mem_nil, or_false] at hd' ⊢; omega))
  rw [key]
  refine hQ (fun s => ((a.put (some 24) v').put (some 5) v').tmps.getD s undef) w1 (f5.trans f24.symm) ?_ hB1
  show w1.ownsRow B 3 1 (((a.put (some 24) v').put (some 5) v').tmps.getD 24 undef) _ _
  rw [f24]
  simpa using ho1
end Go.Proofs.YtmbnhlhanckkiaaGreat
end
section
namespace Go.Proofs.YtmbnhlhanckkiaaGreat
open Go.RowKit
set_option linter.unusedVariables false
set_option linter.unusedSimpArgs false

theorem zip_take (l m : List Int) (k : Nat) (h1 : k < l.length) (h2 : k < m.length) : (List.zipWith maxI l m).take (k + 1) = (List.zipWith maxI l m).take k ++ [maxI l[k] m[k]] := by
  rw [List.take_succ_eq_append_getElem (by rw [List.length_zipWith]; omega), List.getElem_zipWith]
set_option maxRecDepth 100000 in
set_option maxHeartbeats 2000000 in
theorem most_any (l m : List Int) (v u : Value) (w : World) (hv : isCells (l.map intC) v w) (hu : isCells (m.map intC) u w) (hlm : l.length = m.length) (hl : l.length ≤ 1000000) :
    Calls Tryz.prog 136 #[v, u] w fun e w' => ∃ v', e = .returned v' ∧ isOwn w.heap.size 3 ((List.zipWith maxI l m).map intC) v' w' ∧ Below w.heap.size w w' := by
  by_cases h0 : l.length = 0
  · obtain rfl : l = [] := List.eq_nil_of_length_eq_zero h0
    obtain ⟨a, cap, rfl⟩ := hv.len
    obtain ⟨b, cap2, rfl⟩ := hu.len
    clear hv hu
    simp only [List.map_nil, List.length_nil]
    go_enter Tryz.func136, Tryz.ntmps136
    go_wp2
    go_loop [5, 6] (fun c i => c = .slice none 0 0 ∧ i = .int .i64 0) (fun _ _ => 0)
    case atStart => exact ⟨rfl, rfl⟩
    case round =>
      obtain ⟨rfl, rfl⟩ := hrel
      go_wp2
      go_ret
      exact ⟨_, rfl, World.ownsRow_nil _ _ _ _, Below.refl _ _⟩
  · obtain ⟨b1, o1, c1, hv', l1, hc1⟩ := hv.some_ (by rw [List.length_map]; omega)
    obtain ⟨b2, o2, c2, hu', l2, hc2⟩ := hu.some_ (by rw [List.length_map]; omega)
    rw [List.length_map] at hv' hu'
    rw [← hlm] at hu'
    subst hv' hu'
    have HZ := Kept.mk (show (List.zipWith maxI l m).length = l.length by rw [List.length_zipWith]; omega)
    have HLM := Kept.mk hlm
    have HC1 := Kept.mk hc1
    have HC2 := Kept.mk hc2
    obtain ⟨n, hn⟩ : ∃ n, n = l.length := ⟨_, rfl⟩
    have HN := Kept.mk hn
    rw [← hn] at hl h0 ⊢
    clear hv hu hlm hc1 hc2 hn
    go_enter Tryz.func136, Tryz.ntmps136
    go_wp2
    go_loopw [5, 6] (fun c i wr => ∃ k : Nat, k ≤ n ∧ i = .int .i64 (k : Int) ∧ Kept (wr.ownsRow w.heap.size 3 1 c ((List.zipWith maxI l m).take k).length (((List.zipWith maxI l m).take k).map intC)) ∧ Kept (Below w.heap.size w wr)) (fun _ i _ => n - (intOf i).toNat)
    case atStart => exact ⟨0, Nat.zero_le _, rfl, ⟨World.ownsRow_nil _ _ _ _⟩, ⟨Below.refl _ _⟩⟩
    case round =>
      obtain ⟨k, hk, rfl, HO, HB⟩ := hrel
      by_cases hlt : k < n
      · have d1 : decide ((k : Int) < (n : Int)) = true := by simpa using hlt
        have hkl : k < l.length := by rw [← HN.out]; exact hlt
        have hkm : k < m.length := by rw [← HLM.out]; exact hkl
        have HT := Kept.mk (zip_take l m k hkl hkm)
        have P1 := Kept.mk ((HB.out.cell (p := ⟨b1, o1 + k, none⟩) l1).trans (HC1.out k _ (get_map intC l k hkl)))
        have P2 := Kept.mk ((HB.out.cell (p := ⟨b2, o2 + k, none⟩) l2).trans (HC2.out k _ (get_map intC m k hkm)))
        have HLT := Kept.mk (show ((List.zipWith maxI l m).take k).length ≤ 1000000 by rw [List.length_take]; omega)
        generalize (List.zipWith maxI l m).take k = xs at *
        go_wp2_with fail
        refine most_region _ _ _ rfl w.heap.size _ xs b1 o1 c1 b2 o2 c2 n k l[k] m[k] rfl rfl rfl rfl hlt P1.out (Nat.lt_of_lt_of_le l1 HB.out.size) P2.out (Nat.lt_of_lt_of_le l2 HB.out.size) HO.out HLT.out HB.out.size ?_
        intro f9 W9 h5 ho hb9
        simp only [List.foldl_cons, List.foldl_nil, h5]
        generalize f9 13 = y13
        generalize f9 14 = y14
        generalize f9 15 = y15
        generalize f9 16 = y16
        generalize f9 17 = y17
        generalize f9 18 = y18
        generalize f9 19 = y19
        generalize f9 20 = y20
        generalize f9 21 = y21
        generalize f9 22 = y22
        generalize f9 23 = y23
        generalize f9 24 = y24 at ho ⊢
        clear h5
        simp only [List.setIfInBounds_toArray, List.set_cons_succ, List.set_cons_zero]
        have HO9 := Kept.mk ho
        rw [← HT.out] at HO9
        have HB9 := Kept.mk (HB.out.trans hb9)
        clear ho hb9 HO HB P1 P2
        go_wp2
        go_roundw
        case rel => exact ⟨k + 1, by omega, by go_num, HO9, HB9⟩
        case measure => simp [intOf]; omega
      · have d1 : decide ((k : Int) < (n : Int)) = false := by simp; omega
        have HE := Kept.mk (show (List.zipWith maxI l m).take k = List.zipWith maxI l m by rw [List.take_of_length_le]; rw [HZ.out, ← HN.out]; omega)
        rw [HE.out] at HO
        go_wp2
        go_ret
        refine ⟨_, rfl, ?_, HB.out⟩
        unfold isOwn
        rw [List.length_map]
        exact HO.out
end Go.Proofs.YtmbnhlhanckkiaaGreat
end
section
namespace Go.Proofs.YtmbnhlhanckkiaaGreat
open Go.RowKit
set_option linter.unusedVariables false
set_option linter.unusedSimpArgs false
attribute [local irreducible] setN

/-- A value whose rows, if it has any, are new. -/
def isVaR (B : Nat) (A : Va) : VP := fun v w => ∃ vp vm, v = .agg #[.int .i64 A.kind, .int .i64 A.time, .int .i64 A.node, .bool A.dead, .string ⟨A.text.toArray⟩, vp, vm, .int .u64 (A.flags.toNat : Int)] ∧ isCells (A.plus.map intC) vp w ∧ isCells (A.minus.map intC) vm w ∧ (A.plus ≠ [] → NewB B vp) ∧ (A.minus ≠ [] → NewB B vm)
theorem va_mk {A : Va} {vp vm : Value} {w : World} (hp : isCells (A.plus.map intC) vp w) (hm : isCells (A.minus.map intC) vm w) : isVa A (.agg #[.int .i64 A.kind, .int .i64 A.time, .int .i64 A.node, .bool A.dead, .string ⟨A.text.toArray⟩, vp, vm, .int .u64 (A.flags.toNat : Int)]) w := ⟨vp, vm, rfl, hp, hm⟩
theorem cells_up {cs : List Value} {v : Value} {w w' : World} (h : isCells cs v w) (hb : Below w.heap.size w w') : isCells cs v w' := stable_cells _ _ _ _ h hb
theorem vset2 {B g : Nat} {w0 w : World} (A : Va) (vp vm : Value) (hB : B ≤ g) (hb : Below B w0 w) {old : List Value} (hc : CellsN w g old) (h8 : old.length = 8) (hp : isCells (A.plus.map intC) vp w) (hm : isCells (A.minus.map intC) vm w) (np : A.plus ≠ [] → blk vp ≠ some g) (nm : A.minus ≠ [] → blk vm ≠ some g) :
    Kept (Below B w0 (setN w g 0 [.int .i64 A.kind, .int .i64 A.time, .int .i64 A.node, .bool A.dead, .string ⟨A.text.toArray⟩, vp, vm, .int .u64 (A.flags.toNat : Int)])) ∧ Kept (VarE (setN w g 0 [.int .i64 A.kind, .int .i64 A.time, .int .i64 A.node, .bool A.dead, .string ⟨A.text.toArray⟩, vp, vm, .int .u64 (A.flags.toNat : Int)]) g A vp vm) ∧ Kept (Ones [.int .i64 A.kind, .int .i64 A.time, .int .i64 A.node, .bool A.dead, .string ⟨A.text.toArray⟩, vp, vm, .int .u64 (A.flags.toNat : Int)]) := by
  have ap : ∀ (v : Value) (l : List Int), (l ≠ [] → blk v ≠ some g) → ∀ b off cap, v = .slice (some ⟨b, off, none⟩) (l.map intC).length cap → l.map intC ≠ [] → b ≠ g := by
    rintro v l h b off cap rfl hne rfl
    exact h (fun e => hne (by rw [e]; rfl)) rfl
  exact ⟨⟨below_setN hB _ 0 _ hb⟩, ⟨⟨hc.setN_ _ h8, cells_apart hp (ap vp _ np) _ _, cells_apart hm (ap vm _ nm) _ _⟩⟩, ⟨⟨rfl, rfl, rfl, rfl, rfl, hp.one, hm.one, rfl, trivial⟩⟩⟩
theorem CellsN.setAt {w : World} {g : Nat} {l : List Value} (h : CellsN w g l) (k : Nat) (v : Value) (hk : k < l.length) : CellsN (w.setCell ⟨g, k, none⟩ v) g (l.set k v) := by
  refine ⟨by rw [World.size_setCell]; exact h.1, fun j x hx => ?_⟩
  by_cases e : k = j
  · subst e
    rw [List.getElem?_set_self hk] at hx
    injection hx with hx
    subst hx
    exact World.cell?_setCell_same w _ _ (h.2 k _ (List.getElem?_eq_getElem hk))
  · rw [List.getElem?_set_ne e] at hx
    rw [World.cell?_setCell_other w _ _ _ (by intro hh; injection hh; omega)]
    exact h.2 j x hx
theorem CellsN.setOther {w : World} {g b : Nat} {l : List Value} (h : CellsN w g l) (hne : g ≠ b) (k : Nat) (v : Value) : CellsN (w.setCell ⟨b, k, none⟩ v) g l :=
  ⟨by rw [World.size_setCell]; exact h.1, fun j x hx => (World.cell?_setCell_other w _ _ _ (by intro e; injection e; omega)).trans (h.2 j x hx)⟩
def mergeV (A B : Va) : Va := ⟨A.kind, A.time, A.node, A.dead, A.text, List.zipWith maxI A.plus B.plus, List.zipWith maxI A.minus B.minus, A.flags ||| B.flags⟩
theorem merge_join {A B : Va} (h : joinE A B = 0) (k : A.kind ≠ 1) : joinF A B = mergeV A B ∧ A.plus.length = B.plus.length ∧ A.minus.length = B.minus.length := by
  obtain ⟨hA, hB, hk⟩ := joinE_zero.1 h
  rw [joinF_ok h]
  rcases ok_kind hA with k1 | k2 | k3
  · exact absurd k1 k
  · obtain ⟨a1, a2⟩ := ok_count hA k2
    obtain ⟨b1, b2⟩ := ok_count hB (by omega)
    unfold inCount at a1 b1
    rw [Bool.and_eq_true] at a1 b1
    rw [joinV_count k2]
    refine ⟨?_, by rw [okRow_len a1.1, okRow_len b1.1], by rw [okRow_len a1.2, okRow_len b1.2]⟩
    have e1 : A.time = 0 := congrArg Va.time a2
    have e2 : A.node = 0 := congrArg Va.node a2
    have e3 : A.flags = 0 := congrArg Va.flags a2
    have e4 : A.dead = false := congrArg Va.dead a2
    have e5 : A.text = [] := congrArg Va.text a2
    have e6 : B.flags = 0 := congrArg Va.flags b2
    unfold joinCount mergeV
    rw [k2, e1, e2, e3, e4, e5, e6]
    rfl
  · have a2 := ok_flags hA k3
    have b2 := ok_flags hB (by omega)
    have e1 : A.time = 0 := congrArg Va.time a2
    have e2 : A.node = 0 := congrArg Va.node a2
    have e4 : A.dead = false := congrArg Va.dead a2
    have e5 : A.text = [] := congrArg Va.text a2
    have e6 : A.plus = [] := congrArg Va.plus a2
    have e7 : A.minus = [] := congrArg Va.minus a2
    have f6 : B.plus = [] := congrArg Va.plus b2
    have f7 : B.minus = [] := congrArg Va.minus b2
    rw [joinV_flags k3]
    refine ⟨?_, by rw [e6, f6], by rw [e7, f7]⟩
    unfold joinFlags mergeV
    rw [k3, e1, e2, e4, e5, e6, e7]
    rfl
set_option maxRecDepth 20000 in
set_option maxHeartbeats 2000000 in
theorem rjoin_no1 (A B : Va) (v u : Value) (w : World) (hv : isVa A v w) (hu : isVa B u w) (hA : Fit A) (hC : Fit B) (h : okV A = false) :
    Calls Tryz.prog 110 #[v, u] w fun e w' => ∃ v', e = .returned (.tuple #[v', .int .i64 2]) ∧ isVaR w.heap.size zeroV v' w' ∧ Below w.heap.size w w' := by
  obtain ⟨vp, vm, rfl, hp, hm⟩ := hv
  obtain ⟨up, um, rfl, gp, gm⟩ := hu
  have hB1 := lit_below w (.cells #[.int .i64 A.kind, .int .i64 A.time, .int .i64 A.node, .bool A.dead, .string ⟨A.text.toArray⟩, vp, vm, .int .u64 (A.flags.toNat : Int)] 40)
  have hB2 := lit_below (w.alloc (.cells #[.int .i64 A.kind, .int .i64 A.time, .int .i64 A.node, .bool A.dead, .string ⟨A.text.toArray⟩, vp, vm, .int .u64 (A.flags.toNat : Int)] 40)) (.cells #[.int .i64 B.kind, .int .i64 B.time, .int .i64 B.node, .bool B.dead, .string ⟨B.text.toArray⟩, up, um, .int .u64 (B.flags.toNat : Int)] 40)
  have hB3 := lit_below ((w.alloc (.cells #[.int .i64 A.kind, .int .i64 A.time, .int .i64 A.node, .bool A.dead, .string ⟨A.text.toArray⟩, vp, vm, .int .u64 (A.flags.toNat : Int)] 40)).alloc (.cells #[.int .i64 B.kind, .int .i64 B.time, .int .i64 B.node, .bool B.dead, .string ⟨B.text.toArray⟩, up, um, .int .u64 (B.flags.toNat : Int)] 40)) (.cells #[.int .i64 0, .int .i64 0, .int .i64 0, .bool false, .string ⟨#[]⟩, .slice none 0 0, .slice none 0 0, .int .u64 0] 40)
  have hB := Kept.mk ((hB1.trans (hB2.mono hB1.size)).trans (hB3.mono (hB1.trans (hB2.mono hB1.size)).size))
  have CA := Kept.mk (((cellsN_at w 40 [.int .i64 A.kind, .int .i64 A.time, .int .i64 A.node, .bool A.dead, .string ⟨A.text.toArray⟩, vp, vm, .int .u64 (A.flags.toNat : Int)] w.heap.size rfl).keep hB2 (by simp)).keep hB3 (by simp <;> omega))
  have CB := Kept.mk ((cellsN_at (w.alloc (.cells #[.int .i64 A.kind, .int .i64 A.time, .int .i64 A.node, .bool A.dead, .string ⟨A.text.toArray⟩, vp, vm, .int .u64 (A.flags.toNat : Int)] 40)) 40 [.int .i64 B.kind, .int .i64 B.time, .int .i64 B.node, .bool B.dead, .string ⟨B.text.toArray⟩, up, um, .int .u64 (B.flags.toNat : Int)] (w.heap.size + 1) (by simp)).keep hB3 (by simp))
  have HZ := Kept.mk (cellsN_at ((w.alloc (.cells #[.int .i64 A.kind, .int .i64 A.time, .int .i64 A.node, .bool A.dead, .string ⟨A.text.toArray⟩, vp, vm, .int .u64 (A.flags.toNat : Int)] 40)).alloc (.cells #[.int .i64 B.kind, .int .i64 B.time, .int .i64 B.node, .bool B.dead, .string ⟨B.text.toArray⟩, up, um, .int .u64 (B.flags.toNat : Int)] 40)) 40 [.int .i64 0, .int .i64 0, .int .i64 0, .bool false, .string ⟨#[]⟩, .slice none 0 0, .slice none 0 0, .int .u64 0] (w.heap.size + 2) (by simp))
  have FA := Kept.mk (((free5_at w #[.int .i64 A.kind, .int .i64 A.time, .int .i64 A.node, .bool A.dead, .string ⟨A.text.toArray⟩, vp, vm, .int .u64 (A.flags.toNat : Int)] 40 w.heap.size rfl).keep hB2 (by simp)).keep hB3 (by simp <;> omega))
  have HF := Kept.mk (free5_at ((w.alloc (.cells #[.int .i64 A.kind, .int .i64 A.time, .int .i64 A.node, .bool A.dead, .string ⟨A.text.toArray⟩, vp, vm, .int .u64 (A.flags.toNat : Int)] 40)).alloc (.cells #[.int .i64 B.kind, .int .i64 B.time, .int .i64 B.node, .bool B.dead, .string ⟨B.text.toArray⟩, up, um, .int .u64 (B.flags.toNat : Int)] 40)) #[.int .i64 0, .int .i64 0, .int .i64 0, .bool false, .string ⟨#[]⟩, .slice none 0 0, .slice none 0 0, .int .u64 0] 40 (w.heap.size + 2) (by simp))
  have hs : Kept ((((w.alloc (.cells #[.int .i64 A.kind, .int .i64 A.time, .int .i64 A.node, .bool A.dead, .string ⟨A.text.toArray⟩, vp, vm, .int .u64 (A.flags.toNat : Int)] 40)).alloc (.cells #[.int .i64 B.kind, .int .i64 B.time, .int .i64 B.node, .bool B.dead, .string ⟨B.text.toArray⟩, up, um, .int .u64 (B.flags.toNat : Int)] 40)).alloc (.cells #[.int .i64 0, .int .i64 0, .int .i64 0, .bool false, .string ⟨#[]⟩, .slice none 0 0, .slice none 0 0, .int .u64 0] 40)).heap.size = w.heap.size + 3) := ⟨by simp⟩
  have HP := Kept.mk hp
  have HM := Kept.mk hm
  have GP := Kept.mk gp
  have GM := Kept.mk gm
  clear hp hm gp gm hB1 hB2 hB3
  have HO := Kept.mk h
  clear h
  go_enter Tryz.func110, Tryz.ntmps110
  go_wp2_with fail
  generalize ((w.alloc (.cells #[.int .i64 A.kind, .int .i64 A.time, .int .i64 A.node, .bool A.dead, .string ⟨A.text.toArray⟩, vp, vm, .int .u64 (A.flags.toNat : Int)] 40)).alloc (.cells #[.int .i64 B.kind, .int .i64 B.time, .int .i64 B.node, .bool B.dead, .string ⟨B.text.toArray⟩, up, um, .int .u64 (B.flags.toNat : Int)] 40)).alloc (.cells #[.int .i64 0, .int .i64 0, .int .i64 0, .bool false, .string ⟨#[]⟩, .slice none 0 0, .slice none 0 0, .int .u64 0] 40) = W0 at *
  replace hs := Kept.mk (Nat.le_of_eq hs.out.symm)
  ((with_reducible refine (rcheck_any A _ _ (show isVa A (.agg #[.int .i64 A.kind, .int .i64 A.time, .int .i64 A.node, .bool A.dead, .string ⟨A.text.toArray⟩, vp, vm, .int .u64 (A.flags.toNat : Int)]) W0 from va_mk (cells_up HP.out hB.out) (cells_up HM.out hB.out)) hA).mono ?_); rintro e w1 ⟨rfl, hb1⟩)
  have hgA := CA.out.1
  replace FA := Kept.mk (FA.out.keep hb1 (Nat.lt_of_lt_of_le (by show w.heap.size < _; exact hgA) (Nat.le_refl _)))
  replace HF := Kept.mk (HF.out.keep hb1 HZ.out.1)
  replace CA := Kept.mk (CA.out.keep hb1 CA.out.1)
  replace CB := Kept.mk (CB.out.keep hb1 CB.out.1)
  replace HZ := Kept.mk (HZ.out.keep hb1 HZ.out.1)
  replace hB := Kept.mk (hB.out.trans (hb1.mono hB.out.size))
  replace hs := Kept.mk (Nat.le_trans hs.out hb1.size)
  clear hb1 hgA
  rewrite [HO.out]
  obtain ⟨hBK, K4, K5⟩ := vset zeroV (.slice none 0 0) (.slice none 0 0) (g := w.heap.size + 2) (by omega) hB.out HZ.out rfl (.inl ⟨rfl, rfl⟩) (.inl ⟨rfl, rfl⟩) (by intro h; cases h) (by intro h; cases h)
  have NP1 : Kept (zeroV.plus ≠ [] → NewB w.heap.size (.slice none 0 0)) := ⟨fun h => absurd rfl h⟩
  have NM1 : Kept (zeroV.minus ≠ [] → NewB w.heap.size (.slice none 0 0)) := ⟨fun h => absurd rfl h⟩
  obtain ⟨hc', hp', hm'⟩ := K4.out
  clear K4
  go_wp2_with (have hz0 := K5; refine wpList_storeN 40 rfl (.tmp 4) (.tmp 14) rfl (w.heap.size + 2) [.int .i64 0, .int .i64 0, .int .i64 0, .bool false, .string ⟨#[]⟩, .slice none 0 0, .slice none 0 0, .int .u64 0] size_va rfl rfl HZ.out rfl HF.out K5.out ?_; clear hz0 K5)
  exact bodyPost_ret (resultsN2 rfl _ _ (w.heap.size + 2) _ (.int .i64 2) size_va agg_va rfl rfl hc') rfl ⟨_, rfl, ⟨(.slice none 0 0), (.slice none 0 0), rfl, hp', hm', NP1.out, NM1.out⟩, hBK.out⟩
set_option maxRecDepth 20000 in
set_option maxHeartbeats 2000000 in
theorem rjoin_no2 (A B : Va) (v u : Value) (w : World) (hv : isVa A v w) (hu : isVa B u w) (hA : Fit A) (hC : Fit B) (h : okV A = true) (h2 : okV B = false) :
    Calls Tryz.prog 110 #[v, u] w fun e w' => ∃ v', e = .returned (.tuple #[v', .int .i64 2]) ∧ isVaR w.heap.size zeroV v' w' ∧ Below w.heap.size w w' := by
  obtain ⟨vp, vm, rfl, hp, hm⟩ := hv
  obtain ⟨up, um, rfl, gp, gm⟩ := hu
  have hB1 := lit_below w (.cells #[.int .i64 A.kind, .int .i64 A.time, .int .i64 A.node, .bool A.dead, .string ⟨A.text.toArray⟩, vp, vm, .int .u64 (A.flags.toNat : Int)] 40)
  have hB2 := lit_below (w.alloc (.cells #[.int .i64 A.kind, .int .i64 A.time, .int .i64 A.node, .bool A.dead, .string ⟨A.text.toArray⟩, vp, vm, .int .u64 (A.flags.toNat : Int)] 40)) (.cells #[.int .i64 B.kind, .int .i64 B.time, .int .i64 B.node, .bool B.dead, .string ⟨B.text.toArray⟩, up, um, .int .u64 (B.flags.toNat : Int)] 40)
  have hB3 := lit_below ((w.alloc (.cells #[.int .i64 A.kind, .int .i64 A.time, .int .i64 A.node, .bool A.dead, .string ⟨A.text.toArray⟩, vp, vm, .int .u64 (A.flags.toNat : Int)] 40)).alloc (.cells #[.int .i64 B.kind, .int .i64 B.time, .int .i64 B.node, .bool B.dead, .string ⟨B.text.toArray⟩, up, um, .int .u64 (B.flags.toNat : Int)] 40)) (.cells #[.int .i64 0, .int .i64 0, .int .i64 0, .bool false, .string ⟨#[]⟩, .slice none 0 0, .slice none 0 0, .int .u64 0] 40)
  have hB := Kept.mk ((hB1.trans (hB2.mono hB1.size)).trans (hB3.mono (hB1.trans (hB2.mono hB1.size)).size))
  have CA := Kept.mk (((cellsN_at w 40 [.int .i64 A.kind, .int .i64 A.time, .int .i64 A.node, .bool A.dead, .string ⟨A.text.toArray⟩, vp, vm, .int .u64 (A.flags.toNat : Int)] w.heap.size rfl).keep hB2 (by simp)).keep hB3 (by simp <;> omega))
  have CB := Kept.mk ((cellsN_at (w.alloc (.cells #[.int .i64 A.kind, .int .i64 A.time, .int .i64 A.node, .bool A.dead, .string ⟨A.text.toArray⟩, vp, vm, .int .u64 (A.flags.toNat : Int)] 40)) 40 [.int .i64 B.kind, .int .i64 B.time, .int .i64 B.node, .bool B.dead, .string ⟨B.text.toArray⟩, up, um, .int .u64 (B.flags.toNat : Int)] (w.heap.size + 1) (by simp)).keep hB3 (by simp))
  have HZ := Kept.mk (cellsN_at ((w.alloc (.cells #[.int .i64 A.kind, .int .i64 A.time, .int .i64 A.node, .bool A.dead, .string ⟨A.text.toArray⟩, vp, vm, .int .u64 (A.flags.toNat : Int)] 40)).alloc (.cells #[.int .i64 B.kind, .int .i64 B.time, .int .i64 B.node, .bool B.dead, .string ⟨B.text.toArray⟩, up, um, .int .u64 (B.flags.toNat : Int)] 40)) 40 [.int .i64 0, .int .i64 0, .int .i64 0, .bool false, .string ⟨#[]⟩, .slice none 0 0, .slice none 0 0, .int .u64 0] (w.heap.size + 2) (by simp))
  have FA := Kept.mk (((free5_at w #[.int .i64 A.kind, .int .i64 A.time, .int .i64 A.node, .bool A.dead, .string ⟨A.text.toArray⟩, vp, vm, .int .u64 (A.flags.toNat : Int)] 40 w.heap.size rfl).keep hB2 (by simp)).keep hB3 (by simp <;> omega))
  have HF := Kept.mk (free5_at ((w.alloc (.cells #[.int .i64 A.kind, .int .i64 A.time, .int .i64 A.node, .bool A.dead, .string ⟨A.text.toArray⟩, vp, vm, .int .u64 (A.flags.toNat : Int)] 40)).alloc (.cells #[.int .i64 B.kind, .int .i64 B.time, .int .i64 B.node, .bool B.dead, .string ⟨B.text.toArray⟩, up, um, .int .u64 (B.flags.toNat : Int)] 40)) #[.int .i64 0, .int .i64 0, .int .i64 0, .bool false, .string ⟨#[]⟩, .slice none 0 0, .slice none 0 0, .int .u64 0] 40 (w.heap.size + 2) (by simp))
  have hs : Kept ((((w.alloc (.cells #[.int .i64 A.kind, .int .i64 A.time, .int .i64 A.node, .bool A.dead, .string ⟨A.text.toArray⟩, vp, vm, .int .u64 (A.flags.toNat : Int)] 40)).alloc (.cells #[.int .i64 B.kind, .int .i64 B.time, .int .i64 B.node, .bool B.dead, .string ⟨B.text.toArray⟩, up, um, .int .u64 (B.flags.toNat : Int)] 40)).alloc (.cells #[.int .i64 0, .int .i64 0, .int .i64 0, .bool false, .string ⟨#[]⟩, .slice none 0 0, .slice none 0 0, .int .u64 0] 40)).heap.size = w.heap.size + 3) := ⟨by simp⟩
  have HP := Kept.mk hp
  have HM := Kept.mk hm
  have GP := Kept.mk gp
  have GM := Kept.mk gm
  clear hp hm gp gm hB1 hB2 hB3
  have HO := Kept.mk h
  have HO2 := Kept.mk h2
  clear h h2
  go_enter Tryz.func110, Tryz.ntmps110
  go_wp2_with fail
  generalize ((w.alloc (.cells #[.int .i64 A.kind, .int .i64 A.time, .int .i64 A.node, .bool A.dead, .string ⟨A.text.toArray⟩, vp, vm, .int .u64 (A.flags.toNat : Int)] 40)).alloc (.cells #[.int .i64 B.kind, .int .i64 B.time, .int .i64 B.node, .bool B.dead, .string ⟨B.text.toArray⟩, up, um, .int .u64 (B.flags.toNat : Int)] 40)).alloc (.cells #[.int .i64 0, .int .i64 0, .int .i64 0, .bool false, .string ⟨#[]⟩, .slice none 0 0, .slice none 0 0, .int .u64 0] 40) = W0 at *
  replace hs := Kept.mk (Nat.le_of_eq hs.out.symm)
  ((with_reducible refine (rcheck_any A _ _ (show isVa A (.agg #[.int .i64 A.kind, .int .i64 A.time, .int .i64 A.node, .bool A.dead, .string ⟨A.text.toArray⟩, vp, vm, .int .u64 (A.flags.toNat : Int)]) W0 from va_mk (cells_up HP.out hB.out) (cells_up HM.out hB.out)) hA).mono ?_); rintro e w1 ⟨rfl, hb1⟩)
  have hgA := CA.out.1
  replace FA := Kept.mk (FA.out.keep hb1 (Nat.lt_of_lt_of_le (by show w.heap.size < _; exact hgA) (Nat.le_refl _)))
  replace HF := Kept.mk (HF.out.keep hb1 HZ.out.1)
  replace CA := Kept.mk (CA.out.keep hb1 CA.out.1)
  replace CB := Kept.mk (CB.out.keep hb1 CB.out.1)
  replace HZ := Kept.mk (HZ.out.keep hb1 HZ.out.1)
  replace hB := Kept.mk (hB.out.trans (hb1.mono hB.out.size))
  replace hs := Kept.mk (Nat.le_trans hs.out hb1.size)
  clear hb1 hgA
  rewrite [HO.out]
  have kb0 := CB.out.2 0 _ rfl
  have kb1 := CB.out.2 1 _ rfl
  have kb2 := CB.out.2 2 _ rfl
  have kb3 := CB.out.2 3 _ rfl
  have kb4 := CB.out.2 4 _ rfl
  have kb5 := CB.out.2 5 _ rfl
  have kb6 := CB.out.2 6 _ rfl
  have kb7 := CB.out.2 7 _ rfl
  go_wp2_with fail
  ((with_reducible refine (rcheck_any B _ _ (show isVa B (.agg #[.int .i64 B.kind, .int .i64 B.time, .int .i64 B.node, .bool B.dead, .string ⟨B.text.toArray⟩, up, um, .int .u64 (B.flags.toNat : Int)]) w1 from va_mk (cells_up GP.out hB.out) (cells_up GM.out hB.out)) hC).mono ?_); rintro e w2 ⟨rfl, hb1⟩)
  clear kb0 kb1 kb2 kb3 kb4 kb5 kb6 kb7
  have hgA := CA.out.1
  replace FA := Kept.mk (FA.out.keep hb1 (Nat.lt_of_lt_of_le (by show w.heap.size < _; exact hgA) (Nat.le_refl _)))
  replace HF := Kept.mk (HF.out.keep hb1 HZ.out.1)
  replace CA := Kept.mk (CA.out.keep hb1 CA.out.1)
  replace CB := Kept.mk (CB.out.keep hb1 CB.out.1)
  replace HZ := Kept.mk (HZ.out.keep hb1 HZ.out.1)
  replace hB := Kept.mk (hB.out.trans (hb1.mono hB.out.size))
  replace hs := Kept.mk (Nat.le_trans hs.out hb1.size)
  clear hb1 hgA
  rewrite [HO2.out]
  obtain ⟨hBK, K4, K5⟩ := vset zeroV (.slice none 0 0) (.slice none 0 0) (g := w.heap.size + 2) (by omega) hB.out HZ.out rfl (.inl ⟨rfl, rfl⟩) (.inl ⟨rfl, rfl⟩) (by intro h; cases h) (by intro h; cases h)
  have NP1 : Kept (zeroV.plus ≠ [] → NewB w.heap.size (.slice none 0 0)) := ⟨fun h => absurd rfl h⟩
  have NM1 : Kept (zeroV.minus ≠ [] → NewB w.heap.size (.slice none 0 0)) := ⟨fun h => absurd rfl h⟩
  obtain ⟨hc', hp', hm'⟩ := K4.out
  clear K4
  go_wp2_with (have hz0 := K5; refine wpList_storeN 40 rfl (.tmp 4) (.tmp 14) rfl (w.heap.size + 2) [.int .i64 0, .int .i64 0, .int .i64 0, .bool false, .string ⟨#[]⟩, .slice none 0 0, .slice none 0 0, .int .u64 0] size_va rfl rfl HZ.out rfl HF.out K5.out ?_; clear hz0 K5)
  exact bodyPost_ret (resultsN2 rfl _ _ (w.heap.size + 2) _ (.int .i64 2) size_va agg_va rfl rfl hc') rfl ⟨_, rfl, ⟨(.slice none 0 0), (.slice none 0 0), rfl, hp', hm', NP1.out, NM1.out⟩, hBK.out⟩
set_option maxRecDepth 20000 in
set_option maxHeartbeats 2000000 in
theorem rjoin_no3 (A B : Va) (v u : Value) (w : World) (hv : isVa A v w) (hu : isVa B u w) (hA : Fit A) (hC : Fit B) (h : okV A = true) (h2 : okV B = true) (h3 : A.kind ≠ B.kind) :
    Calls Tryz.prog 110 #[v, u] w fun e w' => ∃ v', e = .returned (.tuple #[v', .int .i64 3]) ∧ isVaR w.heap.size zeroV v' w' ∧ Below w.heap.size w w' := by
  obtain ⟨vp, vm, rfl, hp, hm⟩ := hv
  obtain ⟨up, um, rfl, gp, gm⟩ := hu
  have hB1 := lit_below w (.cells #[.int .i64 A.kind, .int .i64 A.time, .int .i64 A.node, .bool A.dead, .string ⟨A.text.toArray⟩, vp, vm, .int .u64 (A.flags.toNat : Int)] 40)
  have hB2 := lit_below (w.alloc (.cells #[.int .i64 A.kind, .int .i64 A.time, .int .i64 A.node, .bool A.dead, .string ⟨A.text.toArray⟩, vp, vm, .int .u64 (A.flags.toNat : Int)] 40)) (.cells #[.int .i64 B.kind, .int .i64 B.time, .int .i64 B.node, .bool B.dead, .string ⟨B.text.toArray⟩, up, um, .int .u64 (B.flags.toNat : Int)] 40)
  have hB3 := lit_below ((w.alloc (.cells #[.int .i64 A.kind, .int .i64 A.time, .int .i64 A.node, .bool A.dead, .string ⟨A.text.toArray⟩, vp, vm, .int .u64 (A.flags.toNat : Int)] 40)).alloc (.cells #[.int .i64 B.kind, .int .i64 B.time, .int .i64 B.node, .bool B.dead, .string ⟨B.text.toArray⟩, up, um, .int .u64 (B.flags.toNat : Int)] 40)) (.cells #[.int .i64 0, .int .i64 0, .int .i64 0, .bool false, .string ⟨#[]⟩, .slice none 0 0, .slice none 0 0, .int .u64 0] 40)
  have hB := Kept.mk ((hB1.trans (hB2.mono hB1.size)).trans (hB3.mono (hB1.trans (hB2.mono hB1.size)).size))
  have CA := Kept.mk (((cellsN_at w 40 [.int .i64 A.kind, .int .i64 A.time, .int .i64 A.node, .bool A.dead, .string ⟨A.text.toArray⟩, vp, vm, .int .u64 (A.flags.toNat : Int)] w.heap.size rfl).keep hB2 (by simp)).keep hB3 (by simp <;> omega))
  have CB := Kept.mk ((cellsN_at (w.alloc (.cells #[.int .i64 A.kind, .int .i64 A.time, .int .i64 A.node, .bool A.dead, .string ⟨A.text.toArray⟩, vp, vm, .int .u64 (A.flags.toNat : Int)] 40)) 40 [.int .i64 B.kind, .int .i64 B.time, .int .i64 B.node, .bool B.dead, .string ⟨B.text.toArray⟩, up, um, .int .u64 (B.flags.toNat : Int)] (w.heap.size + 1) (by simp)).keep hB3 (by simp))
  have HZ := Kept.mk (cellsN_at ((w.alloc (.cells #[.int .i64 A.kind, .int .i64 A.time, .int .i64 A.node, .bool A.dead, .string ⟨A.text.toArray⟩, vp, vm, .int .u64 (A.flags.toNat : Int)] 40)).alloc (.cells #[.int .i64 B.kind, .int .i64 B.time, .int .i64 B.node, .bool B.dead, .string ⟨B.text.toArray⟩, up, um, .int .u64 (B.flags.toNat : Int)] 40)) 40 [.int .i64 0, .int .i64 0, .int .i64 0, .bool false, .string ⟨#[]⟩, .slice none 0 0, .slice none 0 0, .int .u64 0] (w.heap.size + 2) (by simp))
  have FA := Kept.mk (((free5_at w #[.int .i64 A.kind, .int .i64 A.time, .int .i64 A.node, .bool A.dead, .string ⟨A.text.toArray⟩, vp, vm, .int .u64 (A.flags.toNat : Int)] 40 w.heap.size rfl).keep hB2 (by simp)).keep hB3 (by simp <;> omega))
  have HF := Kept.mk (free5_at ((w.alloc (.cells #[.int .i64 A.kind, .int .i64 A.time, .int .i64 A.node, .bool A.dead, .string ⟨A.text.toArray⟩, vp, vm, .int .u64 (A.flags.toNat : Int)] 40)).alloc (.cells #[.int .i64 B.kind, .int .i64 B.time, .int .i64 B.node, .bool B.dead, .string ⟨B.text.toArray⟩, up, um, .int .u64 (B.flags.toNat : Int)] 40)) #[.int .i64 0, .int .i64 0, .int .i64 0, .bool false, .string ⟨#[]⟩, .slice none 0 0, .slice none 0 0, .int .u64 0] 40 (w.heap.size + 2) (by simp))
  have hs : Kept ((((w.alloc (.cells #[.int .i64 A.kind, .int .i64 A.time, .int .i64 A.node, .bool A.dead, .string ⟨A.text.toArray⟩, vp, vm, .int .u64 (A.flags.toNat : Int)] 40)).alloc (.cells #[.int .i64 B.kind, .int .i64 B.time, .int .i64 B.node, .bool B.dead, .string ⟨B.text.toArray⟩, up, um, .int .u64 (B.flags.toNat : Int)] 40)).alloc (.cells #[.int .i64 0, .int .i64 0, .int .i64 0, .bool false, .string ⟨#[]⟩, .slice none 0 0, .slice none 0 0, .int .u64 0] 40)).heap.size = w.heap.size + 3) := ⟨by simp⟩
  have HP := Kept.mk hp
  have HM := Kept.mk hm
  have GP := Kept.mk gp
  have GM := Kept.mk gm
  clear hp hm gp gm hB1 hB2 hB3
  have HO := Kept.mk h
  have HO2 := Kept.mk h2
  have d3 : (A.kind == B.kind) = false := by simpa using h3
  clear h h2 h3
  go_enter Tryz.func110, Tryz.ntmps110
  go_wp2_with fail
  generalize ((w.alloc (.cells #[.int .i64 A.kind, .int .i64 A.time, .int .i64 A.node, .bool A.dead, .string ⟨A.text.toArray⟩, vp, vm, .int .u64 (A.flags.toNat : Int)] 40)).alloc (.cells #[.int .i64 B.kind, .int .i64 B.time, .int .i64 B.node, .bool B.dead, .string ⟨B.text.toArray⟩, up, um, .int .u64 (B.flags.toNat : Int)] 40)).alloc (.cells #[.int .i64 0, .int .i64 0, .int .i64 0, .bool false, .string ⟨#[]⟩, .slice none 0 0, .slice none 0 0, .int .u64 0] 40) = W0 at *
  replace hs := Kept.mk (Nat.le_of_eq hs.out.symm)
  ((with_reducible refine (rcheck_any A _ _ (show isVa A (.agg #[.int .i64 A.kind, .int .i64 A.time, .int .i64 A.node, .bool A.dead, .string ⟨A.text.toArray⟩, vp, vm, .int .u64 (A.flags.toNat : Int)]) W0 from va_mk (cells_up HP.out hB.out) (cells_up HM.out hB.out)) hA).mono ?_); rintro e w1 ⟨rfl, hb1⟩)
  have hgA := CA.out.1
  replace FA := Kept.mk (FA.out.keep hb1 (Nat.lt_of_lt_of_le (by show w.heap.size < _; exact hgA) (Nat.le_refl _)))
  replace HF := Kept.mk (HF.out.keep hb1 HZ.out.1)
  replace CA := Kept.mk (CA.out.keep hb1 CA.out.1)
  replace CB := Kept.mk (CB.out.keep hb1 CB.out.1)
  replace HZ := Kept.mk (HZ.out.keep hb1 HZ.out.1)
  replace hB := Kept.mk (hB.out.trans (hb1.mono hB.out.size))
  replace hs := Kept.mk (Nat.le_trans hs.out hb1.size)
  clear hb1 hgA
  rewrite [HO.out]
  have kb0 := CB.out.2 0 _ rfl
  have kb1 := CB.out.2 1 _ rfl
  have kb2 := CB.out.2 2 _ rfl
  have kb3 := CB.out.2 3 _ rfl
  have kb4 := CB.out.2 4 _ rfl
  have kb5 := CB.out.2 5 _ rfl
  have kb6 := CB.out.2 6 _ rfl
  have kb7 := CB.out.2 7 _ rfl
  go_wp2_with fail
  ((with_reducible refine (rcheck_any B _ _ (show isVa B (.agg #[.int .i64 B.kind, .int .i64 B.time, .int .i64 B.node, .bool B.dead, .string ⟨B.text.toArray⟩, up, um, .int .u64 (B.flags.toNat : Int)]) w1 from va_mk (cells_up GP.out hB.out) (cells_up GM.out hB.out)) hC).mono ?_); rintro e w2 ⟨rfl, hb1⟩)
  clear kb0 kb1 kb2 kb3 kb4 kb5 kb6 kb7
  have hgA := CA.out.1
  replace FA := Kept.mk (FA.out.keep hb1 (Nat.lt_of_lt_of_le (by show w.heap.size < _; exact hgA) (Nat.le_refl _)))
  replace HF := Kept.mk (HF.out.keep hb1 HZ.out.1)
  replace CA := Kept.mk (CA.out.keep hb1 CA.out.1)
  replace CB := Kept.mk (CB.out.keep hb1 CB.out.1)
  replace HZ := Kept.mk (HZ.out.keep hb1 HZ.out.1)
  replace hB := Kept.mk (hB.out.trans (hb1.mono hB.out.size))
  replace hs := Kept.mk (Nat.le_trans hs.out hb1.size)
  clear hb1 hgA
  rewrite [HO2.out]
  obtain ⟨hBK, K4, K5⟩ := vset zeroV (.slice none 0 0) (.slice none 0 0) (g := w.heap.size + 2) (by omega) hB.out HZ.out rfl (.inl ⟨rfl, rfl⟩) (.inl ⟨rfl, rfl⟩) (by intro h; cases h) (by intro h; cases h)
  have ka0 := CA.out.2 0 _ rfl
  have kb0 := CB.out.2 0 _ rfl
  have NP1 : Kept (zeroV.plus ≠ [] → NewB w.heap.size (.slice none 0 0)) := ⟨fun h => absurd rfl h⟩
  have NM1 : Kept (zeroV.minus ≠ [] → NewB w.heap.size (.slice none 0 0)) := ⟨fun h => absurd rfl h⟩
  obtain ⟨hc', hp', hm'⟩ := K4.out
  clear K4
  go_wp2_with (have hz0 := K5; refine wpList_storeN 40 rfl (.tmp 4) (.tmp 20) rfl (w.heap.size + 2) [.int .i64 0, .int .i64 0, .int .i64 0, .bool false, .string ⟨#[]⟩, .slice none 0 0, .slice none 0 0, .int .u64 0] size_va rfl rfl HZ.out rfl HF.out K5.out ?_; clear hz0 K5)
  exact bodyPost_ret (resultsN2 rfl _ _ (w.heap.size + 2) _ (.int .i64 3) size_va agg_va rfl rfl hc') rfl ⟨_, rfl, ⟨(.slice none 0 0), (.slice none 0 0), rfl, hp', hm', NP1.out, NM1.out⟩, hBK.out⟩
set_option maxRecDepth 20000 in
set_option maxHeartbeats 2000000 in
theorem rjoin_reg_true (A B : Va) (v u : Value) (w : World) (hv : isVa A v w) (hu : isVa B u w) (hA : Fit A) (hC : Fit B) (h : okV A = true) (h2 : okV B = true) (h3 : A.kind = B.kind) (h4 : A.kind = 1) (h5 : behindB B A = true) (hn1 : B.plus = []) (hn2 : B.minus = []) :
    Calls Tryz.prog 110 #[v, u] w fun e w' => ∃ v', e = .returned (.tuple #[v', .int .i64 0]) ∧ isVaR w.heap.size B v' w' ∧ Below w.heap.size w w' := by
  obtain ⟨vp, vm, rfl, hp, hm⟩ := hv
  obtain ⟨up, um, rfl, gp, gm⟩ := hu
  have hB1 := lit_below w (.cells #[.int .i64 A.kind, .int .i64 A.time, .int .i64 A.node, .bool A.dead, .string ⟨A.text.toArray⟩, vp, vm, .int .u64 (A.flags.toNat : Int)] 40)
  have hB2 := lit_below (w.alloc (.cells #[.int .i64 A.kind, .int .i64 A.time, .int .i64 A.node, .bool A.dead, .string ⟨A.text.toArray⟩, vp, vm, .int .u64 (A.flags.toNat : Int)] 40)) (.cells #[.int .i64 B.kind, .int .i64 B.time, .int .i64 B.node, .bool B.dead, .string ⟨B.text.toArray⟩, up, um, .int .u64 (B.flags.toNat : Int)] 40)
  have hB3 := lit_below ((w.alloc (.cells #[.int .i64 A.kind, .int .i64 A.time, .int .i64 A.node, .bool A.dead, .string ⟨A.text.toArray⟩, vp, vm, .int .u64 (A.flags.toNat : Int)] 40)).alloc (.cells #[.int .i64 B.kind, .int .i64 B.time, .int .i64 B.node, .bool B.dead, .string ⟨B.text.toArray⟩, up, um, .int .u64 (B.flags.toNat : Int)] 40)) (.cells #[.int .i64 0, .int .i64 0, .int .i64 0, .bool false, .string ⟨#[]⟩, .slice none 0 0, .slice none 0 0, .int .u64 0] 40)
  have hB := Kept.mk ((hB1.trans (hB2.mono hB1.size)).trans (hB3.mono (hB1.trans (hB2.mono hB1.size)).size))
  have CA := Kept.mk (((cellsN_at w 40 [.int .i64 A.kind, .int .i64 A.time, .int .i64 A.node, .bool A.dead, .string ⟨A.text.toArray⟩, vp, vm, .int .u64 (A.flags.toNat : Int)] w.heap.size rfl).keep hB2 (by simp)).keep hB3 (by simp <;> omega))
  have CB := Kept.mk ((cellsN_at (w.alloc (.cells #[.int .i64 A.kind, .int .i64 A.time, .int .i64 A.node, .bool A.dead, .string ⟨A.text.toArray⟩, vp, vm, .int .u64 (A.flags.toNat : Int)] 40)) 40 [.int .i64 B.kind, .int .i64 B.time, .int .i64 B.node, .bool B.dead, .string ⟨B.text.toArray⟩, up, um, .int .u64 (B.flags.toNat : Int)] (w.heap.size + 1) (by simp)).keep hB3 (by simp))
  have HZ := Kept.mk (cellsN_at ((w.alloc (.cells #[.int .i64 A.kind, .int .i64 A.time, .int .i64 A.node, .bool A.dead, .string ⟨A.text.toArray⟩, vp, vm, .int .u64 (A.flags.toNat : Int)] 40)).alloc (.cells #[.int .i64 B.kind, .int .i64 B.time, .int .i64 B.node, .bool B.dead, .string ⟨B.text.toArray⟩, up, um, .int .u64 (B.flags.toNat : Int)] 40)) 40 [.int .i64 0, .int .i64 0, .int .i64 0, .bool false, .string ⟨#[]⟩, .slice none 0 0, .slice none 0 0, .int .u64 0] (w.heap.size + 2) (by simp))
  have FA := Kept.mk (((free5_at w #[.int .i64 A.kind, .int .i64 A.time, .int .i64 A.node, .bool A.dead, .string ⟨A.text.toArray⟩, vp, vm, .int .u64 (A.flags.toNat : Int)] 40 w.heap.size rfl).keep hB2 (by simp)).keep hB3 (by simp <;> omega))
  have HF := Kept.mk (free5_at ((w.alloc (.cells #[.int .i64 A.kind, .int .i64 A.time, .int .i64 A.node, .bool A.dead, .string ⟨A.text.toArray⟩, vp, vm, .int .u64 (A.flags.toNat : Int)] 40)).alloc (.cells #[.int .i64 B.kind, .int .i64 B.time, .int .i64 B.node, .bool B.dead, .string ⟨B.text.toArray⟩, up, um, .int .u64 (B.flags.toNat : Int)] 40)) #[.int .i64 0, .int .i64 0, .int .i64 0, .bool false, .string ⟨#[]⟩, .slice none 0 0, .slice none 0 0, .int .u64 0] 40 (w.heap.size + 2) (by simp))
  have hs : Kept ((((w.alloc (.cells #[.int .i64 A.kind, .int .i64 A.time, .int .i64 A.node, .bool A.dead, .string ⟨A.text.toArray⟩, vp, vm, .int .u64 (A.flags.toNat : Int)] 40)).alloc (.cells #[.int .i64 B.kind, .int .i64 B.time, .int .i64 B.node, .bool B.dead, .string ⟨B.text.toArray⟩, up, um, .int .u64 (B.flags.toNat : Int)] 40)).alloc (.cells #[.int .i64 0, .int .i64 0, .int .i64 0, .bool false, .string ⟨#[]⟩, .slice none 0 0, .slice none 0 0, .int .u64 0] 40)).heap.size = w.heap.size + 3) := ⟨by simp⟩
  have HP := Kept.mk hp
  have HM := Kept.mk hm
  have GP := Kept.mk gp
  have GM := Kept.mk gm
  clear hp hm gp gm hB1 hB2 hB3
  have HO := Kept.mk h
  have HO2 := Kept.mk h2
  have HBH := Kept.mk h5
  have d3 : (A.kind == B.kind) = true := by simpa using h3
  have d4 : (A.kind == 1) = true := by simpa using h4
  clear h h2 h3 h4 h5
  go_enter Tryz.func110, Tryz.ntmps110
  go_wp2_with fail
  generalize ((w.alloc (.cells #[.int .i64 A.kind, .int .i64 A.time, .int .i64 A.node, .bool A.dead, .string ⟨A.text.toArray⟩, vp, vm, .int .u64 (A.flags.toNat : Int)] 40)).alloc (.cells #[.int .i64 B.kind, .int .i64 B.time, .int .i64 B.node, .bool B.dead, .string ⟨B.text.toArray⟩, up, um, .int .u64 (B.flags.toNat : Int)] 40)).alloc (.cells #[.int .i64 0, .int .i64 0, .int .i64 0, .bool false, .string ⟨#[]⟩, .slice none 0 0, .slice none 0 0, .int .u64 0] 40) = W0 at *
  replace hs := Kept.mk (Nat.le_of_eq hs.out.symm)
  ((with_reducible refine (rcheck_any A _ _ (show isVa A (.agg #[.int .i64 A.kind, .int .i64 A.time, .int .i64 A.node, .bool A.dead, .string ⟨A.text.toArray⟩, vp, vm, .int .u64 (A.flags.toNat : Int)]) W0 from va_mk (cells_up HP.out hB.out) (cells_up HM.out hB.out)) hA).mono ?_); rintro e w1 ⟨rfl, hb1⟩)
  have hgA := CA.out.1
  replace FA := Kept.mk (FA.out.keep hb1 (Nat.lt_of_lt_of_le (by show w.heap.size < _; exact hgA) (Nat.le_refl _)))
  replace HF := Kept.mk (HF.out.keep hb1 HZ.out.1)
  replace CA := Kept.mk (CA.out.keep hb1 CA.out.1)
  replace CB := Kept.mk (CB.out.keep hb1 CB.out.1)
  replace HZ := Kept.mk (HZ.out.keep hb1 HZ.out.1)
  replace hB := Kept.mk (hB.out.trans (hb1.mono hB.out.size))
  replace hs := Kept.mk (Nat.le_trans hs.out hb1.size)
  clear hb1 hgA
  rewrite [HO.out]
  have kb0 := CB.out.2 0 _ rfl
  have kb1 := CB.out.2 1 _ rfl
  have kb2 := CB.out.2 2 _ rfl
  have kb3 := CB.out.2 3 _ rfl
  have kb4 := CB.out.2 4 _ rfl
  have kb5 := CB.out.2 5 _ rfl
  have kb6 := CB.out.2 6 _ rfl
  have kb7 := CB.out.2 7 _ rfl
  go_wp2_with fail
  ((with_reducible refine (rcheck_any B _ _ (show isVa B (.agg #[.int .i64 B.kind, .int .i64 B.time, .int .i64 B.node, .bool B.dead, .string ⟨B.text.toArray⟩, up, um, .int .u64 (B.flags.toNat : Int)]) w1 from va_mk (cells_up GP.out hB.out) (cells_up GM.out hB.out)) hC).mono ?_); rintro e w2 ⟨rfl, hb1⟩)
  clear kb0 kb1 kb2 kb3 kb4 kb5 kb6 kb7
  have hgA := CA.out.1
  replace FA := Kept.mk (FA.out.keep hb1 (Nat.lt_of_lt_of_le (by show w.heap.size < _; exact hgA) (Nat.le_refl _)))
  replace HF := Kept.mk (HF.out.keep hb1 HZ.out.1)
  replace CA := Kept.mk (CA.out.keep hb1 CA.out.1)
  replace CB := Kept.mk (CB.out.keep hb1 CB.out.1)
  replace HZ := Kept.mk (HZ.out.keep hb1 HZ.out.1)
  replace hB := Kept.mk (hB.out.trans (hb1.mono hB.out.size))
  replace hs := Kept.mk (Nat.le_trans hs.out hb1.size)
  clear hb1 hgA
  rewrite [HO2.out]
  have ka0 := CA.out.2 0 _ rfl
  have ka1 := CA.out.2 1 _ rfl
  have ka2 := CA.out.2 2 _ rfl
  have ka3 := CA.out.2 3 _ rfl
  have ka4 := CA.out.2 4 _ rfl
  have ka5 := CA.out.2 5 _ rfl
  have ka6 := CA.out.2 6 _ rfl
  have ka7 := CA.out.2 7 _ rfl
  have kb0 := CB.out.2 0 _ rfl
  have kb1 := CB.out.2 1 _ rfl
  have kb2 := CB.out.2 2 _ rfl
  have kb3 := CB.out.2 3 _ rfl
  have kb4 := CB.out.2 4 _ rfl
  have kb5 := CB.out.2 5 _ rfl
  have kb6 := CB.out.2 6 _ rfl
  have kb7 := CB.out.2 7 _ rfl
  go_wp2_with fail
  ((with_reducible refine (rbehind_any B A _ _ _ (show isVa B (.agg #[.int .i64 B.kind, .int .i64 B.time, .int .i64 B.node, .bool B.dead, .string ⟨B.text.toArray⟩, up, um, .int .u64 (B.flags.toNat : Int)]) w2 from va_mk (cells_up GP.out hB.out) (cells_up GM.out hB.out)) (show isVa A (.agg #[.int .i64 A.kind, .int .i64 A.time, .int .i64 A.node, .bool A.dead, .string ⟨A.text.toArray⟩, vp, vm, .int .u64 (A.flags.toNat : Int)]) w2 from va_mk (cells_up HP.out hB.out) (cells_up HM.out hB.out))).mono ?_); rintro e w3 ⟨rfl, hb1⟩)
  clear ka0 ka1 ka2 ka3 ka4 ka5 ka6 ka7 kb0 kb1 kb2 kb3 kb4 kb5 kb6 kb7
  have hgA := CA.out.1
  replace FA := Kept.mk (FA.out.keep hb1 (Nat.lt_of_lt_of_le (by show w.heap.size < _; exact hgA) (Nat.le_refl _)))
  replace HF := Kept.mk (HF.out.keep hb1 HZ.out.1)
  replace CA := Kept.mk (CA.out.keep hb1 CA.out.1)
  replace CB := Kept.mk (CB.out.keep hb1 CB.out.1)
  replace HZ := Kept.mk (HZ.out.keep hb1 HZ.out.1)
  replace hB := Kept.mk (hB.out.trans (hb1.mono hB.out.size))
  replace hs := Kept.mk (Nat.le_trans hs.out hb1.size)
  clear hb1 hgA
  rewrite [HBH.out]
  obtain ⟨hBK, K4, K5⟩ := vset2 B up um (g := w.heap.size + 2) (by omega) hB.out HZ.out rfl (stable_cells _ _ _ _ GP.out hB.out) (stable_cells _ _ _ _ GM.out hB.out) (fun e => absurd hn1 e) (fun e => absurd hn2 e)
  have kb0 := CB.out.2 0 _ rfl
  have kb1 := CB.out.2 1 _ rfl
  have kb2 := CB.out.2 2 _ rfl
  have kb3 := CB.out.2 3 _ rfl
  have kb4 := CB.out.2 4 _ rfl
  have kb5 := CB.out.2 5 _ rfl
  have kb6 := CB.out.2 6 _ rfl
  have kb7 := CB.out.2 7 _ rfl
  have NP1 : Kept (B.plus ≠ [] → NewB w.heap.size up) := ⟨fun h => absurd hn1 h⟩
  have NM1 : Kept (B.minus ≠ [] → NewB w.heap.size um) := ⟨fun h => absurd hn2 h⟩
  obtain ⟨hc', hp', hm'⟩ := K4.out
  clear K4
  go_wp2_with (have hz0 := K5; refine wpList_storeN 40 rfl (.tmp 4) (.tmp 27) rfl (w.heap.size + 2) [.int .i64 B.kind, .int .i64 B.time, .int .i64 B.node, .bool B.dead, .string ⟨B.text.toArray⟩, up, um, .int .u64 (B.flags.toNat : Int)] size_va rfl rfl HZ.out rfl HF.out K5.out ?_; clear hz0 K5)
  exact bodyPost_ret (resultsN2 rfl _ _ (w.heap.size + 2) _ (.int .i64 0) size_va agg_va rfl rfl hc') rfl ⟨_, rfl, ⟨up, um, rfl, hp', hm', NP1.out, NM1.out⟩, hBK.out⟩
set_option maxRecDepth 20000 in
set_option maxHeartbeats 2000000 in
theorem rjoin_reg_false (A B : Va) (v u : Value) (w : World) (hv : isVa A v w) (hu : isVa B u w) (hA : Fit A) (hC : Fit B) (h : okV A = true) (h2 : okV B = true) (h3 : A.kind = B.kind) (h4 : A.kind = 1) (h5 : behindB B A = false) (hn1 : A.plus = []) (hn2 : A.minus = []) :
    Calls Tryz.prog 110 #[v, u] w fun e w' => ∃ v', e = .returned (.tuple #[v', .int .i64 0]) ∧ isVaR w.heap.size A v' w' ∧ Below w.heap.size w w' := by
  obtain ⟨vp, vm, rfl, hp, hm⟩ := hv
  obtain ⟨up, um, rfl, gp, gm⟩ := hu
  have hB1 := lit_below w (.cells #[.int .i64 A.kind, .int .i64 A.time, .int .i64 A.node, .bool A.dead, .string ⟨A.text.toArray⟩, vp, vm, .int .u64 (A.flags.toNat : Int)] 40)
  have hB2 := lit_below (w.alloc (.cells #[.int .i64 A.kind, .int .i64 A.time, .int .i64 A.node, .bool A.dead, .string ⟨A.text.toArray⟩, vp, vm, .int .u64 (A.flags.toNat : Int)] 40)) (.cells #[.int .i64 B.kind, .int .i64 B.time, .int .i64 B.node, .bool B.dead, .string ⟨B.text.toArray⟩, up, um, .int .u64 (B.flags.toNat : Int)] 40)
  have hB3 := lit_below ((w.alloc (.cells #[.int .i64 A.kind, .int .i64 A.time, .int .i64 A.node, .bool A.dead, .string ⟨A.text.toArray⟩, vp, vm, .int .u64 (A.flags.toNat : Int)] 40)).alloc (.cells #[.int .i64 B.kind, .int .i64 B.time, .int .i64 B.node, .bool B.dead, .string ⟨B.text.toArray⟩, up, um, .int .u64 (B.flags.toNat : Int)] 40)) (.cells #[.int .i64 0, .int .i64 0, .int .i64 0, .bool false, .string ⟨#[]⟩, .slice none 0 0, .slice none 0 0, .int .u64 0] 40)
  have hB := Kept.mk ((hB1.trans (hB2.mono hB1.size)).trans (hB3.mono (hB1.trans (hB2.mono hB1.size)).size))
  have CA := Kept.mk (((cellsN_at w 40 [.int .i64 A.kind, .int .i64 A.time, .int .i64 A.node, .bool A.dead, .string ⟨A.text.toArray⟩, vp, vm, .int .u64 (A.flags.toNat : Int)] w.heap.size rfl).keep hB2 (by simp)).keep hB3 (by simp <;> omega))
  have CB := Kept.mk ((cellsN_at (w.alloc (.cells #[.int .i64 A.kind, .int .i64 A.time, .int .i64 A.node, .bool A.dead, .string ⟨A.text.toArray⟩, vp, vm, .int .u64 (A.flags.toNat : Int)] 40)) 40 [.int .i64 B.kind, .int .i64 B.time, .int .i64 B.node, .bool B.dead, .string ⟨B.text.toArray⟩, up, um, .int .u64 (B.flags.toNat : Int)] (w.heap.size + 1) (by simp)).keep hB3 (by simp))
  have HZ := Kept.mk (cellsN_at ((w.alloc (.cells #[.int .i64 A.kind, .int .i64 A.time, .int .i64 A.node, .bool A.dead, .string ⟨A.text.toArray⟩, vp, vm, .int .u64 (A.flags.toNat : Int)] 40)).alloc (.cells #[.int .i64 B.kind, .int .i64 B.time, .int .i64 B.node, .bool B.dead, .string ⟨B.text.toArray⟩, up, um, .int .u64 (B.flags.toNat : Int)] 40)) 40 [.int .i64 0, .int .i64 0, .int .i64 0, .bool false, .string ⟨#[]⟩, .slice none 0 0, .slice none 0 0, .int .u64 0] (w.heap.size + 2) (by simp))
  have FA := Kept.mk (((free5_at w #[.int .i64 A.kind, .int .i64 A.time, .int .i64 A.node, .bool A.dead, .string ⟨A.text.toArray⟩, vp, vm, .int .u64 (A.flags.toNat : Int)] 40 w.heap.size rfl).keep hB2 (by simp)).keep hB3 (by simp <;> omega))
  have HF := Kept.mk (free5_at ((w.alloc (.cells #[.int .i64 A.kind, .int .i64 A.time, .int .i64 A.node, .bool A.dead, .string ⟨A.text.toArray⟩, vp, vm, .int .u64 (A.flags.toNat : Int)] 40)).alloc (.cells #[.int .i64 B.kind, .int .i64 B.time, .int .i64 B.node, .bool B.dead, .string ⟨B.text.toArray⟩, up, um, .int .u64 (B.flags.toNat : Int)] 40)) #[.int .i64 0, .int .i64 0, .int .i64 0, .bool false, .string ⟨#[]⟩, .slice none 0 0, .slice none 0 0, .int .u64 0] 40 (w.heap.size + 2) (by simp))
  have hs : Kept ((((w.alloc (.cells #[.int .i64 A.kind, .int .i64 A.time, .int .i64 A.node, .bool A.dead, .string ⟨A.text.toArray⟩, vp, vm, .int .u64 (A.flags.toNat : Int)] 40)).alloc (.cells #[.int .i64 B.kind, .int .i64 B.time, .int .i64 B.node, .bool B.dead, .string ⟨B.text.toArray⟩, up, um, .int .u64 (B.flags.toNat : Int)] 40)).alloc (.cells #[.int .i64 0, .int .i64 0, .int .i64 0, .bool false, .string ⟨#[]⟩, .slice none 0 0, .slice none 0 0, .int .u64 0] 40)).heap.size = w.heap.size + 3) := ⟨by simp⟩
  have HP := Kept.mk hp
  have HM := Kept.mk hm
  have GP := Kept.mk gp
  have GM := Kept.mk gm
  clear hp hm gp gm hB1 hB2 hB3
  have HO := Kept.mk h
  have HO2 := Kept.mk h2
  have HBH := Kept.mk h5
  have d3 : (A.kind == B.kind) = true := by simpa using h3
  have d4 : (A.kind == 1) = true := by simpa using h4
  clear h h2 h3 h4 h5
  go_enter Tryz.func110, Tryz.ntmps110
  go_wp2_with fail
  generalize ((w.alloc (.cells #[.int .i64 A.kind, .int .i64 A.time, .int .i64 A.node, .bool A.dead, .string ⟨A.text.toArray⟩, vp, vm, .int .u64 (A.flags.toNat : Int)] 40)).alloc (.cells #[.int .i64 B.kind, .int .i64 B.time, .int .i64 B.node, .bool B.dead, .string ⟨B.text.toArray⟩, up, um, .int .u64 (B.flags.toNat : Int)] 40)).alloc (.cells #[.int .i64 0, .int .i64 0, .int .i64 0, .bool false, .string ⟨#[]⟩, .slice none 0 0, .slice none 0 0, .int .u64 0] 40) = W0 at *
  replace hs := Kept.mk (Nat.le_of_eq hs.out.symm)
  ((with_reducible refine (rcheck_any A _ _ (show isVa A (.agg #[.int .i64 A.kind, .int .i64 A.time, .int .i64 A.node, .bool A.dead, .string ⟨A.text.toArray⟩, vp, vm, .int .u64 (A.flags.toNat : Int)]) W0 from va_mk (cells_up HP.out hB.out) (cells_up HM.out hB.out)) hA).mono ?_); rintro e w1 ⟨rfl, hb1⟩)
  have hgA := CA.out.1
  replace FA := Kept.mk (FA.out.keep hb1 (Nat.lt_of_lt_of_le (by show w.heap.size < _; exact hgA) (Nat.le_refl _)))
  replace HF := Kept.mk (HF.out.keep hb1 HZ.out.1)
  replace CA := Kept.mk (CA.out.keep hb1 CA.out.1)
  replace CB := Kept.mk (CB.out.keep hb1 CB.out.1)
  replace HZ := Kept.mk (HZ.out.keep hb1 HZ.out.1)
  replace hB := Kept.mk (hB.out.trans (hb1.mono hB.out.size))
  replace hs := Kept.mk (Nat.le_trans hs.out hb1.size)
  clear hb1 hgA
  rewrite [HO.out]
  have kb0 := CB.out.2 0 _ rfl
  have kb1 := CB.out.2 1 _ rfl
  have kb2 := CB.out.2 2 _ rfl
  have kb3 := CB.out.2 3 _ rfl
  have kb4 := CB.out.2 4 _ rfl
  have kb5 := CB.out.2 5 _ rfl
  have kb6 := CB.out.2 6 _ rfl
  have kb7 := CB.out.2 7 _ rfl
  go_wp2_with fail
  ((with_reducible refine (rcheck_any B _ _ (show isVa B (.agg #[.int .i64 B.kind, .int .i64 B.time, .int .i64 B.node, .bool B.dead, .string ⟨B.text.toArray⟩, up, um, .int .u64 (B.flags.toNat : Int)]) w1 from va_mk (cells_up GP.out hB.out) (cells_up GM.out hB.out)) hC).mono ?_); rintro e w2 ⟨rfl, hb1⟩)
  clear kb0 kb1 kb2 kb3 kb4 kb5 kb6 kb7
  have hgA := CA.out.1
  replace FA := Kept.mk (FA.out.keep hb1 (Nat.lt_of_lt_of_le (by show w.heap.size < _; exact hgA) (Nat.le_refl _)))
  replace HF := Kept.mk (HF.out.keep hb1 HZ.out.1)
  replace CA := Kept.mk (CA.out.keep hb1 CA.out.1)
  replace CB := Kept.mk (CB.out.keep hb1 CB.out.1)
  replace HZ := Kept.mk (HZ.out.keep hb1 HZ.out.1)
  replace hB := Kept.mk (hB.out.trans (hb1.mono hB.out.size))
  replace hs := Kept.mk (Nat.le_trans hs.out hb1.size)
  clear hb1 hgA
  rewrite [HO2.out]
  have ka0 := CA.out.2 0 _ rfl
  have ka1 := CA.out.2 1 _ rfl
  have ka2 := CA.out.2 2 _ rfl
  have ka3 := CA.out.2 3 _ rfl
  have ka4 := CA.out.2 4 _ rfl
  have ka5 := CA.out.2 5 _ rfl
  have ka6 := CA.out.2 6 _ rfl
  have ka7 := CA.out.2 7 _ rfl
  have kb0 := CB.out.2 0 _ rfl
  have kb1 := CB.out.2 1 _ rfl
  have kb2 := CB.out.2 2 _ rfl
  have kb3 := CB.out.2 3 _ rfl
  have kb4 := CB.out.2 4 _ rfl
  have kb5 := CB.out.2 5 _ rfl
  have kb6 := CB.out.2 6 _ rfl
  have kb7 := CB.out.2 7 _ rfl
  go_wp2_with fail
  ((with_reducible refine (rbehind_any B A _ _ _ (show isVa B (.agg #[.int .i64 B.kind, .int .i64 B.time, .int .i64 B.node, .bool B.dead, .string ⟨B.text.toArray⟩, up, um, .int .u64 (B.flags.toNat : Int)]) w2 from va_mk (cells_up GP.out hB.out) (cells_up GM.out hB.out)) (show isVa A (.agg #[.int .i64 A.kind, .int .i64 A.time, .int .i64 A.node, .bool A.dead, .string ⟨A.text.toArray⟩, vp, vm, .int .u64 (A.flags.toNat : Int)]) w2 from va_mk (cells_up HP.out hB.out) (cells_up HM.out hB.out))).mono ?_); rintro e w3 ⟨rfl, hb1⟩)
  clear ka0 ka1 ka2 ka3 ka4 ka5 ka6 ka7 kb0 kb1 kb2 kb3 kb4 kb5 kb6 kb7
  have hgA := CA.out.1
  replace FA := Kept.mk (FA.out.keep hb1 (Nat.lt_of_lt_of_le (by show w.heap.size < _; exact hgA) (Nat.le_refl _)))
  replace HF := Kept.mk (HF.out.keep hb1 HZ.out.1)
  replace CA := Kept.mk (CA.out.keep hb1 CA.out.1)
  replace CB := Kept.mk (CB.out.keep hb1 CB.out.1)
  replace HZ := Kept.mk (HZ.out.keep hb1 HZ.out.1)
  replace hB := Kept.mk (hB.out.trans (hb1.mono hB.out.size))
  replace hs := Kept.mk (Nat.le_trans hs.out hb1.size)
  clear hb1 hgA
  rewrite [HBH.out]
  obtain ⟨hBK, K4, K5⟩ := vset2 A vp vm (g := w.heap.size + 2) (by omega) hB.out HZ.out rfl (stable_cells _ _ _ _ HP.out hB.out) (stable_cells _ _ _ _ HM.out hB.out) (fun e => absurd hn1 e) (fun e => absurd hn2 e)
  have ka0 := CA.out.2 0 _ rfl
  have ka1 := CA.out.2 1 _ rfl
  have ka2 := CA.out.2 2 _ rfl
  have ka3 := CA.out.2 3 _ rfl
  have ka4 := CA.out.2 4 _ rfl
  have ka5 := CA.out.2 5 _ rfl
  have ka6 := CA.out.2 6 _ rfl
  have ka7 := CA.out.2 7 _ rfl
  have NP1 : Kept (A.plus ≠ [] → NewB w.heap.size vp) := ⟨fun h => absurd hn1 h⟩
  have NM1 : Kept (A.minus ≠ [] → NewB w.heap.size vm) := ⟨fun h => absurd hn2 h⟩
  obtain ⟨hc', hp', hm'⟩ := K4.out
  clear K4
  go_wp2_with (have hz0 := K5; refine wpList_storeN 40 rfl (.tmp 4) (.tmp 28) rfl (w.heap.size + 2) [.int .i64 A.kind, .int .i64 A.time, .int .i64 A.node, .bool A.dead, .string ⟨A.text.toArray⟩, vp, vm, .int .u64 (A.flags.toNat : Int)] size_va rfl rfl HZ.out rfl HF.out K5.out ?_; clear hz0 K5)
  exact bodyPost_ret (resultsN2 rfl _ _ (w.heap.size + 2) _ (.int .i64 0) size_va agg_va rfl rfl hc') rfl ⟨_, rfl, ⟨vp, vm, rfl, hp', hm', NP1.out, NM1.out⟩, hBK.out⟩
set_option maxRecDepth 20000 in
set_option maxHeartbeats 2000000 in
theorem rjoin_rest (A B : Va) (v u : Value) (w : World) (hv : isVa A v w) (hu : isVa B u w) (hA : Fit A) (hC : Fit B) (h : okV A = true) (h2 : okV B = true) (h3 : A.kind = B.kind) (h4 : A.kind ≠ 1) (l1 : A.plus.length = B.plus.length) (l2 : A.minus.length = B.minus.length) :
    Calls Tryz.prog 110 #[v, u] w fun e w' => ∃ v', e = .returned (.tuple #[v', .int .i64 0]) ∧ isVaR w.heap.size (mergeV A B) v' w' ∧ Below w.heap.size w w' := by
  obtain ⟨vp, vm, rfl, hp, hm⟩ := hv
  obtain ⟨up, um, rfl, gp, gm⟩ := hu
  have hB1 := lit_below w (.cells #[.int .i64 A.kind, .int .i64 A.time, .int .i64 A.node, .bool A.dead, .string ⟨A.text.toArray⟩, vp, vm, .int .u64 (A.flags.toNat : Int)] 40)
  have hB2 := lit_below (w.alloc (.cells #[.int .i64 A.kind, .int .i64 A.time, .int .i64 A.node, .bool A.dead, .string ⟨A.text.toArray⟩, vp, vm, .int .u64 (A.flags.toNat : Int)] 40)) (.cells #[.int .i64 B.kind, .int .i64 B.time, .int .i64 B.node, .bool B.dead, .string ⟨B.text.toArray⟩, up, um, .int .u64 (B.flags.toNat : Int)] 40)
  have hB3 := lit_below ((w.alloc (.cells #[.int .i64 A.kind, .int .i64 A.time, .int .i64 A.node, .bool A.dead, .string ⟨A.text.toArray⟩, vp, vm, .int .u64 (A.flags.toNat : Int)] 40)).alloc (.cells #[.int .i64 B.kind, .int .i64 B.time, .int .i64 B.node, .bool B.dead, .string ⟨B.text.toArray⟩, up, um, .int .u64 (B.flags.toNat : Int)] 40)) (.cells #[.int .i64 0, .int .i64 0, .int .i64 0, .bool false, .string ⟨#[]⟩, .slice none 0 0, .slice none 0 0, .int .u64 0] 40)
  have hB := Kept.mk ((hB1.trans (hB2.mono hB1.size)).trans (hB3.mono (hB1.trans (hB2.mono hB1.size)).size))
  have CA := Kept.mk (((cellsN_at w 40 [.int .i64 A.kind, .int .i64 A.time, .int .i64 A.node, .bool A.dead, .string ⟨A.text.toArray⟩, vp, vm, .int .u64 (A.flags.toNat : Int)] w.heap.size rfl).keep hB2 (by simp)).keep hB3 (by simp <;> omega))
  have CB := Kept.mk ((cellsN_at (w.alloc (.cells #[.int .i64 A.kind, .int .i64 A.time, .int .i64 A.node, .bool A.dead, .string ⟨A.text.toArray⟩, vp, vm, .int .u64 (A.flags.toNat : Int)] 40)) 40 [.int .i64 B.kind, .int .i64 B.time, .int .i64 B.node, .bool B.dead, .string ⟨B.text.toArray⟩, up, um, .int .u64 (B.flags.toNat : Int)] (w.heap.size + 1) (by simp)).keep hB3 (by simp))
  have HZ := Kept.mk (cellsN_at ((w.alloc (.cells #[.int .i64 A.kind, .int .i64 A.time, .int .i64 A.node, .bool A.dead, .string ⟨A.text.toArray⟩, vp, vm, .int .u64 (A.flags.toNat : Int)] 40)).alloc (.cells #[.int .i64 B.kind, .int .i64 B.time, .int .i64 B.node, .bool B.dead, .string ⟨B.text.toArray⟩, up, um, .int .u64 (B.flags.toNat : Int)] 40)) 40 [.int .i64 0, .int .i64 0, .int .i64 0, .bool false, .string ⟨#[]⟩, .slice none 0 0, .slice none 0 0, .int .u64 0] (w.heap.size + 2) (by simp))
  have FA := Kept.mk (((free5_at w #[.int .i64 A.kind, .int .i64 A.time, .int .i64 A.node, .bool A.dead, .string ⟨A.text.toArray⟩, vp, vm, .int .u64 (A.flags.toNat : Int)] 40 w.heap.size rfl).keep hB2 (by simp)).keep hB3 (by simp <;> omega))
  have HF := Kept.mk (free5_at ((w.alloc (.cells #[.int .i64 A.kind, .int .i64 A.time, .int .i64 A.node, .bool A.dead, .string ⟨A.text.toArray⟩, vp, vm, .int .u64 (A.flags.toNat : Int)] 40)).alloc (.cells #[.int .i64 B.kind, .int .i64 B.time, .int .i64 B.node, .bool B.dead, .string ⟨B.text.toArray⟩, up, um, .int .u64 (B.flags.toNat : Int)] 40)) #[.int .i64 0, .int .i64 0, .int .i64 0, .bool false, .string ⟨#[]⟩, .slice none 0 0, .slice none 0 0, .int .u64 0] 40 (w.heap.size + 2) (by simp))
  have hs : Kept ((((w.alloc (.cells #[.int .i64 A.kind, .int .i64 A.time, .int .i64 A.node, .bool A.dead, .string ⟨A.text.toArray⟩, vp, vm, .int .u64 (A.flags.toNat : Int)] 40)).alloc (.cells #[.int .i64 B.kind, .int .i64 B.time, .int .i64 B.node, .bool B.dead, .string ⟨B.text.toArray⟩, up, um, .int .u64 (B.flags.toNat : Int)] 40)).alloc (.cells #[.int .i64 0, .int .i64 0, .int .i64 0, .bool false, .string ⟨#[]⟩, .slice none 0 0, .slice none 0 0, .int .u64 0] 40)).heap.size = w.heap.size + 3) := ⟨by simp⟩
  have HP := Kept.mk hp
  have HM := Kept.mk hm
  have GP := Kept.mk gp
  have GM := Kept.mk gm
  clear hp hm gp gm hB1 hB2 hB3
  have HO := Kept.mk h
  have HO2 := Kept.mk h2
  have d3 : (A.kind == B.kind) = true := by simpa using h3
  have d4 : (A.kind == 1) = false := by simpa using h4
  clear h h2 h3 h4
  go_enter Tryz.func110, Tryz.ntmps110
  go_wp2_with fail
  generalize ((w.alloc (.cells #[.int .i64 A.kind, .int .i64 A.time, .int .i64 A.node, .bool A.dead, .string ⟨A.text.toArray⟩, vp, vm, .int .u64 (A.flags.toNat : Int)] 40)).alloc (.cells #[.int .i64 B.kind, .int .i64 B.time, .int .i64 B.node, .bool B.dead, .string ⟨B.text.toArray⟩, up, um, .int .u64 (B.flags.toNat : Int)] 40)).alloc (.cells #[.int .i64 0, .int .i64 0, .int .i64 0, .bool false, .string ⟨#[]⟩, .slice none 0 0, .slice none 0 0, .int .u64 0] 40) = W0 at *
  replace hs := Kept.mk (Nat.le_of_eq hs.out.symm)
  ((with_reducible refine (rcheck_any A _ _ (show isVa A (.agg #[.int .i64 A.kind, .int .i64 A.time, .int .i64 A.node, .bool A.dead, .string ⟨A.text.toArray⟩, vp, vm, .int .u64 (A.flags.toNat : Int)]) W0 from va_mk (cells_up HP.out hB.out) (cells_up HM.out hB.out)) hA).mono ?_); rintro e w1 ⟨rfl, hb1⟩)
  have hgA := CA.out.1
  replace FA := Kept.mk (FA.out.keep hb1 (Nat.lt_of_lt_of_le (by show w.heap.size < _; exact hgA) (Nat.le_refl _)))
  replace HF := Kept.mk (HF.out.keep hb1 HZ.out.1)
  replace CA := Kept.mk (CA.out.keep hb1 CA.out.1)
  replace CB := Kept.mk (CB.out.keep hb1 CB.out.1)
  replace HZ := Kept.mk (HZ.out.keep hb1 HZ.out.1)
  replace hB := Kept.mk (hB.out.trans (hb1.mono hB.out.size))
  replace hs := Kept.mk (Nat.le_trans hs.out hb1.size)
  clear hb1 hgA
  rewrite [HO.out]
  have kb0 := CB.out.2 0 _ rfl
  have kb1 := CB.out.2 1 _ rfl
  have kb2 := CB.out.2 2 _ rfl
  have kb3 := CB.out.2 3 _ rfl
  have kb4 := CB.out.2 4 _ rfl
  have kb5 := CB.out.2 5 _ rfl
  have kb6 := CB.out.2 6 _ rfl
  have kb7 := CB.out.2 7 _ rfl
  go_wp2_with fail
  ((with_reducible refine (rcheck_any B _ _ (show isVa B (.agg #[.int .i64 B.kind, .int .i64 B.time, .int .i64 B.node, .bool B.dead, .string ⟨B.text.toArray⟩, up, um, .int .u64 (B.flags.toNat : Int)]) w1 from va_mk (cells_up GP.out hB.out) (cells_up GM.out hB.out)) hC).mono ?_); rintro e w2 ⟨rfl, hb1⟩)
  clear kb0 kb1 kb2 kb3 kb4 kb5 kb6 kb7
  have hgA := CA.out.1
  replace FA := Kept.mk (FA.out.keep hb1 (Nat.lt_of_lt_of_le (by show w.heap.size < _; exact hgA) (Nat.le_refl _)))
  replace HF := Kept.mk (HF.out.keep hb1 HZ.out.1)
  replace CA := Kept.mk (CA.out.keep hb1 CA.out.1)
  replace CB := Kept.mk (CB.out.keep hb1 CB.out.1)
  replace HZ := Kept.mk (HZ.out.keep hb1 HZ.out.1)
  replace hB := Kept.mk (hB.out.trans (hb1.mono hB.out.size))
  replace hs := Kept.mk (Nat.le_trans hs.out hb1.size)
  clear hb1 hgA
  rewrite [HO2.out]
  have ka0 := CA.out.2 0 _ rfl
  have ka1 := CA.out.2 1 _ rfl
  have ka2 := CA.out.2 2 _ rfl
  have ka3 := CA.out.2 3 _ rfl
  have ka4 := CA.out.2 4 _ rfl
  have ka5 := CA.out.2 5 _ rfl
  have ka6 := CA.out.2 6 _ rfl
  have ka7 := CA.out.2 7 _ rfl
  have kb0 := CB.out.2 0 _ rfl
  have kb1 := CB.out.2 1 _ rfl
  have kb2 := CB.out.2 2 _ rfl
  have kb3 := CB.out.2 3 _ rfl
  have kb4 := CB.out.2 4 _ rfl
  have kb5 := CB.out.2 5 _ rfl
  have kb6 := CB.out.2 6 _ rfl
  have kb7 := CB.out.2 7 _ rfl
  go_wp2_with fail
  ((with_reducible refine (most_any A.plus B.plus _ _ _ (cells_up HP.out hB.out) (cells_up GP.out hB.out) l1 hA.plus).mono ?_); rintro e w3 ⟨v1, rfl, o1, hb1⟩)
  obtain ⟨-, a1, n1, c1, rfl⟩ := own_slice o1
  clear ka0 ka1 ka2 ka3 ka4 ka5 ka6 ka7 kb0 kb1 kb2 kb3 kb4 kb5 kb6 kb7
  have hs2 := hs.out
  have hs3 := hb1.size
  replace o1 := Kept.mk o1
  have hgA := CA.out.1
  replace FA := Kept.mk (FA.out.keep hb1 (Nat.lt_of_lt_of_le (by show w.heap.size < _; exact hgA) (Nat.le_refl _)))
  replace HF := Kept.mk (HF.out.keep hb1 HZ.out.1)
  replace CA := Kept.mk (CA.out.keep hb1 CA.out.1)
  replace CB := Kept.mk (CB.out.keep hb1 CB.out.1)
  replace HZ := Kept.mk (HZ.out.keep hb1 HZ.out.1)
  replace hB := Kept.mk (hB.out.trans (hb1.mono hB.out.size))
  replace hs := Kept.mk (Nat.le_trans hs.out hb1.size)
  clear hb1 hgA
  have ka0 := CA.out.2 0 _ rfl
  have ka1 := CA.out.2 1 _ rfl
  have ka2 := CA.out.2 2 _ rfl
  have ka3 := CA.out.2 3 _ rfl
  have ka4 := CA.out.2 4 _ rfl
  have ka5 := CA.out.2 5 _ rfl
  have ka6 := CA.out.2 6 _ rfl
  have ka7 := CA.out.2 7 _ rfl
  have kb0 := CB.out.2 0 _ rfl
  have kb1 := CB.out.2 1 _ rfl
  have kb2 := CB.out.2 2 _ rfl
  have kb3 := CB.out.2 3 _ rfl
  have kb4 := CB.out.2 4 _ rfl
  have kb5 := CB.out.2 5 _ rfl
  have kb6 := CB.out.2 6 _ rfl
  have kb7 := CB.out.2 7 _ rfl
  have fz5 := FA.out 5
  have HB4 := Kept.mk (hB.out.setCell (p := ⟨w.heap.size, 5, none⟩) (Nat.le_refl _) (.slice a1 n1 c1))
  have CA4 := Kept.mk (CA.out.setAt 5 (.slice a1 n1 c1) (by simp))
  have CB4 := Kept.mk (CB.out.setOther (b := w.heap.size) (by omega) 5 (.slice a1 n1 c1))
  have HZ4 := Kept.mk (HZ.out.setOther (b := w.heap.size) (by omega) 5 (.slice a1 n1 c1))
  have FA4 := Kept.mk (FA.out.set ⟨w.heap.size, 5, none⟩ (.slice a1 n1 c1))
  have HF4 := Kept.mk (HF.out.set ⟨w.heap.size, 5, none⟩ (.slice a1 n1 c1))
  have o4 := Kept.mk (o1.out.set (p := ⟨w.heap.size, 5, none⟩) (by show w.heap.size < _; omega) (.slice a1 n1 c1))
  go_wp2_with fail
  generalize w3.setCell ⟨w.heap.size, 5, none⟩ (.slice a1 n1 c1) = W4 at *
  clear CA CB HZ FA HF o1 hB fz5
  clear ka0 ka1 ka2 ka3 ka4 ka5 ka6 ka7 kb0 kb1 kb2 kb3 kb4 kb5 kb6 kb7
  have hsz4 : w.heap.size + 3 ≤ W4.heap.size := by have := HB4.out.size; have := HZ4.out.1; omega
  ((with_reducible refine (most_any A.minus B.minus _ _ _ (cells_up HM.out HB4.out) (cells_up GM.out HB4.out) l2 hA.minus).mono ?_); rintro e w5 ⟨v2, rfl, o2, hb1⟩)
  obtain ⟨-, a2, n2, c2, rfl⟩ := own_slice o2
  have hs5 := hb1.size
  have CA := Kept.mk (CA4.out.keep hb1 CA4.out.1)
  have CB := Kept.mk (CB4.out.keep hb1 CB4.out.1)
  have FA := Kept.mk (FA4.out.keep hb1 CA4.out.1)
  have HF := Kept.mk (HF4.out.keep hb1 HZ4.out.1)
  have HZ := Kept.mk (HZ4.out.keep hb1 HZ4.out.1)
  have hB := Kept.mk (HB4.out.trans (hb1.mono HB4.out.size))
  have o1 := Kept.mk (stable_own _ _ _ _ _ _ o4.out hb1)
  have O2 := Kept.mk o2
  clear CA4 CB4 FA4 HF4 HZ4 HB4 o4 o2 hb1
  have ka0 := CA.out.2 0 _ rfl
  have ka1 := CA.out.2 1 _ rfl
  have ka2 := CA.out.2 2 _ rfl
  have ka3 := CA.out.2 3 _ rfl
  have ka4 := CA.out.2 4 _ rfl
  have ka5 := CA.out.2 5 _ rfl
  have ka6 := CA.out.2 6 _ rfl
  have ka7 := CA.out.2 7 _ rfl
  have kb0 := CB.out.2 0 _ rfl
  have kb1 := CB.out.2 1 _ rfl
  have kb2 := CB.out.2 2 _ rfl
  have kb3 := CB.out.2 3 _ rfl
  have kb4 := CB.out.2 4 _ rfl
  have kb5 := CB.out.2 5 _ rfl
  have kb6 := CB.out.2 6 _ rfl
  have kb7 := CB.out.2 7 _ rfl
  have fz6 := FA.out 6
  have fz7 := FA.out 7
  have hor := or_u64 A.flags B.flags
  have HB7 := Kept.mk ((hB.out.setCell (p := ⟨w.heap.size, 6, none⟩) (Nat.le_refl _) (.slice a2 n2 c2)).setCell (p := ⟨w.heap.size, 7, none⟩) (Nat.le_refl _) (.int .u64 ((A.flags ||| B.flags).toNat : Int)))
  have HZ7 := Kept.mk ((HZ.out.setOther (b := w.heap.size) (by omega) 6 (.slice a2 n2 c2)).setOther (b := w.heap.size) (by omega) 7 (.int .u64 ((A.flags ||| B.flags).toNat : Int)))
  have HF7 := Kept.mk ((HF.out.set ⟨w.heap.size, 6, none⟩ (.slice a2 n2 c2)).set ⟨w.heap.size, 7, none⟩ (.int .u64 ((A.flags ||| B.flags).toNat : Int)))
  have o17 := (o1.out.set (p := ⟨w.heap.size, 6, none⟩) (by show w.heap.size < _; omega) (.slice a2 n2 c2)).set (p := ⟨w.heap.size, 7, none⟩) (by show w.heap.size < _; omega) (.int .u64 ((A.flags ||| B.flags).toNat : Int))
  have o27 := (O2.out.set (p := ⟨w.heap.size, 6, none⟩) (by show w.heap.size < _; omega) (.slice a2 n2 c2)).set (p := ⟨w.heap.size, 7, none⟩) (by show w.heap.size < _; omega) (.int .u64 ((A.flags ||| B.flags).toNat : Int))
  obtain ⟨hBK, K4, K5⟩ := vset2 (mergeV A B) (.slice a1 n1 c1) (.slice a2 n2 c2) (g := w.heap.size + 2) (by omega) HB7.out HZ7.out rfl o17.cells o27.cells (fun _ => (own_slice o17).1.ne (by omega)) (fun _ => (own_slice o27).1.ne (by omega))
  have NP1 : Kept ((mergeV A B).plus ≠ [] → NewB w.heap.size (.slice a1 n1 c1)) := ⟨fun _ => (own_slice o17).1.low (by omega)⟩
  have NM1 : Kept ((mergeV A B).minus ≠ [] → NewB w.heap.size (.slice a2 n2 c2)) := ⟨fun _ => (own_slice o27).1.low (by omega)⟩
  clear o17 o27 HB7
  obtain ⟨hc', hp', hm'⟩ := K4.out
  clear K4
  go_wp2_with (have hz0 := K5; refine wpList_storeN 40 rfl (.tmp 4) (.tmp 47) rfl (w.heap.size + 2) [.int .i64 (mergeV A B).kind, .int .i64 (mergeV A B).time, .int .i64 (mergeV A B).node, .bool (mergeV A B).dead, .string ⟨(mergeV A B).text.toArray⟩, .slice a1 n1 c1, .slice a2 n2 c2, .int .u64 ((mergeV A B).flags.toNat : Int)] size_va rfl rfl HZ7.out rfl HF7.out K5.out ?_; clear hz0 K5)
  exact bodyPost_ret (resultsN2 rfl _ _ (w.heap.size + 2) _ (.int .i64 0) size_va agg_va rfl rfl hc') rfl ⟨_, rfl, ⟨(.slice a1 n1 c1), (.slice a2 n2 c2), rfl, hp', hm', NP1.out, NM1.out⟩, hBK.out⟩
theorem rjoinR_any (A B : Va) (v u : Value) (w : World) (hv : isVa A v w) (hu : isVa B u w) (hA : Fit A) (hC : Fit B) :
    Calls Tryz.prog 110 #[v, u] w fun e w' => ∃ v', e = .returned (.tuple #[v', .int .i64 (joinE A B)]) ∧ isVaR w.heap.size (joinF A B) v' w' ∧ Below w.heap.size w w' := by
  cases h1 : okV A with
  | false =>
    have e : joinE A B = 2 := by unfold joinE; rw [h1]; rfl
    rw [show joinF A B = zeroV by unfold joinF; rw [e]; rfl, e]
    exact rjoin_no1 A B v u w hv hu hA hC h1
  | true =>
    cases h2 : okV B with
    | false =>
      have e : joinE A B = 2 := by unfold joinE; rw [h1, h2]; rfl
      rw [show joinF A B = zeroV by unfold joinF; rw [e]; rfl, e]
      exact rjoin_no2 A B v u w hv hu hA hC h1 h2
    | true =>
      by_cases h3 : A.kind = B.kind
      · have e : joinE A B = 0 := joinE_zero.2 ⟨h1, h2, h3⟩
        by_cases h4 : A.kind = 1
        · have rA := (ok_reg h1 h4).2
          have rB := (ok_reg h2 (by omega)).2
          have e2 : joinE B A = 0 := by rw [joinE_comm]; exact e
          have ej : joinF A B = if behindB B A = true then B else A := by
            rw [join_comm e, joinF_ok e2, joinV_reg (by omega)]
            unfold joinReg
            rw [← rA, ← rB]
          rw [e, ej]
          cases h5 : behindB B A with
          | true => rw [if_pos rfl]; exact rjoin_reg_true A B v u w hv hu hA hC h1 h2 h3 h4 h5 (congrArg Va.plus rB) (congrArg Va.minus rB)
          | false => rw [if_neg (by decide)]; exact rjoin_reg_false A B v u w hv hu hA hC h1 h2 h3 h4 h5 (congrArg Va.plus rA) (congrArg Va.minus rA)
        · obtain ⟨m1, m2, m3⟩ := merge_join e h4
          rw [e, m1]
          exact rjoin_rest A B v u w hv hu hA hC h1 h2 h3 h4 m2 m3
      · have e : joinE A B = 3 := by unfold joinE; rw [h1, h2]; simp [h3]
        rw [show joinF A B = zeroV by unfold joinF; rw [e]; rfl, e]
        exact rjoin_no3 A B v u w hv hu hA hC h1 h2 h3
theorem rjoin_any (A B : Va) (v u : Value) (w : World) (hv : isVa A v w) (hu : isVa B u w) (hA : Fit A) (hC : Fit B) :
    Calls Tryz.prog 110 #[v, u] w fun e w' => ∃ v', e = .returned (.tuple #[v', .int .i64 (joinE A B)]) ∧ isVa (joinF A B) v' w' ∧ Below w.heap.size w w' :=
  (rjoinR_any A B v u w hv hu hA hC).mono (by rintro e w' ⟨v', rfl, ⟨p, m, e, hp, hm, _, _⟩, hb⟩; exact ⟨v', rfl, ⟨p, m, e, hp, hm⟩, hb⟩)
end Go.Proofs.YtmbnhlhanckkiaaGreat
end
section
namespace Go.Proofs.YtmbnhlhanckkiaaGreat
open Go.RowKit
set_option linter.unusedVariables false
set_option linter.unusedSimpArgs false

/-- Block g's first cell holds x, and may be written. -/
structure At (w : World) (g : Nat) (x : Value) : Prop where
  cell : w.cell? ⟨g, 0, none⟩ = some x
  free : w.frozen? ⟨g, 0, none⟩ = false
  lt : g < w.heap.size
/-- Block g's first cell has come to be x; no other block that was there has turned. -/
structure Wr (g : Nat) (x : Value) (w w' : World) : Prop where
  os : w'.os = w.os
  tape : w'.tape = w.tape
  output : w'.output = w.output
  size : w.heap.size ≤ w'.heap.size
  block : ∀ k, k < w.heap.size → k ≠ g → w'.heap[k]? = w.heap[k]?
  at_ : At w' g x
theorem At.keep {w w' : World} {g : Nat} {x : Value} (h : At w g x) (hb : Below w.heap.size w w') : At w' g x :=
  ⟨(hb.cell (p := ⟨g, 0, none⟩) h.lt).trans h.cell, (hb.frozen (p := ⟨g, 0, none⟩) h.lt).trans h.free, Nat.lt_of_lt_of_le h.lt hb.size⟩
theorem Wr.trans {g : Nat} {x y : Value} {a b c : World} (h : Wr g x a b) (k : Wr g y b c) : Wr g y a c :=
  ⟨k.os.trans h.os, k.tape.trans h.tape, k.output.trans h.output, Nat.le_trans h.size k.size, fun i hi hne => (k.block i (Nat.lt_of_lt_of_le hi h.size) hne).trans (h.block i hi hne), k.at_⟩
theorem Wr.then_ {g : Nat} {x : Value} {a b c : World} (h : Wr g x a b) (k : Below b.heap.size b c) : Wr g x a c :=
  ⟨k.os.trans h.os, k.tape.trans h.tape, k.output.trans h.output, Nat.le_trans h.size k.size, fun i hi hne => (k.block i (Nat.lt_of_lt_of_le hi h.size)).trans (h.block i hi hne), h.at_.keep k⟩
theorem Wr.behind {g : Nat} {x : Value} {a b c : World} (h : Below a.heap.size a b) (k : Wr g x b c) : Wr g x a c :=
  ⟨k.os.trans h.os, k.tape.trans h.tape, k.output.trans h.output, Nat.le_trans h.size k.size, fun i hi hne => (k.block i (Nat.lt_of_lt_of_le hi h.size) hne).trans (h.block i hi), k.at_⟩
theorem Wr.refl {g : Nat} {x : Value} {w : World} (h : At w g x) : Wr g x w w := ⟨rfl, rfl, rfl, Nat.le_refl _, fun _ _ _ => rfl, h⟩
theorem Wr.set {g : Nat} {x : Value} {w : World} (h : At w g x) (y : Value) : Wr g y w (w.setCell ⟨g, 0, none⟩ y) where
  os := rfl
  tape := rfl
  output := rfl
  size := by simp
  block k hk hne := Below.heap_setCell w _ y k hne
  at_ := ⟨World.cell?_setCell_same w _ _ h.cell, by rw [World.frozen?_setCell]; exact h.free, by simpa using h.lt⟩
/-- Seen from below g nothing has turned. -/
theorem Wr.below {g B : Nat} {x : Value} {w w' : World} (h : Wr g x w w') (hB : B ≤ g) (hs : B ≤ w.heap.size) : Below B w w' :=
  ⟨h.os, h.tape, h.output, h.size, fun k hk => h.block k (by omega) (by omega)⟩
theorem Wr.cell {g : Nat} {x : Value} {w w' : World} (h : Wr g x w w') {p : Addr} (hp : p.block < w.heap.size) (hne : p.block ≠ g) : w'.cell? p = w.cell? p := World.cell?_of_block (w := w) (h.block p.block hp hne)
theorem Wr.frozen {g : Nat} {x : Value} {w w' : World} (h : Wr g x w w') {p : Addr} (hp : p.block < w.heap.size) (hne : p.block ≠ g) : w'.frozen? p = w.frozen? p := World.frozen?_of_block (w := w) (h.block p.block hp hne)

theorem kept_ex {ops : Array Oper} {a0 a : Act} (h : FKept ops a0 a) (D : List (Option Nat)) (L : List Nat) (hD : ops.toList.map (·.dst) = D) (hL : D.filterMap id = L) : ∃ y : Nat → Value, a = { tmps := L.foldl (fun t s => t.setIfInBounds s (y s)) a0.tmps, defers := a0.defers } := ⟨fun s => a.tmps.getD s undef, kept_of h D L hD hL⟩
theorem put_kept {Q : Exit → Act → World → Prop} {a : Act} {d : Tmp} {v : Value} {t : Array Value} {ds : List Deferred} {w : World} (e : a = { tmps := t, defers := ds }) (h : Q .normal { tmps := t.setIfInBounds d v, defers := ds } w) : Q .normal (a.put (some d) v) w := by
  subst e
  exact h
section
variable {P : Program} {ops : Array Oper} {Q : Exit → Act → World → Prop} {i : Nat} {a : Act} {w : World} {c : Nat}
/-- A call among the last operations; its own world may turn as it likes. -/
theorem tail_call (f : FuncId) (xs : Array Operand) (ts : Array TypeId) (vs : Array Value) (d : Tmp) (hop : (ops[i]?).map (fun o => (o.op, o.guard)) = some (.call { callee := .value (.func f), args := xs, argTypes := ts }, none)) (hd : (ops[i]?).bind (·.dst) = some d)
    (hx : xs.map a.eval = vs) (hent : Enters P f) (h : Calls P f vs w fun e w' => ∃ v, e = .returned v ∧ Tail P ops Q c (i + 1) (a.put (some d) v) w') : Tail P ops Q (c + 1) i a w := by
  show wpOp P ops Q i (fun a' w' => Tail P ops Q c (i + 1) a' w') a w
  unfold wpOp
  cases ho : ops[i]? with
  | none => rw [ho] at hop; simp at hop
  | some o =>
    rw [ho] at hop hd
    simp only [Option.map_some, Option.some.injEq, Prod.mk.injEq] at hop
    simp only [Option.bind_some] at hd
    simp only []
    rw [show Region.wanted o (yielded ops a.tmps) = true by simp [Region.wanted, hop.2]]
    refine .inl ?_
    unfold Oper.wp execOp
    rw [hop.1]
    have e2 : a.eval (.func f) = .func (.func f) #[] #[] := rfl
    simp only [resolve, hx, e2, Deferred.ofValue, Sem.run_bind, Sem.run_pure, Result.andThen_ok, invoke, Array.append_empty, Array.empty_append]
    rw [hent]
    simp only [Oper.upon]
    refine h.mono ?_
    rintro e w' ⟨v, rfl, hv⟩
    rw [← hd] at hv
    exact hv
/-- A call of a function value. -/
theorem tail_callV (x : Operand) (f : FuncId) (first : Array Value) (xs : Array Operand) (ts : Array TypeId) (vs : Array Value) (d : Tmp) (hop : (ops[i]?).map (fun o => (o.op, o.guard)) = some (.call { callee := .value x, args := xs, argTypes := ts }, none)) (hd : (ops[i]?).bind (·.dst) = some d)
    (hv : a.eval x = .func (.func f) first #[]) (hx : xs.map a.eval = vs) (hent : Enters P f) (h : Calls P f (first ++ vs) w fun e w' => ∃ v, e = .returned v ∧ Tail P ops Q c (i + 1) (a.put (some d) v) w') : Tail P ops Q (c + 1) i a w := by
  show wpOp P ops Q i (fun a' w' => Tail P ops Q c (i + 1) a' w') a w
  unfold wpOp
  cases ho : ops[i]? with
  | none => rw [ho] at hop; simp at hop
  | some o =>
    rw [ho] at hop hd
    simp only [Option.map_some, Option.some.injEq, Prod.mk.injEq] at hop
    simp only [Option.bind_some] at hd
    simp only []
    rw [show Region.wanted o (yielded ops a.tmps) = true by simp [Region.wanted, hop.2]]
    refine .inl ?_
    unfold Oper.wp execOp
    rw [hop.1]
    simp only [resolve, hx, hv, Deferred.ofValue, Sem.run_bind, Sem.run_pure, Result.andThen_ok, invoke, Array.append_empty, Array.empty_append]
    rw [hent]
    simp only [Oper.upon]
    refine h.mono ?_
    rintro e w' ⟨v, rfl, hv⟩
    rw [← hd] at hv
    exact hv
end
end Go.Proofs.YtmbnhlhanckkiaaGreat
end
section
namespace Go.Proofs.YtmbnhlhanckkiaaGreat
open Go.RowKit
set_option linter.unusedVariables false
set_option linter.unusedSimpArgs false

abbrev ptr (g : Nat) : Value := .pointer (some ⟨g, 0, none⟩)
abbrev txt (l : List UInt8) : Value := .string ⟨l.toArray⟩
abbrev unitV : Value := .tuple #[]

abbrev Gave : Ending := .panicked [{ v := .iface 28 (.int .i64 2), recovered := false }]
end Go.Proofs.YtmbnhlhanckkiaaGreat
end
section
namespace Go.Proofs.YtmbnhlhanckkiaaGreat
open Go.RowKit
set_option linter.unusedVariables false

theorem getN_putL : ∀ (w n : Nat), n < 256 ^ w → getN (putL n w) = n
  | 0, n, h => by simp at h; simp [putL, getN, h]
  | w + 1, n, h => by
    have h1 : n / 256 < 256 ^ w := by rw [Nat.pow_succ] at h; omega
    have h2 := getN_putL w (n / 256) h1
    have h3 : (UInt8.ofNat n).toNat = n % 256 := by simp
    simp only [putL, getN, h2, h3]
    omega
theorem putL_getN : ∀ l : List UInt8, putL (getN l) l.length = l
  | [] => rfl
  | b :: r => by
    have h := putL_getN r
    have hb := b.toNat_lt
    have h1 : (b.toNat + 256 * getN r) / 256 = getN r := by omega
    have h2 : UInt8.ofNat (b.toNat + 256 * getN r) = b := by
      apply UInt8.toNat_inj.1
      simp
    simp only [getN, List.length_cons, putL, h1, h2, h]

theorem pow_le (wd : Nat) (h : wd ≤ 7) : 256 ^ wd ≤ 72057594037927936 := by
  have := Nat.pow_le_pow_right (n := 256) (by omega) h
  simpa using this

theorem okPut_nat {n width : Int} (h : okPut n width = true) : ∃ m wd : Nat, n = m ∧ width = wd ∧ 1 ≤ wd ∧ wd ≤ 7 ∧ m < 256 ^ wd := by
  simp only [okPut, isWidthB, Bool.and_eq_true, decide_eq_true_eq] at h
  obtain ⟨⟨⟨h1, h7⟩, h0⟩, hz⟩ := h
  obtain ⟨m, rfl⟩ := Int.eq_ofNat_of_zero_le h0
  obtain ⟨wd, rfl⟩ := Int.eq_ofNat_of_zero_le (show 0 ≤ width by omega)
  refine ⟨m, wd, rfl, rfl, by omega, by omega, ?_⟩
  rw [Int.toNat_natCast, show ((256 : Int) ^ wd) = ((256 ^ wd : Nat) : Int) by simp] at hz
  omega
/-- Whether Get answers. -/
def fitsGet (l : List UInt8) (at_ wd : Int) : Bool := decide (1 ≤ wd) && decide (wd ≤ 7) && decide (0 ≤ at_) && decide (at_ + wd ≤ l.length)
theorem fitsGet_nat {l : List UInt8} {at_ wd : Int} (h : fitsGet l at_ wd = true) : ∃ a b : Nat, at_ = a ∧ wd = b ∧ 1 ≤ b ∧ b ≤ 7 ∧ a + b ≤ l.length := by
  simp only [fitsGet, Bool.and_eq_true, decide_eq_true_eq] at h
  obtain ⟨a, rfl⟩ := Int.eq_ofNat_of_zero_le h.1.2
  obtain ⟨b, rfl⟩ := Int.eq_ofNat_of_zero_le (show 0 ≤ wd by omega)
  exact ⟨a, b, rfl, rfl, by omega, by omega, by omega⟩
end Go.Proofs.YtmbnhlhanckkiaaGreat
end
section
namespace Go.Proofs.YtmbnhlhanckkiaaGreat
set_option linter.unusedVariables false
set_option linter.unusedSimpArgs false

structure En where
  key : List UInt8
  val : Va
  deriving DecidableEq

def zeroE : En := ⟨[], zeroV⟩
def zerosL (n : Nat) : List UInt8 := List.replicate n 0
def bitN (b : Bool) : Nat := if b = true then 1 else 0
def numsL : List Int → List UInt8
  | [] => []
  | n :: r => putL n.toNat 2 ++ numsL r
def dataL (v : Va) : List UInt8 :=
  if v.kind = 1 then putL v.time.toNat 4 ++ (putL v.node.toNat 1 ++ (putL (bitN v.dead) 1 ++ (putL v.text.length 1 ++ v.text)))
  else if v.kind = 2 then numsL v.plus ++ numsL v.minus
  else putL (v.flags.toNat % 4294967296) 4 ++ putL (v.flags.toNat / 4294967296) 4
def okE (E : En) : Bool := decide (1 ≤ E.key.length) && decide (E.key.length ≤ 8) && okV E.val
def headL (E : En) : List UInt8 := putL E.val.kind.toNat 1 ++ (putL E.key.length 1 ++ (E.key ++ zerosL (8 - E.key.length)))
def putEn (E : En) : List UInt8 := headL E ++ (dataL E.val ++ zerosL (32 - (dataL E.val).length))
def putF (E : En) : List UInt8 := if okE E = true then putEn E else []
def chkE (E : En) : Int := if okE E = true then 0 else 2
def lessE (a b : En) : Bool := if a.val.kind = b.val.kind then Op.bytesLess a.key b.key else decide (a.val.kind < b.val.kind)
def nameB (a b : En) : Bool := decide (a.val.kind = b.val.kind) && decide (a.key = b.key)
def joinEE (a b : En) : Int := if (okE a && okE b) = true then (if nameB a b = true then 0 else 3) else 2
def joinEF (a b : En) : En := if joinEE a b = 0 then ⟨a.key, joinV a.val b.val⟩ else zeroE

theorem length_zeros (n : Nat) : (zerosL n).length = n := by simp [zerosL]
theorem zeros_add (a b : Nat) : zerosL a ++ zerosL b = zerosL (a + b) := by simp [zerosL, List.replicate_append_replicate]
theorem length_nums : ∀ l : List Int, (numsL l).length = 2 * l.length
  | [] => rfl
  | n :: r => by rw [numsL, List.length_append, length_putL, length_nums r, List.length_cons]; omega

/-! ### Bytes that are read -/
def numsOf : Nat → List UInt8 → List Int
  | 0, _ => []
  | n + 1, s => (getN (s.take 2) : Int) :: numsOf n (s.drop 2)
def restOf : Nat → List UInt8 → List UInt8
  | 0, s => s
  | n + 1, s => restOf n (s.drop 2)
def regV (s : List UInt8) : Va := ⟨1, (getN (s.take 4) : Int), (getN ((s.drop 4).take 1) : Int), decide (getN (((s.drop 4).drop 1).take 1) = 1),
  ((((s.drop 4).drop 1).drop 1).drop 1).take (getN ((((s.drop 4).drop 1).drop 1).take 1)), [], [], 0⟩
def padOk (z room : Nat) (s : List UInt8) : Prop := z ≤ room ∧ (s.drop z).take (room - z) = zerosL (room - z)
instance (z room : Nat) (s : List UInt8) : Decidable (padOk z room s) := by unfold padOk; infer_instance
def regZ (s : List UInt8) : Nat := getN ((((s.drop 4).drop 1).drop 1).take 1)
def regS (s : List UInt8) : List UInt8 := (((s.drop 4).drop 1).drop 1).drop 1
def regOk (s : List UInt8) : Prop := getN (((s.drop 4).drop 1).take 1) ≤ 1 ∧ padOk (regZ s) 8 (regS s)
instance (s : List UInt8) : Decidable (regOk s) := by unfold regOk; infer_instance
def regR (s : List UInt8) : List UInt8 := ((regS s).drop (regZ s)).drop (8 - regZ s)
def countV (s : List UInt8) : Va := ⟨2, 0, 0, false, [], numsOf 8 s, numsOf 8 (restOf 8 s), 0⟩
def flagsV (s : List UInt8) : Va := ⟨3, 0, 0, false, [], [], [], UInt64.ofNat (getN (s.take 4) + 4294967296 * getN ((s.drop 4).take 4))⟩
def rdVal (kind : Nat) (s : List UInt8) : Option (Va × List UInt8) :=
  if kind = 1 then (if regOk s then some (regV s, regR s) else none)
  else if kind = 2 then some (countV s, restOf 8 (restOf 8 s))
  else if kind = 3 then some (flagsV s, (s.drop 4).drop 4)
  else none
def keyZ (s : List UInt8) : Nat := getN ((s.drop 1).take 1)
def keyS (s : List UInt8) : List UInt8 := (s.drop 1).drop 1
def keyOf (s : List UInt8) : List UInt8 := (keyS s).take (keyZ s)
def valS (s : List UInt8) : List UInt8 := ((keyS s).drop (keyZ s)).drop (8 - keyZ s)
def rdEn (s : List UInt8) : Option En :=
  if s.length = 42 ∧ padOk (keyZ s) 8 (keyS s) then
    match rdVal (getN (s.take 1)) (valS s) with
    | none => none
    | some (v, r) => if r = zerosL r.length ∧ okE ⟨keyOf s, v⟩ = true then some ⟨keyOf s, v⟩ else none
  else none

theorem num_cut (n : Nat) (s : List UInt8) (h : n ≤ s.length) : s = putL (getN (s.take n)) n ++ s.drop n := by
  have := putL_getN (s.take n)
  rw [List.length_take, Nat.min_eq_left h] at this
  rw [this, List.take_append_drop]
theorem pad_cut {z room : Nat} {s : List UInt8} (h : padOk z room s) : s = s.take z ++ (zerosL (room - z) ++ (s.drop z).drop (room - z)) := by
  rw [← h.2, List.take_append_drop, List.take_append_drop]
theorem take_put (n w : Nat) (t : List UInt8) : (putL n w ++ t).take w = putL n w := by
  rw [List.take_append_of_le_length (by rw [length_putL]; exact Nat.le_refl _), List.take_of_length_le (by rw [length_putL]; exact Nat.le_refl _)]
theorem drop_put (n w : Nat) (t : List UInt8) : (putL n w ++ t).drop w = t := by
  exact List.drop_left' (length_putL w n)
theorem get_put (n w : Nat) (t : List UInt8) (h : n < 256 ^ w) : getN ((putL n w ++ t).take w) = n := by rw [take_put, getN_putL w n h]
theorem nums_cut : ∀ (n : Nat) (s : List UInt8), 2 * n ≤ s.length → s = numsL (numsOf n s) ++ restOf n s
  | 0, s, _ => rfl
  | n + 1, s, h => by
    have h2 := nums_cut n (s.drop 2) (by rw [List.length_drop]; omega)
    rw [numsOf, numsL, restOf, Int.toNat_natCast, List.append_assoc, ← h2]
    exact num_cut 2 s (by omega)
theorem nums_put : ∀ (l : List Int) (t : List UInt8), l.all okNum = true → numsOf l.length (numsL l ++ t) = l ∧ restOf l.length (numsL l ++ t) = t
  | [], t, _ => ⟨rfl, rfl⟩
  | n :: r, t, h => by
    rw [List.all_cons, Bool.and_eq_true] at h
    have h1 := h.1
    simp only [okNum, Bool.and_eq_true, decide_eq_true_eq] at h1
    obtain ⟨e1, e2⟩ := nums_put r t h.2
    rw [List.length_cons, numsOf, restOf, numsL, List.append_assoc, drop_put, e1, e2, get_put _ _ _ (by omega)]
    exact ⟨by rw [Int.toNat_of_nonneg h1.1], rfl⟩
theorem length_rest : ∀ (n : Nat) (s : List UInt8), (restOf n s).length = s.length - 2 * n
  | 0, s => by simp [restOf]
  | n + 1, s => by rw [restOf, length_rest n, List.length_drop]; omega
theorem length_numsOf : ∀ (n : Nat) (s : List UInt8), (numsOf n s).length = n
  | 0, s => rfl
  | n + 1, s => by rw [numsOf, List.length_cons, length_numsOf]

theorem data_reg {v : Va} (h : v.kind = 1) : dataL v = putL v.time.toNat 4 ++ (putL v.node.toNat 1 ++ (putL (bitN v.dead) 1 ++ (putL v.text.length 1 ++ v.text))) := by rw [dataL, if_pos h]
theorem data_count {v : Va} (h : v.kind = 2) : dataL v = numsL v.plus ++ numsL v.minus := by rw [dataL, if_neg (by rw [h]; decide), if_pos h]
theorem data_flags {v : Va} (h : v.kind = 3) : dataL v = putL (v.flags.toNat % 4294967296) 4 ++ putL (v.flags.toNat / 4294967296) 4 := by rw [dataL, if_neg (by rw [h]; decide), if_neg (by rw [h]; decide)]

/-- What is read is put just so. -/
theorem val_put {k : Nat} {s r : List UInt8} {v : Va} (h : rdVal k s = some (v, r)) (hl : 32 ≤ s.length) : (∃ a, s = dataL v ++ (zerosL a ++ r)) ∧ v.kind = k := by
  unfold rdVal at h
  split at h
  · rename_i hk
    split at h
    · rename_i hr
      injection h with h
      injection h with h1 h2
      subst h1 h2
      refine ⟨⟨8 - regZ s, ?_⟩, by rw [hk]; rfl⟩
      rw [data_reg rfl]
      obtain ⟨hd, hp⟩ := hr
      have e5 : regS s = (regV s).text ++ (zerosL (8 - regZ s) ++ regR s) := pad_cut hp
      have hz : (regV s).text.length = regZ s := by
        show ((regS s).take (regZ s)).length = _
        rw [List.length_take]
        have := hp.1
        have : (regS s).length = s.length - 7 := by simp only [regS, List.length_drop]; omega
        omega
      have e4 : ((s.drop 4).drop 1).drop 1 = putL (regV s).text.length 1 ++ regS s := by
        rw [hz]; exact num_cut 1 _ (by simp; omega)
      have e3 : (s.drop 4).drop 1 = putL (bitN (regV s).dead) 1 ++ ((s.drop 4).drop 1).drop 1 := by
        have : bitN (regV s).dead = getN (((s.drop 4).drop 1).take 1) := by
          show bitN (decide (getN (((s.drop 4).drop 1).take 1) = 1)) = _
          unfold bitN
          by_cases h1 : getN (((s.drop 4).drop 1).take 1) = 1
          · rw [h1]; rfl
          · rw [if_neg (by simpa using h1)]; omega
        rw [this]; exact num_cut 1 _ (by simp; omega)
      have e2 : s.drop 4 = putL (regV s).node.toNat 1 ++ (s.drop 4).drop 1 := by
        show _ = putL (Int.toNat (getN ((s.drop 4).take 1) : Int)) 1 ++ _
        rw [Int.toNat_natCast]; exact num_cut 1 _ (by simp; omega)
      have e1 : s = putL (regV s).time.toNat 4 ++ s.drop 4 := by
        show _ = putL (Int.toNat (getN (s.take 4) : Int)) 4 ++ _
        rw [Int.toNat_natCast]; exact num_cut 4 _ (by omega)
      simp only [List.append_assoc]
      rw [← e5, ← e4, ← e3, ← e2]
      exact e1
    · cases h
  · split at h
    · rename_i hk
      injection h with h
      injection h with h1 h2
      subst h1 h2
      refine ⟨⟨0, ?_⟩, by rw [hk]; rfl⟩
      rw [data_count rfl]
      show s = (numsL (numsOf 8 s) ++ numsL (numsOf 8 (restOf 8 s))) ++ ([] ++ restOf 8 (restOf 8 s))
      rw [List.nil_append, List.append_assoc, ← nums_cut 8 (restOf 8 s) (by rw [length_rest]; omega)]
      exact nums_cut 8 s (by omega)
    · split at h
      · rename_i hk
        injection h with h
        injection h with h1 h2
        subst h1 h2
        refine ⟨⟨0, ?_⟩, by rw [hk]; rfl⟩
        rw [data_flags rfl]
        have g1 : getN (s.take 4) < 4294967296 := by
          have := getN_lt (s.take 4); rw [List.length_take, Nat.min_eq_left (by omega)] at this; exact this
        have g2 : getN ((s.drop 4).take 4) < 4294967296 := by
          have := getN_lt ((s.drop 4).take 4); rw [List.length_take, Nat.min_eq_left (by rw [List.length_drop]; omega)] at this; exact this
        have e : (flagsV s).flags.toNat = getN (s.take 4) + 4294967296 * getN ((s.drop 4).take 4) := by
          show (UInt64.ofNat _).toNat = _
          rw [UInt64.toNat_ofNat']
          exact Nat.mod_eq_of_lt (by omega)
        rw [e, show (getN (s.take 4) + 4294967296 * getN ((s.drop 4).take 4)) % 4294967296 = getN (s.take 4) by omega, show (getN (s.take 4) + 4294967296 * getN ((s.drop 4).take 4)) / 4294967296 = getN ((s.drop 4).take 4) by omega, List.append_assoc]
        show s = putL _ 4 ++ (putL _ 4 ++ ([] ++ (s.drop 4).drop 4))
        rw [List.nil_append, ← num_cut 4 (s.drop 4) (by rw [List.length_drop]; omega)]
        exact num_cut 4 s (by omega)
      · cases h

theorem length_data_le {v : Va} (h : okV v = true) : (dataL v).length ≤ 32 ∧ (v.kind = 1 → (dataL v).length = 7 + v.text.length ∧ v.text.length ≤ 8) ∧ (v.kind = 2 → (dataL v).length = 32) := by
  unfold okV kindN at h
  split at h
  · rename_i hk
    rw [data_reg hk]
    split at h
    · rename_i hi
      simp only [inReg, Bool.and_eq_true, decide_eq_true_eq] at hi
      have := hi.1.1.2
      simp only [List.length_append, length_putL]
      exact ⟨by omega, fun _ => ⟨by omega, by omega⟩, fun h2 => by rw [hk] at h2; exact absurd h2 (by decide)⟩
    · simp at h
  · split at h
    · rename_i hk
      rw [data_count hk]
      split at h
      · rename_i hi
        simp only [inCount, okRow, Bool.and_eq_true, decide_eq_true_eq] at hi
        have h1 := hi.1.1.1
        have h2 := hi.1.2.1
        simp only [List.length_append, length_nums, h1, h2]
        exact ⟨by omega, fun h1 => by rw [hk] at h1; exact absurd h1 (by decide), fun _ => trivial⟩
      · simp at h
    · split at h
      · rename_i h1 h2 hk
        rw [data_flags hk]
        simp only [List.length_append, length_putL]
        exact ⟨by omega, fun h => absurd h h1, fun h => absurd h h2⟩
      · simp at h

/-- What is put is read again. -/
theorem val_get {v : Va} (h : okV v = true) (n : Nat) (hn : (dataL v).length + n = 32) : ∃ m, rdVal v.kind.toNat (dataL v ++ zerosL n) = some (v, zerosL m) := by
  have hL := length_data_le h
  unfold okV kindN at h
  split at h
  · rename_i hk
    have hlen := (hL.2.1 hk).1
    have h8 := (hL.2.1 hk).2
    split at h
    · rename_i hi
      simp only [inReg, Bool.and_eq_true, decide_eq_true_eq] at hi
      obtain ⟨⟨⟨⟨ht, hn'⟩, _⟩, _⟩, ho⟩ := hi
      have e1 : getN ((dataL v ++ zerosL n).take 4) = v.time.toNat := by rw [data_reg hk, List.append_assoc, get_put _ _ _ (by omega)]
      have s1 : (dataL v ++ zerosL n).drop 4 = putL v.node.toNat 1 ++ (putL (bitN v.dead) 1 ++ (putL v.text.length 1 ++ (v.text ++ zerosL n))) := by rw [data_reg hk, List.append_assoc, drop_put]; simp only [List.append_assoc]
      have e2 : getN (((dataL v ++ zerosL n).drop 4).take 1) = v.node.toNat := by rw [s1, get_put _ _ _ (by omega)]
      have s2 : ((dataL v ++ zerosL n).drop 4).drop 1 = putL (bitN v.dead) 1 ++ (putL v.text.length 1 ++ (v.text ++ zerosL n)) := by rw [s1, drop_put]
      have e3 : getN ((((dataL v ++ zerosL n).drop 4).drop 1).take 1) = bitN v.dead := by rw [s2, get_put _ _ _ (by unfold bitN; split <;> omega)]
      have s3 : (((dataL v ++ zerosL n).drop 4).drop 1).drop 1 = putL v.text.length 1 ++ (v.text ++ zerosL n) := by rw [s2, drop_put]
      have e4 : regZ (dataL v ++ zerosL n) = v.text.length := by unfold regZ; rw [s3, get_put _ _ _ (by omega)]
      have s4 : regS (dataL v ++ zerosL n) = v.text ++ (zerosL (8 - v.text.length) ++ zerosL (n - (8 - v.text.length))) := by
        unfold regS; rw [s3, drop_put, zeros_add, show 8 - v.text.length + (n - (8 - v.text.length)) = n by omega]
      have ok : regOk (dataL v ++ zerosL n) := by
        refine ⟨by rw [e3]; unfold bitN; split <;> omega, ?_⟩
        rw [e4, s4]
        refine ⟨h8, ?_⟩
        rw [List.drop_left, List.take_append_of_le_length (by rw [length_zeros]; exact Nat.le_refl _), List.take_of_length_le (by rw [length_zeros]; exact Nat.le_refl _)]
      have hr : regR (dataL v ++ zerosL n) = zerosL (n - (8 - v.text.length)) := by
        unfold regR
        rw [e4, s4, List.drop_left]
        have := length_zeros (8 - v.text.length)
        conv => lhs; rw [← this]
        rw [this]
        conv => lhs; arg 1; rw [← this]
        exact List.drop_left
      have hv : regV (dataL v ++ zerosL n) = v := by
        have : regV (dataL v ++ zerosL n) = onlyReg v := by
          unfold regV onlyReg
          have ht' : (regS (dataL v ++ zerosL n)).take (regZ (dataL v ++ zerosL n)) = v.text := by rw [e4, s4, List.take_left]
          unfold regS regZ at ht'
          rw [e1, e2, e3, ht', Int.toNat_of_nonneg ht.1, Int.toNat_of_nonneg hn'.1]
          congr 1
          unfold bitN; cases v.dead <;> simp
        rw [this, ← ho]
      refine ⟨n - (8 - v.text.length), ?_⟩
      unfold rdVal
      rw [hk, if_pos (show Int.toNat 1 = 1 from rfl), if_pos ok, hv, hr]
    · simp at h
  · split at h
    · rename_i hk
      split at h
      · rename_i hi
        simp only [inCount, okRow, Bool.and_eq_true, decide_eq_true_eq] at hi
        obtain ⟨⟨⟨l1, a1⟩, ⟨l2, a2⟩⟩, ho⟩ := hi
        have hlen := hL.2.2 hk
        obtain ⟨p1, p2⟩ := nums_put v.plus (numsL v.minus ++ zerosL n) a1
        obtain ⟨m1, m2⟩ := nums_put v.minus (zerosL n) a2
        rw [l1] at p1 p2
        rw [l2] at m1 m2
        refine ⟨n, ?_⟩
        unfold rdVal
        rw [hk, if_neg (by decide), if_pos (show Int.toNat 2 = 2 from rfl), data_count hk, List.append_assoc]
        unfold countV
        rw [p1, p2, m1, m2]
        exact congrArg (fun x => some (x, zerosL n)) ho.symm
      · simp at h
    · split at h
      · rename_i hk
        split at h
        · rename_i ho
          simp only [decide_eq_true_eq] at ho
          refine ⟨n, ?_⟩
          have hf : v.flags.toNat < 18446744073709551616 := v.flags.toNat_lt
          unfold rdVal
          rw [hk, if_neg (by decide), if_neg (by decide), if_pos (show Int.toNat 3 = 3 from rfl), data_flags hk, List.append_assoc]
          unfold flagsV
          rw [get_put _ _ _ (by omega), drop_put, get_put _ _ _ (by omega), drop_put, show v.flags.toNat % 4294967296 + 4294967296 * (v.flags.toNat / 4294967296) = v.flags.toNat by omega, UInt64.ofNat_toNat]
          exact congrArg (fun x => some (x, zerosL n)) ho.symm
        · simp at h
      · simp at h

theorem length_head {E : En} (h : okE E = true) : (headL E).length = 10 := by
  simp only [okE, Bool.and_eq_true, decide_eq_true_eq] at h
  simp only [headL, List.length_append, length_putL, length_zeros]
  omega
theorem length_putEn {E : En} (h : okE E = true) : (putEn E).length = 42 := by
  have h1 := length_head h
  simp only [okE, Bool.and_eq_true, decide_eq_true_eq] at h
  have h2 := (length_data_le h.2).1
  simp only [putEn, List.length_append, length_zeros, h1]
  omega
theorem kind_lt {v : Va} (h : okV v = true) : 1 ≤ v.kind ∧ v.kind ≤ 3 := by
  unfold okV kindN at h
  split at h
  · omega
  · split at h
    · omega
    · split at h
      · omega
      · simp at h

/-- What is put is got again. -/
theorem rd_putEn {E : En} (h : okE E = true) : rdEn (putEn E) = some E := by
  have hL := length_putEn h
  have hh := h
  simp only [okE, Bool.and_eq_true, decide_eq_true_eq] at hh
  obtain ⟨⟨h1, h8⟩, hv⟩ := hh
  have hk := kind_lt hv
  have e0 : getN ((putEn E).take 1) = E.val.kind.toNat := by unfold putEn headL; rw [List.append_assoc, get_put _ _ _ (by omega)]
  have s1 : (putEn E).drop 1 = putL E.key.length 1 ++ (E.key ++ (zerosL (8 - E.key.length) ++ (dataL E.val ++ zerosL (32 - (dataL E.val).length)))) := by unfold putEn headL; rw [List.append_assoc, drop_put]; simp only [List.append_assoc]
  have e1 : keyZ (putEn E) = E.key.length := by unfold keyZ; rw [s1, get_put _ _ _ (by omega)]
  have s2 : keyS (putEn E) = E.key ++ (zerosL (8 - E.key.length) ++ (dataL E.val ++ zerosL (32 - (dataL E.val).length))) := by unfold keyS; rw [s1, drop_put]
  have hp : padOk (keyZ (putEn E)) 8 (keyS (putEn E)) := by
    rw [e1, s2]
    refine ⟨h8, ?_⟩
    rw [List.drop_left, List.take_append_of_le_length (by rw [length_zeros]; exact Nat.le_refl _), List.take_of_length_le (by rw [length_zeros]; exact Nat.le_refl _)]
  have hkey : keyOf (putEn E) = E.key := by unfold keyOf; rw [e1, s2, List.take_left]
  have hvs : valS (putEn E) = dataL E.val ++ zerosL (32 - (dataL E.val).length) := by
    unfold valS
    rw [e1, s2, List.drop_left]
    have := length_zeros (8 - E.key.length)
    conv => lhs; arg 1; rw [← this]
    exact List.drop_left
  obtain ⟨m, hm⟩ := val_get hv (32 - (dataL E.val).length) (by have := (length_data_le hv).1; omega)
  unfold rdEn
  rw [if_pos ⟨hL, hp⟩, e0, hvs, hm]
  show (if zerosL m = zerosL (zerosL m).length ∧ okE ⟨keyOf (putEn E), E.val⟩ = true then some (⟨keyOf (putEn E), E.val⟩ : En) else none) = some E
  rw [hkey, length_zeros, if_pos ⟨rfl, h⟩]

/-- What is got is put just so. -/
theorem put_rdEn {s : List UInt8} {E : En} (h : rdEn s = some E) : okE E = true ∧ putEn E = s := by
  unfold rdEn at h
  split at h
  · rename_i hs
    obtain ⟨hl, hp⟩ := hs
    split at h
    · cases h
    · rename_i v r hr
      split at h
      · rename_i hz
        injection h with h
        subst h
        refine ⟨hz.2, ?_⟩
        have h8 := hp.1
        have lS : (keyS s).length = 40 := by simp [keyS]; omega
        have lV : (valS s).length = 32 := by simp only [valS, List.length_drop, lS]; omega
        have lK : (keyOf s).length = keyZ s := by unfold keyOf; rw [List.length_take, lS]; omega
        obtain ⟨⟨a, ha⟩, hk⟩ := val_put hr (by omega)
        have hz1 := hz.1
        rw [hz1, zeros_add] at ha
        have hA : a + r.length = 32 - (dataL v).length := by
          have := congrArg List.length ha
          rw [List.length_append, length_zeros, lV] at this
          omega
        rw [hA] at ha
        unfold putEn headL
        simp only [List.append_assoc]
        show putL v.kind.toNat 1 ++ (putL (keyOf s).length 1 ++ (keyOf s ++ (zerosL (8 - (keyOf s).length) ++ (dataL v ++ zerosL (32 - (dataL v).length))))) = s
        rw [← ha, lK, hk, Int.toNat_natCast]
        have e3 : keyS s = keyOf s ++ (zerosL (8 - keyZ s) ++ valS s) := pad_cut hp
        rw [← e3]
        have e2 : s.drop 1 = putL (keyZ s) 1 ++ keyS s := num_cut 1 _ (by simp; omega)
        rw [← e2]
        exact (num_cut 1 s (by omega)).symm
      · cases h
  · cases h

/-! ### The document's reading -/
def atN (s : List UInt8) (at_ w : Nat) : Nat := getN ((s.drop at_).take w)
def getsL (s : List UInt8) (at_ : Nat) : Nat → List Int
  | 0 => []
  | n + 1 => getsL s at_ n ++ [(atN s (at_ + 2 * n) 2 : Int)]
def readV (s : List UInt8) : Va :=
  if atN s 0 1 = 1 then ⟨1, atN s 10 4, atN s 14 1, decide (atN s 15 1 = 1), (s.drop 17).take (min (atN s 16 1) 8), [], [], 0⟩
  else if atN s 0 1 = 2 then ⟨2, 0, 0, false, [], getsL s 10 8, getsL s 26 8, 0⟩
  else if atN s 0 1 = 3 then ⟨3, 0, 0, false, [], [], [], UInt64.ofNat (atN s 10 4 + 4294967296 * atN s 14 4)⟩
  else ⟨atN s 0 1, 0, 0, false, [], [], [], 0⟩
def readE (s : List UInt8) : En := ⟨(s.drop 2).take (min (atN s 1 1) 8), readV s⟩
theorem gets_front : ∀ (n : Nat) (s : List UInt8) (at_ : Nat), getsL s at_ (n + 1) = (atN s at_ 2 : Int) :: getsL s (at_ + 2) n
  | 0, s, at_ => rfl
  | n + 1, s, at_ => by
    rw [getsL, gets_front n s at_, getsL, List.cons_append, show at_ + 2 + 2 * n = at_ + 2 * (n + 1) by omega]
theorem gets_nums : ∀ (n : Nat) (s : List UInt8) (at_ : Nat), getsL s at_ n = numsOf n (s.drop at_)
  | 0, s, at_ => rfl
  | n + 1, s, at_ => by
    rw [gets_front, gets_nums n s (at_ + 2), numsOf, List.drop_drop]
    rfl
theorem rest_drop : ∀ (n : Nat) (s : List UInt8), restOf n s = s.drop (2 * n)
  | 0, s => by simp [restOf]
  | n + 1, s => by rw [restOf, rest_drop n, List.drop_drop]; congr 1; omega
theorem readE_rd {s : List UInt8} {E : En} (h : rdEn s = some E) : readE s = E := by
  unfold rdEn at h
  split at h
  · rename_i hs
    obtain ⟨hl, hp⟩ := hs
    have h8 := hp.1
    split at h
    · cases h
    · rename_i v r hr
      split at h
      · injection h with h
        subst h
        have e1 : atN s 1 1 = keyZ s := rfl
        have e2 : s.drop 2 = keyS s := by unfold keyS; rw [List.drop_drop]
        have ev : valS s = s.drop 10 := by unfold valS; rw [← e2, List.drop_drop, List.drop_drop]; congr 1; omega
        have e0 : atN s 0 1 = getN (s.take 1) := by unfold atN; rw [List.drop_zero]
        unfold readE
        rw [e1, Nat.min_eq_left h8, e2]
        congr 1
        rw [ev] at hr
        unfold readV
        rw [e0]
        unfold rdVal at hr
        split at hr
        · rename_i hk
          rw [if_pos hk]
          split at hr
          · rename_i hok
            injection hr with hr
            injection hr with h1 h2
            subst h1
            have hz := hok.2.1
            unfold regZ at hz
            simp only [List.drop_drop] at hz
            simp only [regV, atN, List.drop_drop]
            rw [Nat.min_eq_left hz]
            rfl
          · cases hr
        · rename_i hk
          rw [if_neg hk]
          split at hr
          · rename_i hk2
            rw [if_pos hk2]
            injection hr with hr
            injection hr with h1 h2
            subst h1
            unfold countV
            rw [gets_nums, gets_nums, rest_drop, List.drop_drop]
          · rename_i hk2
            rw [if_neg hk2]
            split at hr
            · rename_i hk3
              rw [if_pos hk3]
              injection hr with hr
              injection hr with h1 h2
              subst h1
              simp only [flagsV, atN, List.drop_drop]
            · cases hr
      · cases h
  · cases h

def getOk (s : List UInt8) : Bool := (rdEn s).isSome
def getEF (s : List UInt8) : En := (rdEn s).getD zeroE
def getEE (s : List UInt8) : Int := if getOk s = true then 0 else 2
theorem getOk_iff (s : List UInt8) : getOk s = true ↔ s.length = 42 ∧ okE (readE s) = true ∧ putEn (readE s) = s := by
  unfold getOk
  constructor
  · intro h
    obtain ⟨E, hE⟩ := Option.isSome_iff_exists.1 h
    have h1 := put_rdEn hE
    have h2 := readE_rd hE
    rw [h2]
    exact ⟨by rw [← h1.2]; exact length_putEn h1.1, h1⟩
  · rintro ⟨_, h1, h2⟩
    have := rd_putEn h1
    rw [h2] at this
    rw [this]; rfl
theorem getEF_read {s : List UInt8} (h : getOk s = true) : getEF s = readE s := by
  obtain ⟨E, hE⟩ := Option.isSome_iff_exists.1 h
  unfold getEF
  rw [hE, readE_rd hE]; rfl
theorem getEF_none {s : List UInt8} (h : getOk s = false) : getEF s = zeroE := by
  unfold getEF
  unfold getOk at h
  cases hr : rdEn s with
  | none => rfl
  | some E => rw [hr] at h; cases h
end Go.Proofs.YtmbnhlhanckkiaaGreat
end
section
namespace Go.Proofs.YtmbnhlhanckkiaaGreat
open Go.RowKit
set_option linter.unusedVariables false
set_option linter.unusedSimpArgs false

end Go.Proofs.YtmbnhlhanckkiaaGreat
end
