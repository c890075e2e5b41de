/- An entry among a law's arguments: opened. -/
import Derived.Test.YtebjljiklacolaaVaOpen
import Derived.Test.YtebjljiklacolaaEnVar
namespace Go.Proofs.Ytebjljiklacolaa
open Go.RowKit Go.ChangeShapes Go.WideShapes
set_option linter.unusedVariables false
set_option linter.unusedSimpArgs false

structure CameE (E : En) : Prop where
  key : E.key.length ≤ maxLen
  val : CameV E.val
set_option maxRecDepth 100000 in
set_option maxHeartbeats 1000000 in
theorem open_en {W : World} {H : Type} {enc : TypeId × Value → H} {base b0 : Nat} {spare : Nat → Bool} {held : Bool} {v : Value} {d : DataW H} {p : List MemPlace} (hv : Value.okWide Try.prog W .any b0 27 v)
    (h : DataW.Trod enc Try.prog W base spare held 27 v d p) : ∃ E : En, isEn E v W ∧ CameE E := by
  obtain ⟨⟨l⟩, rfl, hsz⟩ := okWide_struct Try.underlying27 hv
  have hl : l.length = 9 := hsz.trans (by kernel_rfl)
  match l, hl with
  | [v8, v0, v1, v2, v3, v4, v5, v6, v7], _ =>
    obtain ⟨fuel0, hf0⟩ := h
    obtain ⟨xs0, n0, _, hxe0, _, hxl0, hg0⟩ := DataW.trod_struct Try.underlying27 hf0
    obtain ⟨z0, ez0⟩ : ∃ y, xs0[0]? = some y := ⟨_, List.getElem?_eq_getElem (by rw [hxl0]; decide)⟩
    obtain ⟨z1, ez1⟩ : ∃ y, xs0[1]? = some y := ⟨_, List.getElem?_eq_getElem (by rw [hxl0]; decide)⟩
    have g8 := hg0 0 _ rfl
    have hf := hg0 1 _ rfl
    have c2 : Try.prog.cellsOf 22 = 1 := by kernel_rfl
    have c3 : Try.prog.cellsOf 3 = 1 := by kernel_rfl
    have c4 : Try.prog.cellsOf 9 = 1 := by kernel_rfl
    have c5 : Try.prog.cellsOf 4 = 1 := by kernel_rfl
    have c6 : Try.prog.cellsOf 23 = 1 := by kernel_rfl
    have c7 : Try.prog.cellsOf 25 = 8 := by kernel_rfl
    have g8a : DataW.trod enc Try.prog W base spare held n0 9 (List.take (Try.prog.cellsOf 9) [v8, v0, v1, v2, v3, v4, v5, v6, v7]) = xs0[0]? := g8
    have hfa : DataW.trod enc Try.prog W base spare held n0 25 (List.take (Try.prog.cellsOf 25) [v0, v1, v2, v3, v4, v5, v6, v7]) = xs0[1]? := hf
    rw [ez0, c4] at g8a
    rw [ez1, c7] at hfa
    replace g8 : DataW.trod enc Try.prog W base spare held n0 9 [v8] = some z0 := g8a
    replace hf : DataW.trod enc Try.prog W base spare held n0 25 [v0, v1, v2, v3, v4, v5, v6, v7] = some z1 := hfa
    obtain ⟨key, h8, _, w8⟩ := DataW.trod_string Try.underlying9 g8
    obtain ⟨xs, n, _, hxe, _, hxl, hg⟩ := DataW.trod_struct Try.underlying25 hf
    have at_ : ∀ i, i < 8 → ∃ y, xs[i]? = some y := fun i hi => ⟨_, List.getElem?_eq_getElem (by rw [hxl]; exact hi)⟩
    obtain ⟨y0, e0⟩ := at_ 0 (by decide)
    obtain ⟨y1, e1⟩ := at_ 1 (by decide)
    obtain ⟨y2, e2⟩ := at_ 2 (by decide)
    obtain ⟨y3, e3⟩ := at_ 3 (by decide)
    obtain ⟨y4, e4⟩ := at_ 4 (by decide)
    obtain ⟨y5, e5⟩ := at_ 5 (by decide)
    obtain ⟨y6, e6⟩ := at_ 6 (by decide)
    obtain ⟨y7, e7⟩ := at_ 7 (by decide)
    have g0 := hg 0 _ rfl
    have g1 := hg 1 _ rfl
    have g2 := hg 2 _ rfl
    have g3 := hg 3 _ rfl
    have g4 := hg 4 _ rfl
    have g5 := hg 5 _ rfl
    have g6 := hg 6 _ rfl
    have g7 := hg 7 _ rfl
    have q0 : DataW.trod enc Try.prog W base spare held n 3 (List.take (Try.prog.cellsOf 3) [v0, v1, v2, v3, v4, v5, v6, v7]) = xs[0]? := g0
    rw [e0, c3] at q0
    replace g0 : DataW.trod enc Try.prog W base spare held n 3 [v0] = some y0 := q0
    have q1 : DataW.trod enc Try.prog W base spare held n 3 (List.take (Try.prog.cellsOf 3) [v1, v2, v3, v4, v5, v6, v7]) = xs[1]? := g1
    rw [e1, c3] at q1
    replace g1 : DataW.trod enc Try.prog W base spare held n 3 [v1] = some y1 := q1
    have q2 : DataW.trod enc Try.prog W base spare held n 3 (List.take (Try.prog.cellsOf 3) [v2, v3, v4, v5, v6, v7]) = xs[2]? := g2
    rw [e2, c3] at q2
    replace g2 : DataW.trod enc Try.prog W base spare held n 3 [v2] = some y2 := q2
    have q3 : DataW.trod enc Try.prog W base spare held n 4 (List.take (Try.prog.cellsOf 4) [v3, v4, v5, v6, v7]) = xs[3]? := g3
    rw [e3, c5] at q3
    replace g3 : DataW.trod enc Try.prog W base spare held n 4 [v3] = some y3 := q3
    have q4 : DataW.trod enc Try.prog W base spare held n 9 (List.take (Try.prog.cellsOf 9) [v4, v5, v6, v7]) = xs[4]? := g4
    rw [e4, c4] at q4
    replace g4 : DataW.trod enc Try.prog W base spare held n 9 [v4] = some y4 := q4
    have q5 : DataW.trod enc Try.prog W base spare held n 22 (List.take (Try.prog.cellsOf 22) [v5, v6, v7]) = xs[5]? := g5
    rw [e5, c2] at q5
    replace g5 : DataW.trod enc Try.prog W base spare held n 22 [v5] = some y5 := q5
    have q6 : DataW.trod enc Try.prog W base spare held n 22 (List.take (Try.prog.cellsOf 22) [v6, v7]) = xs[6]? := g6
    rw [e6, c2] at q6
    replace g6 : DataW.trod enc Try.prog W base spare held n 22 [v6] = some y6 := q6
    have q7 : DataW.trod enc Try.prog W base spare held n 23 (List.take (Try.prog.cellsOf 23) [v7]) = xs[7]? := g7
    rw [e7, c6] at q7
    replace g7 : DataW.trod enc Try.prog W base spare held n 23 [v7] = some y7 := q7
    obtain ⟨kind, h0, _, w0⟩ := DataW.trod_int Try.underlying3 g0
    obtain ⟨time, h1, _, w1⟩ := DataW.trod_int Try.underlying3 g1
    obtain ⟨node, h2, _, w2⟩ := DataW.trod_int Try.underlying3 g2
    obtain ⟨dead, h3, _⟩ := DataW.trod_bool Try.underlying4 g3
    obtain ⟨text, h4, _, w4⟩ := DataW.trod_string Try.underlying9 g4
    obtain ⟨plus, hp, hpn, hpw⟩ := open_row g5
    obtain ⟨minus, hm, hmn, hmw⟩ := open_row g6
    obtain ⟨flags, h7, _, w7⟩ := DataW.trod_int Try.underlying23 g7
    injection h8 with h8 _
    injection h0 with h0 _
    injection h1 with h1 _
    injection h2 with h2 _
    injection h3 with h3 _
    injection h4 with h4 _
    injection h7 with h7 _
    subst h0 h1 h2 h3 h4 h7 h8
    have b7 := wf_u64 w7
    have f7 : ((UInt64.ofNat flags.toNat).toNat : Int) = flags := by
      rw [UInt64.toNat_ofNat_of_lt' (by show flags.toNat < 18446744073709551616; omega)]
      omega
    refine ⟨⟨key.data.toList, ⟨kind, time, node, dead, text.data.toList, plus, minus, UInt64.ofNat flags.toNat⟩⟩, ⟨v5, v6, ?_, hp, hm⟩, ⟨by simpa using w8, ⟨w0, w1, w2, by simpa using w4, hpw, hmw, hpn, hmn⟩⟩⟩
    show Value.agg #[.string key, .int .i64 kind, .int .i64 time, .int .i64 node, .bool dead, .string text, v5, v6, .int .u64 flags] = .agg #[.string ⟨key.data.toList.toArray⟩, .int .i64 kind, .int .i64 time, .int .i64 node, .bool dead, .string ⟨text.data.toList.toArray⟩, v5, v6, .int .u64 ((UInt64.ofNat flags.toNat).toNat : Int)]
    rw [f7, ← str_eta, ← str_eta]
/-- Few. -/
def fewE (E : En) : Bool := fewV E.val && decide ((E.key.length : Int) ≤ 100)
theorem fewE_fit {E : En} (h : fewE E = true) : FitE E := by
  unfold fewE at h
  rw [Bool.and_eq_true, decide_eq_true_eq] at h
  exact ⟨by omega, few_fit h.1⟩
set_option maxRecDepth 100000 in
set_option maxHeartbeats 2000000 in
theorem efew_any (E : En) (v : Value) (w : World) (hv : isEn E v w) (hk : E.key.length ≤ maxLen) : Calls Try.prog 8 #[v] w fun e w' => e = .returned (.bool (fewE E)) ∧ Below w.heap.size w w' := by
  have hs : (⟨E.key.toArray⟩ : ByteArray).size = E.key.length := by simp [ByteArray.size]
  have HF := Kept.mk (show fewE E = (fewV E.val && decide ((E.key.length : Int) ≤ 100)) from rfl)
  obtain ⟨pe, me, rfl, hpe, hme⟩ := hv
  obtain ⟨hB, Ve⟩ := ebox w E pe me hpe hme (w.heap.size) (by simp)
  clear hpe hme
  obtain ⟨qe, re, xe, ye, ke0, ke1, ke2, ke3, ke4, ke5, ke6, ke7, ke8⟩ := Ve.out.open_
  have Xe := Kept.mk xe
  have Ye := Kept.mk ye
  clear xe ye
  go_enter Try.func8, Try.ntmps8
  go_wp2_with fail
  refine (vfew_any E.val _ _ Ye.out).mono ?_
  rintro e W1 ⟨rfl, hb1⟩
  replace hB := Kept.mk (hB.out.trans (hb1.mono hB.out.size))
  replace Ve := Kept.mk (Ve.out.keep hb1)
  clear hb1 Xe Ye ke0 ke1 ke2 ke3 ke4 ke5 ke6 ke7 ke8
  obtain ⟨_, _, _, _, ke0, _⟩ := Ve.out.open_
  cases hz : fewV E.val with
  | false =>
    rw [hz] at HF
    go_wp2
    go_ret
    exact ⟨by rw [HF.out]; rfl, hB.out⟩
  | true =>
    rw [hz] at HF
    go_wp2
    go_ret
    exact ⟨by rw [HF.out]; rfl, hB.out⟩
end Go.Proofs.Ytebjljiklacolaa
