/- A torn step leaves a page between what it was, and what it would be, bit by bit; all other pages as they were; and nothing is worn (flash.Program, Erase, Wake, Free). -/
import Derived.Test.YtipiioggdalkoaaFlBetB
import Derived.SizedLaws
import Derived.ProofKit
import Derived.OpenShut
import Derived.ShutString
import Derived.ChangeOld
import Derived.Below
namespace Go.Proofs.Ytipiioggdalkoaa
open Go.ChangeShapes Go.WideShapes Go.ChangeAt Go.RowKit
open Go.ChangeMaps (open_string shut_string)
set_option linter.unusedVariables false
set_option linter.unusedSimpArgs false
attribute [local irreducible] set5

theorem flashBetween_walk (F0 : Fl) (v0 : Value) (a1 a2 : Int) (a3 a4 : ByteArray) (c0 : Came F0) (w1 : (Lit.int .i64 a1).wf = true) (w2 : (Lit.int .i64 a2).wf = true) (w3 : a3.size ≤ maxLen) (w4 : a4.size ≤ maxLen) (w : World) (hv : isFl F0 v0 w) :
    Calls Try.prog 5 #[v0, .int .i64 a1, .int .i64 a2, .string a3, .string a4] w fun e w' => e = .returned (.bool true) ∧ Below w.heap.size w w' := by
  rw [str_eta a3, str_eta a4]
  generalize a3.data.toList = s
  generalize a4.data.toList = t
  cases hfew : fewB F0 with
  | false => exact flashBetween_1 F0 v0 a1 a2 s t w hv hfew
  | true =>
  by_cases hs : 400 < s.length
  · exact flashBetween_2 F0 v0 a1 a2 s t w hv hfew hs
  obtain ⟨hn1, hn2⟩ := few_facts hfew
  have hwk : ∀ (fz : Int) (v : Value) (w : World), isFl F0 v w → Calls Try.prog 17 #[v, .int .i64 fz, .string ⟨t.toArray⟩] w fun e w' => ∃ v', e = .returned (.tuple #[v', .int .i64 (wakeE F0 t)]) ∧ isFlN w.heap.size (wakeF F0 fz t) v' w' ∧ Below w.heap.size w w' :=
    fun fz v w hv => wake_any F0 fz t v w hv (by omega) (by omega)
  cases hwb : wakeB F0 t with
  | false =>
    have hE : wakeE F0 t = 1 := by unfold wakeE; rw [hwb]; rfl
    rw [hE] at hwk
    exact flashBetween_3 F0 v0 a1 a2 s t w hv _ _ hfew (by omega) ⟨hwk 0⟩ ⟨hwk (-1)⟩
  | true =>
  have hE : wakeE F0 t = 0 := by unfold wakeE; rw [hwb]; rfl
  have hG : ∀ fz, wakeF F0 fz t = { F0 with fuse := fz, torn := t, dead := false } := by intro fz; unfold wakeF; rw [hwb]; rfl
  rw [hE] at hwk
  by_cases hp0 : a1 < 0
  · exact flashBetween_4 F0 v0 a1 a2 s t w hv _ _ hfew (by omega) hp0 ⟨hwk 0⟩ ⟨hwk (-1)⟩
  by_cases hp1 : (F0.pages.length : Int) ≤ a1
  · exact flashBetween_5 F0 v0 a1 a2 s t w hv _ _ hfew (by omega) (by omega) hp1 ⟨hwk 0⟩ ⟨hwk (-1)⟩
  unfold wakeB at hwb
  simp only [Bool.and_eq_true, decide_eq_true_eq] at hwb
  have h0 := hwk 0
  have h1 := hwk (-1)
  rw [hG] at h0 h1
  obtain ⟨k, rfl⟩ := Int.eq_ofNat_of_zero_le (show 0 ≤ a1 by omega)
  obtain ⟨W, hW⟩ : ∃ W : Fl, W = { F0 with fuse := 0, torn := t, dead := false } := ⟨_, rfl⟩
  obtain ⟨V, hV⟩ : ∃ V : Fl, V = { F0 with fuse := -1, torn := t, dead := false } := ⟨_, rfl⟩
  rw [← hW] at h0
  rw [← hV] at h1
  have hmW : mayB W = true := by rw [hW]; exact wake_may (by omega) hwb.1
  have hmV : mayB V = true := by rw [hV]; exact wake_may (by omega) hwb.1
  have wp : W.pages = F0.pages := by rw [hW]
  have ww : W.wear = F0.wear := by rw [hW]
  have wf_ : W.fuse = 0 := by rw [hW]
  have wd : W.dead = false := by rw [hW]
  have wt : W.torn = t := by rw [hW]
  have vp_ : V.pages = F0.pages := by rw [hV]
  have vw_ : V.wear = F0.wear := by rw [hV]
  have vf : V.fuse = -1 := by rw [hV]
  have vd : V.dead = false := by rw [hV]
  clear hW hV hG hwk
  have hk : k < F0.pages.length := by omega
  have hhW : hasB W (k : Int) = true := by unfold hasB; rw [hmW, wp]; simp; omega
  have hhV : hasB V (k : Int) = true := by unfold hasB; rw [hmV, vp_]; simp; omega
  have fW := has_facts W k hhW
  have fV := has_facts V k hhV
  have hmm : F0.wear.length = F0.pages.length := by rw [← wp, ← ww]; exact fW.2.2.1
  have hkw : k < F0.wear.length := by omega
  have hpg : F0.pages.getD k [] = F0.pages[k] := by simp [List.getD_eq_getElem?_getD, hk]
  have hwg : F0.wear.getD k 0 = F0.wear[k] := by simp [List.getD_eq_getElem?_getD, hkw]
  have hbw := wear_bound hhV
  rw [vw_, hwg] at hbw
  have hp8 : F0.pages[k].length ≤ 8192 := by
    have := fW.2.2.2.2.1 F0.pages[k] (by rw [wp]; exact List.getElem_mem hk)
    exact this.2.1
  obtain ⟨eC, gC⟩ := erase_torn hhW wd wf_
  obtain ⟨eD, gD⟩ := erase_live (m := 0) hhV vd (by rw [vf]; decide)
  rw [wp, hpg, wt] at gC
  rw [vp_, hpg, vw_, hwg, vf] at gD
  have hC : ∀ (v : Value) (w : World), isFl W v w → Calls Try.prog 10 #[v, .int .i64 (k : Int)] w fun e w' => ∃ v', e = .returned (.tuple #[v', .int .i64 8]) ∧ isFlN w.heap.size (eraseF W k) v' w' ∧ Below w.heap.size w w' := by
    intro v w hv
    have h := erase_any W k v w hv (by rw [wp]; omega) (by rw [ww]; omega) (by rw [wf_]; decide)
    rwa [eC] at h
  have hD : ∀ (v : Value) (w : World), isFl V v w → Calls Try.prog 10 #[v, .int .i64 (k : Int)] w fun e w' => ∃ v', e = .returned (.tuple #[v', .int .i64 0]) ∧ isFlN w.heap.size (eraseF V k) v' w' ∧ Below w.heap.size w w' := by
    intro v w hv
    have h := erase_any V k v w hv (by rw [vp_]; omega) (by rw [vw_]; omega) (by rw [vf]; decide)
    rwa [eD] at h
  have hworn : 0 ≤ wornN F0.wear[k] ∧ wornN F0.wear[k] ≤ 2147483647 := by unfold wornN; split <;> omega
  have hasD : hasB (eraseF V k) (k : Int) = true := by
    rw [gD]
    have h := may_step (D := V) (k := k) (x := List.replicate F0.pages[k].length 255) (y := wornN F0.wear[k]) (f := if (0 : Int) < -1 then -1 - 1 else -1) (d := V.dead) hhV (by rw [vp_, hpg]; simp) hworn.1 hworn.2
    rw [vp_, vw_] at h
    exact h
  have hfree : ∀ (v : Value) (w : World), isFl (eraseF V k) v w → Calls Try.prog 24 #[v, .int .i64 (k : Int)] w fun e w' => e = .returned (.bool true) ∧ Below w.heap.size w w' := by
    intro v w hv
    have h := free_any (eraseF V k) k v w hv (by rw [gD]; simp; omega) (by rw [gD]; simp; omega)
    have hb : freeB (eraseF V k) k = true := by
      unfold freeB
      rw [hasD, gD]
      simp [List.getD_eq_getElem?_getD, hk]
    rwa [hb] at h
  have hX : (if (2147483647 : Int) < F0.wear[k] + 1 then 2147483647 else F0.wear[k] + 1) = wornN F0.wear[k] := by unfold wornN; split <;> split <;> omega
  have HCD : (eraseF W k).dead = true ∧ (eraseF V k).dead = false ∧ (eraseF W k).pages.length = F0.pages.length ∧ (eraseF V k).pages.length = F0.pages.length ∧ (eraseF W k).wear.length = F0.wear.length ∧ (eraseF V k).wear.length = F0.wear.length ∧ (eraseF W k).pages[k]? = some (betweenL F0.pages[k] (List.replicate F0.pages[k].length 255) t) ∧ F0.pages[k]? = some F0.pages[k] ∧ (eraseF V k).wear[k]? = some (wornN F0.wear[k]) ∧ F0.wear[k]? = some F0.wear[k] ∧ (eraseF W k).wear = F0.wear := by
    rw [gC, gD]
    simp [ww, vd, hk, hkw]
  have hor : pairL (· ||| ·) F0.pages[k] (betweenL F0.pages[k] (List.replicate F0.pages[k].length 255) t) = betweenL F0.pages[k] (List.replicate F0.pages[k].length 255) t := by
    rw [between_betL]; exact betL_or _ _ (length_maskL _ _)
  cases hfi : fitsB W (k : Int) a2 s with
  | false =>
    have hfV : fitsB V (k : Int) a2 s = false := by unfold fitsB at hfi ⊢; rw [vp_]; rw [wp] at hfi; exact hfi
    have hpr : ∀ D : Fl, D.pages = F0.pages → D.wear = F0.wear → D.fuse ≤ 0 → fitsB D (k : Int) a2 s = false → ∀ (v : Value) (w : World), isFl D v w → Calls Try.prog 12 #[v, .int .i64 (k : Int), .int .i64 a2, .string ⟨s.toArray⟩] w fun e w' => ∃ v', e = .returned (.tuple #[v', .int .i64 1]) ∧ isFlN w.heap.size D v' w' ∧ Below w.heap.size w w' := by
      intro D h1 h2 h3 h4 v w hv
      have h := program_any D k a2 s v w hv (by omega) (by rw [h1]; omega) (by rw [h2]; omega) (by omega)
      obtain ⟨q1, q2⟩ := prog_no (page := (k : Int)) (.inr h4)
      rwa [q1, q2] at h
    exact flashBetween_6 F0 v0 k a2 s t w hv W V W V (eraseF W k) (eraseF V k) F0.pages[k] _ [] [] _ F0.wear[k] hfew (by omega) hk hmm hbw.1 hbw.2 ⟨hX⟩ ⟨HCD⟩ (by rw [length_betweenL]; omega) (by omega) ⟨hor⟩ ⟨hfree⟩ ⟨h0⟩ ⟨h1⟩ ⟨hpr W wp ww (by omega) hfi⟩ ⟨hpr V vp_ vw_ (by omega) hfV⟩ ⟨hC⟩ ⟨hD⟩
  | true =>
    unfold fitsB at hfi
    simp only [Bool.and_eq_true, decide_eq_true_eq, Int.toNat_natCast] at hfi
    obtain ⟨n, rfl⟩ := Int.eq_ofNat_of_zero_le hfi.1
    rw [wp, hpg] at hfi
    obtain ⟨eA, gA⟩ := prog_torn (n := n) (s := s) hhW (by rw [wp, hpg]; omega) wd wf_
    obtain ⟨eB, gB⟩ := prog_yes (n := n) (s := s) hhV (by rw [vp_, hpg]; omega) vd vf
    rw [wp, hpg, wt] at gA
    unfold setP at gB
    rw [vp_, hpg] at gB
    have hA : ∀ (v : Value) (w : World), isFl W v w → Calls Try.prog 12 #[v, .int .i64 (k : Int), .int .i64 (n : Int), .string ⟨s.toArray⟩] w fun e w' => ∃ v', e = .returned (.tuple #[v', .int .i64 8]) ∧ isFlN w.heap.size (progF W k n s) v' w' ∧ Below w.heap.size w w' := by
      intro v w hv
      have h := program_any W k n s v w hv (by omega) (by rw [wp]; omega) (by rw [ww]; omega) (by rw [wf_]; decide)
      rwa [eA] at h
    have hB : ∀ (v : Value) (w : World), isFl V v w → Calls Try.prog 12 #[v, .int .i64 (k : Int), .int .i64 (n : Int), .string ⟨s.toArray⟩] w fun e w' => ∃ v', e = .returned (.tuple #[v', .int .i64 0]) ∧ isFlN w.heap.size (progF V k n s) v' w' ∧ Below w.heap.size w w' := by
      intro v w hv
      have h := program_any V k n s v w hv (by omega) (by rw [vp_]; omega) (by rw [vw_]; omega) (by rw [vf]; decide)
      rwa [eB] at h
    obtain ⟨b1, b2⟩ := betL_and F0.pages[k] (progL F0.pages[k] n s) (maskL t F0.pages[k].length) (length_progL _ _ _) (length_maskL _ _) (prog_under _ _ _ (by omega))
    have HAB : (progF W k n s).dead = true ∧ (progF V k n s).dead = false ∧ (progF W k n s).pages.length = F0.pages.length ∧ (progF V k n s).pages.length = F0.pages.length ∧ (progF W k n s).wear.length = F0.wear.length ∧ (progF V k n s).wear.length = F0.wear.length ∧ (progF W k n s).pages[k]? = some (betweenL F0.pages[k] (progL F0.pages[k] n s) t) ∧ (progF V k n s).pages[k]? = some (progL F0.pages[k] n s) ∧ (progF W k n s).wear = F0.wear := by
      rw [gA, gB]
      simp [ww, vw_, vd, hk]
    have HO : ∀ j, j ≠ k → (progF W k n s).pages[j]? = F0.pages[j]? ∧ (progF V k n s).pages[j]? = F0.pages[j]? ∧ (eraseF W k).pages[j]? = F0.pages[j]? ∧ (eraseF V k).pages[j]? = F0.pages[j]? := by
      intro j hj
      rw [gA, gB, gC, gD]
      simp [Ne.symm hj]
    exact flashBetween_7 F0 v0 k n s t w hv W V (progF W k n s) (progF V k n s) (eraseF W k) (eraseF V k) F0.pages[k] _ (betweenL F0.pages[k] (progL F0.pages[k] n s) t) _ _ F0.wear[k] hfew (by omega) hk hmm hbw.1 hbw.2 ⟨hX⟩ ⟨HCD⟩ (by rw [length_betweenL]; omega) (by omega) ⟨hor⟩ (by rw [length_betweenL]; omega) (by rw [length_progL]; omega) ⟨b1⟩ ⟨b2⟩ ⟨HAB⟩ ⟨HO⟩ ⟨hfree⟩ ⟨h0⟩ ⟨h1⟩ ⟨hA⟩ ⟨hB⟩ ⟨hC⟩ ⟨hD⟩

set_option maxRecDepth 100000 in
theorem flashBetween_lifted (os : Os) (started : os.Started) (H : Type) (enc : TypeId × Value → H) :
    ReturnsInHanded {} Try.checked os 5 .any (Rows.flashBetweenSpec.pre6 enc Try.prog Try.f5 Rows.flashBetweenRow.domain false) (Rows.flashBetweenSpec.post enc Try.prog Try.f5 false true false false) := by
  refine returnsInHanded_of_change (C := Try.checked) (by kernel_rfl : ownKnob Try.prog.godebug = none) started (by kernel_rfl) Try.func5
    (ChangeSpec.witness6 (enc := enc) (C := Try.checked) false ⟨#[], #[.agg #[.slice none 0 0, .slice none 0 0, .int .i64 0, .string ByteArray.empty, .bool false], .int .i64 0, .int .i64 0, .string ByteArray.empty, .string ByteArray.empty], []⟩ 8 (by kernel_rfl) (by kernel_rfl) (by kernel_rfl) (by kernel_rfl)) ?_
  intro W base args ds gs before hval0 hW hcnd _
  have hval : ∀ (j : Nat) t v, Try.f5.params[j]? = some t → args[j]? = some v → Value.okWide Try.prog W .any base t v := hval0
  have hW' := hW
  obtain ⟨p, q, hA0, hV, rfl, hfz, hnd⟩ := hW
  have hA : DataW.TrodAll enc Try.prog W 0 (fun _ => true) true Try.f5.params.toList args.toList ds p := hA0
  rw [Try.params5] at hA hval
  obtain ⟨v0, vs0, d0, ds0, p0, q0, hargs, rfl, rfl, h0, r0⟩ := trodAll_cons hA
  obtain ⟨v1, vs1, d1, ds1, p1, q1, rfl, rfl, rfl, h1, r1⟩ := trodAll_cons r0
  obtain ⟨v2, vs2, d2, ds2, p2, q2, rfl, rfl, rfl, h2, r2⟩ := trodAll_cons r1
  obtain ⟨v3, vs3, d3, ds3, p3, q3, rfl, rfl, rfl, h3, r3⟩ := trodAll_cons r2
  obtain ⟨v4, vs4, d4, ds4, p4, q4, rfl, rfl, rfl, h4, r4⟩ := trodAll_cons r3
  obtain ⟨rfl, rfl, rfl⟩ := trodAll_nil r4
  obtain rfl : args = #[v0, v1, v2, v3, v4] := by cases args; simp_all
  obtain ⟨rfl, rfl⟩ := trodVars_none hV
  obtain ⟨F0, fl0, w0, z0⟩ := open_flash (hval 0 25 v0 rfl rfl) h0
  have lt0 : ∀ x ∈ p0, x.block < W.heap.size := fun x hx => by obtain ⟨fuel, hf⟩ := h0; exact DataW.trod_lt fuel _ _ _ hf x hx
  obtain ⟨a1, rfl, rfl, rfl, w1⟩ := open_int Try.underlying3 (hval 1 3 v1 rfl rfl) h1
  obtain ⟨a2, rfl, rfl, rfl, w2⟩ := open_int Try.underlying3 (hval 2 3 v2 rfl rfl) h2
  obtain ⟨a3, rfl, rfl, rfl, w3⟩ := open_string Try.underlying9 (hval 3 9 v3 rfl rfl) h3
  obtain ⟨a4, rfl, rfl, rfl, w4⟩ := open_string Try.underlying9 (hval 4 9 v4 rfl rfl) h4
  clear hA0 hval0
  simp only [List.append_nil] at hW'
  refine (flashBetween_walk F0 v0 a1 a2 a3 a4 w0 w1 w2 w3 w4 W fl0).mono fun e W' ⟨he, bel⟩ => ?_
  subst he
  exact ⟨_, rfl, _, _, _, [], _, [], hW', trodAll_mk1 (shut_bool Try.underlying4 _), (trodAll_cons_mk (Below.trod (by kernel_rfl) (by kernel_rfl) (of_decide_eq_true (by kernel_rfl)) h0 bel lt0) (trodAll_cons_mk (shut_int Try.underlying3 w1) (trodAll_cons_mk (shut_int Try.underlying3 w2) (trodAll_cons_mk (shut_string Try.underlying9 w3) (trodAll_cons_mk (shut_string Try.underlying9 w4) trodAll_mk0))))), rfl, bel.frame _, fun h => by cases h⟩
/-- THE STATEMENT. -/
theorem flashBetween_proved : Rows.FlashBetweenSaid :=
  OpenClaim.holds_of_wide 5 Try.f5 rfl rfl rfl rfl rfl rfl rfl ⟨rfl, rfl, rfl, rfl, rfl⟩ rfl rfl rfl rfl rfl (by kernel_rfl) Try.func5 (by kernel_rfl)
    (of_decide_eq_true (by kernel_rfl)) (by unfold Func.isWrapper; first | (rw [if_pos (by decide +kernel)]; kernel_rfl) | (rw [if_neg (by decide +kernel)]; exact ⟨rfl, rfl⟩))
    (fun os started H enc _ => flashBetween_lifted os started H enc)
#print axioms flashBetween_proved
end Go.Proofs.Ytipiioggdalkoaa
