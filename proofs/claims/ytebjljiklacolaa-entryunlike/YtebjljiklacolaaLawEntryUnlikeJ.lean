/- Entries that are not alike have other bytes; and all have 42 (entry.Put, Same). -/
import Derived.Test.YtebjljiklacolaaPartD
import Derived.SizedLaws
import Derived.ProofKit
import Derived.OpenShut
import Derived.ShutString
import Derived.ChangeOld
import Derived.Below
namespace Go.Proofs.Ytebjljiklacolaa
open Go.RowKit
open Go.ChangeShapes Go.WideShapes Go.ChangeAt Go.RowKit
open Go.ChangeMaps (open_string shut_string)
set_option linter.unusedVariables false
set_option linter.unusedSimpArgs false
attribute [local irreducible] setN

set_option maxRecDepth 100000 in
set_option maxHeartbeats 4000000 in
theorem entryUnlike_walk (F0 : En) (v0 : Value) (F1 : En) (v1 : Value) (w0 : CameE F0) (w1 : CameE F1) (w : World) (fl0 : isEn F0 v0 w) (fl1 : isEn F1 v1 w) :
    Calls Try.prog 6 #[v0, v1] w fun e w' => e = .returned (.bool true) ∧ Below w.heap.size w w' := by
  obtain ⟨pa, ma, rfl, hpa, hma⟩ := fl0
  obtain ⟨pb, mb, rfl, hpb, hmb⟩ := fl1
  obtain ⟨hB, Va⟩ := ebox w F0 pa ma hpa hma (w.heap.size) (by simp)
  obtain ⟨hBn, Vb⟩ := ebox (w.alloc (.cells #[.string ⟨F0.key.toArray⟩, .int .i64 F0.val.kind, .int .i64 F0.val.time, .int .i64 F0.val.node, .bool F0.val.dead, .string ⟨F0.val.text.toArray⟩, pa, ma, .int .u64 (F0.val.flags.toNat : Int)] 27)) F1 pb mb (stable_cells _ _ _ _ hpb hB.out) (stable_cells _ _ _ _ hmb hB.out) (w.heap.size + 1) (by simp)
  replace Va := Kept.mk (Va.out.keep hBn.out)
  replace hB := Kept.mk (hB.out.trans (hBn.out.mono hB.out.size))
  clear hBn
  clear hpa hma hpb hmb
  go_enter Try.func6, Try.ntmps6
  go_wp2_with fail
  generalize ((w.alloc (.cells #[.string ⟨F0.key.toArray⟩, .int .i64 F0.val.kind, .int .i64 F0.val.time, .int .i64 F0.val.node, .bool F0.val.dead, .string ⟨F0.val.text.toArray⟩, pa, ma, .int .u64 (F0.val.flags.toNat : Int)] 27)).alloc (.cells #[.string ⟨F1.key.toArray⟩, .int .i64 F1.val.kind, .int .i64 F1.val.time, .int .i64 F1.val.node, .bool F1.val.dead, .string ⟨F1.val.text.toArray⟩, pb, mb, .int .u64 (F1.val.flags.toNat : Int)] 27)) = W0 at *
  ((with_reducible refine (eworks_any _).mono ?_); rintro e W1 ⟨rfl, hb1⟩)
  replace hB := Kept.mk (hB.out.trans ((hb1).mono hB.out.size))
  replace Va := Kept.mk (Va.out.keep (hb1))
  replace Vb := Kept.mk (Vb.out.keep (hb1))
  clear hb1
  obtain ⟨qa, ra, xa, ya, ka0, ka1, ka2, ka3, ka4, ka5, ka6, ka7, ka8⟩ := Va.out.open_
  have Xa := Kept.mk xa
  have Ya := Kept.mk ya
  clear xa ya
  go_wp2_with fail
  ((with_reducible refine (efew_any F0 _ _ Xa.out w0.key).mono ?_); rintro e W2 ⟨rfl, hb1⟩)
  clear Xa Ya ka0 ka1 ka2 ka3 ka4 ka5 ka6 ka7 ka8
  replace hB := Kept.mk (hB.out.trans ((hb1).mono hB.out.size))
  replace Va := Kept.mk (Va.out.keep (hb1))
  replace Vb := Kept.mk (Vb.out.keep (hb1))
  clear hb1
  cases fa : fewE F0 with
  | false =>
    go_wp2
    all_goals go_ret
    all_goals exact ⟨rfl, hB.out⟩
  | true =>
    have FFa := Kept.mk (fewE_fit fa)
    clear fa
    obtain ⟨qb, rb, xb, yb, kb0, kb1, kb2, kb3, kb4, kb5, kb6, kb7, kb8⟩ := Vb.out.open_
    have Xb := Kept.mk xb
    have Yb := Kept.mk yb
    clear xb yb
    go_wp2_with fail
    ((with_reducible refine (efew_any F1 _ _ Xb.out w1.key).mono ?_); rintro e W3 ⟨rfl, hb1⟩)
    clear Xb Yb kb0 kb1 kb2 kb3 kb4 kb5 kb6 kb7 kb8
    replace hB := Kept.mk (hB.out.trans ((hb1).mono hB.out.size))
    replace Va := Kept.mk (Va.out.keep (hb1))
    replace Vb := Kept.mk (Vb.out.keep (hb1))
    clear hb1
    cases fb : fewE F1 with
    | false =>
      go_wp2
      all_goals go_ret
      all_goals exact ⟨rfl, hB.out⟩
    | true =>
      have FFb := Kept.mk (fewE_fit fb)
      clear fb
      obtain ⟨qa, ra, xa, ya, ka0, ka1, ka2, ka3, ka4, ka5, ka6, ka7, ka8⟩ := Va.out.open_
      have Xa := Kept.mk xa
      have Ya := Kept.mk ya
      clear xa ya
      go_wp2_with fail
      cases oa : okE F0 with
      | false =>
        ((with_reducible refine (eput_no F0 _ _ Xa.out FFa.out oa).mono ?_); rintro e W4 ⟨rfl, hb1⟩)
        clear Xa Ya ka0 ka1 ka2 ka3 ka4 ka5 ka6 ka7 ka8
        replace hB := Kept.mk (hB.out.trans ((hb1).mono hB.out.size))
        replace Va := Kept.mk (Va.out.keep (hb1))
        replace Vb := Kept.mk (Vb.out.keep (hb1))
        clear hb1
        obtain ⟨qb, rb, xb, yb, kb0, kb1, kb2, kb3, kb4, kb5, kb6, kb7, kb8⟩ := Vb.out.open_
        have Xb := Kept.mk xb
        have Yb := Kept.mk yb
        clear xb yb
        go_wp2_with fail
        ((with_reducible refine (eput_any F1 _ _ Xb.out FFb.out).mono ?_); rintro e W5 ⟨rfl, hb1⟩)
        clear Xb Yb kb0 kb1 kb2 kb3 kb4 kb5 kb6 kb7 kb8
        replace hB := Kept.mk (hB.out.trans ((hb1).mono hB.out.size))
        replace Va := Kept.mk (Va.out.keep (hb1))
        replace Vb := Kept.mk (Vb.out.keep (hb1))
        clear hb1
        generalize putF F1 = t1
        generalize chkE F1 = c1
        go_wp2
        all_goals go_ret
        all_goals exact ⟨rfl, hB.out⟩
      | true =>
        obtain ⟨s, hs⟩ : ∃ s, putEn F0 = s := ⟨_, rfl⟩
        have Os := Kept.mk oa
        ((with_reducible refine (eput_yes F0 s _ _ Xa.out FFa.out oa hs).mono ?_); rintro e W4 ⟨rfl, hb1⟩)
        clear Xa Ya ka0 ka1 ka2 ka3 ka4 ka5 ka6 ka7 ka8
        replace hB := Kept.mk (hB.out.trans ((hb1).mono hB.out.size))
        replace Va := Kept.mk (Va.out.keep (hb1))
        replace Vb := Kept.mk (Vb.out.keep (hb1))
        clear hb1
        clear oa
        obtain ⟨qb, rb, xb, yb, kb0, kb1, kb2, kb3, kb4, kb5, kb6, kb7, kb8⟩ := Vb.out.open_
        have Xb := Kept.mk xb
        have Yb := Kept.mk yb
        clear xb yb
        go_wp2_with fail
        cases ob : okE F1 with
        | false =>
          ((with_reducible refine (eput_no F1 _ _ Xb.out FFb.out ob).mono ?_); rintro e W5 ⟨rfl, hb1⟩)
          clear Xb Yb kb0 kb1 kb2 kb3 kb4 kb5 kb6 kb7 kb8
          replace hB := Kept.mk (hB.out.trans ((hb1).mono hB.out.size))
          replace Va := Kept.mk (Va.out.keep (hb1))
          replace Vb := Kept.mk (Vb.out.keep (hb1))
          clear hb1
          go_wp2
          all_goals go_ret
          all_goals exact ⟨rfl, hB.out⟩
        | true =>
          obtain ⟨t, ht⟩ : ∃ t, putEn F1 = t := ⟨_, rfl⟩
          have Ot := Kept.mk ob
          ((with_reducible refine (eput_yes F1 t _ _ Xb.out FFb.out ob ht).mono ?_); rintro e W5 ⟨rfl, hb1⟩)
          clear Xb Yb kb0 kb1 kb2 kb3 kb4 kb5 kb6 kb7 kb8
          replace hB := Kept.mk (hB.out.trans ((hb1).mono hB.out.size))
          replace Va := Kept.mk (Va.out.keep (hb1))
          replace Vb := Kept.mk (Vb.out.keep (hb1))
          clear hb1
          clear ob
          have hls : s.length = 42 := by rw [← hs]; exact length_putEn Os.out
          have zs : (⟨s.toArray⟩ : ByteArray).size = 42 := by simp [ByteArray.size, hls]
          have hlt : t.length = 42 := by rw [← ht]; exact length_putEn Ot.out
          have zt : (⟨t.toArray⟩ : ByteArray).size = 42 := by simp [ByteArray.size, hlt]
          have HI := Kept.mk (put_inj Os.out Ot.out)
          rw [hs, ht] at HI
          clear hs ht
          have HL := Kept.mk hls
          have HT := Kept.mk hlt
          cases hst : (s == t) with
          | false =>
            have HR := Kept.mk (HI.out.symm.trans hst)
            obtain ⟨qa, ra, xa, ya, ka0, ka1, ka2, ka3, ka4, ka5, ka6, ka7, ka8⟩ := Va.out.open_
            have Xa := Kept.mk xa
            have Ya := Kept.mk ya
            clear xa ya
            obtain ⟨qb, rb, xb, yb, kb0, kb1, kb2, kb3, kb4, kb5, kb6, kb7, kb8⟩ := Vb.out.open_
            have Xb := Kept.mk xb
            have Yb := Kept.mk yb
            clear xb yb
            go_wp2_with fail
            ((with_reducible refine (g_same F0 F1 false _ _ _ Xa.out Xb.out FFa.out.val FFb.out.val HR.out).mono ?_); rintro e W6 ⟨rfl, hb1⟩)
            clear Xa Ya ka0 ka1 ka2 ka3 ka4 ka5 ka6 ka7 ka8
            clear Xb Yb kb0 kb1 kb2 kb3 kb4 kb5 kb6 kb7 kb8
            replace hB := Kept.mk (hB.out.trans ((hb1).mono hB.out.size))
            replace Va := Kept.mk (Va.out.keep (hb1))
            replace Vb := Kept.mk (Vb.out.keep (hb1))
            clear hb1
            go_wp2
            all_goals go_ret
            all_goals exact ⟨rfl, hB.out⟩
          | true =>
            have HR := Kept.mk (HI.out.symm.trans hst)
            obtain ⟨qa, ra, xa, ya, ka0, ka1, ka2, ka3, ka4, ka5, ka6, ka7, ka8⟩ := Va.out.open_
            have Xa := Kept.mk xa
            have Ya := Kept.mk ya
            clear xa ya
            obtain ⟨qb, rb, xb, yb, kb0, kb1, kb2, kb3, kb4, kb5, kb6, kb7, kb8⟩ := Vb.out.open_
            have Xb := Kept.mk xb
            have Yb := Kept.mk yb
            clear xb yb
            go_wp2_with fail
            ((with_reducible refine (g_same F0 F1 true _ _ _ Xa.out Xb.out FFa.out.val FFb.out.val HR.out).mono ?_); rintro e W6 ⟨rfl, hb1⟩)
            clear Xa Ya ka0 ka1 ka2 ka3 ka4 ka5 ka6 ka7 ka8
            clear Xb Yb kb0 kb1 kb2 kb3 kb4 kb5 kb6 kb7 kb8
            replace hB := Kept.mk (hB.out.trans ((hb1).mono hB.out.size))
            replace Va := Kept.mk (Va.out.keep (hb1))
            replace Vb := Kept.mk (Vb.out.keep (hb1))
            clear hb1
            go_wp2
            all_goals go_ret
            all_goals exact ⟨rfl, hB.out⟩
set_option maxRecDepth 100000 in
theorem entryUnlike_lifted (os : Os) (started : os.Started) (H : Type) (enc : TypeId × Value → H) :
    ReturnsInHanded {} Try.checked os 6 .any (Rows.entryUnlikeSpec.pre6 enc Try.prog Try.f6 Rows.entryUnlikeRow.domain false) (Rows.entryUnlikeSpec.post enc Try.prog Try.f6 false true false false) := by
  refine returnsInHanded_of_change (C := Try.checked) (by kernel_rfl : ownKnob Try.prog.godebug = none) started (by kernel_rfl) Try.func6
    (ChangeSpec.witness6 (enc := enc) (C := Try.checked) false ⟨#[], #[.agg #[.string ByteArray.empty, .int .i64 0, .int .i64 0, .int .i64 0, .bool false, .string ByteArray.empty, .slice none 0 0, .slice none 0 0, .int .u64 0], .agg #[.string ByteArray.empty, .int .i64 0, .int .i64 0, .int .i64 0, .bool false, .string ByteArray.empty, .slice none 0 0, .slice none 0 0, .int .u64 0]], []⟩ 8 (by kernel_rfl) (by kernel_rfl) (by kernel_rfl) (by kernel_rfl)) ?_
  intro W base args ds gs before hval0 hW hcnd _
  have hval : ∀ (j : Nat) t v, Try.f6.params[j]? = some t → args[j]? = some v → Value.okWide Try.prog W .any base t v := hval0
  have hW' := hW
  obtain ⟨p, q, hA0, hV, rfl, hfz, hnd⟩ := hW
  have hA : DataW.TrodAll enc Try.prog W 0 (fun _ => true) true Try.f6.params.toList args.toList ds p := hA0
  rw [Try.params6] at hA hval
  obtain ⟨v0, vs0, d0, ds0, p0, q0, hargs, rfl, rfl, h0, r0⟩ := trodAll_cons hA
  obtain ⟨v1, vs1, d1, ds1, p1, q1, rfl, rfl, rfl, h1, r1⟩ := trodAll_cons r0
  obtain ⟨rfl, rfl, rfl⟩ := trodAll_nil r1
  obtain rfl : args = #[v0, v1] := by cases args; simp_all
  obtain ⟨rfl, rfl⟩ := trodVars_none hV
  obtain ⟨F0, fl0, w0⟩ := open_en (hval 0 27 v0 rfl rfl) h0
  have lt0 : ∀ x ∈ p0, x.block < W.heap.size := fun x hx => by obtain ⟨fuel, hf⟩ := h0; exact DataW.trod_lt fuel _ _ _ hf x hx
  obtain ⟨F1, fl1, w1⟩ := open_en (hval 1 27 v1 rfl rfl) h1
  have lt1 : ∀ x ∈ p1, x.block < W.heap.size := fun x hx => by obtain ⟨fuel, hf⟩ := h1; exact DataW.trod_lt fuel _ _ _ hf x hx
  clear hA0 hval0
  simp only [List.append_nil] at hW'
  refine (entryUnlike_walk F0 v0 F1 v1 w0 w1 W fl0 fl1).mono fun e W' ⟨he, bel⟩ => ?_
  subst he
  exact ⟨_, rfl, _, _, _, [], _, [], hW', trodAll_mk1 (shut_bool Try.underlying4 _), (trodAll_cons_mk (Below.trod (by kernel_rfl) (by kernel_rfl) (of_decide_eq_true (by kernel_rfl)) h0 bel lt0) (trodAll_cons_mk (Below.trod (by kernel_rfl) (by kernel_rfl) (of_decide_eq_true (by kernel_rfl)) h1 bel lt1) trodAll_mk0)), rfl, bel.frame _, fun h => by cases h⟩
/-- THE STATEMENT. -/
theorem entryUnlike_proved : Rows.EntryUnlikeSaid :=
  OpenClaim.holds_of_wide 6 Try.f6 rfl rfl rfl rfl rfl rfl rfl ⟨rfl, rfl, rfl, rfl, rfl⟩ rfl rfl rfl rfl rfl (by kernel_rfl) Try.func6 (by kernel_rfl)
    (of_decide_eq_true (by kernel_rfl)) (by unfold Func.isWrapper; first | (rw [if_pos (by decide +kernel)]; kernel_rfl) | (rw [if_neg (by decide +kernel)]; exact ⟨rfl, rfl⟩))
    (fun os started H enc _ => entryUnlike_lifted os started H enc)
#print axioms entryUnlike_proved
end Go.Proofs.Ytebjljiklacolaa
