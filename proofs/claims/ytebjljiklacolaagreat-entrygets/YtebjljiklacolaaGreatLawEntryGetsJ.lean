/- The entry of any bytes is just what the document says (entry.Get). -/
import Derived.Test.YtebjljiklacolaaGreatPartF
import Derived.SizedLaws
import Derived.ProofKit
import Derived.OpenShut
import Derived.ShutString
import Derived.ChangeOld
import Derived.Below
namespace Go.Proofs.YtebjljiklacolaaGreat
open Go.RowKit
open Go.ChangeShapes Go.WideShapes Go.ChangeAt Go.RowKit
open Go.ChangeMaps (open_string shut_string)
set_option linter.unusedVariables false
set_option linter.unusedSimpArgs false
attribute [local irreducible] setN

theorem fit_get (s : List UInt8) : FitE (getEF s) := by
  cases h : rdEn s with
  | none => unfold getEF; rw [h]; exact fitE_zero
  | some E => unfold getEF; rw [h]; exact ok_fit (put_rdEn h).1
theorem eget_at (s : List UInt8) (G : En) (r : Int) (w : World) (hs : s.length ≤ 1000) (hg : getEF s = G) (hr : getEE s = r) : Calls Tryz.prog 17 #[.string ⟨s.toArray⟩] w fun e w' => ∃ v', e = .returned (.tuple #[v', .int .i64 r]) ∧ isEnN w.heap.size G v' w' ∧ Below w.heap.size w w' := by
  subst hg hr; exact eget_any s w hs
theorem reget_at (s : List UInt8) (G : En) (r : Int) (w : World) (hs : s.length ≤ 1000) (hg : getEF s = G) (hr : getEE s = r) : Calls Tryz.prog 18 #[.string ⟨s.toArray⟩] w fun e w' => ∃ v', e = .returned (.tuple #[v', .int .i64 r]) ∧ isEn G v' w' ∧ Below w.heap.size w w' := by
  subst hg hr; exact reget_any s w hs
theorem resame_at2 (A B : En) (r : Bool) (v u : Value) (w : World) (hv : isEn A v w) (hu : isEn B u w) (h1 : Fit A.val) (h2 : Fit B.val) (hr : decide (A = B) = r) : Calls Tryz.prog 12 #[v, u] w fun e w' => e = .returned (.bool r) ∧ Below w.heap.size w w' := by
  subst hr; exact resame_any A B v u w hv hu h1 h2
set_option maxRecDepth 100000 in
set_option maxHeartbeats 4000000 in
theorem entryGets_walk (a0 : ByteArray) (w0 : a0.size ≤ maxLen) (w : World) :
    Calls Tryz.prog 4 #[.string a0] w fun e w' => e = .returned (.bool true) ∧ Below w.heap.size w w' := by
  obtain ⟨s, hs0⟩ : ∃ s : List UInt8, a0 = ⟨s.toArray⟩ := ⟨_, str_eta a0⟩
  subst hs0
  have hsz : (⟨s.toArray⟩ : ByteArray).size = s.length := by simp [ByteArray.size]
  rw [hsz] at w0
  have hB := Kept.mk (Below.refl w.heap.size w)
  go_enter Tryz.func4, Tryz.ntmps4
  go_wp2_with fail
  ((with_reducible refine (eworks_any _).mono ?_); rintro e W1 ⟨rfl, hb1⟩)
  replace hB := Kept.mk (hB.out.trans ((hb1).mono hB.out.size))
  clear hb1
  by_cases h100 : 100 < s.length
  · have d1 : decide ((100 : Int) < (s.length : Int)) = true := by simp; omega
    go_wp2
    all_goals go_ret
    all_goals exact ⟨rfl, hB.out⟩
  have d1 : decide ((100 : Int) < (s.length : Int)) = false := by simp; omega
  have hl1 : s.length ≤ 1000 := by omega
  obtain ⟨G, hG⟩ : ∃ r, getEF s = r := ⟨_, rfl⟩
  obtain ⟨ge, hge⟩ : ∃ r, getEE s = r := ⟨_, rfl⟩
  have FG := Kept.mk (show FitE G by rw [← hG]; exact fit_get s)
  have HG := Kept.mk hG
  have He := Kept.mk hge
  clear hG hge
  go_wp2_with fail
  clear d1 hsz
  ((with_reducible refine (eget_at s G ge _ hl1 HG.out He.out).mono ?_); rintro e U ⟨v', rfl, ⟨p', m', rfl, hp', hm', _, _⟩, hb1⟩)
  obtain ⟨K1, K2, K3, K4, K5⟩ := enew U G p' m' hp' hm' U.heap.size rfl
  clear hp' hm'
  replace hB := Kept.mk (hB.out.trans ((hb1).mono hB.out.size))
  clear hb1
  go_wp2_with (have hz0 := K1; refine wpList_storeN 27 rfl (.tmp 4) (.tmp 19) rfl U.heap.size [.string ⟨G.key.toArray⟩, .int .i64 G.val.kind, .int .i64 G.val.time, .int .i64 G.val.node, .bool G.val.dead, .string ⟨G.val.text.toArray⟩, p', m', .int .u64 (G.val.flags.toNat : Int)] size_en rfl rfl K1.out rfl K2.out K5.out ?_; replace hB := Kept.mk (hB.out.trans ((K3.out).mono hB.out.size)); have Va := Kept.mk (show VarN _ _ G from ⟨_, _, K4.out⟩); clear hz0 K1 K2 K3 K4 K5; generalize setN (U.alloc (.cells #[.string ⟨#[]⟩, .int .i64 0, .int .i64 0, .int .i64 0, .bool false, .string ⟨#[]⟩, .slice none 0 0, .slice none 0 0, .int .u64 0] 27)) U.heap.size 0 [.string ⟨G.key.toArray⟩, .int .i64 G.val.kind, .int .i64 G.val.time, .int .i64 G.val.node, .bool G.val.dead, .string ⟨G.val.text.toArray⟩, p', m', .int .u64 (G.val.flags.toNat : Int)] = W2 at *; generalize U.heap.size = ga at *)
  ((with_reducible refine (reget_at s G ge _ hl1 HG.out He.out).mono ?_); rintro e U ⟨v', rfl, ⟨p', m', rfl, hp', hm'⟩, hb1⟩)
  obtain ⟨K1, K2, K3, K4, K5⟩ := enew U G p' m' hp' hm' U.heap.size rfl
  clear hp' hm'
  replace hB := Kept.mk (hB.out.trans ((hb1).mono hB.out.size))
  replace Va := Kept.mk (Va.out.keep (hb1))
  clear hb1
  go_wp2_with (have hz0 := K1; refine wpList_storeN 27 rfl (.tmp 6) (.tmp 24) rfl U.heap.size [.string ⟨G.key.toArray⟩, .int .i64 G.val.kind, .int .i64 G.val.time, .int .i64 G.val.node, .bool G.val.dead, .string ⟨G.val.text.toArray⟩, p', m', .int .u64 (G.val.flags.toNat : Int)] size_en rfl rfl K1.out rfl K2.out K5.out ?_; replace hB := Kept.mk (hB.out.trans ((K3.out).mono hB.out.size)); replace Va := Kept.mk (Va.out.keep (K3.out)); have Vb := Kept.mk (show VarN _ _ G from ⟨_, _, K4.out⟩); clear hz0 K1 K2 K3 K4 K5; generalize setN (U.alloc (.cells #[.string ⟨#[]⟩, .int .i64 0, .int .i64 0, .int .i64 0, .bool false, .string ⟨#[]⟩, .slice none 0 0, .slice none 0 0, .int .u64 0] 27)) U.heap.size 0 [.string ⟨G.key.toArray⟩, .int .i64 G.val.kind, .int .i64 G.val.time, .int .i64 G.val.node, .bool G.val.dead, .string ⟨G.val.text.toArray⟩, p', m', .int .u64 (G.val.flags.toNat : Int)] = W3 at *; generalize U.heap.size = gb at *; obtain ⟨qa, ra, xa, ya, ka0, ka1, ka2, ka3, ka4, ka5, ka6, ka7, ka8⟩ := Va.out.open_; have Xa := Kept.mk xa; have Ya := Kept.mk ya; clear xa ya; obtain ⟨qb, rb, xb, yb, kb0, kb1, kb2, kb3, kb4, kb5, kb6, kb7, kb8⟩ := Vb.out.open_; have Xb := Kept.mk xb; have Yb := Kept.mk yb; clear xb yb)
  ((with_reducible refine (resame_at2 G G true _ _ _ Xa.out Xb.out FG.out.val FG.out.val (by simp)).mono ?_); rintro e W4 ⟨rfl, hb1⟩)
  clear Xa Ya ka0 ka1 ka2 ka3 ka4 ka5 ka6 ka7 ka8
  clear Xb Yb kb0 kb1 kb2 kb3 kb4 kb5 kb6 kb7 kb8
  replace hB := Kept.mk (hB.out.trans ((hb1).mono hB.out.size))
  replace Va := Kept.mk (Va.out.keep (hb1))
  replace Vb := Kept.mk (Vb.out.keep (hb1))
  clear hb1
  go_wp2
  all_goals go_ret
  all_goals exact ⟨rfl, hB.out⟩
set_option maxRecDepth 100000 in
theorem entryGets_lifted (os : Os) (started : os.Started) (H : Type) (enc : TypeId × Value → H) :
    ReturnsInHanded {} Tryz.checked os 4 .any (Rows.entryGetsSpec.pre6 enc Tryz.prog Tryz.f4 Rows.entryGetsRow.domain false) (Rows.entryGetsSpec.post enc Tryz.prog Tryz.f4 false true false false) := by
  refine returnsInHanded_of_change (C := Tryz.checked) (by kernel_rfl : ownKnob Tryz.prog.godebug = none) started (by kernel_rfl) Tryz.func4
    (ChangeSpec.witness6 (enc := enc) (C := Tryz.checked) false ⟨#[], #[.string ByteArray.empty], []⟩ 8 (by kernel_rfl) (by kernel_rfl) (by kernel_rfl) (by kernel_rfl)) ?_
  intro W base args ds gs before hval0 hW hcnd _
  have hval : ∀ (j : Nat) t v, Tryz.f4.params[j]? = some t → args[j]? = some v → Value.okWide Tryz.prog W .any base t v := hval0
  have hW' := hW
  obtain ⟨p, q, hA0, hV, rfl, hfz, hnd⟩ := hW
  have hA : DataW.TrodAll enc Tryz.prog W 0 (fun _ => true) true Tryz.f4.params.toList args.toList ds p := hA0
  rw [Tryz.params4] at hA hval
  obtain ⟨v0, vs0, d0, ds0, p0, q0, hargs, rfl, rfl, h0, r0⟩ := trodAll_cons hA
  obtain ⟨rfl, rfl, rfl⟩ := trodAll_nil r0
  obtain rfl : args = #[v0] := by cases args; simp_all
  obtain ⟨rfl, rfl⟩ := trodVars_none hV
  obtain ⟨a0, rfl, rfl, rfl, w0⟩ := open_string Tryz.underlying9 (hval 0 9 v0 rfl rfl) h0
  clear hA0 hval0
  simp only [List.append_nil] at hW'
  refine (entryGets_walk a0 w0 W).mono fun e W' ⟨he, bel⟩ => ?_
  subst he
  exact ⟨_, rfl, _, _, _, [], _, [], hW', trodAll_mk1 (shut_bool Tryz.underlying4 _), (trodAll_cons_mk (shut_string Tryz.underlying9 w0) trodAll_mk0), rfl, bel.frame _, fun h => by cases h⟩
/-- THE STATEMENT. -/
theorem entryGets_proved : Rows.EntryGetsSaid :=
  OpenClaim.holds_of_wide 4 Tryz.f4 rfl rfl rfl rfl rfl rfl rfl ⟨rfl, rfl, rfl, rfl, rfl⟩ rfl rfl rfl rfl rfl (by kernel_rfl) Tryz.func4 (by kernel_rfl)
    (of_decide_eq_true (by kernel_rfl)) (by unfold Func.isWrapper; first | (rw [if_pos (by decide +kernel)]; kernel_rfl) | (rw [if_neg (by decide +kernel)]; exact ⟨rfl, rfl⟩))
    (fun os started H enc _ => entryGets_lifted os started H enc)
#print axioms entryGets_proved
end Go.Proofs.YtebjljiklacolaaGreat
