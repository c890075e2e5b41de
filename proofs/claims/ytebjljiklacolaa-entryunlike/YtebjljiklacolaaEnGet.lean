/- Contracts of package entry: read. -/
import Derived.Test.YtebjljiklacolaaEnApi
namespace Go.Proofs.Ytebjljiklacolaa
open Go.RowKit
set_option linter.unusedVariables false
set_option linter.unusedSimpArgs false
attribute [local irreducible] setN

theorem rd_fit {k : Nat} {l r : List UInt8} {A : Va} (h : rdVal k l = some (A, r)) (hl : l.length ≤ 1000) : Fit A ∧ r.length ≤ l.length := by
  unfold rdVal at h
  split at h
  · split at h
    · injection h with h; injection h with h1 h2; subst h1 h2
      refine ⟨⟨?_, ?_, ?_⟩, ?_⟩
      · show (List.take _ _).length ≤ _
        simp only [List.length_take, List.length_drop]; omega
      · show 0 ≤ _; omega
      · show 0 ≤ _; omega
      · simp only [regR, regS, List.length_drop]; omega
    · cases h
  · split at h
    · injection h with h; injection h with h1 h2; subst h1 h2
      refine ⟨⟨?_, ?_, ?_⟩, ?_⟩
      · show 0 ≤ _; omega
      · show (numsOf 8 l).length ≤ _; rw [length_numsOf]; omega
      · show (numsOf 8 (restOf 8 l)).length ≤ _; rw [length_numsOf]; omega
      · rw [length_rest, length_rest]; omega
    · split at h
      · injection h with h; injection h with h1 h2; subst h1 h2
        refine ⟨⟨?_, ?_, ?_⟩, ?_⟩
        · show 0 ≤ _; omega
        · show 0 ≤ _; omega
        · show 0 ≤ _; omega
        · simp only [List.length_drop]; omega
      · cases h
theorem VarE.wr {W W' : World} {b g : Nat} {A : Va} {vp vm x : Value} (h : VarE W b A vp vm) (k : Wr g x W W') (hne : b ≠ g) (hp : blk vp ≠ some g) (hm : blk vm ≠ some g) : VarE W' b A vp vm :=
  ⟨⟨Nat.lt_of_lt_of_le h.1.1 k.size, fun j x hx => (k.cell (p := ⟨b, j, none⟩) h.1.1 hne).trans (h.1.2 j x hx)⟩, h.2.1.wr k hp, h.2.2.wr k hm⟩
theorem rd_len {s : List UInt8} (h : ¬ s.length = 42) : rdEn s = none := by unfold rdEn; rw [if_neg (fun k => h k.1)]
theorem rd_pad {s : List UInt8} (h : ¬ padOk (keyZ s) 8 (keyS s)) : rdEn s = none := by unfold rdEn; rw [if_neg (fun k => h k.2)]
theorem rd_val {s : List UInt8} (h : rdVal (getN (s.take 1)) (valS s) = none) : rdEn s = none := by
  unfold rdEn
  split
  · rw [h]
  · rfl
theorem rd_some {s r : List UInt8} {A : Va} (h1 : s.length = 42) (h2 : padOk (keyZ s) 8 (keyS s)) (h : rdVal (getN (s.take 1)) (valS s) = some (A, r)) : rdEn s = if r = zerosL r.length ∧ okE ⟨keyOf s, A⟩ = true then some ⟨keyOf s, A⟩ else none := by
  unfold rdEn
  rw [if_pos ⟨h1, h2⟩, h]
set_option maxRecDepth 100000 in
set_option maxHeartbeats 4000000 in
theorem read_any (s : List UInt8) (w : World) (hs : s.length ≤ 1000) :
    Calls Try.prog 23 #[.string ⟨s.toArray⟩] w fun e w' => (∃ E, rdEn s = some E ∧ (∃ v', e = .returned v' ∧ isEnN w.heap.size E v' w') ∧ Below w.heap.size w w') ∨ (rdEn s = none ∧ e = Gave ∧ Below w.heap.size w w') := by
  have hl : (⟨s.toArray⟩ : ByteArray).size = s.length := by simp [ByteArray.size]
  have hb0 := Kept.mk ((lit_below w (.cells #[.string ⟨#[]⟩, .int .i64 0, .int .i64 0, .int .i64 0, .bool false, .string ⟨#[]⟩, .slice none 0 0, .slice none 0 0, .int .u64 0] 27)).trans ((lit_below (w.alloc (.cells #[.string ⟨#[]⟩, .int .i64 0, .int .i64 0, .int .i64 0, .bool false, .string ⟨#[]⟩, .slice none 0 0, .slice none 0 0, .int .u64 0] 27)) (.cells #[.string ⟨s.toArray⟩] 70)).mono (lit_below w (.cells #[.string ⟨#[]⟩, .int .i64 0, .int .i64 0, .int .i64 0, .bool false, .string ⟨#[]⟩, .slice none 0 0, .slice none 0 0, .int .u64 0] 27)).size))
  have HR := Kept.mk ((Blk.new w 27 [.string ⟨#[]⟩, .int .i64 0, .int .i64 0, .int .i64 0, .bool false, .string ⟨#[]⟩, .slice none 0 0, .slice none 0 0, .int .u64 0] w.heap.size rfl).alloc (.cells #[.string ⟨s.toArray⟩] 70))
  have HA := Kept.mk (show At ((w.alloc (.cells #[.string ⟨#[]⟩, .int .i64 0, .int .i64 0, .int .i64 0, .bool false, .string ⟨#[]⟩, .slice none 0 0, .slice none 0 0, .int .u64 0] 27)).alloc (.cells #[.string ⟨s.toArray⟩] 70)) (w.heap.size + 1) (txt s) from (fun b => ⟨b.cells.2 0 _ rfl, b.free 0, b.lt⟩) (Blk.new (w.alloc (.cells #[.string ⟨#[]⟩, .int .i64 0, .int .i64 0, .int .i64 0, .bool false, .string ⟨#[]⟩, .slice none 0 0, .slice none 0 0, .int .u64 0] 27)) 70 [.string ⟨s.toArray⟩] (w.heap.size + 1) (by simp)))
  have HW := Kept.mk (Wr.refl HA.out)
  clear HA
  go_enter Try.func23, Try.ntmps23
  go_wp2_with fail
  by_cases h42 : s.length = 42
  · refine (insist_yes _ (by simp; omega) _).mono ?_
    rintro e w9 ⟨rfl, rfl⟩
    go_wp2_with fail
    generalize hW0 : ((w.alloc (.cells #[.string ⟨#[]⟩, .int .i64 0, .int .i64 0, .int .i64 0, .bool false, .string ⟨#[]⟩, .slice none 0 0, .slice none 0 0, .int .u64 0] 27)).alloc (.cells #[.string ⟨s.toArray⟩] 70)) = W0 at *
    have hs0 : W0.heap.size = w.heap.size + 2 := by rw [← hW0]; simp
    clear hW0
    refine (rnumber_any (w.heap.size + 1) s 1 W0 HW.out.at_ (by omega) (by omega) (by omega) (by omega)).mono ?_
    rintro e W1 ⟨rfl, hw⟩
    replace HR := Kept.mk (HR.out.wr hw (by omega))
    replace HW := Kept.mk (HW.out.trans hw)
    clear hw
    generalize hK : getN (s.take 1) = kd
    have HK := Kept.mk hK
    clear hK
    go_wp2_with fail
    refine (rnumber_any (w.heap.size + 1) (s.drop 1) 1 W1 HW.out.at_ (by omega) (by omega) (by rw [List.length_drop]; omega) (by rw [List.length_drop]; omega)).mono ?_
    rintro e W2 ⟨rfl, hw⟩
    replace HR := Kept.mk (HR.out.wr hw (by omega))
    replace HW := Kept.mk (HW.out.trans hw)
    clear hw
    have hz : getN ((s.drop 1).take 1) < 256 := by have := getN_lt ((s.drop 1).take 1); rw [List.length_take, Nat.min_eq_left (by rw [List.length_drop]; omega)] at this; exact this
    generalize hZ : getN ((s.drop 1).take 1) = z at hz ⊢
    have HZ := Kept.mk hZ
    clear hZ
    go_wp2_with fail
    refine (padded_any (w.heap.size + 1) ((s.drop 1).drop 1) z W2 HW.out.at_ (by simp only [List.length_drop]; omega) (by simp only [List.length_drop]; omega) (by omega)).mono ?_
    rintro e W3 (⟨hp, rfl, hw⟩ | ⟨hp, rfl, x, hw⟩)
    · replace HR := Kept.mk (HR.out.wr hw (by omega))
      replace HW := Kept.mk (HW.out.trans hw)
      have hp8 := hp.1
      have HP := Kept.mk hp
      clear hw hp
      generalize hX : ((s.drop 1).drop 1).take z = key
      have HX := Kept.mk hX
      have hkl : key.length ≤ 42 := by rw [← hX]; simp only [List.length_take, List.length_drop]; omega
      clear hX
      go_wp2_with fail
      generalize hS : (((s.drop 1).drop 1).drop z).drop (8 - z) = sv at *
      have hsv : sv.length = 32 := by rw [← hS]; simp only [List.length_drop]; omega
      have HS := Kept.mk hS
      clear hS
      have hs3 := HW.out.size
      refine (rval_any (w.heap.size + 1) sv kd W3 HW.out.at_ (by omega) (by omega)).mono ?_
      rintro e U (⟨A, r, hr, ⟨v', rfl, p', m', rfl, hp', hm', np, nm⟩, hw⟩ | ⟨hr, rfl, x, hw⟩)
      · replace HR := Kept.mk (HR.out.wr hw (by omega))
        replace HW := Kept.mk (HW.out.trans hw)
        obtain ⟨hFit, hrl⟩ := rd_fit hr (by omega)
        have HRD := Kept.mk hr
        have hsU := hw.size
        clear hw hr
        obtain ⟨K1, K2, K3, K4, K5⟩ := vnew U A p' m' hp' hm' U.heap.size rfl
        clear hp' hm'
        have NP := Kept.mk np
        have NM := Kept.mk nm
        clear np nm
        replace HR := Kept.mk (HR.out.keep K3.out)
        replace HW := Kept.mk (HW.out.then_ K3.out)
        have hs4 := K3.out.size
        have kr := HW.out.at_.cell
        have hlr : (⟨r.toArray⟩ : ByteArray).size = r.length := by simp [ByteArray.size]
        have hlv := K4.out.1.1
        go_wp2_with (have hz0 := K1; refine wpList_storeN 25 rfl (.tmp 7) (.tmp 25) rfl U.heap.size [.int .i64 A.kind, .int .i64 A.time, .int .i64 A.node, .bool A.dead, .string ⟨A.text.toArray⟩, p', m', .int .u64 (A.flags.toNat : Int)] size_va rfl rfl K1.out rfl K2.out K5.out ?_; clear hz0 K1 K2 K3 K5; generalize setN (U.alloc (.cells #[.int .i64 0, .int .i64 0, .int .i64 0, .bool false, .string ⟨#[]⟩, .slice none 0 0, .slice none 0 0, .int .u64 0] 25)) U.heap.size 0 [.int .i64 A.kind, .int .i64 A.time, .int .i64 A.node, .bool A.dead, .string ⟨A.text.toArray⟩, p', m', .int .u64 (A.flags.toNat : Int)] = W4 at *)
        refine (skip_any (w.heap.size + 1) r r.length W4 HW.out.at_ (Nat.le_refl _) (by omega)).mono ?_
        rw [List.take_length, List.drop_length]
        rintro e W5 (⟨hrz, rfl, hw⟩ | ⟨hrz, rfl, x, hw⟩)
        · have HV := Kept.mk (K4.out.wr hw (by omega) (NP.out.ne (by omega)) (NM.out.ne (by omega)))
          have hs5 := hw.size
          replace HR := Kept.mk (HR.out.wr hw (by omega))
          replace HW := Kept.mk (HW.out.trans hw)
          have HZR := Kept.mk hrz
          clear hw hrz K4 kr hlr
          have kv0 := HV.out.1.2 0 _ rfl
          have kv1 := HV.out.1.2 1 _ rfl
          have kv2 := HV.out.1.2 2 _ rfl
          have kv3 := HV.out.1.2 3 _ rfl
          have kv4 := HV.out.1.2 4 _ rfl
          have kv5 := HV.out.1.2 5 _ rfl
          have kv6 := HV.out.1.2 6 _ rfl
          have kv7 := HV.out.1.2 7 _ rfl
          obtain ⟨K1, K2, K3, K4, K5⟩ := enew W5 ⟨key, A⟩ p' m' HV.out.2.1 HV.out.2.2 W5.heap.size rfl
          replace HR := Kept.mk (HR.out.keep K3.out)
          replace HW := Kept.mk (HW.out.then_ K3.out)
          have hs6 := K3.out.size
          have hlv5 := HV.out.1.1
          replace HV := Kept.mk (show VarE _ U.heap.size A p' m' from ⟨HV.out.1.keep K3.out hlv5, stable_cells _ _ _ _ HV.out.2.1 K3.out, stable_cells _ _ _ _ HV.out.2.2 K3.out⟩)
          go_wp2_with (have hz0 := K1; refine wpList_storeN 27 rfl (.tmp 8) (.tmp 35) rfl W5.heap.size [.string ⟨key.toArray⟩, .int .i64 A.kind, .int .i64 A.time, .int .i64 A.node, .bool A.dead, .string ⟨A.text.toArray⟩, p', m', .int .u64 (A.flags.toNat : Int)] size_en rfl rfl K1.out rfl K2.out K5.out ?_; clear hz0 K1 K2 K3 K5 kv0 kv1 kv2 kv3 kv4 kv5 kv6 kv7; generalize setN (W5.alloc (.cells #[.string ⟨#[]⟩, .int .i64 0, .int .i64 0, .int .i64 0, .bool false, .string ⟨#[]⟩, .slice none 0 0, .slice none 0 0, .int .u64 0] 27)) W5.heap.size 0 [.string ⟨key.toArray⟩, .int .i64 A.kind, .int .i64 A.time, .int .i64 A.node, .bool A.dead, .string ⟨A.text.toArray⟩, p', m', .int .u64 (A.flags.toNat : Int)] = W6 at *; have ke0 := K4.out.1.2 0 _ rfl; have ke1 := K4.out.1.2 1 _ rfl; have ke2 := K4.out.1.2 2 _ rfl; have ke3 := K4.out.1.2 3 _ rfl; have ke4 := K4.out.1.2 4 _ rfl; have ke5 := K4.out.1.2 5 _ rfl; have ke6 := K4.out.1.2 6 _ rfl; have ke7 := K4.out.1.2 7 _ rfl; have ke8 := K4.out.1.2 8 _ rfl)
          refine (echeck_any ⟨key, A⟩ _ W6 ⟨_, _, rfl, K4.out.2.1, K4.out.2.2⟩ ⟨by show key.length ≤ _; omega, hFit⟩).mono ?_
          rintro e W7 ⟨rfl, hb⟩
          clear ke0 ke1 ke2 ke3 ke4 ke5 ke6 ke7 ke8
          replace HR := Kept.mk (HR.out.keep hb)
          replace HW := Kept.mk (HW.out.then_ hb)
          have hlt := K4.out.1.1
          have hs7 := hb.size
          have K6 := Kept.mk (K4.out.1.keep hb hlt)
          have HP7 := Kept.mk (stable_cells _ _ _ _ K4.out.2.1 hb)
          have HM7 := Kept.mk (stable_cells _ _ _ _ K4.out.2.2 hb)
          clear hb K4 HV
          have hbw := Kept.mk (hb0.out.trans (HW.out.below (by omega) (by omega)))
          generalize hC : chkE ⟨key, A⟩ = ce
          have HC := Kept.mk hC
          clear hC
          go_wp2_with fail
          by_cases hce : ce = 0
          · refine (insist_yes _ (by simpa using hce) _).mono ?_
            rintro e w9 ⟨rfl, rfl⟩
            have HCE := Kept.mk hce
            clear hce
            obtain ⟨Q1, Q2, Q3, Q4, Q5⟩ := eset ⟨key, A⟩ p' m' (g := w.heap.size) (Nat.le_refl _) hbw.out HR.out.cells rfl HP7.out HM7.out (NP.out.ne (by omega)) (NM.out.ne (by omega))
            have NP' := Kept.mk (NP.out.low (B' := w.heap.size) (by omega))
            have NM' := Kept.mk (NM.out.low (B' := w.heap.size) (by omega))
            have ke0 := K6.out.2 0 _ rfl
            have ke1 := K6.out.2 1 _ rfl
            have ke2 := K6.out.2 2 _ rfl
            have ke3 := K6.out.2 3 _ rfl
            have ke4 := K6.out.2 4 _ rfl
            have ke5 := K6.out.2 5 _ rfl
            have ke6 := K6.out.2 6 _ rfl
            have ke7 := K6.out.2 7 _ rfl
            have ke8 := K6.out.2 8 _ rfl
            clear NP NM HP7 HM7 HW K6
            go_wp2_with (refine wpList_storeN 27 rfl (.tmp 2) (.tmp 40) rfl w.heap.size [.string ⟨key.toArray⟩, .int .i64 A.kind, .int .i64 A.time, .int .i64 A.node, .bool A.dead, .string ⟨A.text.toArray⟩, p', m', .int .u64 (A.flags.toNat : Int)] size_en rfl rfl HR.out.cells rfl HR.out.free Q5.out ?_)
            refine bodyPost_ret (resultsN1 rfl _ _ w.heap.size _ size_en agg_en rfl Q2.out) rfl (.inl ⟨⟨key, A⟩, ?_, ⟨_, rfl, ⟨_, _, rfl, Q3.out, Q4.out, NP'.out, NM'.out⟩⟩, Q1.out⟩)
            have hkey : keyOf s = key := by unfold keyOf keyS keyZ; rw [HZ.out, HX.out]
            rw [rd_some h42 (by unfold keyZ keyS; rw [HZ.out]; exact HP.out) (by rw [HK.out]; unfold valS keyZ keyS; rw [HZ.out, HS.out]; exact HRD.out)]; rw [hkey, if_pos ⟨HZR.out, by have := HC.out; rw [HCE.out] at this; unfold chkE at this; split at this; assumption; cases this⟩]
          · refine (insist_no _ (by simpa using hce) _).mono ?_
            rintro e w9 ⟨rfl, rfl⟩
            have HCE := Kept.mk hce
            clear hce
            go_wp2
            refine ⟨rfl, .inr ⟨?_, rfl, hbw.out⟩⟩
            have hkey : keyOf s = key := by unfold keyOf keyS keyZ; rw [HZ.out, HX.out]
            rw [rd_some h42 (by unfold keyZ keyS; rw [HZ.out]; exact HP.out) (by rw [HK.out]; unfold valS keyZ keyS; rw [HZ.out, HS.out]; exact HRD.out)]; rw [hkey, if_neg (fun k => HCE.out (by rw [← HC.out]; unfold chkE; rw [if_pos k.2]))]
        · replace HR := Kept.mk (HR.out.wr hw (by omega))
          replace HW := Kept.mk (HW.out.trans hw)
          have HZR := Kept.mk hrz
          clear hw hrz
          go_wp2
          exact ⟨rfl, .inr ⟨by rw [rd_some h42 (by unfold keyZ keyS; rw [HZ.out]; exact HP.out) (by rw [HK.out]; unfold valS keyZ keyS; rw [HZ.out, HS.out]; exact HRD.out), if_neg (fun k => HZR.out k.1)], rfl, hb0.out.trans (HW.out.below (by omega) (by omega))⟩⟩
      · replace HR := Kept.mk (HR.out.wr hw (by omega))
        replace HW := Kept.mk (HW.out.trans hw)
        have HRD := Kept.mk hr
        clear hw hr
        go_wp2
        exact ⟨rfl, .inr ⟨rd_val (by rw [HK.out]; unfold valS keyZ keyS; rw [HZ.out, HS.out]; exact HRD.out), rfl, hb0.out.trans (HW.out.below (by omega) (by omega))⟩⟩
    · replace HR := Kept.mk (HR.out.wr hw (by omega))
      replace HW := Kept.mk (HW.out.trans hw)
      have HP := Kept.mk hp
      clear hw hp
      go_wp2
      exact ⟨rfl, .inr ⟨rd_pad (by unfold keyZ keyS; rw [HZ.out]; exact HP.out), rfl, hb0.out.trans (HW.out.below (by omega) (by omega))⟩⟩
  · refine (insist_no _ (by simp; omega) _).mono ?_
    rintro e w9 ⟨rfl, rfl⟩
    go_wp2
    exact ⟨rfl, .inr ⟨rd_len h42, rfl, lit_below _ _⟩⟩
end Go.Proofs.Ytebjljiklacolaa
