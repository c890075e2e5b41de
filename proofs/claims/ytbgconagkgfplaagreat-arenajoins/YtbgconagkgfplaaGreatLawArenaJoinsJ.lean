/- What an arena and an entry, and an arena and entries, come to, is what the document says (arena.Join, Merge). -/
import Derived.Test.YtbgconagkgfplaaGreatPartH
import Derived.SizedLaws
import Derived.ProofKit
import Derived.OpenShut
import Derived.ShutString
import Derived.ChangeOld
import Derived.Below
namespace Go.Proofs.YtbgconagkgfplaaGreat
open Go.RowKit
open Go.ChangeShapes Go.WideShapes Go.ChangeAt Go.RowKit
open Go.ChangeMaps (open_string shut_string)
set_option linter.unusedVariables false
set_option linter.unusedSimpArgs false
attribute [local irreducible] setN

theorem rmerge_at (A : Ar) (L : List En) (G : Ar) (n o : Int) (v u : Value) (w : World) (hv : isAr A v w) (hu : isEns L u w) (hF : FitA A) (hL : ∀ e ∈ L, FitE e) (hLn : L.length ≤ 500) (hG : mergeF A L = G) (hn : (mergeN A L : Int) = n) (ho : (mergeO A L : Int) = o) : Calls Tryz.prog 17 #[v, u] w fun e w' => ∃ v', e = .returned (.tuple #[v', .int .i64 n, .int .i64 o]) ∧ isAr G v' w' ∧ Below w.heap.size w w' := by
  subst hG hn ho; exact rmerge_any A L v u w hv hu hF hL hLn
theorem rsame_yes (A : Ar) (v u : Value) (w : World) (hv : isAr A v w) (hu : isAr A u w) (hA : FitA A) : Calls Tryz.prog 18 #[v, u] w fun e w' => e = .returned (.bool true) ∧ Below w.heap.size w w' := by
  have h := rsameA_any A A v u w hv hu hA hA
  simpa using h
set_option maxRecDepth 100000 in
set_option maxHeartbeats 4000000 in
theorem arenaJoins_walk (F0 : Ar) (v0 : Value) (F1 : En) (v1 : Value) (F2 : List En) (v2 : Value) (w0 : CameA F0) (w1 : CameE F1) (w2 : F2.length ≤ maxLen ∧ ∀ e ∈ F2, CameE e) (w : World) (fl0 : isAr F0 v0 w) (fl1 : isEn F1 v1 w) (fl2 : isEns F2 v2 w) :
    Calls Tryz.prog 3 #[v0, v1, v2] w fun e w' => e = .returned (.bool true) ∧ Below w.heap.size w w' := by
  obtain ⟨lx, lc, rfl⟩ := fl2.len
  obtain ⟨pa, ma, rfl, hpa, hma⟩ := fl0
  obtain ⟨px, mx, rfl, hpx, hmx⟩ := fl1
  obtain ⟨hB, Va⟩ := abox w F0 pa ma hpa hma (w.heap.size) (by simp)
  obtain ⟨hBn, Vx⟩ := ebox (w.alloc (.cells #[.int .i64 F0.cap, pa, ma] 25)) F1 px mx (stable_cells _ _ _ _ hpx hB.out) (stable_cells _ _ _ _ hmx hB.out) (w.heap.size + 1) (by simp)
  replace Va := Kept.mk (Va.out.keep hBn.out)
  replace hB := Kept.mk (hB.out.trans (hBn.out.mono hB.out.size))
  clear hBn
  clear hpa hma hpx hmx
  have Sl := Kept.mk (stable_ens _ _ _ _ fl2 hB.out)
  go_enter Tryz.func3, Tryz.ntmps3
  go_wp2_with fail
  generalize ((w.alloc (.cells #[.int .i64 F0.cap, pa, ma] 25)).alloc (.cells #[.string ⟨F1.key.toArray⟩, .int .i64 F1.val.kind, .int .i64 F1.val.time, .int .i64 F1.val.node, .bool F1.val.dead, .string ⟨F1.val.text.toArray⟩, px, mx, .int .u64 (F1.val.flags.toNat : Int)] 30)) = W0 at *
  ((with_reducible refine (aworks_any _).mono ?_); rintro e W1 ⟨rfl, hb1⟩)
  replace hB := Kept.mk (hB.out.trans ((hb1).mono hB.out.size))
  replace Va := Kept.mk (Va.out.keep (hb1))
  replace Vx := Kept.mk (Vx.out.keep (hb1))
  replace Sl := Kept.mk (stable_ens _ _ _ _ Sl.out (hb1))
  clear hb1
  obtain ⟨qa, ra, xa, sa, ia, ka0, ka1, ka2⟩ := Va.out.open_
  have Xa := Kept.mk xa
  have Sa := Kept.mk sa
  have Ia := Kept.mk ia
  clear xa sa ia
  go_wp2_with fail
  ((with_reducible refine (afew_any F0 _ _ Xa.out (CameA.keys w0) w0.slots w0.index).mono ?_); rintro e W2 ⟨rfl, hb1⟩)
  clear Xa Sa Ia ka0 ka1 ka2
  replace hB := Kept.mk (hB.out.trans ((hb1).mono hB.out.size))
  replace Va := Kept.mk (Va.out.keep (hb1))
  replace Vx := Kept.mk (Vx.out.keep (hb1))
  replace Sl := Kept.mk (stable_ens _ _ _ _ Sl.out (hb1))
  clear hb1
  cases fa : fewA F0 with
  | false =>
    go_wp2
    all_goals go_ret
    all_goals exact ⟨rfl, hB.out⟩
  | true =>
    have FFa := Kept.mk (fewA_fit fa)
    have KFa := Kept.mk fa
    clear fa
    obtain ⟨qx, rx, xx, yx, kx0, kx1, kx2, kx3, kx4, kx5, kx6, kx7, kx8⟩ := Vx.out.open_
    have Xx := Kept.mk xx
    have Yx := Kept.mk yx
    clear xx yx
    go_wp2_with fail
    ((with_reducible refine (efew_any F1 _ _ Xx.out w1.key).mono ?_); rintro e W3 ⟨rfl, hb1⟩)
    clear Xx Yx kx0 kx1 kx2 kx3 kx4 kx5 kx6 kx7 kx8
    replace hB := Kept.mk (hB.out.trans ((hb1).mono hB.out.size))
    replace Va := Kept.mk (Va.out.keep (hb1))
    replace Vx := Kept.mk (Vx.out.keep (hb1))
    replace Sl := Kept.mk (stable_ens _ _ _ _ Sl.out (hb1))
    clear hb1
    cases fx : fewE F1 with
    | false =>
      go_wp2
      all_goals go_ret
      all_goals exact ⟨rfl, hB.out⟩
    | true =>
      have FFx := Kept.mk (fewE_fit fx)
      have KFx := Kept.mk fx
      clear fx
      go_wp2_with fail
      ((with_reducible refine (entries_any F2 12 _ _ Sl.out (fun e he => (w2.2 e he).key) w2.1 (by decide) (by decide)).mono ?_); rintro e W4 ⟨rfl, hb1⟩)
      replace hB := Kept.mk (hB.out.trans ((hb1).mono hB.out.size))
      replace Va := Kept.mk (Va.out.keep (hb1))
      replace Vx := Kept.mk (Vx.out.keep (hb1))
      replace Sl := Kept.mk (stable_ens _ _ _ _ Sl.out (hb1))
      clear hb1
      cases fl : fewL F2 12 with
      | false =>
        go_wp2
        all_goals go_ret
        all_goals exact ⟨rfl, hB.out⟩
      | true =>
        have FFl := Kept.mk (fewL_fit fl)
        have hl12 := fewL_len fl
        clear fl
        obtain ⟨qa, ra, xa, sa, ia, ka0, ka1, ka2⟩ := Va.out.open_
        have Xa := Kept.mk xa
        have Sa := Kept.mk sa
        have Ia := Kept.mk ia
        clear xa sa ia
        obtain ⟨qx, rx, xx, yx, kx0, kx1, kx2, kx3, kx4, kx5, kx6, kx7, kx8⟩ := Vx.out.open_
        have Xx := Kept.mk xx
        have Yx := Kept.mk yx
        clear xx yx
        go_wp2_with fail
        obtain ⟨G, hG⟩ : ∃ r : Ar, joinAF F0 F1 = r := ⟨_, rfl⟩
        obtain ⟨z, hz⟩ : ∃ r : Bool, joinAB F0 F1 = r := ⟨_, rfl⟩
        obtain ⟨r, hr⟩ : ∃ r : Int, joinAE F0 F1 = r := ⟨_, rfl⟩
        obtain ⟨D, hD⟩ : ∃ r : Ar, mergeF F0 F2 = r := ⟨_, rfl⟩
        obtain ⟨n, hn⟩ : ∃ r : Int, (mergeN F0 F2 : Int) = r := ⟨_, rfl⟩
        obtain ⟨o, ho⟩ : ∃ r : Int, (mergeO F0 F2 : Int) = r := ⟨_, rfl⟩
        have FG := Kept.mk (show FitA G by rw [← hG]; exact fitA_join FFa.out FFx.out)
        have FD := Kept.mk (show FitA D by rw [← hD]; exact fit_merge F2 F0 FFa.out FFl.out)
        have HG := Kept.mk hG
        have Hz := Kept.mk hz
        have Hr := Kept.mk hr
        have HD := Kept.mk hD
        have Hn := Kept.mk hn
        have Ho := Kept.mk ho
        clear hG hz hr hD hn ho
        ((with_reducible refine (ga_join F0 F1 G z r _ _ _ Xa.out Xx.out FFa.out FFx.out HG.out Hz.out Hr.out).mono ?_); rintro e U ⟨v', rfl, ⟨p', m', rfl, hp', hm'⟩, hb1⟩)
        obtain ⟨K1, K2, K3, K4, K5⟩ := anew U G p' m' hp' hm' U.heap.size rfl
        clear hp' hm'
        clear Xa Sa Ia ka0 ka1 ka2
        clear Xx Yx kx0 kx1 kx2 kx3 kx4 kx5 kx6 kx7 kx8
        replace hB := Kept.mk (hB.out.trans ((hb1).mono hB.out.size))
        replace Va := Kept.mk (Va.out.keep (hb1))
        replace Vx := Kept.mk (Vx.out.keep (hb1))
        replace Sl := Kept.mk (stable_ens _ _ _ _ Sl.out (hb1))
        clear hb1
        go_wp2_with (have hz0 := K1; refine wpList_storeN 25 rfl (.tmp 9) (.tmp 43) rfl U.heap.size [.int .i64 G.cap, p', m'] size_ar rfl rfl K1.out rfl K2.out K5.out ?_; replace hB := Kept.mk (hB.out.trans ((K3.out).mono hB.out.size)); replace Va := Kept.mk (Va.out.keep (K3.out)); replace Vx := Kept.mk (Vx.out.keep (K3.out)); replace Sl := Kept.mk (stable_ens _ _ _ _ Sl.out (K3.out)); have Vb := Kept.mk K4.out; clear hz0 K1 K2 K3 K4 K5; generalize setN (U.alloc (.cells #[.int .i64 0, .slice none 0 0, .slice none 0 0] 25)) U.heap.size 0 [.int .i64 G.cap, p', m'] = W5 at *; generalize U.heap.size = gb at *; obtain ⟨qa, ra, xa, sa, ia, ka0, ka1, ka2⟩ := Va.out.open_; have Xa := Kept.mk xa; have Sa := Kept.mk sa; have Ia := Kept.mk ia; clear xa sa ia; obtain ⟨qx, rx, xx, yx, kx0, kx1, kx2, kx3, kx4, kx5, kx6, kx7, kx8⟩ := Vx.out.open_; have Xx := Kept.mk xx; have Yx := Kept.mk yx; clear xx yx)
        ((with_reducible refine (rjoinA_at F0 F1 G z r _ _ _ Xa.out Xx.out FFa.out FFx.out HG.out Hz.out Hr.out).mono ?_); rintro e U ⟨v', rfl, ⟨p', m', rfl, hp', hm'⟩, hb1⟩)
        obtain ⟨K1, K2, K3, K4, K5⟩ := anew U G p' m' hp' hm' U.heap.size rfl
        clear hp' hm'
        clear Xa Sa Ia ka0 ka1 ka2
        clear Xx Yx kx0 kx1 kx2 kx3 kx4 kx5 kx6 kx7 kx8
        replace hB := Kept.mk (hB.out.trans ((hb1).mono hB.out.size))
        replace Va := Kept.mk (Va.out.keep (hb1))
        replace Vx := Kept.mk (Vx.out.keep (hb1))
        replace Vb := Kept.mk (Vb.out.keep (hb1))
        replace Sl := Kept.mk (stable_ens _ _ _ _ Sl.out (hb1))
        clear hb1
        go_wp2_with (have hz0 := K1; refine wpList_storeN 25 rfl (.tmp 12) (.tmp 50) rfl U.heap.size [.int .i64 G.cap, p', m'] size_ar rfl rfl K1.out rfl K2.out K5.out ?_; replace hB := Kept.mk (hB.out.trans ((K3.out).mono hB.out.size)); replace Va := Kept.mk (Va.out.keep (K3.out)); replace Vx := Kept.mk (Vx.out.keep (K3.out)); replace Vb := Kept.mk (Vb.out.keep (K3.out)); replace Sl := Kept.mk (stable_ens _ _ _ _ Sl.out (K3.out)); have Vc := Kept.mk K4.out; clear hz0 K1 K2 K3 K4 K5; generalize setN (U.alloc (.cells #[.int .i64 0, .slice none 0 0, .slice none 0 0] 25)) U.heap.size 0 [.int .i64 G.cap, p', m'] = W6 at *; generalize U.heap.size = gc at *; obtain ⟨qa, ra, xa, sa, ia, ka0, ka1, ka2⟩ := Va.out.open_; have Xa := Kept.mk xa; have Sa := Kept.mk sa; have Ia := Kept.mk ia; clear xa sa ia)
        ((with_reducible refine (ga_merge F0 F2 D n o _ _ _ Xa.out Sl.out FFa.out FFl.out (by omega) HD.out Hn.out Ho.out).mono ?_); rintro e U ⟨v', rfl, ⟨p', m', rfl, hp', hm'⟩, hb1⟩)
        obtain ⟨K1, K2, K3, K4, K5⟩ := anew U D p' m' hp' hm' U.heap.size rfl
        clear hp' hm'
        clear Xa Sa Ia ka0 ka1 ka2
        replace hB := Kept.mk (hB.out.trans ((hb1).mono hB.out.size))
        replace Va := Kept.mk (Va.out.keep (hb1))
        replace Vx := Kept.mk (Vx.out.keep (hb1))
        replace Vb := Kept.mk (Vb.out.keep (hb1))
        replace Vc := Kept.mk (Vc.out.keep (hb1))
        replace Sl := Kept.mk (stable_ens _ _ _ _ Sl.out (hb1))
        clear hb1
        go_wp2_with (have hz0 := K1; refine wpList_storeN 25 rfl (.tmp 15) (.tmp 57) rfl U.heap.size [.int .i64 D.cap, p', m'] size_ar rfl rfl K1.out rfl K2.out K5.out ?_; replace hB := Kept.mk (hB.out.trans ((K3.out).mono hB.out.size)); replace Va := Kept.mk (Va.out.keep (K3.out)); replace Vx := Kept.mk (Vx.out.keep (K3.out)); replace Vb := Kept.mk (Vb.out.keep (K3.out)); replace Vc := Kept.mk (Vc.out.keep (K3.out)); replace Sl := Kept.mk (stable_ens _ _ _ _ Sl.out (K3.out)); have Vd := Kept.mk K4.out; clear hz0 K1 K2 K3 K4 K5; generalize setN (U.alloc (.cells #[.int .i64 0, .slice none 0 0, .slice none 0 0] 25)) U.heap.size 0 [.int .i64 D.cap, p', m'] = W7 at *; generalize U.heap.size = gd at *; obtain ⟨qa, ra, xa, sa, ia, ka0, ka1, ka2⟩ := Va.out.open_; have Xa := Kept.mk xa; have Sa := Kept.mk sa; have Ia := Kept.mk ia; clear xa sa ia)
        ((with_reducible refine (rmerge_at F0 F2 D n o _ _ _ Xa.out Sl.out FFa.out FFl.out (by omega) HD.out Hn.out Ho.out).mono ?_); rintro e U ⟨v', rfl, ⟨p', m', rfl, hp', hm'⟩, hb1⟩)
        obtain ⟨K1, K2, K3, K4, K5⟩ := anew U D p' m' hp' hm' U.heap.size rfl
        clear hp' hm'
        clear Xa Sa Ia ka0 ka1 ka2
        replace hB := Kept.mk (hB.out.trans ((hb1).mono hB.out.size))
        replace Va := Kept.mk (Va.out.keep (hb1))
        replace Vx := Kept.mk (Vx.out.keep (hb1))
        replace Vb := Kept.mk (Vb.out.keep (hb1))
        replace Vc := Kept.mk (Vc.out.keep (hb1))
        replace Vd := Kept.mk (Vd.out.keep (hb1))
        replace Sl := Kept.mk (stable_ens _ _ _ _ Sl.out (hb1))
        clear hb1
        go_wp2_with (have hz0 := K1; refine wpList_storeN 25 rfl (.tmp 18) (.tmp 64) rfl U.heap.size [.int .i64 D.cap, p', m'] size_ar rfl rfl K1.out rfl K2.out K5.out ?_; replace hB := Kept.mk (hB.out.trans ((K3.out).mono hB.out.size)); replace Va := Kept.mk (Va.out.keep (K3.out)); replace Vx := Kept.mk (Vx.out.keep (K3.out)); replace Vb := Kept.mk (Vb.out.keep (K3.out)); replace Vc := Kept.mk (Vc.out.keep (K3.out)); replace Vd := Kept.mk (Vd.out.keep (K3.out)); replace Sl := Kept.mk (stable_ens _ _ _ _ Sl.out (K3.out)); have Vy := Kept.mk K4.out; clear hz0 K1 K2 K3 K4 K5; generalize setN (U.alloc (.cells #[.int .i64 0, .slice none 0 0, .slice none 0 0] 25)) U.heap.size 0 [.int .i64 D.cap, p', m'] = W8 at *; generalize U.heap.size = gy at *; obtain ⟨qb, rb, xb, sb, ib, kb0, kb1, kb2⟩ := Vb.out.open_; have Xb := Kept.mk xb; have Sb := Kept.mk sb; have Ib := Kept.mk ib; clear xb sb ib; obtain ⟨qc, rc, xc, sc, ic, kc0, kc1, kc2⟩ := Vc.out.open_; have Xc := Kept.mk xc; have Sc := Kept.mk sc; have Ic := Kept.mk ic; clear xc sc ic)
        ((with_reducible refine (rsame_yes G _ _ _ Xb.out Xc.out FG.out).mono ?_); rintro e W9 ⟨rfl, hb1⟩)
        clear Xb Sb Ib kb0 kb1 kb2
        clear Xc Sc Ic kc0 kc1 kc2
        replace hB := Kept.mk (hB.out.trans ((hb1).mono hB.out.size))
        replace Va := Kept.mk (Va.out.keep (hb1))
        replace Vx := Kept.mk (Vx.out.keep (hb1))
        replace Vb := Kept.mk (Vb.out.keep (hb1))
        replace Vc := Kept.mk (Vc.out.keep (hb1))
        replace Vd := Kept.mk (Vd.out.keep (hb1))
        replace Vy := Kept.mk (Vy.out.keep (hb1))
        replace Sl := Kept.mk (stable_ens _ _ _ _ Sl.out (hb1))
        clear hb1
        obtain ⟨qd, rd, xd, sd, id, kd0, kd1, kd2⟩ := Vd.out.open_
        have Xd := Kept.mk xd
        have Sd := Kept.mk sd
        have Id := Kept.mk id
        clear xd sd id
        obtain ⟨qy, ry, xy, sy, iy, ky0, ky1, ky2⟩ := Vy.out.open_
        have Xy := Kept.mk xy
        have Sy := Kept.mk sy
        have Iy := Kept.mk iy
        clear xy sy iy
        go_wp2_with fail
        ((with_reducible refine (rsame_yes D _ _ _ Xd.out Xy.out FD.out).mono ?_); rintro e W10 ⟨rfl, hb1⟩)
        clear Xd Sd Id kd0 kd1 kd2
        clear Xy Sy Iy ky0 ky1 ky2
        replace hB := Kept.mk (hB.out.trans ((hb1).mono hB.out.size))
        replace Va := Kept.mk (Va.out.keep (hb1))
        replace Vx := Kept.mk (Vx.out.keep (hb1))
        replace Vb := Kept.mk (Vb.out.keep (hb1))
        replace Vc := Kept.mk (Vc.out.keep (hb1))
        replace Vd := Kept.mk (Vd.out.keep (hb1))
        replace Vy := Kept.mk (Vy.out.keep (hb1))
        replace Sl := Kept.mk (stable_ens _ _ _ _ Sl.out (hb1))
        clear hb1
        go_wp2
        all_goals go_ret
        all_goals exact ⟨rfl, hB.out⟩
set_option maxRecDepth 100000 in
theorem arenaJoins_lifted (os : Os) (started : os.Started) (H : Type) (enc : TypeId × Value → H) :
    ReturnsInHanded {} Tryz.checked os 3 .any (Rows.arenaJoinsSpec.pre6 enc Tryz.prog Tryz.f3 Rows.arenaJoinsRow.domain false) (Rows.arenaJoinsSpec.post enc Tryz.prog Tryz.f3 false true false false) := by
  refine returnsInHanded_of_change (C := Tryz.checked) (by kernel_rfl : ownKnob Tryz.prog.godebug = none) started (by kernel_rfl) Tryz.func3
    (ChangeSpec.witness6 (enc := enc) (C := Tryz.checked) false ⟨#[], #[.agg #[.int .i64 0, .slice none 0 0, .slice none 0 0], .agg #[.string ByteArray.empty, .int .i64 0, .int .i64 0, .int .i64 0, .bool false, .string ByteArray.empty, .slice none 0 0, .slice none 0 0, .int .u64 0], .slice none 0 0], []⟩ 8 (by kernel_rfl) (by kernel_rfl) (by kernel_rfl) (by kernel_rfl)) ?_
  intro W base args ds gs before hval0 hW hcnd _
  have hval : ∀ (j : Nat) t v, Tryz.f3.params[j]? = some t → args[j]? = some v → Value.okWide Tryz.prog W .any base t v := hval0
  have hW' := hW
  obtain ⟨p, q, hA0, hV, rfl, hfz, hnd⟩ := hW
  have hA : DataW.TrodAll enc Tryz.prog W 0 (fun _ => true) true Tryz.f3.params.toList args.toList ds p := hA0
  rw [Tryz.params3] at hA hval
  obtain ⟨v0, vs0, d0, ds0, p0, q0, hargs, rfl, rfl, h0, r0⟩ := trodAll_cons hA
  obtain ⟨v1, vs1, d1, ds1, p1, q1, rfl, rfl, rfl, h1, r1⟩ := trodAll_cons r0
  obtain ⟨v2, vs2, d2, ds2, p2, q2, rfl, rfl, rfl, h2, r2⟩ := trodAll_cons r1
  obtain ⟨rfl, rfl, rfl⟩ := trodAll_nil r2
  obtain rfl : args = #[v0, v1, v2] := by cases args; simp_all
  obtain ⟨rfl, rfl⟩ := trodVars_none hV
  obtain ⟨F0, fl0, w0⟩ := open_ar (hval 0 25 v0 rfl rfl) h0
  have lt0 : ∀ x ∈ p0, x.block < W.heap.size := fun x hx => by obtain ⟨fuel, hf⟩ := h0; exact DataW.trod_lt fuel _ _ _ hf x hx
  obtain ⟨F1, fl1, w1⟩ := open_en (hval 1 30 v1 rfl rfl) h1
  have lt1 : ∀ x ∈ p1, x.block < W.heap.size := fun x hx => by obtain ⟨fuel, hf⟩ := h1; exact DataW.trod_lt fuel _ _ _ hf x hx
  obtain ⟨F2, fl2, w2⟩ := open_el (hval 2 22 v2 rfl rfl) h2
  have lt2 : ∀ x ∈ p2, x.block < W.heap.size := fun x hx => by obtain ⟨fuel, hf⟩ := h2; exact DataW.trod_lt fuel _ _ _ hf x hx
  clear hA0 hval0
  simp only [List.append_nil] at hW'
  refine (arenaJoins_walk F0 v0 F1 v1 F2 v2 w0 w1 w2 W fl0 fl1 fl2).mono fun e W' ⟨he, bel⟩ => ?_
  subst he
  exact ⟨_, rfl, _, _, _, [], _, [], hW', trodAll_mk1 (shut_bool Tryz.underlying4 _), (trodAll_cons_mk (Below.trod (by kernel_rfl) (by kernel_rfl) (of_decide_eq_true (by kernel_rfl)) h0 bel lt0) (trodAll_cons_mk (Below.trod (by kernel_rfl) (by kernel_rfl) (of_decide_eq_true (by kernel_rfl)) h1 bel lt1) (trodAll_cons_mk (Below.trod (by kernel_rfl) (by kernel_rfl) (of_decide_eq_true (by kernel_rfl)) h2 bel lt2) trodAll_mk0))), rfl, bel.frame _, fun h => by cases h⟩
/-- THE STATEMENT. -/
theorem arenaJoins_proved : Rows.ArenaJoinsSaid :=
  OpenClaim.holds_of_wide 3 Tryz.f3 rfl rfl rfl rfl rfl rfl rfl ⟨rfl, rfl, rfl, rfl, rfl⟩ rfl rfl rfl rfl rfl (by kernel_rfl) Tryz.func3 (by kernel_rfl)
    (of_decide_eq_true (by kernel_rfl)) (by unfold Func.isWrapper; first | (rw [if_pos (by decide +kernel)]; kernel_rfl) | (rw [if_neg (by decide +kernel)]; exact ⟨rfl, rfl⟩))
    (fun os started H enc _ => arenaJoins_lifted os started H enc)
#print axioms arenaJoins_proved
end Go.Proofs.YtbgconagkgfplaaGreat
