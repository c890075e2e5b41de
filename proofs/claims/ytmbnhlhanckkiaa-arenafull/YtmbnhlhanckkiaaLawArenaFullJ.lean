/- A full arena takes no new name, and all that it has a name of; another one takes both (arena.Join, Find, Same). -/
import Derived.Test.YtmbnhlhanckkiaaPartG
import Derived.SizedLaws
import Derived.ProofKit
import Derived.OpenShut
import Derived.ShutString
import Derived.ChangeOld
import Derived.Below
namespace Go.Proofs.Ytmbnhlhanckkiaa
open Go.RowKit
open Go.ChangeShapes Go.WideShapes Go.ChangeAt Go.RowKit
open Go.ChangeMaps (open_string shut_string)
set_option linter.unusedVariables false
set_option linter.unusedSimpArgs false
attribute [local irreducible] setN

set_option maxRecDepth 100000 in
set_option maxHeartbeats 4000000 in
theorem arenaFull_walk (F0 : Ar) (v0 : Value) (F1 : En) (v1 : Value) (w0 : CameA F0) (w1 : CameE F1) (w : World) (fl0 : isAr F0 v0 w) (fl1 : isEn F1 v1 w) :
    Calls Try.prog 7 #[v0, v1] w fun e w' => e = .returned (.bool true) ∧ Below w.heap.size w w' := by
  obtain ⟨pa, ma, rfl, hpa, hma⟩ := fl0
  obtain ⟨px, mx, rfl, hpx, hmx⟩ := fl1
  obtain ⟨hB, Va⟩ := abox w F0 pa ma hpa hma (w.heap.size) (by simp)
  obtain ⟨hBn, Vx⟩ := ebox (w.alloc (.cells #[.int .i64 F0.cap, pa, ma] 25)) F1 px mx (stable_cells _ _ _ _ hpx hB.out) (stable_cells _ _ _ _ hmx hB.out) (w.heap.size + 1) (by simp)
  replace Va := Kept.mk (Va.out.keep hBn.out)
  replace hB := Kept.mk (hB.out.trans (hBn.out.mono hB.out.size))
  clear hBn
  clear hpa hma hpx hmx
  go_enter Try.func7, Try.ntmps7
  go_wp2_with fail
  generalize ((w.alloc (.cells #[.int .i64 F0.cap, pa, ma] 25)).alloc (.cells #[.string ⟨F1.key.toArray⟩, .int .i64 F1.val.kind, .int .i64 F1.val.time, .int .i64 F1.val.node, .bool F1.val.dead, .string ⟨F1.val.text.toArray⟩, px, mx, .int .u64 (F1.val.flags.toNat : Int)] 30)) = W0 at *
  ((with_reducible refine (aworks_any _).mono ?_); rintro e W1 ⟨rfl, hb1⟩)
  replace hB := Kept.mk (hB.out.trans ((hb1).mono hB.out.size))
  replace Va := Kept.mk (Va.out.keep (hb1))
  replace Vx := Kept.mk (Vx.out.keep (hb1))
  clear hb1
  obtain ⟨qa, ra, xa, sa, ia, ka0, ka1, ka2⟩ := Va.out.open_
  have Xa := Kept.mk xa
  have Sa := Kept.mk sa
  have Ia := Kept.mk ia
  clear xa sa ia
  go_wp2_with fail
  ((with_reducible refine (afew_any F0 _ _ Xa.out (CameA.keys w0) w0.slots w0.index).mono ?_); rintro e W2 ⟨rfl, hb1⟩)
  clear Xa Sa Ia ka0 ka1 ka2
  replace hB := Kept.mk (hB.out.trans ((hb1).mono hB.out.size))
  replace Va := Kept.mk (Va.out.keep (hb1))
  replace Vx := Kept.mk (Vx.out.keep (hb1))
  clear hb1
  cases fa : fewA F0 with
  | false =>
    go_wp2
    all_goals go_ret
    all_goals exact ⟨rfl, hB.out⟩
  | true =>
    have FFa := Kept.mk (fewA_fit fa)
    have KFa := Kept.mk fa
    clear fa
    obtain ⟨qx, rx, xx, yx, kx0, kx1, kx2, kx3, kx4, kx5, kx6, kx7, kx8⟩ := Vx.out.open_
    have Xx := Kept.mk xx
    have Yx := Kept.mk yx
    clear xx yx
    go_wp2_with fail
    ((with_reducible refine (efew_any F1 _ _ Xx.out w1.key).mono ?_); rintro e W3 ⟨rfl, hb1⟩)
    clear Xx Yx kx0 kx1 kx2 kx3 kx4 kx5 kx6 kx7 kx8
    replace hB := Kept.mk (hB.out.trans ((hb1).mono hB.out.size))
    replace Va := Kept.mk (Va.out.keep (hb1))
    replace Vx := Kept.mk (Vx.out.keep (hb1))
    clear hb1
    cases fx : fewE F1 with
    | false =>
      go_wp2
      all_goals go_ret
      all_goals exact ⟨rfl, hB.out⟩
    | true =>
      have FFx := Kept.mk (fewE_fit fx)
      have KFx := Kept.mk fx
      clear fx
      obtain ⟨qa, ra, xa, sa, ia, ka0, ka1, ka2⟩ := Va.out.open_
      have Xa := Kept.mk xa
      have Sa := Kept.mk sa
      have Ia := Kept.mk ia
      clear xa sa ia
      go_wp2_with fail
      cases oa : okA F0 with
      | false =>
        have Oa := Kept.mk oa
        clear oa
        ((with_reducible refine (w_check F0 2 _ _ Xa.out FFa.out (chkA_no Oa.out)).mono ?_); rintro e W4 ⟨rfl, hb1⟩)
        clear Xa Sa Ia ka0 ka1 ka2
        replace hB := Kept.mk (hB.out.trans ((hb1).mono hB.out.size))
        replace Va := Kept.mk (Va.out.keep (hb1))
        replace Vx := Kept.mk (Vx.out.keep (hb1))
        clear hb1
        go_wp2
        all_goals go_ret
        all_goals exact ⟨rfl, hB.out⟩
      | true =>
        have Oa := Kept.mk oa
        clear oa
        ((with_reducible refine (w_check F0 0 _ _ Xa.out FFa.out (chkA_yes Oa.out)).mono ?_); rintro e W4 ⟨rfl, hb1⟩)
        clear Xa Sa Ia ka0 ka1 ka2
        replace hB := Kept.mk (hB.out.trans ((hb1).mono hB.out.size))
        replace Va := Kept.mk (Va.out.keep (hb1))
        replace Vx := Kept.mk (Vx.out.keep (hb1))
        clear hb1
        obtain ⟨qx, rx, xx, yx, kx0, kx1, kx2, kx3, kx4, kx5, kx6, kx7, kx8⟩ := Vx.out.open_
        have Xx := Kept.mk xx
        have Yx := Kept.mk yx
        clear xx yx
        go_wp2_with fail
        cases ox : okE F1 with
        | false =>
          have Ox := Kept.mk ox
          clear ox
          ((with_reducible refine (ga_echeck F1 2 _ _ Xx.out FFx.out (chk_no Ox.out)).mono ?_); rintro e W5 ⟨rfl, hb1⟩)
          clear Xx Yx kx0 kx1 kx2 kx3 kx4 kx5 kx6 kx7 kx8
          replace hB := Kept.mk (hB.out.trans ((hb1).mono hB.out.size))
          replace Va := Kept.mk (Va.out.keep (hb1))
          replace Vx := Kept.mk (Vx.out.keep (hb1))
          clear hb1
          go_wp2
          all_goals go_ret
          all_goals exact ⟨rfl, hB.out⟩
        | true =>
          have Ox := Kept.mk ox
          clear ox
          ((with_reducible refine (ga_echeck F1 0 _ _ Xx.out FFx.out (chk_ok Ox.out)).mono ?_); rintro e W5 ⟨rfl, hb1⟩)
          clear Xx Yx kx0 kx1 kx2 kx3 kx4 kx5 kx6 kx7 kx8
          replace hB := Kept.mk (hB.out.trans ((hb1).mono hB.out.size))
          replace Va := Kept.mk (Va.out.keep (hb1))
          replace Vx := Kept.mk (Vx.out.keep (hb1))
          clear hb1
          obtain ⟨qa, ra, xa, sa, ia, ka0, ka1, ka2⟩ := Va.out.open_
          have Xa := Kept.mk xa
          have Sa := Kept.mk sa
          have Ia := Kept.mk ia
          clear xa sa ia
          obtain ⟨qx, rx, xx, yx, kx0, kx1, kx2, kx3, kx4, kx5, kx6, kx7, kx8⟩ := Vx.out.open_
          have Xx := Kept.mk xx
          have Yx := Kept.mk yx
          clear xx yx
          go_wp2_with fail
          have OA := Kept.mk (okA_iff.1 Oa.out)
          have hl12 := fewA_slots KFa.out
          rcases join_ways F0 F1 OA.out with ⟨e1, e2, e3, e4⟩ | ⟨_, hh, e1, e2, e3⟩ | ⟨_, hh, hc, e1, e2, e3⟩
          · skip
            have hh := e4.resolve_left (fun h => by rw [Ox.out] at h; cases h)
            have E3 := Kept.mk e3
            have E2 := Kept.mk e2
            have E1 := Kept.mk (show joinAE F0 F1 = 4 from (join_full Oa.out Ox.out hh.1 hh.2).1)
            have P := Kept.mk (find_no OA.out hh.1)
            have hroom : decide ((F0.slots.length : Int) < F0.cap) = false := decide_eq_false (by omega)
            have hc := Kept.mk hh.2
            clear e1 e2 e3 e4 hh
            obtain ⟨z, hz⟩ : ∃ z, joinAB F0 F1 = z := ⟨_, rfl⟩
            have HZ := Kept.mk hz
            clear hz E2
            ((with_reducible refine (ga_join F0 F1 F0 z 4 _ _ _ Xa.out Xx.out FFa.out FFx.out E3.out HZ.out E1.out).mono ?_); rintro e U ⟨v', rfl, ⟨p', m', rfl, hp', hm'⟩, hb1⟩)
            obtain ⟨K1, K2, K3, K4, K5⟩ := anew U F0 p' m' hp' hm' U.heap.size rfl
            clear hp' hm'
            clear Xa Sa Ia ka0 ka1 ka2
            clear Xx Yx kx0 kx1 kx2 kx3 kx4 kx5 kx6 kx7 kx8
            replace hB := Kept.mk (hB.out.trans ((hb1).mono hB.out.size))
            replace Va := Kept.mk (Va.out.keep (hb1))
            replace Vx := Kept.mk (Vx.out.keep (hb1))
            clear hb1
            go_wp2_with (have hz0 := K1; refine wpList_storeN 25 rfl (.tmp 7) (.tmp 39) rfl U.heap.size [.int .i64 F0.cap, p', m'] size_ar rfl rfl K1.out rfl K2.out K5.out ?_; replace hB := Kept.mk (hB.out.trans ((K3.out).mono hB.out.size)); replace Va := Kept.mk (Va.out.keep (K3.out)); replace Vx := Kept.mk (Vx.out.keep (K3.out)); have Vb := Kept.mk K4.out; clear hz0 K1 K2 K3 K4 K5; generalize setN (U.alloc (.cells #[.int .i64 0, .slice none 0 0, .slice none 0 0] 25)) U.heap.size 0 [.int .i64 F0.cap, p', m'] = W6 at *; generalize U.heap.size = gb at *; obtain ⟨qa, ra, xa, sa, ia, ka0, ka1, ka2⟩ := Va.out.open_; have Xa := Kept.mk xa; have Sa := Kept.mk sa; have Ia := Kept.mk ia; clear xa sa ia; obtain ⟨qx, rx, xx, yx, kx0, kx1, kx2, kx3, kx4, kx5, kx6, kx7, kx8⟩ := Vx.out.open_; have Xx := Kept.mk xx; have Yx := Kept.mk yx; clear xx yx)
            ((with_reducible refine (ga_find F0 F1 _ _ _ Xa.out FFa.out P.out).mono ?_); rintro e W7 ⟨rfl, hb1⟩)
            clear Xa Sa Ia ka0 ka1 ka2
            clear Xx Yx kx0 kx1 kx2 kx3 kx4 kx5 kx6 kx7 kx8
            replace hB := Kept.mk (hB.out.trans ((hb1).mono hB.out.size))
            replace Va := Kept.mk (Va.out.keep (hb1))
            replace Vx := Kept.mk (Vx.out.keep (hb1))
            replace Vb := Kept.mk (Vb.out.keep (hb1))
            clear hb1
            obtain ⟨qa, ra, xa, sa, ia, ka0, ka1, ka2⟩ := Va.out.open_
            have Xa := Kept.mk xa
            have Sa := Kept.mk sa
            have Ia := Kept.mk ia
            clear xa sa ia
            obtain ⟨qb, rb, xb, sb, ib, kb0, kb1, kb2⟩ := Vb.out.open_
            have Xb := Kept.mk xb
            have Sb := Kept.mk sb
            have Ib := Kept.mk ib
            clear xb sb ib
            obtain ⟨sba, sca, rfl⟩ := Sa.out.len
            obtain ⟨sbb, scb, rfl⟩ := Sb.out.len
            go_wp2_with fail
            ((with_reducible refine (w_same F0 F0 true _ _ _ Xa.out Xb.out FFa.out FFa.out (by simp)).mono ?_); rintro e W8 ⟨rfl, hb1⟩)
            clear Xa Sa Ia ka0 ka1 ka2
            clear Xb Sb Ib kb0 kb1 kb2
            replace hB := Kept.mk (hB.out.trans ((hb1).mono hB.out.size))
            replace Va := Kept.mk (Va.out.keep (hb1))
            replace Vx := Kept.mk (Vx.out.keep (hb1))
            replace Vb := Kept.mk (Vb.out.keep (hb1))
            clear hb1
            go_wp2
            all_goals go_ret
            all_goals exact ⟨rfl, hB.out⟩
          · skip
            have E3 := Kept.mk (rfl : joinAF F0 F1 = _)
            have E2 := Kept.mk e2
            have E1 := Kept.mk e1
            have P := Kept.mk (find_hit OA.out hh)
            have hp := (place_spec OA.out hh).1
            generalize placeI F0 F1 = p at P hp
            have hlen : (joinAF F0 F1).slots.length = F0.slots.length := by rw [e3]; exact List.length_set ..
            have FG := Kept.mk (okA_fit (join_okA OA.out F1))
            clear e1 e2 e3 hh
            obtain ⟨G, hG⟩ : ∃ G, joinAF F0 F1 = G := ⟨_, rfl⟩
            rw [hG] at hlen FG E3
            have HG := Kept.mk hG
            clear hG E3
            obtain ⟨z, hz⟩ : ∃ z, joinAB F0 F1 = z := ⟨_, rfl⟩
            have HZ := Kept.mk hz
            clear hz E2
            ((with_reducible refine (ga_join F0 F1 G z 0 _ _ _ Xa.out Xx.out FFa.out FFx.out HG.out HZ.out E1.out).mono ?_); rintro e U ⟨v', rfl, ⟨p', m', rfl, hp', hm'⟩, hb1⟩)
            obtain ⟨K1, K2, K3, K4, K5⟩ := anew U G p' m' hp' hm' U.heap.size rfl
            clear hp' hm'
            clear Xa Sa Ia ka0 ka1 ka2
            clear Xx Yx kx0 kx1 kx2 kx3 kx4 kx5 kx6 kx7 kx8
            replace hB := Kept.mk (hB.out.trans ((hb1).mono hB.out.size))
            replace Va := Kept.mk (Va.out.keep (hb1))
            replace Vx := Kept.mk (Vx.out.keep (hb1))
            clear hb1
            go_wp2_with (have hz0 := K1; refine wpList_storeN 25 rfl (.tmp 7) (.tmp 39) rfl U.heap.size [.int .i64 G.cap, p', m'] size_ar rfl rfl K1.out rfl K2.out K5.out ?_; replace hB := Kept.mk (hB.out.trans ((K3.out).mono hB.out.size)); replace Va := Kept.mk (Va.out.keep (K3.out)); replace Vx := Kept.mk (Vx.out.keep (K3.out)); have Vb := Kept.mk K4.out; clear hz0 K1 K2 K3 K4 K5; generalize setN (U.alloc (.cells #[.int .i64 0, .slice none 0 0, .slice none 0 0] 25)) U.heap.size 0 [.int .i64 G.cap, p', m'] = W6 at *; generalize U.heap.size = gb at *; obtain ⟨qa, ra, xa, sa, ia, ka0, ka1, ka2⟩ := Va.out.open_; have Xa := Kept.mk xa; have Sa := Kept.mk sa; have Ia := Kept.mk ia; clear xa sa ia; obtain ⟨qx, rx, xx, yx, kx0, kx1, kx2, kx3, kx4, kx5, kx6, kx7, kx8⟩ := Vx.out.open_; have Xx := Kept.mk xx; have Yx := Kept.mk yx; clear xx yx)
            ((with_reducible refine (ga_find F0 F1 _ _ _ Xa.out FFa.out P.out).mono ?_); rintro e W7 ⟨rfl, hb1⟩)
            clear Xa Sa Ia ka0 ka1 ka2
            clear Xx Yx kx0 kx1 kx2 kx3 kx4 kx5 kx6 kx7 kx8
            replace hB := Kept.mk (hB.out.trans ((hb1).mono hB.out.size))
            replace Va := Kept.mk (Va.out.keep (hb1))
            replace Vx := Kept.mk (Vx.out.keep (hb1))
            replace Vb := Kept.mk (Vb.out.keep (hb1))
            clear hb1
            obtain ⟨qa, ra, xa, sa, ia, ka0, ka1, ka2⟩ := Va.out.open_
            have Xa := Kept.mk xa
            have Sa := Kept.mk sa
            have Ia := Kept.mk ia
            clear xa sa ia
            obtain ⟨qb, rb, xb, sb, ib, kb0, kb1, kb2⟩ := Vb.out.open_
            have Xb := Kept.mk xb
            have Sb := Kept.mk sb
            have Ib := Kept.mk ib
            clear xb sb ib
            obtain ⟨sba, sca, rfl⟩ := Sa.out.len
            obtain ⟨sbb, scb, rfl⟩ := Sb.out.len
            rw [hlen] at kb1
            obtain ⟨n, hn⟩ : ∃ n, F0.slots.length = n := ⟨_, rfl⟩
            rw [hn] at *
            clear Xa Sa Ia Xb Sb Ib
            obtain ⟨hp0, hp1⟩ := hp
            skip
            go_wp2
            all_goals go_ret
            all_goals exact ⟨rfl, hB.out⟩
          · skip
            have E3 := Kept.mk (rfl : joinAF F0 F1 = _)
            have E2 := Kept.mk e2
            have E1 := Kept.mk e1
            have P := Kept.mk (find_no OA.out hh)
            have hlen : (joinAF F0 F1).slots.length = F0.slots.length + 1 := by rw [e3]; simp
            have hroom : (F0.slots.length : Int) < F0.cap := by have := OA.out.fits; omega
            have FG := Kept.mk (okA_fit (join_okA OA.out F1))
            clear e1 e2 e3 hh hc
            obtain ⟨G, hG⟩ : ∃ G, joinAF F0 F1 = G := ⟨_, rfl⟩
            rw [hG] at hlen FG E3
            have HG := Kept.mk hG
            clear hG E3
            obtain ⟨z, hz⟩ : ∃ z, joinAB F0 F1 = z := ⟨_, rfl⟩
            have HZ := Kept.mk hz
            clear hz E2
            ((with_reducible refine (ga_join F0 F1 G z 0 _ _ _ Xa.out Xx.out FFa.out FFx.out HG.out HZ.out E1.out).mono ?_); rintro e U ⟨v', rfl, ⟨p', m', rfl, hp', hm'⟩, hb1⟩)
            obtain ⟨K1, K2, K3, K4, K5⟩ := anew U G p' m' hp' hm' U.heap.size rfl
            clear hp' hm'
            clear Xa Sa Ia ka0 ka1 ka2
            clear Xx Yx kx0 kx1 kx2 kx3 kx4 kx5 kx6 kx7 kx8
            replace hB := Kept.mk (hB.out.trans ((hb1).mono hB.out.size))
            replace Va := Kept.mk (Va.out.keep (hb1))
            replace Vx := Kept.mk (Vx.out.keep (hb1))
            clear hb1
            go_wp2_with (have hz0 := K1; refine wpList_storeN 25 rfl (.tmp 7) (.tmp 39) rfl U.heap.size [.int .i64 G.cap, p', m'] size_ar rfl rfl K1.out rfl K2.out K5.out ?_; replace hB := Kept.mk (hB.out.trans ((K3.out).mono hB.out.size)); replace Va := Kept.mk (Va.out.keep (K3.out)); replace Vx := Kept.mk (Vx.out.keep (K3.out)); have Vb := Kept.mk K4.out; clear hz0 K1 K2 K3 K4 K5; generalize setN (U.alloc (.cells #[.int .i64 0, .slice none 0 0, .slice none 0 0] 25)) U.heap.size 0 [.int .i64 G.cap, p', m'] = W6 at *; generalize U.heap.size = gb at *; obtain ⟨qa, ra, xa, sa, ia, ka0, ka1, ka2⟩ := Va.out.open_; have Xa := Kept.mk xa; have Sa := Kept.mk sa; have Ia := Kept.mk ia; clear xa sa ia; obtain ⟨qx, rx, xx, yx, kx0, kx1, kx2, kx3, kx4, kx5, kx6, kx7, kx8⟩ := Vx.out.open_; have Xx := Kept.mk xx; have Yx := Kept.mk yx; clear xx yx)
            ((with_reducible refine (ga_find F0 F1 _ _ _ Xa.out FFa.out P.out).mono ?_); rintro e W7 ⟨rfl, hb1⟩)
            clear Xa Sa Ia ka0 ka1 ka2
            clear Xx Yx kx0 kx1 kx2 kx3 kx4 kx5 kx6 kx7 kx8
            replace hB := Kept.mk (hB.out.trans ((hb1).mono hB.out.size))
            replace Va := Kept.mk (Va.out.keep (hb1))
            replace Vx := Kept.mk (Vx.out.keep (hb1))
            replace Vb := Kept.mk (Vb.out.keep (hb1))
            clear hb1
            obtain ⟨qa, ra, xa, sa, ia, ka0, ka1, ka2⟩ := Va.out.open_
            have Xa := Kept.mk xa
            have Sa := Kept.mk sa
            have Ia := Kept.mk ia
            clear xa sa ia
            obtain ⟨qb, rb, xb, sb, ib, kb0, kb1, kb2⟩ := Vb.out.open_
            have Xb := Kept.mk xb
            have Sb := Kept.mk sb
            have Ib := Kept.mk ib
            clear xb sb ib
            obtain ⟨sba, sca, rfl⟩ := Sa.out.len
            obtain ⟨sbb, scb, rfl⟩ := Sb.out.len
            rw [hlen] at kb1
            obtain ⟨n, hn⟩ : ∃ n, F0.slots.length = n := ⟨_, rfl⟩
            rw [hn] at *
            clear Xa Sa Ia Xb Sb Ib
            skip
            go_wp2
            all_goals go_ret
            all_goals exact ⟨rfl, hB.out⟩
set_option maxRecDepth 100000 in
theorem arenaFull_lifted (os : Os) (started : os.Started) (H : Type) (enc : TypeId × Value → H) :
    ReturnsInHanded {} Try.checked os 7 .any (Rows.arenaFullSpec.pre6 enc Try.prog Try.f7 Rows.arenaFullRow.domain false) (Rows.arenaFullSpec.post enc Try.prog Try.f7 false true false false) := by
  refine returnsInHanded_of_change (C := Try.checked) (by kernel_rfl : ownKnob Try.prog.godebug = none) started (by kernel_rfl) Try.func7
    (ChangeSpec.witness6 (enc := enc) (C := Try.checked) false ⟨#[], #[.agg #[.int .i64 0, .slice none 0 0, .slice none 0 0], .agg #[.string ByteArray.empty, .int .i64 0, .int .i64 0, .int .i64 0, .bool false, .string ByteArray.empty, .slice none 0 0, .slice none 0 0, .int .u64 0]], []⟩ 8 (by kernel_rfl) (by kernel_rfl) (by kernel_rfl) (by kernel_rfl)) ?_
  intro W base args ds gs before hval0 hW hcnd _
  have hval : ∀ (j : Nat) t v, Try.f7.params[j]? = some t → args[j]? = some v → Value.okWide Try.prog W .any base t v := hval0
  have hW' := hW
  obtain ⟨p, q, hA0, hV, rfl, hfz, hnd⟩ := hW
  have hA : DataW.TrodAll enc Try.prog W 0 (fun _ => true) true Try.f7.params.toList args.toList ds p := hA0
  rw [Try.params7] at hA hval
  obtain ⟨v0, vs0, d0, ds0, p0, q0, hargs, rfl, rfl, h0, r0⟩ := trodAll_cons hA
  obtain ⟨v1, vs1, d1, ds1, p1, q1, rfl, rfl, rfl, h1, r1⟩ := trodAll_cons r0
  obtain ⟨rfl, rfl, rfl⟩ := trodAll_nil r1
  obtain rfl : args = #[v0, v1] := by cases args; simp_all
  obtain ⟨rfl, rfl⟩ := trodVars_none hV
  obtain ⟨F0, fl0, w0⟩ := open_ar (hval 0 25 v0 rfl rfl) h0
  have lt0 : ∀ x ∈ p0, x.block < W.heap.size := fun x hx => by obtain ⟨fuel, hf⟩ := h0; exact DataW.trod_lt fuel _ _ _ hf x hx
  obtain ⟨F1, fl1, w1⟩ := open_en (hval 1 30 v1 rfl rfl) h1
  have lt1 : ∀ x ∈ p1, x.block < W.heap.size := fun x hx => by obtain ⟨fuel, hf⟩ := h1; exact DataW.trod_lt fuel _ _ _ hf x hx
  clear hA0 hval0
  simp only [List.append_nil] at hW'
  refine (arenaFull_walk F0 v0 F1 v1 w0 w1 W fl0 fl1).mono fun e W' ⟨he, bel⟩ => ?_
  subst he
  exact ⟨_, rfl, _, _, _, [], _, [], hW', trodAll_mk1 (shut_bool Try.underlying4 _), (trodAll_cons_mk (Below.trod (by kernel_rfl) (by kernel_rfl) (of_decide_eq_true (by kernel_rfl)) h0 bel lt0) (trodAll_cons_mk (Below.trod (by kernel_rfl) (by kernel_rfl) (of_decide_eq_true (by kernel_rfl)) h1 bel lt1) trodAll_mk0)), rfl, bel.frame _, fun h => by cases h⟩
/-- THE STATEMENT. -/
theorem arenaFull_proved : Rows.ArenaFullSaid :=
  OpenClaim.holds_of_wide 7 Try.f7 rfl rfl rfl rfl rfl rfl rfl ⟨rfl, rfl, rfl, rfl, rfl⟩ rfl rfl rfl rfl rfl (by kernel_rfl) Try.func7 (by kernel_rfl)
    (of_decide_eq_true (by kernel_rfl)) (by unfold Func.isWrapper; first | (rw [if_pos (by decide +kernel)]; kernel_rfl) | (rw [if_neg (by decide +kernel)]; exact ⟨rfl, rfl⟩))
    (fun os started H enc _ => arenaFull_lifted os started H enc)
#print axioms arenaFull_proved
end Go.Proofs.Ytmbnhlhanckkiaa
