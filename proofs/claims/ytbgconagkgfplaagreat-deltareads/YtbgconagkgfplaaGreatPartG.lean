/- Joined texts: contracts of the program's functions, and the mathematics that they lean on. -/
import Derived.Test.YtbgconagkgfplaaGreatPartF
section
namespace Go.Proofs.YtbgconagkgfplaaGreat
open Go.RowKit
set_option linter.unusedVariables false
set_option linter.unusedSimpArgs false
attribute [local irreducible] setN

def eK : En := ⟨[107], ⟨1, 4, 0, false, [120], [], [], 0⟩⟩
def dA : Ar := ⟨3, [eK], [0]⟩
def xY : En := putDF dA 2 [107] [121]
def dB : Ar := joinAF dA xY
def yN : En := addDF dB 1 [110] (-5)
def dC : Ar := joinAF dB yN
def zF : En := setDF dC [102] 9
def dD : Ar := joinAF dC zF
def uK : En := delDF dD 0 [107]
def dQ : Ar := joinAF dD uK
theorem ok_dA : okA dA = true := by kernel_rfl
theorem fit_dA : FitA dA := okA_fit (okA_iff.1 ok_dA)
theorem ok_dB : okA dB = true := by kernel_rfl
theorem fit_dB : FitA dB := okA_fit (okA_iff.1 ok_dB)
theorem ok_dC : okA dC = true := by kernel_rfl
theorem fit_dC : FitA dC := okA_fit (okA_iff.1 ok_dC)
theorem ok_dD : okA dD = true := by kernel_rfl
theorem fit_dD : FitA dD := okA_fit (okA_iff.1 ok_dD)
theorem ok_dQ : okA dQ = true := by kernel_rfl
theorem fit_dQ : FitA dQ := okA_fit (okA_iff.1 ok_dQ)
theorem fit_xY : FitE xY := ok_fit' (by kernel_rfl)
theorem fit_yN : FitE yN := ok_fit' (by kernel_rfl)
theorem fit_zF : FitE zF := ok_fit' (by kernel_rfl)
theorem fit_uK : FitE uK := ok_fit' (by kernel_rfl)
theorem wd_x (v : Value) (w : World) (hv : isAr dA v w) : Calls Tryz.prog 20 #[v, .int .i64 2, .string ⟨#[107]⟩, .string ⟨#[121]⟩] w fun e w' => ∃ v', e = .returned (.tuple #[v', .int .i64 0]) ∧ isEn xY v' w' ∧ Below w.heap.size w w' := gd_put dA 2 [107] [121] 0 xY v w hv fit_dA (by decide) (by decide) (by kernel_rfl) (by kernel_rfl)
theorem wd_y (v : Value) (w : World) (hv : isAr dB v w) : Calls Tryz.prog 24 #[v, .int .i64 1, .string ⟨#[110]⟩, .int .i64 (-5)] w fun e w' => ∃ v', e = .returned (.tuple #[v', .int .i64 0]) ∧ isEn yN v' w' ∧ Below w.heap.size w w' := gd_add dB 1 [110] (-5) 0 yN v w hv fit_dB (by decide) (by kernel_rfl) (by kernel_rfl)
theorem wd_z (v : Value) (w : World) (hv : isAr dC v w) : Calls Tryz.prog 26 #[v, .string ⟨#[102]⟩, .int .u64 9] w fun e w' => ∃ v', e = .returned (.tuple #[v', .int .i64 0]) ∧ isEn zF v' w' ∧ Below w.heap.size w w' := gd_set dC [102] 9 0 zF v w hv fit_dC (by decide) (by kernel_rfl) (by kernel_rfl)
theorem wd_u (v : Value) (w : World) (hv : isAr dD v w) : Calls Tryz.prog 22 #[v, .int .i64 0, .string ⟨#[107]⟩] w fun e w' => ∃ v', e = .returned (.tuple #[v', .int .i64 0]) ∧ isEn uK v' w' ∧ Below w.heap.size w w' := gd_del dD 0 [107] 0 uK v w hv fit_dD (by decide) (by kernel_rfl) (by kernel_rfl)
theorem wd_n1 (v : Value) (w : World) (hv : isAr dQ v w) : Calls Tryz.prog 22 #[v, .int .i64 0, .string ⟨#[107]⟩] w fun e w' => ∃ v', e = .returned (.tuple #[v', .int .i64 9]) ∧ isEn zeroE v' w' ∧ Below w.heap.size w w' := gd_del dQ 0 [107] 9 zeroE v w hv fit_dQ (by decide) (by kernel_rfl) (by kernel_rfl)
theorem wd_n2 (v : Value) (w : World) (hv : isAr dD v w) : Calls Tryz.prog 26 #[v, .string ⟨#[103]⟩, .int .u64 1] w fun e w' => ∃ v', e = .returned (.tuple #[v', .int .i64 4]) ∧ isEn zeroE v' w' ∧ Below w.heap.size w w' := gd_set dD [103] 1 4 zeroE v w hv fit_dD (by decide) (by kernel_rfl) (by kernel_rfl)
theorem wd_n3 (v : Value) (w : World) (hv : isAr dA v w) : Calls Tryz.prog 20 #[v, .int .i64 8, .string ⟨#[107]⟩, .string ⟨#[]⟩] w fun e w' => ∃ v', e = .returned (.tuple #[v', .int .i64 10]) ∧ isEn zeroE v' w' ∧ Below w.heap.size w w' := gd_put dA 8 [107] [] 10 zeroE v w hv fit_dA (by decide) (by decide) (by kernel_rfl) (by kernel_rfl)
theorem wd_b (v u : Value) (w : World) (hv : isAr dA v w) (hu : isEn xY u w) : Calls Tryz.prog 14 #[v, u] w fun e w' => ∃ v', e = .returned (.tuple #[v', .bool true, .int .i64 0]) ∧ isAr dB v' w' ∧ Below w.heap.size w w' := ga_join dA xY dB true 0 v u w hv hu fit_dA fit_xY rfl (by kernel_rfl) (by kernel_rfl)
theorem wd_c (v u : Value) (w : World) (hv : isAr dB v w) (hu : isEn yN u w) : Calls Tryz.prog 14 #[v, u] w fun e w' => ∃ v', e = .returned (.tuple #[v', .bool true, .int .i64 0]) ∧ isAr dC v' w' ∧ Below w.heap.size w w' := ga_join dB yN dC true 0 v u w hv hu fit_dB fit_yN rfl (by kernel_rfl) (by kernel_rfl)
theorem wd_d (v u : Value) (w : World) (hv : isAr dC v w) (hu : isEn zF u w) : Calls Tryz.prog 14 #[v, u] w fun e w' => ∃ v', e = .returned (.tuple #[v', .bool true, .int .i64 0]) ∧ isAr dD v' w' ∧ Below w.heap.size w w' := ga_join dC zF dD true 0 v u w hv hu fit_dC fit_zF rfl (by kernel_rfl) (by kernel_rfl)
theorem wd_q (v u : Value) (w : World) (hv : isAr dD v w) (hu : isEn uK u w) : Calls Tryz.prog 14 #[v, u] w fun e w' => ∃ v', e = .returned (.tuple #[v', .bool true, .int .i64 0]) ∧ isAr dQ v' w' ∧ Below w.heap.size w w' := ga_join dD uK dQ true 0 v u w hv hu fit_dD fit_uK rfl (by kernel_rfl) (by kernel_rfl)
theorem wd_t1 (v : Value) (w : World) (hv : isAr dB v w) : Calls Tryz.prog 29 #[v, .string ⟨#[107]⟩] w fun e w' => e = .returned (.tuple #[.string ⟨#[121]⟩, .bool true]) ∧ Below w.heap.size w w' := gd_text dB [107] [121] true v w hv fit_dB (by kernel_rfl) (by kernel_rfl)
theorem wd_t2 (v : Value) (w : World) (hv : isAr dQ v w) : Calls Tryz.prog 29 #[v, .string ⟨#[107]⟩] w fun e w' => ∃ t : List UInt8, e = .returned (.tuple #[.string ⟨t.toArray⟩, .bool false]) ∧ Below w.heap.size w w' := (gd_text dQ [107] _ false v w hv fit_dQ rfl (by kernel_rfl)).mono (fun e w' h => ⟨_, h⟩)
theorem wd_s (v : Value) (w : World) (hv : isAr dC v w) : Calls Tryz.prog 31 #[v, .string ⟨#[110]⟩] w fun e w' => e = .returned (.tuple #[.int .i64 (-5), .bool true]) ∧ Below w.heap.size w w' := gd_sum dC [110] (-5) true v w hv fit_dC (by kernel_rfl) (by kernel_rfl)
theorem wd_f (v : Value) (w : World) (hv : isAr dD v w) : Calls Tryz.prog 33 #[v, .string ⟨#[102]⟩] w fun e w' => e = .returned (.tuple #[.int .u64 9, .bool true]) ∧ Below w.heap.size w w' := gd_flags dD [102] 9 true v w hv fit_dD (by kernel_rfl) (by kernel_rfl)
theorem wd_l3 (v : Value) (w : World) (hv : isAr dD v w) : Calls Tryz.prog 36 #[v] w fun e w' => ∃ a c, e = .returned (.slice a 3 c) ∧ Below w.heap.size w w' := (gd_scan dD _ v w hv fit_dD rfl).mono (by
  rintro e w' ⟨v', rfl, hl, hb⟩
  obtain ⟨a, c, ev⟩ := hl.len
  rw [show (scanA dD).length = 3 by kernel_rfl] at ev
  exact ⟨a, c, by rw [ev], hb⟩)
theorem wd_l2 (v : Value) (w : World) (hv : isAr dQ v w) : Calls Tryz.prog 36 #[v] w fun e w' => ∃ a c, e = .returned (.slice a 2 c) ∧ Below w.heap.size w w' := (gd_scan dQ _ v w hv fit_dQ rfl).mono (by
  rintro e w' ⟨v', rfl, hl, hb⟩
  obtain ⟨a, c, ev⟩ := hl.len
  rw [show (scanA dQ).length = 2 by kernel_rfl] at ev
  exact ⟨a, c, by rw [ev], hb⟩)
theorem wd_lit (w : World) : Kept (Below w.heap.size w (((w.alloc (.cells #[.string ⟨#[107]⟩, .int .i64 1, .int .i64 4, .int .i64 0, .bool false, .string ⟨#[120]⟩, .slice none 0 0, .slice none 0 0, .int .u64 0] 30)).alloc (.cells #[.int .i64 0] 3)).alloc (.cells #[.int .i64 3, .slice (some ⟨w.heap.size, 0, none⟩) 1 1, .slice (some ⟨w.heap.size + 1, 0, none⟩) 1 1] 25))) ∧ Kept (VarA (((w.alloc (.cells #[.string ⟨#[107]⟩, .int .i64 1, .int .i64 4, .int .i64 0, .bool false, .string ⟨#[120]⟩, .slice none 0 0, .slice none 0 0, .int .u64 0] 30)).alloc (.cells #[.int .i64 0] 3)).alloc (.cells #[.int .i64 3, .slice (some ⟨w.heap.size, 0, none⟩) 1 1, .slice (some ⟨w.heap.size + 1, 0, none⟩) 1 1] 25)) (w.heap.size + 1 + 1) dA) ∧ Kept (isAr dA (.agg #[.int .i64 3, .slice (some ⟨w.heap.size, 0, none⟩) 1 1, .slice (some ⟨w.heap.size + 1, 0, none⟩) 1 1]) (((w.alloc (.cells #[.string ⟨#[107]⟩, .int .i64 1, .int .i64 4, .int .i64 0, .bool false, .string ⟨#[120]⟩, .slice none 0 0, .slice none 0 0, .int .u64 0] 30)).alloc (.cells #[.int .i64 0] 3)).alloc (.cells #[.int .i64 3, .slice (some ⟨w.heap.size, 0, none⟩) 1 1, .slice (some ⟨w.heap.size + 1, 0, none⟩) 1 1] 25))) := by
  have h1 := lit_below w (.cells #[.string ⟨#[107]⟩, .int .i64 1, .int .i64 4, .int .i64 0, .bool false, .string ⟨#[120]⟩, .slice none 0 0, .slice none 0 0, .int .u64 0] 30)
  have h2 := lit_below (w.alloc (.cells #[.string ⟨#[107]⟩, .int .i64 1, .int .i64 4, .int .i64 0, .bool false, .string ⟨#[120]⟩, .slice none 0 0, .slice none 0 0, .int .u64 0] 30)) (.cells #[.int .i64 0] 3)
  have h3 := lit_below ((w.alloc (.cells #[.string ⟨#[107]⟩, .int .i64 1, .int .i64 4, .int .i64 0, .bool false, .string ⟨#[120]⟩, .slice none 0 0, .slice none 0 0, .int .u64 0] 30)).alloc (.cells #[.int .i64 0] 3)) (.cells #[.int .i64 3, .slice (some ⟨w.heap.size, 0, none⟩) 1 1, .slice (some ⟨w.heap.size + 1, 0, none⟩) 1 1] 25)
  have s1 : (w.alloc (.cells #[.string ⟨#[107]⟩, .int .i64 1, .int .i64 4, .int .i64 0, .bool false, .string ⟨#[120]⟩, .slice none 0 0, .slice none 0 0, .int .u64 0] 30)).heap.size = w.heap.size + 1 := by simp
  have B1 := ((Blk.new w 30 [.string ⟨#[107]⟩, .int .i64 1, .int .i64 4, .int .i64 0, .bool false, .string ⟨#[120]⟩, .slice none 0 0, .slice none 0 0, .int .u64 0] w.heap.size rfl).alloc (.cells #[.int .i64 0] 3)).alloc (.cells #[.int .i64 3, .slice (some ⟨w.heap.size, 0, none⟩) 1 1, .slice (some ⟨w.heap.size + 1, 0, none⟩) 1 1] 25)
  have B2 := (Blk.new (w.alloc (.cells #[.string ⟨#[107]⟩, .int .i64 1, .int .i64 4, .int .i64 0, .bool false, .string ⟨#[120]⟩, .slice none 0 0, .slice none 0 0, .int .u64 0] 30)) 3 [.int .i64 0] (w.heap.size + 1) (by simp)).alloc (.cells #[.int .i64 3, .slice (some ⟨w.heap.size, 0, none⟩) 1 1, .slice (some ⟨w.heap.size + 1, 0, none⟩) 1 1] 25)
  have B3 := Blk.new ((w.alloc (.cells #[.string ⟨#[107]⟩, .int .i64 1, .int .i64 4, .int .i64 0, .bool false, .string ⟨#[120]⟩, .slice none 0 0, .slice none 0 0, .int .u64 0] 30)).alloc (.cells #[.int .i64 0] 3)) 25 [.int .i64 3, .slice (some ⟨w.heap.size, 0, none⟩) 1 1, .slice (some ⟨w.heap.size + 1, 0, none⟩) 1 1] (w.heap.size + 1 + 1) (by simp)
  have h12 : Below w.heap.size w _ := h1.trans (h2.mono h1.size)
  have hE1 : isEns dA.slots (.slice (some ⟨w.heap.size, 0, none⟩) 1 1) (((w.alloc (.cells #[.string ⟨#[107]⟩, .int .i64 1, .int .i64 4, .int .i64 0, .bool false, .string ⟨#[120]⟩, .slice none 0 0, .slice none 0 0, .int .u64 0] 30)).alloc (.cells #[.int .i64 0] 3)).alloc (.cells #[.int .i64 3, .slice (some ⟨w.heap.size, 0, none⟩) 1 1, .slice (some ⟨w.heap.size + 1, 0, none⟩) 1 1] 25)) := .inr (.inr ⟨w.heap.size, 0, 1, rfl, B1.lt, fun j E hE => by
    match j, hE with
    | 0, hE => obtain rfl : eK = E := Option.some.inj hE; exact ⟨.slice none 0 0, .slice none 0 0, fun i x hi => by rw [Nat.zero_mul, Nat.zero_add]; exact B1.cells.2 i x hi, .inl ⟨rfl, rfl⟩, .inl ⟨rfl, rfl⟩⟩
    | n + 1, hE => simp [dA] at hE⟩)
  have hI1 : isCells (dA.index.map intC) (.slice (some ⟨w.heap.size + 1, 0, none⟩) 1 1) (((w.alloc (.cells #[.string ⟨#[107]⟩, .int .i64 1, .int .i64 4, .int .i64 0, .bool false, .string ⟨#[120]⟩, .slice none 0 0, .slice none 0 0, .int .u64 0] 30)).alloc (.cells #[.int .i64 0] 3)).alloc (.cells #[.int .i64 3, .slice (some ⟨w.heap.size, 0, none⟩) 1 1, .slice (some ⟨w.heap.size + 1, 0, none⟩) 1 1] 25)) := .inr (.inr ⟨w.heap.size + 1, 0, 1, rfl, B2.lt, fun j x hx => by rw [Nat.zero_add]; exact B2.cells.2 j x hx⟩)
  exact ⟨⟨h12.trans (h3.mono h12.size)⟩, ⟨_, _, B3.cells, hE1, hI1⟩, ⟨_, _, rfl, hE1, hI1⟩⟩
theorem xY_time : (Value.int .i64 xY.val.time) = .int .i64 5 := rfl
theorem uK_time : (Value.int .i64 uK.val.time) = .int .i64 6 := rfl
attribute [local irreducible] zeroE eK dA xY dB yN dC zF dD uK dQ
set_option maxRecDepth 100000 in
set_option maxHeartbeats 8000000 in
theorem dworks_any (w : World) : Calls Tryz.prog 19 #[] w fun e w' => e = .returned (.bool true) ∧ Below w.heap.size w w' := by
  obtain ⟨hB, Va, Xl⟩ := wd_lit w
  go_enter Tryz.func19, Tryz.ntmps19
  go_wp2_with fail
  generalize (((w.alloc (.cells #[.string ⟨#[107]⟩, .int .i64 1, .int .i64 4, .int .i64 0, .bool false, .string ⟨#[120]⟩, .slice none 0 0, .slice none 0 0, .int .u64 0] 30)).alloc (.cells #[.int .i64 0] 3)).alloc (.cells #[.int .i64 3, .slice (some ⟨w.heap.size, 0, none⟩) 1 1, .slice (some ⟨w.heap.size + 1, 0, none⟩) 1 1] 25)) = W0 at *
  ((with_reducible refine (wd_x _ _ Xl.out).mono ?_); rintro e U ⟨v', rfl, ⟨p', m', rfl, hp', hm'⟩, hb1⟩)
  obtain ⟨K1, K2, K3, K4, K5⟩ := enew U xY p' m' hp' hm' U.heap.size rfl
  clear hp' hm'
  replace hB := Kept.mk (hB.out.trans ((hb1).mono hB.out.size))
  replace Va := Kept.mk (Va.out.keep (hb1))
  clear hb1
  go_wp2_with (have hz0 := K1; refine wpList_storeN 30 rfl (.tmp 2) (.tmp 44) rfl U.heap.size [.string ⟨xY.key.toArray⟩, .int .i64 xY.val.kind, .int .i64 xY.val.time, .int .i64 xY.val.node, .bool xY.val.dead, .string ⟨xY.val.text.toArray⟩, p', m', .int .u64 (xY.val.flags.toNat : Int)] size_en rfl rfl K1.out rfl K2.out K5.out ?_; replace hB := Kept.mk (hB.out.trans ((K3.out).mono hB.out.size)); replace Va := Kept.mk (Va.out.keep (K3.out)); have Vx := Kept.mk (show VarN _ _ xY from ⟨_, _, K4.out⟩); clear hz0 K1 K2 K3 K4 K5; generalize setN (U.alloc (.cells #[.string ⟨#[]⟩, .int .i64 0, .int .i64 0, .int .i64 0, .bool false, .string ⟨#[]⟩, .slice none 0 0, .slice none 0 0, .int .u64 0] 30)) U.heap.size 0 [.string ⟨xY.key.toArray⟩, .int .i64 xY.val.kind, .int .i64 xY.val.time, .int .i64 xY.val.node, .bool xY.val.dead, .string ⟨xY.val.text.toArray⟩, p', m', .int .u64 (xY.val.flags.toNat : Int)] = W1 at *; generalize U.heap.size = gx at *; obtain ⟨qa, ra, xa, sa, ia, ka0, ka1, ka2⟩ := Va.out.open_; have Xa := Kept.mk xa; have Sa := Kept.mk sa; have Ia := Kept.mk ia; clear xa sa ia; obtain ⟨qx, rx, xx, yx, kx0, kx1, kx2, kx3, kx4, kx5, kx6, kx7, kx8⟩ := Vx.out.open_; have Xx := Kept.mk xx; have Yx := Kept.mk yx; clear xx yx)
  ((with_reducible refine (wd_b _ _ _ Xa.out Xx.out).mono ?_); rintro e U ⟨v', rfl, ⟨p', m', rfl, hp', hm'⟩, hb1⟩)
  obtain ⟨K1, K2, K3, K4, K5⟩ := anew U dB p' m' hp' hm' U.heap.size rfl
  clear hp' hm'
  clear Xa Sa Ia ka0 ka1 ka2
  clear Xx Yx kx0 kx1 kx2 kx3 kx4 kx5 kx6 kx7 kx8
  replace hB := Kept.mk (hB.out.trans ((hb1).mono hB.out.size))
  replace Va := Kept.mk (Va.out.keep (hb1))
  replace Vx := Kept.mk (Vx.out.keep (hb1))
  clear hb1
  go_wp2_with (have hz0 := K1; refine wpList_storeN 25 rfl (.tmp 4) (.tmp 50) rfl U.heap.size [.int .i64 dB.cap, p', m'] size_ar rfl rfl K1.out rfl K2.out K5.out ?_; replace hB := Kept.mk (hB.out.trans ((K3.out).mono hB.out.size)); replace Va := Kept.mk (Va.out.keep (K3.out)); replace Vx := Kept.mk (Vx.out.keep (K3.out)); have Vb := Kept.mk K4.out; clear hz0 K1 K2 K3 K4 K5; generalize setN (U.alloc (.cells #[.int .i64 0, .slice none 0 0, .slice none 0 0] 25)) U.heap.size 0 [.int .i64 dB.cap, p', m'] = W2 at *; generalize U.heap.size = gb at *; obtain ⟨qb, rb, xb, sb, ib, kb0, kb1, kb2⟩ := Vb.out.open_; have Xb := Kept.mk xb; have Sb := Kept.mk sb; have Ib := Kept.mk ib; clear xb sb ib)
  ((with_reducible refine (wd_t1 _ _ Xb.out).mono ?_); rintro e W3 ⟨rfl, hb1⟩)
  clear Xb Sb Ib kb0 kb1 kb2
  replace hB := Kept.mk (hB.out.trans ((hb1).mono hB.out.size))
  replace Va := Kept.mk (Va.out.keep (hb1))
  replace Vx := Kept.mk (Vx.out.keep (hb1))
  replace Vb := Kept.mk (Vb.out.keep (hb1))
  clear hb1
  obtain ⟨qb, rb, xb, sb, ib, kb0, kb1, kb2⟩ := Vb.out.open_
  have Xb := Kept.mk xb
  have Sb := Kept.mk sb
  have Ib := Kept.mk ib
  clear xb sb ib
  go_wp2_with fail
  ((with_reducible refine (wd_y _ _ Xb.out).mono ?_); rintro e U ⟨v', rfl, ⟨p', m', rfl, hp', hm'⟩, hb1⟩)
  obtain ⟨K1, K2, K3, K4, K5⟩ := enew U yN p' m' hp' hm' U.heap.size rfl
  clear hp' hm'
  clear Xb Sb Ib kb0 kb1 kb2
  replace hB := Kept.mk (hB.out.trans ((hb1).mono hB.out.size))
  replace Va := Kept.mk (Va.out.keep (hb1))
  replace Vx := Kept.mk (Vx.out.keep (hb1))
  replace Vb := Kept.mk (Vb.out.keep (hb1))
  clear hb1
  go_wp2_with (have hz0 := K1; refine wpList_storeN 30 rfl (.tmp 9) (.tmp 61) rfl U.heap.size [.string ⟨yN.key.toArray⟩, .int .i64 yN.val.kind, .int .i64 yN.val.time, .int .i64 yN.val.node, .bool yN.val.dead, .string ⟨yN.val.text.toArray⟩, p', m', .int .u64 (yN.val.flags.toNat : Int)] size_en rfl rfl K1.out rfl K2.out K5.out ?_; replace hB := Kept.mk (hB.out.trans ((K3.out).mono hB.out.size)); replace Va := Kept.mk (Va.out.keep (K3.out)); replace Vx := Kept.mk (Vx.out.keep (K3.out)); replace Vb := Kept.mk (Vb.out.keep (K3.out)); have Vy := Kept.mk (show VarN _ _ yN from ⟨_, _, K4.out⟩); clear hz0 K1 K2 K3 K4 K5; generalize setN (U.alloc (.cells #[.string ⟨#[]⟩, .int .i64 0, .int .i64 0, .int .i64 0, .bool false, .string ⟨#[]⟩, .slice none 0 0, .slice none 0 0, .int .u64 0] 30)) U.heap.size 0 [.string ⟨yN.key.toArray⟩, .int .i64 yN.val.kind, .int .i64 yN.val.time, .int .i64 yN.val.node, .bool yN.val.dead, .string ⟨yN.val.text.toArray⟩, p', m', .int .u64 (yN.val.flags.toNat : Int)] = W4 at *; generalize U.heap.size = gy at *; obtain ⟨qb, rb, xb, sb, ib, kb0, kb1, kb2⟩ := Vb.out.open_; have Xb := Kept.mk xb; have Sb := Kept.mk sb; have Ib := Kept.mk ib; clear xb sb ib; obtain ⟨qy, ry, xy, yy, ky0, ky1, ky2, ky3, ky4, ky5, ky6, ky7, ky8⟩ := Vy.out.open_; have Xy := Kept.mk xy; have Yy := Kept.mk yy; clear xy yy)
  ((with_reducible refine (wd_c _ _ _ Xb.out Xy.out).mono ?_); rintro e U ⟨v', rfl, ⟨p', m', rfl, hp', hm'⟩, hb1⟩)
  obtain ⟨K1, K2, K3, K4, K5⟩ := anew U dC p' m' hp' hm' U.heap.size rfl
  clear hp' hm'
  clear Xb Sb Ib kb0 kb1 kb2
  clear Xy Yy ky0 ky1 ky2 ky3 ky4 ky5 ky6 ky7 ky8
  replace hB := Kept.mk (hB.out.trans ((hb1).mono hB.out.size))
  replace Va := Kept.mk (Va.out.keep (hb1))
  replace Vx := Kept.mk (Vx.out.keep (hb1))
  replace Vb := Kept.mk (Vb.out.keep (hb1))
  replace Vy := Kept.mk (Vy.out.keep (hb1))
  clear hb1
  go_wp2_with (have hz0 := K1; refine wpList_storeN 25 rfl (.tmp 11) (.tmp 67) rfl U.heap.size [.int .i64 dC.cap, p', m'] size_ar rfl rfl K1.out rfl K2.out K5.out ?_; replace hB := Kept.mk (hB.out.trans ((K3.out).mono hB.out.size)); replace Va := Kept.mk (Va.out.keep (K3.out)); replace Vx := Kept.mk (Vx.out.keep (K3.out)); replace Vb := Kept.mk (Vb.out.keep (K3.out)); replace Vy := Kept.mk (Vy.out.keep (K3.out)); have Vc := Kept.mk K4.out; clear hz0 K1 K2 K3 K4 K5; generalize setN (U.alloc (.cells #[.int .i64 0, .slice none 0 0, .slice none 0 0] 25)) U.heap.size 0 [.int .i64 dC.cap, p', m'] = W5 at *; generalize U.heap.size = gc at *; obtain ⟨qc, rc, xc, sc, ic, kc0, kc1, kc2⟩ := Vc.out.open_; have Xc := Kept.mk xc; have Sc := Kept.mk sc; have Ic := Kept.mk ic; clear xc sc ic)
  clear Vy Vb
  ((with_reducible refine (wd_s _ _ Xc.out).mono ?_); rintro e W6 ⟨rfl, hb1⟩)
  clear Xc Sc Ic kc0 kc1 kc2
  replace hB := Kept.mk (hB.out.trans ((hb1).mono hB.out.size))
  replace Va := Kept.mk (Va.out.keep (hb1))
  replace Vx := Kept.mk (Vx.out.keep (hb1))
  replace Vc := Kept.mk (Vc.out.keep (hb1))
  clear hb1
  obtain ⟨qc, rc, xc, sc, ic, kc0, kc1, kc2⟩ := Vc.out.open_
  have Xc := Kept.mk xc
  have Sc := Kept.mk sc
  have Ic := Kept.mk ic
  clear xc sc ic
  go_wp2_with fail
  ((with_reducible refine (wd_z _ _ Xc.out).mono ?_); rintro e U ⟨v', rfl, ⟨p', m', rfl, hp', hm'⟩, hb1⟩)
  obtain ⟨K1, K2, K3, K4, K5⟩ := enew U zF p' m' hp' hm' U.heap.size rfl
  clear hp' hm'
  clear Xc Sc Ic kc0 kc1 kc2
  replace hB := Kept.mk (hB.out.trans ((hb1).mono hB.out.size))
  replace Va := Kept.mk (Va.out.keep (hb1))
  replace Vx := Kept.mk (Vx.out.keep (hb1))
  replace Vc := Kept.mk (Vc.out.keep (hb1))
  clear hb1
  go_wp2_with (have hz0 := K1; refine wpList_storeN 30 rfl (.tmp 16) (.tmp 78) rfl U.heap.size [.string ⟨zF.key.toArray⟩, .int .i64 zF.val.kind, .int .i64 zF.val.time, .int .i64 zF.val.node, .bool zF.val.dead, .string ⟨zF.val.text.toArray⟩, p', m', .int .u64 (zF.val.flags.toNat : Int)] size_en rfl rfl K1.out rfl K2.out K5.out ?_; replace hB := Kept.mk (hB.out.trans ((K3.out).mono hB.out.size)); replace Va := Kept.mk (Va.out.keep (K3.out)); replace Vx := Kept.mk (Vx.out.keep (K3.out)); replace Vc := Kept.mk (Vc.out.keep (K3.out)); have Vz := Kept.mk (show VarN _ _ zF from ⟨_, _, K4.out⟩); clear hz0 K1 K2 K3 K4 K5; generalize setN (U.alloc (.cells #[.string ⟨#[]⟩, .int .i64 0, .int .i64 0, .int .i64 0, .bool false, .string ⟨#[]⟩, .slice none 0 0, .slice none 0 0, .int .u64 0] 30)) U.heap.size 0 [.string ⟨zF.key.toArray⟩, .int .i64 zF.val.kind, .int .i64 zF.val.time, .int .i64 zF.val.node, .bool zF.val.dead, .string ⟨zF.val.text.toArray⟩, p', m', .int .u64 (zF.val.flags.toNat : Int)] = W7 at *; generalize U.heap.size = gz at *; obtain ⟨qc, rc, xc, sc, ic, kc0, kc1, kc2⟩ := Vc.out.open_; have Xc := Kept.mk xc; have Sc := Kept.mk sc; have Ic := Kept.mk ic; clear xc sc ic; obtain ⟨qz, rz, xz, yz, kz0, kz1, kz2, kz3, kz4, kz5, kz6, kz7, kz8⟩ := Vz.out.open_; have Xz := Kept.mk xz; have Yz := Kept.mk yz; clear xz yz)
  ((with_reducible refine (wd_d _ _ _ Xc.out Xz.out).mono ?_); rintro e U ⟨v', rfl, ⟨p', m', rfl, hp', hm'⟩, hb1⟩)
  obtain ⟨K1, K2, K3, K4, K5⟩ := anew U dD p' m' hp' hm' U.heap.size rfl
  clear hp' hm'
  clear Xc Sc Ic kc0 kc1 kc2
  clear Xz Yz kz0 kz1 kz2 kz3 kz4 kz5 kz6 kz7 kz8
  replace hB := Kept.mk (hB.out.trans ((hb1).mono hB.out.size))
  replace Va := Kept.mk (Va.out.keep (hb1))
  replace Vx := Kept.mk (Vx.out.keep (hb1))
  replace Vc := Kept.mk (Vc.out.keep (hb1))
  replace Vz := Kept.mk (Vz.out.keep (hb1))
  clear hb1
  go_wp2_with (have hz0 := K1; refine wpList_storeN 25 rfl (.tmp 18) (.tmp 84) rfl U.heap.size [.int .i64 dD.cap, p', m'] size_ar rfl rfl K1.out rfl K2.out K5.out ?_; replace hB := Kept.mk (hB.out.trans ((K3.out).mono hB.out.size)); replace Va := Kept.mk (Va.out.keep (K3.out)); replace Vx := Kept.mk (Vx.out.keep (K3.out)); replace Vc := Kept.mk (Vc.out.keep (K3.out)); replace Vz := Kept.mk (Vz.out.keep (K3.out)); have Vd := Kept.mk K4.out; clear hz0 K1 K2 K3 K4 K5; generalize setN (U.alloc (.cells #[.int .i64 0, .slice none 0 0, .slice none 0 0] 25)) U.heap.size 0 [.int .i64 dD.cap, p', m'] = W8 at *; generalize U.heap.size = gd at *; obtain ⟨qd, rd, xd, sd, id, kd0, kd1, kd2⟩ := Vd.out.open_; have Xd := Kept.mk xd; have Sd := Kept.mk sd; have Id := Kept.mk id; clear xd sd id)
  clear Vz Vc
  ((with_reducible refine (wd_f _ _ Xd.out).mono ?_); rintro e W9 ⟨rfl, hb1⟩)
  clear Xd Sd Id kd0 kd1 kd2
  replace hB := Kept.mk (hB.out.trans ((hb1).mono hB.out.size))
  replace Va := Kept.mk (Va.out.keep (hb1))
  replace Vx := Kept.mk (Vx.out.keep (hb1))
  replace Vd := Kept.mk (Vd.out.keep (hb1))
  clear hb1
  obtain ⟨qd, rd, xd, sd, id, kd0, kd1, kd2⟩ := Vd.out.open_
  have Xd := Kept.mk xd
  have Sd := Kept.mk sd
  have Id := Kept.mk id
  clear xd sd id
  go_wp2_with fail
  ((with_reducible refine (wd_u _ _ Xd.out).mono ?_); rintro e U ⟨v', rfl, ⟨p', m', rfl, hp', hm'⟩, hb1⟩)
  obtain ⟨K1, K2, K3, K4, K5⟩ := enew U uK p' m' hp' hm' U.heap.size rfl
  clear hp' hm'
  clear Xd Sd Id kd0 kd1 kd2
  replace hB := Kept.mk (hB.out.trans ((hb1).mono hB.out.size))
  replace Va := Kept.mk (Va.out.keep (hb1))
  replace Vx := Kept.mk (Vx.out.keep (hb1))
  replace Vd := Kept.mk (Vd.out.keep (hb1))
  clear hb1
  go_wp2_with (have hz0 := K1; refine wpList_storeN 30 rfl (.tmp 23) (.tmp 95) rfl U.heap.size [.string ⟨uK.key.toArray⟩, .int .i64 uK.val.kind, .int .i64 uK.val.time, .int .i64 uK.val.node, .bool uK.val.dead, .string ⟨uK.val.text.toArray⟩, p', m', .int .u64 (uK.val.flags.toNat : Int)] size_en rfl rfl K1.out rfl K2.out K5.out ?_; replace hB := Kept.mk (hB.out.trans ((K3.out).mono hB.out.size)); replace Va := Kept.mk (Va.out.keep (K3.out)); replace Vx := Kept.mk (Vx.out.keep (K3.out)); replace Vd := Kept.mk (Vd.out.keep (K3.out)); have Vu := Kept.mk (show VarN _ _ uK from ⟨_, _, K4.out⟩); clear hz0 K1 K2 K3 K4 K5; generalize setN (U.alloc (.cells #[.string ⟨#[]⟩, .int .i64 0, .int .i64 0, .int .i64 0, .bool false, .string ⟨#[]⟩, .slice none 0 0, .slice none 0 0, .int .u64 0] 30)) U.heap.size 0 [.string ⟨uK.key.toArray⟩, .int .i64 uK.val.kind, .int .i64 uK.val.time, .int .i64 uK.val.node, .bool uK.val.dead, .string ⟨uK.val.text.toArray⟩, p', m', .int .u64 (uK.val.flags.toNat : Int)] = W10 at *; generalize U.heap.size = gu at *; obtain ⟨qd, rd, xd, sd, id, kd0, kd1, kd2⟩ := Vd.out.open_; have Xd := Kept.mk xd; have Sd := Kept.mk sd; have Id := Kept.mk id; clear xd sd id; obtain ⟨qu, ru, xu, yu, ku0, ku1, ku2, ku3, ku4, ku5, ku6, ku7, ku8⟩ := Vu.out.open_; have Xu := Kept.mk xu; have Yu := Kept.mk yu; clear xu yu)
  ((with_reducible refine (wd_q _ _ _ Xd.out Xu.out).mono ?_); rintro e U ⟨v', rfl, ⟨p', m', rfl, hp', hm'⟩, hb1⟩)
  obtain ⟨K1, K2, K3, K4, K5⟩ := anew U dQ p' m' hp' hm' U.heap.size rfl
  clear hp' hm'
  clear Xd Sd Id kd0 kd1 kd2
  clear Xu Yu ku0 ku1 ku2 ku3 ku4 ku5 ku6 ku7 ku8
  replace hB := Kept.mk (hB.out.trans ((hb1).mono hB.out.size))
  replace Va := Kept.mk (Va.out.keep (hb1))
  replace Vx := Kept.mk (Vx.out.keep (hb1))
  replace Vd := Kept.mk (Vd.out.keep (hb1))
  replace Vu := Kept.mk (Vu.out.keep (hb1))
  clear hb1
  go_wp2_with (have hz0 := K1; refine wpList_storeN 25 rfl (.tmp 25) (.tmp 101) rfl U.heap.size [.int .i64 dQ.cap, p', m'] size_ar rfl rfl K1.out rfl K2.out K5.out ?_; replace hB := Kept.mk (hB.out.trans ((K3.out).mono hB.out.size)); replace Va := Kept.mk (Va.out.keep (K3.out)); replace Vx := Kept.mk (Vx.out.keep (K3.out)); replace Vd := Kept.mk (Vd.out.keep (K3.out)); replace Vu := Kept.mk (Vu.out.keep (K3.out)); have Vq := Kept.mk K4.out; clear hz0 K1 K2 K3 K4 K5; generalize setN (U.alloc (.cells #[.int .i64 0, .slice none 0 0, .slice none 0 0] 25)) U.heap.size 0 [.int .i64 dQ.cap, p', m'] = W11 at *; generalize U.heap.size = gq at *; obtain ⟨qq, rq, xq, sq, iq, kq0, kq1, kq2⟩ := Vq.out.open_; have Xq := Kept.mk xq; have Sq := Kept.mk sq; have Iq := Kept.mk iq; clear xq sq iq)
  ((with_reducible refine (wd_t2 _ _ Xq.out).mono ?_); rintro e W12 ⟨t2, rfl, hb1⟩)
  clear Xq Sq Iq kq0 kq1 kq2
  replace hB := Kept.mk (hB.out.trans ((hb1).mono hB.out.size))
  replace Va := Kept.mk (Va.out.keep (hb1))
  replace Vx := Kept.mk (Vx.out.keep (hb1))
  replace Vd := Kept.mk (Vd.out.keep (hb1))
  replace Vu := Kept.mk (Vu.out.keep (hb1))
  replace Vq := Kept.mk (Vq.out.keep (hb1))
  clear hb1
  obtain ⟨qq, rq, xq, sq, iq, kq0, kq1, kq2⟩ := Vq.out.open_
  have Xq := Kept.mk xq
  have Sq := Kept.mk sq
  have Iq := Kept.mk iq
  clear xq sq iq
  go_wp2_with fail
  ((with_reducible refine (wd_n1 _ _ Xq.out).mono ?_); rintro e U ⟨v', rfl, ⟨p', m', rfl, hp', hm'⟩, hb1⟩)
  obtain ⟨K1, K2, K3, K4, K5⟩ := enew U zeroE p' m' hp' hm' U.heap.size rfl
  clear hp' hm'
  clear Xq Sq Iq kq0 kq1 kq2
  replace hB := Kept.mk (hB.out.trans ((hb1).mono hB.out.size))
  replace Va := Kept.mk (Va.out.keep (hb1))
  replace Vx := Kept.mk (Vx.out.keep (hb1))
  replace Vd := Kept.mk (Vd.out.keep (hb1))
  replace Vu := Kept.mk (Vu.out.keep (hb1))
  replace Vq := Kept.mk (Vq.out.keep (hb1))
  clear hb1
  go_wp2_with (have hz0 := K1; refine wpList_storeN 30 rfl (.tmp 30) (.tmp 112) rfl U.heap.size [.string ⟨zeroE.key.toArray⟩, .int .i64 zeroE.val.kind, .int .i64 zeroE.val.time, .int .i64 zeroE.val.node, .bool zeroE.val.dead, .string ⟨zeroE.val.text.toArray⟩, p', m', .int .u64 (zeroE.val.flags.toNat : Int)] size_en rfl rfl K1.out rfl K2.out K5.out ?_; replace hB := Kept.mk (hB.out.trans ((K3.out).mono hB.out.size)); replace Va := Kept.mk (Va.out.keep (K3.out)); replace Vx := Kept.mk (Vx.out.keep (K3.out)); replace Vd := Kept.mk (Vd.out.keep (K3.out)); replace Vu := Kept.mk (Vu.out.keep (K3.out)); replace Vq := Kept.mk (Vq.out.keep (K3.out)); have Vn1 := Kept.mk (show VarN _ _ zeroE from ⟨_, _, K4.out⟩); clear hz0 K1 K2 K3 K4 K5; generalize setN (U.alloc (.cells #[.string ⟨#[]⟩, .int .i64 0, .int .i64 0, .int .i64 0, .bool false, .string ⟨#[]⟩, .slice none 0 0, .slice none 0 0, .int .u64 0] 30)) U.heap.size 0 [.string ⟨zeroE.key.toArray⟩, .int .i64 zeroE.val.kind, .int .i64 zeroE.val.time, .int .i64 zeroE.val.node, .bool zeroE.val.dead, .string ⟨zeroE.val.text.toArray⟩, p', m', .int .u64 (zeroE.val.flags.toNat : Int)] = W13 at *; generalize U.heap.size = gn1 at *; obtain ⟨qd, rd, xd, sd, id, kd0, kd1, kd2⟩ := Vd.out.open_; have Xd := Kept.mk xd; have Sd := Kept.mk sd; have Id := Kept.mk id; clear xd sd id)
  clear Vn1
  ((with_reducible refine (wd_n2 _ _ Xd.out).mono ?_); rintro e U ⟨v', rfl, ⟨p', m', rfl, hp', hm'⟩, hb1⟩)
  obtain ⟨K1, K2, K3, K4, K5⟩ := enew U zeroE p' m' hp' hm' U.heap.size rfl
  clear hp' hm'
  clear Xd Sd Id kd0 kd1 kd2
  replace hB := Kept.mk (hB.out.trans ((hb1).mono hB.out.size))
  replace Va := Kept.mk (Va.out.keep (hb1))
  replace Vx := Kept.mk (Vx.out.keep (hb1))
  replace Vd := Kept.mk (Vd.out.keep (hb1))
  replace Vu := Kept.mk (Vu.out.keep (hb1))
  replace Vq := Kept.mk (Vq.out.keep (hb1))
  clear hb1
  go_wp2_with (have hz0 := K1; refine wpList_storeN 30 rfl (.tmp 32) (.tmp 117) rfl U.heap.size [.string ⟨zeroE.key.toArray⟩, .int .i64 zeroE.val.kind, .int .i64 zeroE.val.time, .int .i64 zeroE.val.node, .bool zeroE.val.dead, .string ⟨zeroE.val.text.toArray⟩, p', m', .int .u64 (zeroE.val.flags.toNat : Int)] size_en rfl rfl K1.out rfl K2.out K5.out ?_; replace hB := Kept.mk (hB.out.trans ((K3.out).mono hB.out.size)); replace Va := Kept.mk (Va.out.keep (K3.out)); replace Vx := Kept.mk (Vx.out.keep (K3.out)); replace Vd := Kept.mk (Vd.out.keep (K3.out)); replace Vu := Kept.mk (Vu.out.keep (K3.out)); replace Vq := Kept.mk (Vq.out.keep (K3.out)); have Vn2 := Kept.mk (show VarN _ _ zeroE from ⟨_, _, K4.out⟩); clear hz0 K1 K2 K3 K4 K5; generalize setN (U.alloc (.cells #[.string ⟨#[]⟩, .int .i64 0, .int .i64 0, .int .i64 0, .bool false, .string ⟨#[]⟩, .slice none 0 0, .slice none 0 0, .int .u64 0] 30)) U.heap.size 0 [.string ⟨zeroE.key.toArray⟩, .int .i64 zeroE.val.kind, .int .i64 zeroE.val.time, .int .i64 zeroE.val.node, .bool zeroE.val.dead, .string ⟨zeroE.val.text.toArray⟩, p', m', .int .u64 (zeroE.val.flags.toNat : Int)] = W14 at *; generalize U.heap.size = gn2 at *; obtain ⟨qa, ra, xa, sa, ia, ka0, ka1, ka2⟩ := Va.out.open_; have Xa := Kept.mk xa; have Sa := Kept.mk sa; have Ia := Kept.mk ia; clear xa sa ia)
  clear Vn2
  ((with_reducible refine (wd_n3 _ _ Xa.out).mono ?_); rintro e U ⟨v', rfl, ⟨p', m', rfl, hp', hm'⟩, hb1⟩)
  obtain ⟨K1, K2, K3, K4, K5⟩ := enew U zeroE p' m' hp' hm' U.heap.size rfl
  clear hp' hm'
  clear Xa Sa Ia ka0 ka1 ka2
  replace hB := Kept.mk (hB.out.trans ((hb1).mono hB.out.size))
  replace Va := Kept.mk (Va.out.keep (hb1))
  replace Vx := Kept.mk (Vx.out.keep (hb1))
  replace Vd := Kept.mk (Vd.out.keep (hb1))
  replace Vu := Kept.mk (Vu.out.keep (hb1))
  replace Vq := Kept.mk (Vq.out.keep (hb1))
  clear hb1
  go_wp2_with (have hz0 := K1; refine wpList_storeN 30 rfl (.tmp 34) (.tmp 122) rfl U.heap.size [.string ⟨zeroE.key.toArray⟩, .int .i64 zeroE.val.kind, .int .i64 zeroE.val.time, .int .i64 zeroE.val.node, .bool zeroE.val.dead, .string ⟨zeroE.val.text.toArray⟩, p', m', .int .u64 (zeroE.val.flags.toNat : Int)] size_en rfl rfl K1.out rfl K2.out K5.out ?_; replace hB := Kept.mk (hB.out.trans ((K3.out).mono hB.out.size)); replace Va := Kept.mk (Va.out.keep (K3.out)); replace Vx := Kept.mk (Vx.out.keep (K3.out)); replace Vd := Kept.mk (Vd.out.keep (K3.out)); replace Vu := Kept.mk (Vu.out.keep (K3.out)); replace Vq := Kept.mk (Vq.out.keep (K3.out)); have Vn3 := Kept.mk (show VarN _ _ zeroE from ⟨_, _, K4.out⟩); clear hz0 K1 K2 K3 K4 K5; generalize setN (U.alloc (.cells #[.string ⟨#[]⟩, .int .i64 0, .int .i64 0, .int .i64 0, .bool false, .string ⟨#[]⟩, .slice none 0 0, .slice none 0 0, .int .u64 0] 30)) U.heap.size 0 [.string ⟨zeroE.key.toArray⟩, .int .i64 zeroE.val.kind, .int .i64 zeroE.val.time, .int .i64 zeroE.val.node, .bool zeroE.val.dead, .string ⟨zeroE.val.text.toArray⟩, p', m', .int .u64 (zeroE.val.flags.toNat : Int)] = W15 at *; generalize U.heap.size = gn3 at *; obtain ⟨qx, rx, xx, yx, kx0, kx1, kx2, kx3, kx4, kx5, kx6, kx7, kx8⟩ := Vx.out.open_; have Xx := Kept.mk xx; have Yx := Kept.mk yx; clear xx yx; obtain ⟨qu, ru, xu, yu, ku0, ku1, ku2, ku3, ku4, ku5, ku6, ku7, ku8⟩ := Vu.out.open_; have Xu := Kept.mk xu; have Yu := Kept.mk yu; clear xu yu; obtain ⟨qd, rd, xd, sd, id, kd0, kd1, kd2⟩ := Vd.out.open_; have Xd := Kept.mk xd; have Sd := Kept.mk sd; have Id := Kept.mk id; clear xd sd id; rw [xY_time] at kx2; rw [uK_time] at ku2; clear Vn3)
  ((with_reducible refine (wd_l3 _ _ Xd.out).mono ?_); rintro e W16 ⟨a3, c3, rfl, hb1⟩)
  clear Xx Yx kx0 kx1 kx2 kx3 kx4 kx5 kx6 kx7 kx8
  clear Xu Yu ku0 ku1 ku2 ku3 ku4 ku5 ku6 ku7 ku8
  clear Xd Sd Id kd0 kd1 kd2
  replace hB := Kept.mk (hB.out.trans ((hb1).mono hB.out.size))
  replace Va := Kept.mk (Va.out.keep (hb1))
  replace Vx := Kept.mk (Vx.out.keep (hb1))
  replace Vd := Kept.mk (Vd.out.keep (hb1))
  replace Vu := Kept.mk (Vu.out.keep (hb1))
  replace Vq := Kept.mk (Vq.out.keep (hb1))
  clear hb1
  obtain ⟨qq, rq, xq, sq, iq, kq0, kq1, kq2⟩ := Vq.out.open_
  have Xq := Kept.mk xq
  have Sq := Kept.mk sq
  have Iq := Kept.mk iq
  clear xq sq iq
  go_wp2_with fail
  ((with_reducible refine (wd_l2 _ _ Xq.out).mono ?_); rintro e W17 ⟨a4, c4, rfl, hb1⟩)
  clear Xq Sq Iq kq0 kq1 kq2
  replace hB := Kept.mk (hB.out.trans ((hb1).mono hB.out.size))
  replace Va := Kept.mk (Va.out.keep (hb1))
  replace Vx := Kept.mk (Vx.out.keep (hb1))
  replace Vd := Kept.mk (Vd.out.keep (hb1))
  replace Vu := Kept.mk (Vu.out.keep (hb1))
  replace Vq := Kept.mk (Vq.out.keep (hb1))
  clear hb1
  go_wp2
  go_ret
  exact ⟨rfl, hB.out⟩
end Go.Proofs.YtbgconagkgfplaaGreat
end
section
namespace Go.Proofs.YtbgconagkgfplaaGreat
set_option linter.unusedVariables false
set_option linter.unusedSimpArgs false

/-- A counter whose number of a node is greater. -/
def bumpV (W : Va) (k : Nat) (n x : Int) : Va := ⟨2, 0, 0, false, [], if n < 0 then W.plus else W.plus.set k x, if n < 0 then W.minus.set k x else W.minus, 0⟩
end Go.Proofs.YtbgconagkgfplaaGreat
end
section
namespace Go.Proofs.YtbgconagkgfplaaGreat
set_option linter.unusedVariables false
set_option linter.unusedSimpArgs false

end Go.Proofs.YtbgconagkgfplaaGreat
end
section
namespace Go.Proofs.YtbgconagkgfplaaGreat
open Go.RowKit
set_option linter.unusedVariables false
set_option linter.unusedSimpArgs false

def OutI (N : Nat) (v : Value) (xs : List Int) (w : World) : Prop := w.ownsRow N 3 1 v xs.length (xs.map intC)
theorem outI_nil (N : Nat) (w : World) : OutI N (.slice none 0 0) [] w := World.ownsRow_nil _ _ _ _
theorem OutI.keep {N : Nat} {v : Value} {xs : List Int} {w w' : World} (h : OutI N v xs w) (hb : Below w.heap.size w w') : OutI N v xs w' := own_grow h hb
theorem OutI.low {N N' : Nat} {v : Value} {xs : List Int} {w : World} (h : OutI N v xs w) (hN : N' ≤ N) : OutI N' v xs w := own_low h hN
theorem OutI.cells {N : Nat} {v : Value} {xs : List Int} {w : World} (h : OutI N v xs w) : isCells (xs.map intC) v w := by
  refine isOwn.cells (B := N) (e := 3) ?_
  unfold isOwn
  rw [List.length_map]
  exact h
theorem OutI.len {N : Nat} {v : Value} {xs : List Int} {w : World} (h : OutI N v xs w) : ∃ a c, v = .slice a xs.length c := by
  obtain ⟨_, ⟨rfl, h0⟩ | ⟨g, cap, cur, rfl, _⟩⟩ := h
  · exact ⟨_, _, by rw [h0]⟩
  · exact ⟨_, _, rfl⟩
def SrcI (u : Value) (ys : List Int) (w : World) : Prop := (u = .slice none 0 0 ∧ ys = []) ∨ ∃ (a : Addr) (c : Nat), u = .slice (some a) ys.length c ∧ ∀ (j : Nat) (x : Int), ys[j]? = some x → w.cell? (a.add j) = some (intC x)
theorem own_cells {N : Nat} {xs : List Int} {w : World} {g : Nat} {cur : Array Value} (hg : w.heap[g]? = some (.cells cur 3 (0, 0))) (ht : cur.toList.take (xs.length * 1) = xs.map intC) {j : Nat} {x : Int} (hx : xs[j]? = some x) : w.cell? ⟨g, j, none⟩ = some (intC x) := by
  have h2 : (xs.map intC)[j]? = some (intC x) := by rw [List.getElem?_map, hx]; rfl
  rw [← ht, List.getElem?_take] at h2
  split at h2
  · simpa [World.cell?, hg] using h2
  · cases h2
theorem helem : Tryz.prog.underlying 23 = some (.slice (Tryz.prog.elem 23)) := by kernel_rfl
theorem hsize1 (w : World) : (sizeOf (Tryz.prog.elem 23)).run Tryz.prog w = .ok 1 w := by
  have h : (Tryz.prog.info? (Tryz.prog.elem 23)).map (·.size) = some 1 := by kernel_rfl
  obtain ⟨ie, hie, hz⟩ := Option.map_eq_some_iff.1 h
  simp [sizeOf, typeInfo, hie, hz]
theorem slice_hi_run {N : Nat} {v : Value} {xs : List Int} {w : World} (h : OutI N v xs w) {r : Nat} (hr : r ≤ xs.length) : ∃ u, (Instr.sliceAt 23 v none (some (.int .i64 (r : Int))) none).run Tryz.prog w = .ok u w ∧ SrcI u (xs.take r) w := by
  obtain ⟨hl, ⟨rfl, h0⟩ | ⟨g, cap, cur, rfl, hB, hg, hn, hc, hcs, ht⟩⟩ := h
  · have : xs = [] := List.eq_nil_of_length_eq_zero h0
    subst this
    obtain rfl : r = 0 := by simpa using hr
    refine ⟨.slice none 0 0, ?_, .inl ⟨rfl, rfl⟩⟩
    rw [run_sliceAt_slice (h := helem), run_slice_h (ht := helem) (h0 := by omega) (h2 := by omega), hsize1]
    rfl
  · refine ⟨_, by rw [run_sliceAt_slice (h := helem), run_slice_h (ht := helem) (h0 := by omega) (h2 := by omega), hsize1]; rfl, .inr ⟨⟨g, 0, none⟩, cap, ?_, fun j x hx => ?_⟩⟩
    · unfold sliced
      simp [List.length_take, Nat.min_eq_left hr, Addr.add]
    · rw [add_at, Nat.zero_add]
      rw [List.getElem?_take] at hx
      split at hx
      · exact own_cells (N := N) hg ht hx
      · cases hx
theorem slice_lo_run {N : Nat} {v : Value} {xs : List Int} {w : World} (h : OutI N v xs w) {r : Nat} (hr : r ≤ xs.length) : ∃ u, (Instr.sliceAt 23 v (some (.int .i64 (r : Int))) none none).run Tryz.prog w = .ok u w ∧ SrcI u (xs.drop r) w := by
  obtain ⟨hl, ⟨rfl, h0⟩ | ⟨g, cap, cur, rfl, hB, hg, hn, hc, hcs, ht⟩⟩ := h
  · have : xs = [] := List.eq_nil_of_length_eq_zero h0
    subst this
    obtain rfl : r = 0 := by simpa using hr
    refine ⟨.slice none 0 0, ?_, .inl ⟨rfl, rfl⟩⟩
    rw [run_sliceAt_slice (h := helem), run_slice_l (ht := helem) (h0 := by omega) (h1 := by simp), hsize1]
    rfl
  · by_cases hcr : cap = r
    · have hd : xs.drop r = [] := List.drop_eq_nil_of_le (by omega)
      refine ⟨_, by rw [run_sliceAt_slice (h := helem), run_slice_l (ht := helem) (h0 := by omega) (h1 := by omega), hsize1]; rfl, .inr ⟨⟨g, 0, none⟩, 0, ?_, fun j x hx => by rw [hd] at hx; simp at hx⟩⟩
      unfold sliced
      rw [hd]
      simp [hcr]
      omega
    · refine ⟨_, by rw [run_sliceAt_slice (h := helem), run_slice_l (ht := helem) (h0 := by omega) (h1 := by omega), hsize1]; rfl, .inr ⟨⟨g, r, none⟩, cap - r, ?_, fun j x hx => ?_⟩⟩
      · unfold sliced
        rw [if_neg (by simpa using hcr)]
        simp [add_at]
      · rw [add_at]
        rw [List.getElem?_drop] at hx
        exact own_cells (N := N) hg ht hx
theorem run_append_ints {N : Nat} {v : Value} {xs : List Int} {w : World} (h : OutI N v xs w) {u : Value} {ys : List Int} (hu : SrcI u ys w) (hn : xs.length + ys.length ≤ 100000) (hN : N ≤ w.heap.size) (ty : TypeId) :
    ∃ v' w', (Builtin.append_ #[23, 23] ty #[v, u]).run Tryz.prog w = .ok v' w' ∧ OutI N v' (xs ++ ys) w' ∧ w.grownBy w' v.ownBlock := by
  obtain ⟨ie, hie, hz, hsz⟩ : ∃ ie, Tryz.prog.info? 3 = some ie ∧ ie.zero = some (.int .i64 0) ∧ ie.size = 1 := by
    have : (Tryz.prog.info? 3).map (fun i => (i.zero, i.size)) = some (some (.int .i64 0), 1) := by kernel_rfl
    obtain ⟨ie, h1, h2⟩ := Option.map_eq_some_iff.1 this
    simp only [Prod.mk.injEq] at h2
    exact ⟨ie, h1, h2.1, h2.2⟩
  have hbytes : ie.bytes ≤ 100000 := by
    have : (Tryz.prog.info? 3).all (fun i => decide (i.bytes ≤ 100000)) = true := by kernel_rfl
    rw [hie] at this
    simpa using this
  rcases hu with ⟨rfl, rfl⟩ | ⟨a, c, rfl, hcell⟩
  · refine ⟨v, w, run_append_owned_none (P := Tryz.prog) (w := w) N _ ty 3 ie 1 Tryz.underlying23 hie v _ _ h, ?_, ⟨rfl, rfl, rfl, Nat.le_refl _, fun _ _ _ => rfl⟩⟩
    rw [List.append_nil]; exact h
  · obtain ⟨v', w', hrun, how, hgr, _, hob⟩ := run_append_own_at (P := Tryz.prog) (w := w) N 23 ty 3 ie (.int .i64 0) 1 ie.bytes Tryz.underlying23 hie hz hsz rfl rfl (by decide) v xs.length (xs.map intC) h a ys.length c (ys.map intC) (by rw [List.length_map, Nat.mul_one]) (fun j u hj => by
      rw [List.getElem?_map] at hj
      obtain ⟨x, hx, rfl⟩ := Option.map_eq_some_iff.1 hj
      exact hcell j x hx) (fun u hu => by obtain ⟨x, _, rfl⟩ := List.mem_map.1 hu; rfl) (by unfold maxLen; omega) (by have : (xs.length + ys.length) * ie.bytes ≤ 100000 * 100000 := Nat.mul_le_mul hn hbytes; omega) hN
    refine ⟨v', w', hrun, ?_, hgr⟩
    unfold OutI
    rw [List.length_append, List.map_append]
    exact how
section
variable {ops : Array Oper} {rest : List Oper} {o : Oper} {a : Act} {w : World} {Q : Exit → Act → World → Prop}
theorem wpList_append_ints (hgd : o.guard = none) (s x : Operand) (ho : o.op = .call { callee := .builtin .append, args := #[s, x], argTypes := #[23, 23] })
    (N : Nat) (v : Value) (xs : List Int) (hs : a.eval s = v) (h : OutI N v xs w) (u : Value) (ys : List Int) (hx : a.eval x = u) (hu : SrcI u ys w) (hn : xs.length + ys.length ≤ 100000) (hN : N ≤ w.heap.size)
    (hr : ∀ v' w', OutI N v' (xs ++ ys) w' → w.grownBy w' v.ownBlock → wpList Tryz.prog ops Q rest (a.put o.dst v') w') : wpList Tryz.prog ops Q (o :: rest) a w := by
  refine wpList_plain hgd fun K hK => ?_
  obtain ⟨v', w', hrun, h1, h2⟩ := run_append_ints h hu hn hN o.type
  unfold Oper.wp execOp
  rw [ho]
  simp only [resolve, Sem.run_bind, Sem.run_pure, Result.andThen_ok, invoke, builtin, List.map_toArray, List.map_cons, List.map_nil, hs, hx, hrun, Oper.upon]
  exact hK _ _ (hr v' w' h1 h2)
theorem wpList_slice_hi (hgd : o.guard = none) (x y : Operand) (ho : o.op = .slice 23 x none (some y) none) (N : Nat) (v : Value) (xs : List Int) (r : Nat) (hx : a.eval x = v) (hy : a.eval y = .int .i64 (r : Int)) (h : OutI N v xs w) (hle : r ≤ xs.length)
    (hr : ∀ u, SrcI u (xs.take r) w → wpList Tryz.prog ops Q rest (a.put o.dst u) w) : wpList Tryz.prog ops Q (o :: rest) a w := by
  refine wpList_plain hgd fun K hK => ?_
  obtain ⟨u, hrun, h1⟩ := slice_hi_run h hle
  unfold Oper.wp execOp
  rw [ho]
  simp only [Option.map_some, Option.map_none, hx, hy, hrun, Sem.run_bind, Sem.run_pure, Result.andThen_ok, Oper.upon]
  exact hK _ _ (hr u h1)
theorem wpList_slice_lo (hgd : o.guard = none) (x y : Operand) (ho : o.op = .slice 23 x (some y) none none) (N : Nat) (v : Value) (xs : List Int) (r : Nat) (hx : a.eval x = v) (hy : a.eval y = .int .i64 (r : Int)) (h : OutI N v xs w) (hle : r ≤ xs.length)
    (hr : ∀ u, SrcI u (xs.drop r) w → wpList Tryz.prog ops Q rest (a.put o.dst u) w) : wpList Tryz.prog ops Q (o :: rest) a w := by
  refine wpList_plain hgd fun K hK => ?_
  obtain ⟨u, hrun, h1⟩ := slice_lo_run h hle
  unfold Oper.wp execOp
  rw [ho]
  simp only [Option.map_some, Option.map_none, hx, hy, hrun, Sem.run_bind, Sem.run_pure, Result.andThen_ok, Oper.upon]
  exact hK _ _ (hr u h1)
end
theorem SrcI.keep {u : Value} {ys : List Int} {w w' : World} (h : SrcI u ys w) (hb : Below w.heap.size w w') : SrcI u ys w' := by
  rcases h with h | ⟨a, c, e, hc⟩
  · exact .inl h
  · exact .inr ⟨a, c, e, fun j x hx => (hb.cell (World.block_lt_of_cell? w _ (hc j x hx))).trans (hc j x hx)⟩
theorem srcI_one (k : Int) (w : World) : SrcI (.slice (some ⟨w.heap.size, 0, none⟩) 1 1) [k] (w.alloc (.cells #[.int .i64 k] 3)) := by
  refine .inr ⟨⟨w.heap.size, 0, none⟩, 1, rfl, fun j x hx => ?_⟩
  rw [add_at, Nat.zero_add, World.cell?_alloc_new]
  cases j with
  | zero => simp at hx; subst hx; rfl
  | succ j => simp at hx
theorem grown_belowI {w0 w w' : World} {N : Nat} {v : Value} {xs : List Int} (h : OutI N v xs w) (hg : w.grownBy w' v.ownBlock) (hb : Below w0.heap.size w0 w) (hN : w0.heap.size ≤ N) : Below w0.heap.size w0 w' := by
  refine ⟨hg.os.trans hb.os, hg.tape.trans hb.tape, hg.output.trans hb.output, Nat.le_trans hb.size hg.size, fun b hlt => (hg.block b (Nat.lt_of_lt_of_le hlt hb.size) (fun e => ?_)).trans (hb.block b hlt)⟩
  have := (World.ownsRow.lt h b e.symm).1
  omega
end Go.Proofs.YtbgconagkgfplaaGreat
end
section
namespace Go.Proofs.YtbgconagkgfplaaGreat
set_option linter.unusedVariables false
set_option linter.unusedSimpArgs false

/-- How many of the first are ahead of x. -/
def rankN (l : List En) (x : En) : Nat := (l.takeWhile (fun y => lessE y x)).length
def idxStep (l : List En) (out : List Int) (i : Nat) : List Int :=
  out.take (rankN (out.map (slotAt l)) (slotAt l i)) ++ ((i : Int) :: out.drop (rankN (out.map (slotAt l)) (slotAt l i)))
def idxP (l : List En) : Nat → List Int
  | 0 => []
  | i + 1 => idxStep l (idxP l i) i
def idxM (l : List En) : List Int := idxP l l.length
def apartB (l : List En) : Bool := decide (l.Pairwise (fun a b => nameB b a = false))
def slotsB (l : List En) : Bool := l.all okE && apartB l

theorem rank_pos : ∀ {l : List En} {x : En}, Asc l → rankN l x = posN l x
  | [], x, _ => rfl
  | a :: l, x, h => by
    have ih := rank_pos (x := x) (List.Pairwise.of_cons h)
    unfold rankN at ih ⊢
    cases ha : lessE a x with
    | true => rw [pos_cons_yes ha, List.takeWhile_cons_of_pos (p := fun y => lessE y x) ha, List.length_cons, ih]
    | false => rw [pos_cons_no h ha, List.takeWhile_cons_of_neg (p := fun y => lessE y x) (by rw [ha]; decide)]; rfl
theorem rank_le (l : List En) (x : En) : rankN l x ≤ l.length := by
  unfold rankN; exact (List.takeWhile_prefix _).length_le
theorem rank_spec {l : List En} {x : En} : (∀ (j : Nat) (y : En), j < rankN l x → l[j]? = some y → lessE y x = true) ∧ (∀ y, l[rankN l x]? = some y → lessE y x = false) := by
  induction l with
  | nil => exact ⟨fun j y hj => by simp [rankN] at hj, fun y hy => by simp at hy⟩
  | cons a l ih =>
    obtain ⟨i1, i2⟩ := ih
    unfold rankN at *
    cases ha : lessE a x with
    | true =>
      rw [List.takeWhile_cons_of_pos (p := fun y => lessE y x) ha, List.length_cons]
      refine ⟨fun j y hj hy => ?_, fun y hy => ?_⟩
      · cases j with
        | zero => simp at hy; rw [← hy]; exact ha
        | succ j => rw [List.getElem?_cons_succ] at hy; exact i1 j y (by omega) hy
      · rw [List.getElem?_cons_succ] at hy; exact i2 y hy
    | false =>
      rw [List.takeWhile_cons_of_neg (p := fun y => lessE y x) (by rw [ha]; decide)]
      refine ⟨fun j y hj => by simp at hj, fun y hy => ?_⟩
      simp at hy; rw [← hy]; exact ha
theorem hit_none {l : List En} {x : En} (h : ∀ y ∈ l, nameB y x = false) : hitB l x = false := by
  cases hh : hitB l x with
  | false => rfl
  | true =>
    obtain ⟨y, hy, hn⟩ := hit_pos hh
    rw [h y (List.mem_of_getElem? hy)] at hn; cases hn
theorem apart_at {l : List En} (h : apartB l = true) {i j : Nat} {a b : En} (hi : l[i]? = some a) (hj : l[j]? = some b) (hlt : j < i) : nameB a b = false := by
  unfold apartB at h
  rw [decide_eq_true_eq] at h
  have h1 := (List.getElem?_eq_some_iff.1 hi)
  have h2 := (List.getElem?_eq_some_iff.1 hj)
  have := List.pairwise_iff_getElem.1 h j i h2.1 h1.1 hlt
  rw [h1.2, h2.2] at this
  exact this
theorem apart_of {l : List En} (h : ∀ (i j : Nat) (a b : En), l[i]? = some a → l[j]? = some b → j < i → nameB a b = false) : apartB l = true := by
  unfold apartB
  rw [decide_eq_true_eq]
  refine List.pairwise_iff_getElem.2 fun j i hj hi hlt => ?_
  exact h i j _ _ (List.getElem?_eq_getElem hi) (List.getElem?_eq_getElem hj) hlt
theorem slotAt_get {l : List En} {i : Nat} (h : i < l.length) : l[i]? = some (slotAt l (i : Int)) := slotAt_nat l i ⟨by omega, by omega⟩
/-- What the document's index is, as far as it has come. -/
theorem idxP_ok {l : List En} (h : apartB l = true) : ∀ i, i ≤ l.length → (idxP l i).length = i ∧ (∀ p ∈ idxP l i, 0 ≤ p ∧ p < i) ∧ Asc ((idxP l i).map (slotAt l))
  | 0, _ => ⟨rfl, fun p hp => by simp [idxP] at hp, List.Pairwise.nil⟩
  | i + 1, hi => by
    obtain ⟨h1, h2, h3⟩ := idxP_ok h i (by omega)
    have hr := rank_le ((idxP l i).map (slotAt l)) (slotAt l i)
    rw [List.length_map] at hr
    have hno : hitB ((idxP l i).map (slotAt l)) (slotAt l i) = false := hit_none fun y hy => by
      obtain ⟨p, hp, rfl⟩ := List.mem_map.1 hy
      have hpr := h2 p hp
      have := apart_at h (i := i) (j := p.toNat) (a := slotAt l i) (b := slotAt l p) (slotAt_get (by omega)) (by rw [slotAt_get (by omega)]; congr 2; omega) (by omega)
      rw [name_comm]; exact this
    refine ⟨?_, ?_, ?_⟩
    · show (idxStep l (idxP l i) i).length = _
      unfold idxStep
      rw [List.length_append, List.length_cons, List.length_take, List.length_drop]; omega
    · intro p hp
      have hp : p ∈ idxStep l (idxP l i) i := hp
      unfold idxStep at hp
      rcases List.mem_append.1 hp with hp | hp
      · have := h2 p (List.mem_of_mem_take hp); omega
      · rcases List.mem_cons.1 hp with rfl | hp
        · omega
        · have := h2 p (List.mem_of_mem_drop hp); omega
    · have e : (idxStep l (idxP l i) i).map (slotAt l) = insE ((idxP l i).map (slotAt l)) (slotAt l i) := by
        unfold idxStep insE
        rw [rank_pos h3, List.map_append, List.map_cons, List.map_take, List.map_drop]
      show Asc ((idxStep l (idxP l i) i).map (slotAt l))
      rw [e]
      exact asc_ins h3 hno
theorem map_inj_in {α β : Type} {f : α → β} : ∀ {l m : List α}, (∀ x ∈ l, ∀ y ∈ m, f x = f y → x = y) → l.map f = m.map f → l = m
  | [], [], _, _ => rfl
  | [], b :: m, _, h => by simp at h
  | a :: l, [], _, h => by simp at h
  | a :: l, b :: m, hi, h => by
    rw [List.map_cons, List.map_cons, List.cons.injEq] at h
    rw [hi a (by simp) b (by simp) h.1, map_inj_in (fun x hx y hy => hi x (by simp [hx]) y (by simp [hy])) h.2]
/-- All places stand in a rising index of as many places. -/
theorem idx_all {l : List En} {idx : List Int} (h1 : idx.length = l.length) (h2 : ∀ p ∈ idx, 0 ≤ p ∧ p < l.length) (h3 : Asc (idx.map (slotAt l))) {q : Nat} (hq : q < l.length) : (q : Int) ∈ idx := by
  have hn : (idx.map Int.toNat).Nodup := by
    unfold Asc at h3
    unfold List.Nodup
    rw [List.pairwise_map] at h3 ⊢
    refine h3.imp ?_
    intro a b hab e
    unfold slotAt at hab
    rw [e, lessE_irrefl] at hab
    cases hab
  have hm := nodup_all _ hn (n := l.length) (by
    intro p hp; obtain ⟨r, hr, rfl⟩ := List.mem_map.1 hp; have := h2 r hr; omega) (by rw [List.length_map, h1]) q hq
  obtain ⟨r, hr, e2⟩ := List.mem_map.1 hm
  have := h2 r hr
  rwa [show (q : Int) = r by omega]
theorem idx_apart {l : List En} {idx : List Int} (h1 : idx.length = l.length) (h2 : ∀ p ∈ idx, 0 ≤ p ∧ p < l.length) (h3 : Asc (idx.map (slotAt l))) : apartB l = true := by
  refine apart_of fun i j a b hi hj hlt => ?_
  have li := (List.getElem?_eq_some_iff.1 hi).1
  have lj := (List.getElem?_eq_some_iff.1 hj).1
  obtain ⟨r, hr, er⟩ := List.getElem_of_mem (idx_all h1 h2 h3 li)
  obtain ⟨s, hs, es⟩ := List.getElem_of_mem (idx_all h1 h2 h3 lj)
  have ha : slotAt l (i : Int) = a := slotAt_some hi
  have hb : slotAt l (j : Int) = b := slotAt_some hj
  unfold Asc at h3
  rw [List.pairwise_map] at h3
  cases hn : nameB a b with
  | false => rfl
  | true =>
    exfalso
    have hne : r ≠ s := by rintro rfl; rw [er] at es; omega
    by_cases c : r < s
    · have := List.pairwise_iff_getElem.1 h3 r s hr hs c
      rw [er, es, ha, hb, less_name _ _ hn] at this; cases this
    · have := List.pairwise_iff_getElem.1 h3 s r hs hr (by omega)
      rw [er, es, ha, hb, less_name _ _ (name_symm hn)] at this; cases this
theorem slotAt_inj {l : List En} (h : apartB l = true) {p q : Int} (hp : 0 ≤ p ∧ p < l.length) (hq : 0 ≤ q ∧ q < l.length) (e : slotAt l p = slotAt l q) : p = q := by
  have gp := slotAt_nat l p hp
  have gq := slotAt_nat l q hq
  by_cases c1 : p.toNat < q.toNat
  · have := apart_at h gq gp c1; rw [e, name_self] at this; cases this
  · by_cases c2 : q.toNat < p.toNat
    · have := apart_at h gp gq c2; rw [e, name_self] at this; cases this
    · omega
theorem idx_unique {l : List En} {a b : List Int} (a1 : a.length = l.length) (a2 : ∀ p ∈ a, 0 ≤ p ∧ p < l.length) (a3 : Asc (a.map (slotAt l))) (b1 : b.length = l.length) (b2 : ∀ p ∈ b, 0 ≤ p ∧ p < l.length) (b3 : Asc (b.map (slotAt l))) : a = b := by
  have mem : ∀ {c : List Int}, c.length = l.length → (∀ p ∈ c, 0 ≤ p ∧ p < l.length) → Asc (c.map (slotAt l)) → ∀ x, x ∈ c.map (slotAt l) ↔ x ∈ l := by
    intro c c1 c2 c3 x
    constructor
    · intro hx; obtain ⟨p, hp, rfl⟩ := List.mem_map.1 hx; exact slotAt_mem (c2 p hp)
    · intro hx
      obtain ⟨q, hq⟩ := List.getElem?_of_mem hx
      exact List.mem_map.2 ⟨q, idx_all c1 c2 c3 (List.getElem?_eq_some_iff.1 hq).1, slotAt_some hq⟩
  have e : a.map (slotAt l) = b.map (slotAt l) := asc_ext a3 b3 fun x => (mem a1 a2 a3 x).trans (mem b1 b2 b3 x).symm
  have hap := idx_apart a1 a2 a3
  exact map_inj_in (fun x hx y hy => slotAt_inj hap (a2 x hx) (b2 y hy)) e
/-- The document's way to say that an arena may be. -/
theorem okA_ref (A : Ar) : okA A = (roomB A.cap && (decide ((A.slots.length : Int) ≤ A.cap) && (slotsB A.slots && decide (A.index = idxM A.slots)))) := by
  rw [Bool.eq_iff_iff]
  unfold slotsB
  simp only [Bool.and_eq_true, decide_eq_true_eq]
  constructor
  · intro h0
    have h := okA_iff.1 h0
    have hap : apartB A.slots = true := idx_apart h.len h.rng h.asc
    obtain ⟨i1, i2, i3⟩ := idxP_ok hap _ (Nat.le_refl _)
    unfold okA at h0
    rw [Bool.and_eq_true] at h0
    refine ⟨h0.1, h.fits, ⟨List.all_eq_true.2 h.ents, hap⟩, idx_unique h.len h.rng h.asc i1 i2 i3⟩
  · rintro ⟨h1, h2, ⟨h3, h4⟩, h5⟩
    obtain ⟨i1, i2, i3⟩ := idxP_ok h4 _ (Nat.le_refl _)
    have h5' : A.index = idxP A.slots A.slots.length := h5
    rw [okA_iff]
    unfold roomB at h1
    simp only [Bool.and_eq_true, decide_eq_true_eq] at h1
    refine ⟨h1, h2, List.all_eq_true.1 h3, ?_, ?_, ?_⟩
    · rw [h5']; exact i1
    · rw [h5']; exact i2
    · unfold ordA; rw [h5']; exact i3
/-- The place of a name: the first slot that has it. -/
theorem find_ref {A : Ar} (h : OkA A) (x : En) {k : Nat} {e : En} (hk : A.slots[k]? = some e) (hn : nameB e x = true) : findI A x = (k : Int) := by
  have hm := List.mem_of_getElem? hk
  have hh := (hit_iff h).2 ⟨e, hm, hn⟩
  rw [find_hit h hh]
  obtain ⟨p1, _, _, p4⟩ := place_spec h hh
  have hap : apartB A.slots = true := idx_apart h.len h.rng h.asc
  refine slotAt_inj hap p1 ⟨by omega, by have := (List.getElem?_eq_some_iff.1 hk).1; omega⟩ ?_
  rw [slotAt_some hk]
  exact one_name h (slotAt_mem p1) hm (name_trans p4 (name_symm hn))
theorem find_ref_no {A : Ar} (h : OkA A) (x : En) (hn : ∀ e ∈ A.slots, nameB e x = false) : findI A x = -1 := by
  rw [find_ne h]
  cases hh : hitB (ordA A) x with
  | false => rfl
  | true => obtain ⟨e, he, he2⟩ := (hit_iff h).1 hh; rw [hn e he] at he2; cases he2
end Go.Proofs.YtbgconagkgfplaaGreat
end
section
namespace Go.Proofs.YtbgconagkgfplaaGreat
open Go.RowKit
set_option linter.unusedVariables false
set_option linter.unusedSimpArgs false
attribute [local irreducible] setN

theorem rless_val (A B : En) (z : Bool) (v u : Value) (w : World) (hv : isEn A v w) (hu : isEn B u w) (hz : lessE A B = z) : Calls Tryz.prog 129 #[v, u] w fun e w' => ∃ x, e = .returned x ∧ isVal (.bool z) x w' ∧ Below w.heap.size w w' :=
  (rless_any A B v u w hv hu).mono (by rintro e w' ⟨rfl, h⟩; exact ⟨_, rfl, by rw [hz]; rfl, h⟩)
theorem rname_val (A B : En) (z : Bool) (v u : Value) (w : World) (hv : isEn A v w) (hu : isEn B u w) (hz : nameB A B = z) : Calls Tryz.prog 130 #[v, u] w fun e w' => ∃ x, e = .returned x ∧ isVal (.bool z) x w' ∧ Below w.heap.size w w' :=
  (rname_any A B v u w hv hu).mono (by rintro e w' ⟨rfl, h⟩; exact ⟨_, rfl, by rw [hz]; rfl, h⟩)
noncomputable def rix1Ops : Array Oper := regionOf Tryz.f102 6
set_option maxRecDepth 100000 in
set_option maxHeartbeats 2000000 in
theorem rix1_region (Q : Exit → Act → World → Prop) (a0 : Act) (w0 : World) (hsz : a0.tmps.size = 49) (r k i q n bo oo co bs os cs : Nat) (z : Bool) (X Y : En) (xp xm yp ym : Value) (e5 : a0.tmps.getD 5 undef = .int .i64 (r : Int)) (e3 : a0.tmps.getD 3 undef = (.slice (some ⟨bo, oo, none⟩) k co)) (e0 : a0.tmps.getD 0 undef = (.slice (some ⟨bs, os, none⟩) n cs)) (e4 : a0.tmps.getD 4 undef = .int .i64 (i : Int)) (hrk : r < k) (hqn : q < n) (hin : i < n) (hbo : bo < w0.heap.size) (hq : w0.cell? ⟨bo, oo + r, none⟩ = some (.int .i64 (q : Int))) (hbs : bs < w0.heap.size) (hxc : ∀ (jj : Nat) (x : Value), [.string ⟨X.key.toArray⟩, .int .i64 X.val.kind, .int .i64 X.val.time, .int .i64 X.val.node, .bool X.val.dead, .string ⟨X.val.text.toArray⟩, xp, xm, .int .u64 (X.val.flags.toNat : Int)][jj]? = some x → w0.cell? ⟨bs, os + q * 9 + jj, none⟩ = some x) (hyc : ∀ (jj : Nat) (x : Value), [.string ⟨Y.key.toArray⟩, .int .i64 Y.val.kind, .int .i64 Y.val.time, .int .i64 Y.val.node, .bool Y.val.dead, .string ⟨Y.val.text.toArray⟩, yp, ym, .int .u64 (Y.val.flags.toNat : Int)][jj]? = some x → w0.cell? ⟨bs, os + i * 9 + jj, none⟩ = some x) (hxp : isCells (X.val.plus.map intC) xp w0) (hxm : isCells (X.val.minus.map intC) xm w0) (hyp : isCells (Y.val.plus.map intC) yp w0) (hym : isCells (Y.val.minus.map intC) ym w0) (hz : lessE X Y = z)
    (hQ : ∀ (g : Nat → Value) (w : World), g 30 = .bool z → Below w0.heap.size w0 w → Q .normal { tmps := [13, 14, 15, 16, 17, 18, 19, 20, 21, 22, 23, 24, 25, 26, 27, 28, 29, 30].foldl (fun t s => t.setIfInBounds s (g s)) a0.tmps, defers := a0.defers } w) :
    (Code.region 6 rix1Ops true).wp Tryz.prog Q a0 w0 := by
  refine wp_region_flow mixed (by rw [hsz]; kernel_rfl) ?_
  rw [show rix1Ops.size = 18 by kernel_rfl]
  refine ⟨isVal (.int .i64 (r : Int)), step_move (.tmp 5) (by kernel_rfl) (wanted_none (by kernel_rfl)) (stable_val _) (knows_old 5 (.int .i64 (r : Int)) (by kernel_rfl) e5), ?_⟩
  refine ⟨isVal (.slice (some ⟨bo, oo, none⟩) k co), step_move (.tmp 3) (by kernel_rfl) (wanted_none (by kernel_rfl)) (stable_val _) (knows_old 3 (.slice (some ⟨bo, oo, none⟩) k co) (by kernel_rfl) e3), ?_⟩
  refine ⟨isVal (.int .i64 (k : Int)), step_len 23 (.tmp 14) (.slice (some ⟨bo, oo, none⟩) k co) (.int .i64 (k : Int)) (by kernel_rfl) (wanted_none (by kernel_rfl)) (knows_new (V := isVal (.slice (some ⟨bo, oo, none⟩) k co)) 14 1 (by kernel_rfl) (by kernel_rfl) (by kernel_rfl)) ((fun ty w => by simp [Builtin.len_, run_underlying Tryz.underlying23]; rfl)), ?_⟩
  refine ⟨isVal (.bool true), step_bin .lss 3 3 (.tmp 13) (.tmp 15) (.int .i64 (r : Int)) (.int .i64 (k : Int)) (.bool true) (by kernel_rfl) (wanted_none (by kernel_rfl)) (knows_new (V := isVal (.int .i64 (r : Int))) 13 0 (by kernel_rfl) (by kernel_rfl) (by kernel_rfl)) (knows_new (V := isVal (.int .i64 (k : Int))) 15 2 (by kernel_rfl) (by kernel_rfl) (by kernel_rfl)) (fun _ => rfl) (lss_int _ _ _ _ _ (by simp; omega)), ?_⟩
  refine ⟨isVal (.bool true), step_move (.tmp 16) (by kernel_rfl) (wanted_none (by kernel_rfl)) (stable_val _) (knows_new (V := isVal (.bool true)) 16 3 (by kernel_rfl) (by kernel_rfl) (by kernel_rfl)), ?_⟩
  refine ⟨isVal (.slice (some ⟨bs, os, none⟩) n cs), step_move (.tmp 0) (by kernel_rfl) (wanted_some 4 17 true (by kernel_rfl) (by kernel_rfl) (by kernel_rfl) (by kernel_rfl)) (stable_val _) (knows_old 0 (.slice (some ⟨bs, os, none⟩) n cs) (by kernel_rfl) e0), ?_⟩
  refine ⟨isVal (.slice (some ⟨bo, oo, none⟩) k co), step_move (.tmp 3) (by kernel_rfl) (wanted_some 4 17 true (by kernel_rfl) (by kernel_rfl) (by kernel_rfl) (by kernel_rfl)) (stable_val _) (knows_old 3 (.slice (some ⟨bo, oo, none⟩) k co) (by kernel_rfl) e3), ?_⟩
  refine ⟨isVal (.int .i64 (r : Int)), step_move (.tmp 5) (by kernel_rfl) (wanted_some 4 17 true (by kernel_rfl) (by kernel_rfl) (by kernel_rfl) (by kernel_rfl)) (stable_val _) (knows_old 5 (.int .i64 (r : Int)) (by kernel_rfl) e5), ?_⟩
  refine ⟨isVal (.pointer (some ⟨bo, oo + r, none⟩)), step_place 23 3 (.tmp 19) (.tmp 20) bo (oo) (k) (co) (r) (by kernel_rfl) (wanted_some 4 17 true (by kernel_rfl) (by kernel_rfl) (by kernel_rfl) (by kernel_rfl)) (knows_new (V := isVal (.slice (some ⟨bo, oo, none⟩) k co)) 19 6 (by kernel_rfl) (by kernel_rfl) (by kernel_rfl)) (knows_new (V := isVal (.int .i64 (r : Int))) 20 7 (by kernel_rfl) (by kernel_rfl) (by kernel_rfl)) Tryz.underlying23 (by kernel_rfl) (hrk), ?_⟩
  refine ⟨isVal (.int .i64 (q : Int)), step_read 3 (.tmp 21) ⟨bo, oo + r, none⟩ (.int .i64 (q : Int)) (by kernel_rfl) (wanted_some 4 17 true (by kernel_rfl) (by kernel_rfl) (by kernel_rfl) (by kernel_rfl)) (knows_new (V := isVal (.pointer (some ⟨bo, oo + r, none⟩))) 21 8 (by kernel_rfl) (by kernel_rfl) (by kernel_rfl)) (hq) (hbo) (agg_noZ), ?_⟩
  refine ⟨isVal (.pointer (some ⟨bs, os + q * 9, none⟩)), step_placeE 22 30 (.tmp 18) (.tmp 22) bs (os) (n) (cs) (q) (os + q * 9) (by kernel_rfl) (wanted_some 4 17 true (by kernel_rfl) (by kernel_rfl) (by kernel_rfl) (by kernel_rfl)) (knows_new (V := isVal (.slice (some ⟨bs, os, none⟩) n cs)) 18 5 (by kernel_rfl) (by kernel_rfl) (by kernel_rfl)) (knows_new (V := isVal (.int .i64 (q : Int))) 22 9 (by kernel_rfl) (by kernel_rfl) (by kernel_rfl)) Tryz.underlying22 (by kernel_rfl) (⟨hqn, rfl⟩), ?_⟩
  refine ⟨isVal (.agg #[.string ⟨X.key.toArray⟩, .int .i64 X.val.kind, .int .i64 X.val.time, .int .i64 X.val.node, .bool X.val.dead, .string ⟨X.val.text.toArray⟩, xp, xm, .int .u64 (X.val.flags.toNat : Int)]), step_loadA 30 (.tmp 23) (bs) (os + q * 9) [.string ⟨X.key.toArray⟩, .int .i64 X.val.kind, .int .i64 X.val.time, .int .i64 X.val.node, .bool X.val.dead, .string ⟨X.val.text.toArray⟩, xp, xm, .int .u64 (X.val.flags.toNat : Int)] (by kernel_rfl) (wanted_some 4 17 true (by kernel_rfl) (by kernel_rfl) (by kernel_rfl) (by kernel_rfl)) (knows_new (V := isVal (.pointer (some ⟨bs, os + q * 9, none⟩))) 23 10 (by kernel_rfl) (by kernel_rfl) (by kernel_rfl)) size_en agg_en (⟨hbs, hxc⟩), ?_⟩
  refine ⟨isVal (.slice (some ⟨bs, os, none⟩) n cs), step_move (.tmp 0) (by kernel_rfl) (wanted_some 4 17 true (by kernel_rfl) (by kernel_rfl) (by kernel_rfl) (by kernel_rfl)) (stable_val _) (knows_old 0 (.slice (some ⟨bs, os, none⟩) n cs) (by kernel_rfl) e0), ?_⟩
  refine ⟨isVal (.int .i64 (i : Int)), step_move (.tmp 4) (by kernel_rfl) (wanted_some 4 17 true (by kernel_rfl) (by kernel_rfl) (by kernel_rfl) (by kernel_rfl)) (stable_val _) (knows_old 4 (.int .i64 (i : Int)) (by kernel_rfl) e4), ?_⟩
  refine ⟨isVal (.pointer (some ⟨bs, os + i * 9, none⟩)), step_placeE 22 30 (.tmp 25) (.tmp 26) bs (os) (n) (cs) (i) (os + i * 9) (by kernel_rfl) (wanted_some 4 17 true (by kernel_rfl) (by kernel_rfl) (by kernel_rfl) (by kernel_rfl)) (knows_new (V := isVal (.slice (some ⟨bs, os, none⟩) n cs)) 25 12 (by kernel_rfl) (by kernel_rfl) (by kernel_rfl)) (knows_new (V := isVal (.int .i64 (i : Int))) 26 13 (by kernel_rfl) (by kernel_rfl) (by kernel_rfl)) Tryz.underlying22 (by kernel_rfl) (⟨hin, rfl⟩), ?_⟩
  refine ⟨isVal (.agg #[.string ⟨Y.key.toArray⟩, .int .i64 Y.val.kind, .int .i64 Y.val.time, .int .i64 Y.val.node, .bool Y.val.dead, .string ⟨Y.val.text.toArray⟩, yp, ym, .int .u64 (Y.val.flags.toNat : Int)]), step_loadA 30 (.tmp 27) (bs) (os + i * 9) [.string ⟨Y.key.toArray⟩, .int .i64 Y.val.kind, .int .i64 Y.val.time, .int .i64 Y.val.node, .bool Y.val.dead, .string ⟨Y.val.text.toArray⟩, yp, ym, .int .u64 (Y.val.flags.toNat : Int)] (by kernel_rfl) (wanted_some 4 17 true (by kernel_rfl) (by kernel_rfl) (by kernel_rfl) (by kernel_rfl)) (knows_new (V := isVal (.pointer (some ⟨bs, os + i * 9, none⟩))) 27 14 (by kernel_rfl) (by kernel_rfl) (by kernel_rfl)) size_en agg_en (⟨hbs, hyc⟩), ?_⟩
  refine ⟨isVal (.bool z), step_call 129 #[.tmp 24, .tmp 28] #[30, 30] #[.agg #[.string ⟨X.key.toArray⟩, .int .i64 X.val.kind, .int .i64 X.val.time, .int .i64 X.val.node, .bool X.val.dead, .string ⟨X.val.text.toArray⟩, xp, xm, .int .u64 (X.val.flags.toNat : Int)], .agg #[.string ⟨Y.key.toArray⟩, .int .i64 Y.val.kind, .int .i64 Y.val.time, .int .i64 Y.val.node, .bool Y.val.dead, .string ⟨Y.val.text.toArray⟩, yp, ym, .int .u64 (Y.val.flags.toNat : Int)]] (by kernel_rfl) (wanted_some 4 17 true (by kernel_rfl) (by kernel_rfl) (by kernel_rfl) (by kernel_rfl)) (stable_val _) (args2 (.tmp 24) (.tmp 28) (.agg #[.string ⟨X.key.toArray⟩, .int .i64 X.val.kind, .int .i64 X.val.time, .int .i64 X.val.node, .bool X.val.dead, .string ⟨X.val.text.toArray⟩, xp, xm, .int .u64 (X.val.flags.toNat : Int)]) (.agg #[.string ⟨Y.key.toArray⟩, .int .i64 Y.val.kind, .int .i64 Y.val.time, .int .i64 Y.val.node, .bool Y.val.dead, .string ⟨Y.val.text.toArray⟩, yp, ym, .int .u64 (Y.val.flags.toNat : Int)]) (knows_new (V := isVal (.agg #[.string ⟨X.key.toArray⟩, .int .i64 X.val.kind, .int .i64 X.val.time, .int .i64 X.val.node, .bool X.val.dead, .string ⟨X.val.text.toArray⟩, xp, xm, .int .u64 (X.val.flags.toNat : Int)])) 24 11 (by kernel_rfl) (by kernel_rfl) (by kernel_rfl)) (knows_new (V := isVal (.agg #[.string ⟨Y.key.toArray⟩, .int .i64 Y.val.kind, .int .i64 Y.val.time, .int .i64 Y.val.node, .bool Y.val.dead, .string ⟨Y.val.text.toArray⟩, yp, ym, .int .u64 (Y.val.flags.toNat : Int)])) 28 15 (by kernel_rfl) (by kernel_rfl) (by kernel_rfl))) (enters_of Tryz.func129 (by kernel_rfl) rfl) (by intro w' hb; exact rless_val X Y z _ _ w' (en_mk hxp hxm hb) (en_mk hyp hym hb) hz), ?_⟩
  refine ⟨isVal (.bool z), step_pick (.tmp 17) (.tmp 29) (.const (.bool false)) true (by kernel_rfl) (wanted_none (by kernel_rfl)) (stable_val _) (knows_new (V := isVal (.bool true)) 17 4 (by kernel_rfl) (by kernel_rfl) (by kernel_rfl)) (knows_new (V := isVal (.bool z)) 29 16 (by kernel_rfl) (by kernel_rfl) (by kernel_rfl)), ?_⟩
  intro a w hkp hb hd
  rw [kept_of hkp [some 13, some 14, some 15, some 16, some 17, some 18, some 19, some 20, some 21, some 22, some 23, some 24, some 25, some 26, some 27, some 28, some 29, some 30] [13, 14, 15, 16, 17, 18, 19, 20, 21, 22, 23, 24, 25, 26, 27, 28, 29, 30] (by kernel_rfl) (by decide)]
  have d30 := fdone_of (hd 17 (by rw [show rix1Ops.size = 18 by kernel_rfl]; decide)) (t := 30) (V := isVal (.bool z)) (by kernel_rfl) (by kernel_rfl)
  exact hQ (fun s => a.tmps.getD s undef) w d30 hb
noncomputable def rix2Ops : Array Oper := regionOf Tryz.f102 6
set_option maxRecDepth 100000 in
set_option maxHeartbeats 2000000 in
theorem rix2_region (Q : Exit → Act → World → Prop) (a0 : Act) (w0 : World) (hsz : a0.tmps.size = 49) (r i co : Nat) (a : Option Addr) (vs : Value) (e5 : a0.tmps.getD 5 undef = .int .i64 (r : Int)) (e3 : a0.tmps.getD 3 undef = .slice a r co) (e0 : a0.tmps.getD 0 undef = vs) (e4 : a0.tmps.getD 4 undef = .int .i64 (i : Int))
    (hQ : ∀ (g : Nat → Value) (w : World), g 30 = .bool false → Below w0.heap.size w0 w → Q .normal { tmps := [13, 14, 15, 16, 17, 18, 19, 20, 21, 22, 23, 24, 25, 26, 27, 28, 29, 30].foldl (fun t s => t.setIfInBounds s (g s)) a0.tmps, defers := a0.defers } w) :
    (Code.region 6 rix2Ops true).wp Tryz.prog Q a0 w0 := by
  refine wp_region_flow mixed (by rw [hsz]; kernel_rfl) ?_
  rw [show rix2Ops.size = 18 by kernel_rfl]
  refine ⟨isVal (.int .i64 (r : Int)), step_move (.tmp 5) (by kernel_rfl) (wanted_none (by kernel_rfl)) (stable_val _) (knows_old 5 (.int .i64 (r : Int)) (by kernel_rfl) e5), ?_⟩
  refine ⟨isVal (.slice a (r) co), step_move (.tmp 3) (by kernel_rfl) (wanted_none (by kernel_rfl)) (stable_val _) (knows_old 3 (.slice a (r) co) (by kernel_rfl) e3), ?_⟩
  refine ⟨isVal (.int .i64 (r : Int)), step_len 23 (.tmp 14) (.slice a (r) co) (.int .i64 (r : Int)) (by kernel_rfl) (wanted_none (by kernel_rfl)) (knows_new (V := isVal (.slice a (r) co)) 14 1 (by kernel_rfl) (by kernel_rfl) (by kernel_rfl)) ((fun ty w => by simp [Builtin.len_, run_underlying Tryz.underlying23]; rfl)), ?_⟩
  refine ⟨isVal (.bool false), step_bin .lss 3 3 (.tmp 13) (.tmp 15) (.int .i64 (r : Int)) (.int .i64 (r : Int)) (.bool false) (by kernel_rfl) (wanted_none (by kernel_rfl)) (knows_new (V := isVal (.int .i64 (r : Int))) 13 0 (by kernel_rfl) (by kernel_rfl) (by kernel_rfl)) (knows_new (V := isVal (.int .i64 (r : Int))) 15 2 (by kernel_rfl) (by kernel_rfl) (by kernel_rfl)) (fun _ => rfl) (lss_int _ _ _ _ _ (by simp)), ?_⟩
  refine ⟨isVal (.bool false), step_move (.tmp 16) (by kernel_rfl) (wanted_none (by kernel_rfl)) (stable_val _) (knows_new (V := isVal (.bool false)) 16 3 (by kernel_rfl) (by kernel_rfl) (by kernel_rfl)), ?_⟩
  refine ⟨_, step_skip 4 17 true false (by kernel_rfl) (by kernel_rfl) (by kernel_rfl) (by kernel_rfl) rfl, ?_⟩
  refine ⟨_, step_skip 4 17 true false (by kernel_rfl) (by kernel_rfl) (by kernel_rfl) (by kernel_rfl) rfl, ?_⟩
  refine ⟨_, step_skip 4 17 true false (by kernel_rfl) (by kernel_rfl) (by kernel_rfl) (by kernel_rfl) rfl, ?_⟩
  refine ⟨_, step_skip 4 17 true false (by kernel_rfl) (by kernel_rfl) (by kernel_rfl) (by kernel_rfl) rfl, ?_⟩
  refine ⟨_, step_skip 4 17 true false (by kernel_rfl) (by kernel_rfl) (by kernel_rfl) (by kernel_rfl) rfl, ?_⟩
  refine ⟨_, step_skip 4 17 true false (by kernel_rfl) (by kernel_rfl) (by kernel_rfl) (by kernel_rfl) rfl, ?_⟩
  refine ⟨_, step_skip 4 17 true false (by kernel_rfl) (by kernel_rfl) (by kernel_rfl) (by kernel_rfl) rfl, ?_⟩
  refine ⟨_, step_skip 4 17 true false (by kernel_rfl) (by kernel_rfl) (by kernel_rfl) (by kernel_rfl) rfl, ?_⟩
  refine ⟨_, step_skip 4 17 true false (by kernel_rfl) (by kernel_rfl) (by kernel_rfl) (by kernel_rfl) rfl, ?_⟩
  refine ⟨_, step_skip 4 17 true false (by kernel_rfl) (by kernel_rfl) (by kernel_rfl) (by kernel_rfl) rfl, ?_⟩
  refine ⟨_, step_skip 4 17 true false (by kernel_rfl) (by kernel_rfl) (by kernel_rfl) (by kernel_rfl) rfl, ?_⟩
  refine ⟨_, step_skip 4 17 true false (by kernel_rfl) (by kernel_rfl) (by kernel_rfl) (by kernel_rfl) rfl, ?_⟩
  refine ⟨isVal (.bool false), step_pick (.tmp 17) (.tmp 29) (.const (.bool false)) false (by kernel_rfl) (wanted_none (by kernel_rfl)) (stable_val _) (knows_new (V := isVal (.bool false)) 17 4 (by kernel_rfl) (by kernel_rfl) (by kernel_rfl)) (knows_const _), ?_⟩
  intro a w hkp hb hd
  rw [kept_of hkp [some 13, some 14, some 15, some 16, some 17, some 18, some 19, some 20, some 21, some 22, some 23, some 24, some 25, some 26, some 27, some 28, some 29, some 30] [13, 14, 15, 16, 17, 18, 19, 20, 21, 22, 23, 24, 25, 26, 27, 28, 29, 30] (by kernel_rfl) (by decide)]
  have d30 := fdone_of (hd 17 (by rw [show rix2Ops.size = 18 by kernel_rfl]; decide)) (t := 30) (V := isVal (.bool false)) (by kernel_rfl) (by kernel_rfl)
  exact hQ (fun s => a.tmps.getD s undef) w d30 hb
noncomputable def rsl1Ops : Array Oper := regionOf Tryz.f128 9
set_option maxRecDepth 100000 in
set_option maxHeartbeats 2000000 in
theorem rsl1_region (Q : Exit → Act → World → Prop) (a0 : Act) (w0 : World) (hsz : a0.tmps.size = 31) (i j n bs os cs : Nat) (z : Bool) (X Y : En) (xp xm yp ym : Value) (e3 : a0.tmps.getD 3 undef = .int .i64 (i : Int)) (e4 : a0.tmps.getD 4 undef = .int .i64 (j : Int)) (e0 : a0.tmps.getD 0 undef = (.slice (some ⟨bs, os, none⟩) n cs)) (hi : i < n) (hj : j < n) (hbs : bs < w0.heap.size) (hxc : ∀ (jj : Nat) (x : Value), [.string ⟨X.key.toArray⟩, .int .i64 X.val.kind, .int .i64 X.val.time, .int .i64 X.val.node, .bool X.val.dead, .string ⟨X.val.text.toArray⟩, xp, xm, .int .u64 (X.val.flags.toNat : Int)][jj]? = some x → w0.cell? ⟨bs, os + i * 9 + jj, none⟩ = some x) (hyc : ∀ (jj : Nat) (x : Value), [.string ⟨Y.key.toArray⟩, .int .i64 Y.val.kind, .int .i64 Y.val.time, .int .i64 Y.val.node, .bool Y.val.dead, .string ⟨Y.val.text.toArray⟩, yp, ym, .int .u64 (Y.val.flags.toNat : Int)][jj]? = some x → w0.cell? ⟨bs, os + j * 9 + jj, none⟩ = some x) (hxp : isCells (X.val.plus.map intC) xp w0) (hxm : isCells (X.val.minus.map intC) xm w0) (hyp : isCells (Y.val.plus.map intC) yp w0) (hym : isCells (Y.val.minus.map intC) ym w0) (hz : nameB X Y = z)
    (hQ : ∀ (g : Nat → Value) (w : World), g 30 = .bool z → Below w0.heap.size w0 w → Q .normal { tmps := [22, 23, 24, 25, 26, 27, 28, 29, 30].foldl (fun t s => t.setIfInBounds s (g s)) a0.tmps, defers := a0.defers } w) :
    (Code.region 9 rsl1Ops true).wp Tryz.prog Q a0 w0 := by
  refine wp_region_flow mixed (by rw [hsz]; kernel_rfl) ?_
  rw [show rsl1Ops.size = 9 by kernel_rfl]
  refine ⟨isVal (.slice (some ⟨bs, os, none⟩) n cs), step_move (.tmp 0) (by kernel_rfl) (wanted_none (by kernel_rfl)) (stable_val _) (knows_old 0 (.slice (some ⟨bs, os, none⟩) n cs) (by kernel_rfl) e0), ?_⟩
  refine ⟨isVal (.int .i64 (i : Int)), step_move (.tmp 3) (by kernel_rfl) (wanted_none (by kernel_rfl)) (stable_val _) (knows_old 3 (.int .i64 (i : Int)) (by kernel_rfl) e3), ?_⟩
  refine ⟨isVal (.pointer (some ⟨bs, os + i * 9, none⟩)), step_placeE 22 30 (.tmp 22) (.tmp 23) bs (os) (n) (cs) (i) (os + i * 9) (by kernel_rfl) (wanted_none (by kernel_rfl)) (knows_new (V := isVal (.slice (some ⟨bs, os, none⟩) n cs)) 22 0 (by kernel_rfl) (by kernel_rfl) (by kernel_rfl)) (knows_new (V := isVal (.int .i64 (i : Int))) 23 1 (by kernel_rfl) (by kernel_rfl) (by kernel_rfl)) Tryz.underlying22 (by kernel_rfl) (⟨hi, rfl⟩), ?_⟩
  refine ⟨isVal (.agg #[.string ⟨X.key.toArray⟩, .int .i64 X.val.kind, .int .i64 X.val.time, .int .i64 X.val.node, .bool X.val.dead, .string ⟨X.val.text.toArray⟩, xp, xm, .int .u64 (X.val.flags.toNat : Int)]), step_loadA 30 (.tmp 24) (bs) (os + i * 9) [.string ⟨X.key.toArray⟩, .int .i64 X.val.kind, .int .i64 X.val.time, .int .i64 X.val.node, .bool X.val.dead, .string ⟨X.val.text.toArray⟩, xp, xm, .int .u64 (X.val.flags.toNat : Int)] (by kernel_rfl) (wanted_none (by kernel_rfl)) (knows_new (V := isVal (.pointer (some ⟨bs, os + i * 9, none⟩))) 24 2 (by kernel_rfl) (by kernel_rfl) (by kernel_rfl)) size_en agg_en (⟨hbs, hxc⟩), ?_⟩
  refine ⟨isVal (.slice (some ⟨bs, os, none⟩) n cs), step_move (.tmp 0) (by kernel_rfl) (wanted_none (by kernel_rfl)) (stable_val _) (knows_old 0 (.slice (some ⟨bs, os, none⟩) n cs) (by kernel_rfl) e0), ?_⟩
  refine ⟨isVal (.int .i64 (j : Int)), step_move (.tmp 4) (by kernel_rfl) (wanted_none (by kernel_rfl)) (stable_val _) (knows_old 4 (.int .i64 (j : Int)) (by kernel_rfl) e4), ?_⟩
  refine ⟨isVal (.pointer (some ⟨bs, os + j * 9, none⟩)), step_placeE 22 30 (.tmp 26) (.tmp 27) bs (os) (n) (cs) (j) (os + j * 9) (by kernel_rfl) (wanted_none (by kernel_rfl)) (knows_new (V := isVal (.slice (some ⟨bs, os, none⟩) n cs)) 26 4 (by kernel_rfl) (by kernel_rfl) (by kernel_rfl)) (knows_new (V := isVal (.int .i64 (j : Int))) 27 5 (by kernel_rfl) (by kernel_rfl) (by kernel_rfl)) Tryz.underlying22 (by kernel_rfl) (⟨hj, rfl⟩), ?_⟩
  refine ⟨isVal (.agg #[.string ⟨Y.key.toArray⟩, .int .i64 Y.val.kind, .int .i64 Y.val.time, .int .i64 Y.val.node, .bool Y.val.dead, .string ⟨Y.val.text.toArray⟩, yp, ym, .int .u64 (Y.val.flags.toNat : Int)]), step_loadA 30 (.tmp 28) (bs) (os + j * 9) [.string ⟨Y.key.toArray⟩, .int .i64 Y.val.kind, .int .i64 Y.val.time, .int .i64 Y.val.node, .bool Y.val.dead, .string ⟨Y.val.text.toArray⟩, yp, ym, .int .u64 (Y.val.flags.toNat : Int)] (by kernel_rfl) (wanted_none (by kernel_rfl)) (knows_new (V := isVal (.pointer (some ⟨bs, os + j * 9, none⟩))) 28 6 (by kernel_rfl) (by kernel_rfl) (by kernel_rfl)) size_en agg_en (⟨hbs, hyc⟩), ?_⟩
  refine ⟨isVal (.bool z), step_call 130 #[.tmp 25, .tmp 29] #[30, 30] #[.agg #[.string ⟨X.key.toArray⟩, .int .i64 X.val.kind, .int .i64 X.val.time, .int .i64 X.val.node, .bool X.val.dead, .string ⟨X.val.text.toArray⟩, xp, xm, .int .u64 (X.val.flags.toNat : Int)], .agg #[.string ⟨Y.key.toArray⟩, .int .i64 Y.val.kind, .int .i64 Y.val.time, .int .i64 Y.val.node, .bool Y.val.dead, .string ⟨Y.val.text.toArray⟩, yp, ym, .int .u64 (Y.val.flags.toNat : Int)]] (by kernel_rfl) (wanted_none (by kernel_rfl)) (stable_val _) (args2 (.tmp 25) (.tmp 29) (.agg #[.string ⟨X.key.toArray⟩, .int .i64 X.val.kind, .int .i64 X.val.time, .int .i64 X.val.node, .bool X.val.dead, .string ⟨X.val.text.toArray⟩, xp, xm, .int .u64 (X.val.flags.toNat : Int)]) (.agg #[.string ⟨Y.key.toArray⟩, .int .i64 Y.val.kind, .int .i64 Y.val.time, .int .i64 Y.val.node, .bool Y.val.dead, .string ⟨Y.val.text.toArray⟩, yp, ym, .int .u64 (Y.val.flags.toNat : Int)]) (knows_new (V := isVal (.agg #[.string ⟨X.key.toArray⟩, .int .i64 X.val.kind, .int .i64 X.val.time, .int .i64 X.val.node, .bool X.val.dead, .string ⟨X.val.text.toArray⟩, xp, xm, .int .u64 (X.val.flags.toNat : Int)])) 25 3 (by kernel_rfl) (by kernel_rfl) (by kernel_rfl)) (knows_new (V := isVal (.agg #[.string ⟨Y.key.toArray⟩, .int .i64 Y.val.kind, .int .i64 Y.val.time, .int .i64 Y.val.node, .bool Y.val.dead, .string ⟨Y.val.text.toArray⟩, yp, ym, .int .u64 (Y.val.flags.toNat : Int)])) 29 7 (by kernel_rfl) (by kernel_rfl) (by kernel_rfl))) (enters_of Tryz.func130 (by kernel_rfl) rfl) (by intro w' hb; exact rname_val X Y z _ _ w' (en_mk hxp hxm hb) (en_mk hyp hym hb) hz), ?_⟩
  intro a w hkp hb hd
  rw [kept_of hkp [some 22, some 23, some 24, some 25, some 26, some 27, some 28, some 29, some 30] [22, 23, 24, 25, 26, 27, 28, 29, 30] (by kernel_rfl) (by decide)]
  have d30 := fdone_of (hd 8 (by rw [show rsl1Ops.size = 9 by kernel_rfl]; decide)) (t := 30) (V := isVal (.bool z)) (by kernel_rfl) (by kernel_rfl)
  exact hQ (fun s => a.tmps.getD s undef) w d30 hb
end Go.Proofs.YtbgconagkgfplaaGreat
end
section
namespace Go.Proofs.YtbgconagkgfplaaGreat
open Go.RowKit
set_option linter.unusedVariables false
set_option linter.unusedSimpArgs false
attribute [local irreducible] setN

theorem idxP_rng (l : List En) : ∀ i, (idxP l i).length = i ∧ ∀ p ∈ idxP l i, 0 ≤ p ∧ p < i
  | 0 => ⟨rfl, fun p hp => by simp [idxP] at hp⟩
  | i + 1 => by
    obtain ⟨h1, h2⟩ := idxP_rng l i
    have hr := rank_le ((idxP l i).map (slotAt l)) (slotAt l i)
    rw [List.length_map] at hr
    refine ⟨?_, ?_⟩
    · show (idxStep l (idxP l i) i).length = _
      unfold idxStep
      rw [List.length_append, List.length_cons, List.length_take, List.length_drop]; omega
    · intro p hp
      have hp : p ∈ idxStep l (idxP l i) i := hp
      unfold idxStep at hp
      rcases List.mem_append.1 hp with hp | hp
      · have := h2 p (List.mem_of_mem_take hp); omega
      · rcases List.mem_cons.1 hp with rfl | hp
        · omega
        · have := h2 p (List.mem_of_mem_drop hp); omega
def IdxPost (l : List En) (w : World) (e : Ending) (w' : World) : Prop := ∃ v', e = .returned v' ∧ OutI w.heap.size v' (idxM l) w' ∧ Below w.heap.size w w'
set_option maxRecDepth 100000 in
set_option maxHeartbeats 2000000 in
theorem rindex_post (l : List En) (v : Value) (w : World) (hv : isEns l v w) (hl : l.length ≤ 1000) : Calls Tryz.prog 102 #[v] w (IdxPost l w) := by
  obtain ⟨va, vc, rfl⟩ := hv.len
  have HV := Kept.mk hv
  clear hv
  generalize hn : l.length = n at *
  have HN := Kept.mk hn
  clear hn
  go_enter Tryz.func102, Tryz.ntmps102
  go_wp2
  go_loopw [3, 4] (fun OV IV WZ => ∃ k : Nat, k ≤ n ∧ IV = .int .i64 (k : Int) ∧ Kept (OutI w.heap.size OV (idxP l k) WZ) ∧ Kept (Below w.heap.size w WZ)) (fun _ IV _ => n - (intOf IV).toNat)
  case atStart => exact ⟨0, Nat.zero_le _, rfl, ⟨outI_nil _ _⟩, ⟨Below.refl _ _⟩⟩
  case round =>
    obtain ⟨k, hk, rfl, O, B⟩ := hrel
    by_cases hlt : k < n
    · have hlt' : (k : Int) < (n : Int) := by omega
      obtain ⟨hlen, hrng⟩ := idxP_rng l k
      obtain ⟨oa, oc, eo⟩ := O.out.len
      rw [hlen] at eo
      subst eo
      have HSTEP : idxP l (k + 1) = idxStep l (idxP l k) k := rfl
      have hRk : rankN ((idxP l k).map (slotAt l)) (slotAt l k) ≤ k := by have := rank_le ((idxP l k).map (slotAt l)) (slotAt l k); rw [List.length_map, hlen] at this; exact this
      obtain ⟨rs1, rs2⟩ := rank_spec (l := (idxP l k).map (slotAt l)) (x := slotAt l k)
      unfold idxStep at HSTEP
      generalize rankN ((idxP l k).map (slotAt l)) (slotAt l k) = R at hRk rs1 rs2 HSTEP
      generalize idxP l k = out at O hlen hrng rs1 rs2 HSTEP
      have HEQ := Kept.mk (show (([] ++ out.take R) ++ [(k : Int)]) ++ out.drop R = idxP l (k + 1) by rw [HSTEP]; simp)
      have HLN := Kept.mk hlen
      have HRG := Kept.mk hrng
      have HR1 := Kept.mk rs1
      have HR2 := Kept.mk rs2
      have HNN := Kept.mk (show ([] : List Int).length + (out.take R).length ≤ 100000 ∧ ([] ++ out.take R).length + [(k : Int)].length ≤ 100000 ∧ (([] ++ out.take R) ++ [(k : Int)]).length + (out.drop R).length ≤ 100000 by simp [hlen]; omega)
      have hY : l[k]? = some (slotAt l k) := slotAt_get (by rw [HN.out]; exact hlt)
      have HY := Kept.mk hY
      clear hlen hrng rs1 rs2 HSTEP hY
      rename World => w5
      go_wp2
      go_loopw [5] (fun RV WZ => ∃ r : Nat, r ≤ R ∧ RV = .int .i64 (r : Int) ∧ Kept (Below w5.heap.size w5 WZ)) (fun RV _ => R - (intOf RV).toNat)
      case atStart => exact ⟨0, Nat.zero_le _, rfl, ⟨Below.refl _ _⟩⟩
      case round =>
        obtain ⟨r, hr, rfl, B2⟩ := hrel
        by_cases h1 : r < k
        · obtain ⟨p, hp⟩ : ∃ p, out[r]? = some p := ⟨_, List.getElem?_eq_getElem (by rw [HLN.out]; exact h1)⟩
          have hpr := HRG.out p (List.mem_of_getElem? hp)
          obtain ⟨q, rfl⟩ : ∃ q : Nat, p = (q : Int) := ⟨p.toNat, by omega⟩
          have hqn : q < n := by omega
          have hX : l[q]? = some (slotAt l (q : Int)) := slotAt_get (by rw [HN.out]; exact hqn)
          have hm : (out.map (slotAt l))[r]? = some (slotAt l (q : Int)) := by rw [List.getElem?_map, hp]; rfl
          obtain ⟨z, hz⟩ : ∃ z, lessE (slotAt l (q : Int)) (slotAt l (k : Int)) = z := ⟨_, rfl⟩
          have HZ := Kept.mk hz
          have hcase : (z = true ∧ r < R) ∨ (z = false ∧ r = R) := by
            by_cases h2 : r < R
            · left; rw [← hz]; exact ⟨HR1.out r _ h2 hm, h2⟩
            · right; have hrR : r = R := by omega
              rw [← hz]; refine ⟨HR2.out _ (by rw [← hrR]; exact hm), hrR⟩
          rcases HV.out.cases_ with ⟨_, _, _, hnil⟩ | ⟨bs, os, cs, ea, hbs, hall⟩
          · rw [hnil] at hX; simp at hX
          · injection ea with ea1 ea2 ea3
            subst ea1 ea3
            obtain ⟨xp, xm, hxc, hxp, hxm⟩ := hall q _ hX
            obtain ⟨yp, ym, hyc, hyp, hym⟩ := hall k _ HY.out
            have Bw := Kept.mk (B.out.trans (B2.out.mono B.out.size))
            obtain ⟨bo, oo, co, eo, hbo, hoc⟩ := (O.out.keep B2.out).cells.some_ (by rw [List.length_map, HLN.out]; omega)
            rw [List.length_map, HLN.out] at eo
            injection eo with eo1 _ eo3
            subst eo1 eo3
            have hq0 := hoc r (intC (q : Int)) (by rw [List.getElem?_map, hp]; rfl)
            have HQ := Kept.mk hq0
            have HXC := Kept.mk hxc
            have HYC := Kept.mk hyc
            generalize slotAt l (q : Int) = X at *
            generalize slotAt l (k : Int) = Y at *
            have hw5 := B2.out.size
            have hww := Bw.out.size
            clear hX hm hz hp hall hxc hyc hoc hq0 ea2
            go_wp2
            refine rix1_region _ _ _ rfl r k k q n bo oo oc bs os vc z X Y xp xm yp ym rfl rfl rfl rfl h1 hqn hlt hbo HQ.out (by omega) (fun j x hx => (Bw.out.cell (p := ⟨bs, os + q * 9 + j, none⟩) hbs).trans (HXC.out j x hx)) (fun j x hx => (Bw.out.cell (p := ⟨bs, os + k * 9 + j, none⟩) hbs).trans (HYC.out j x hx)) (stable_cells _ _ _ _ hxp Bw.out) (stable_cells _ _ _ _ hxm Bw.out) (stable_cells _ _ _ _ hyp Bw.out) (stable_cells _ _ _ _ hym Bw.out) HZ.out ?_
            clear hxp hxm hyp hym HXC HYC HQ
            intro f9 W9 d30 hb9
            simp only [List.foldl_cons, List.foldl_nil, d30]
            generalize f9 13 = y13
            generalize f9 14 = y14
            generalize f9 15 = y15
            generalize f9 16 = y16
            generalize f9 17 = y17
            generalize f9 18 = y18
            generalize f9 19 = y19
            generalize f9 20 = y20
            generalize f9 21 = y21
            generalize f9 22 = y22
            generalize f9 23 = y23
            generalize f9 24 = y24
            generalize f9 25 = y25
            generalize f9 26 = y26
            generalize f9 27 = y27
            generalize f9 28 = y28
            generalize f9 29 = y29
            clear d30
            simp only [List.setIfInBounds_toArray, List.set_cons_succ, List.set_cons_zero]
            replace B2 := Kept.mk (B2.out.trans (hb9.mono hw5))
            clear hb9 Bw
            rcases hcase with ⟨rfl, h2⟩ | ⟨rfl, h2⟩
            · go_wp2
              go_roundw
              case rel => exact ⟨r + 1, by omega, by go_num, B2⟩
              case measure => simp [intOf]; omega
            · obtain rfl : R = r := h2.symm
              have O2 := Kept.mk (O.out.keep B2.out)
              have HRl : R ≤ out.length := by rw [HLN.out]; exact hRk
              rename World => w6
              have S2 := Kept.mk (fun W => srcI_one (k : Int) W)
              have T1 := Kept.mk True.intro
              go_wp2_with (first | (have hz := T1; refine wpList_slice_hi rfl (.tmp 34) (.tmp 35) rfl w.heap.size _ out R rfl rfl O2.out HRl ?_; intro u1 hu1; have S1 := Kept.mk hu1; clear hz T1 hu1; have T2 := Kept.mk True.intro) | (at_builtin; have hz := T2; refine wpList_append_ints rfl (.tmp 33) (.tmp 36) rfl w6.heap.size (.slice none 0 0) [] rfl (outI_nil _ _) u1 (out.take R) rfl S1.out HNN.out.1 (Nat.le_refl _) ?_; intro v1 W1 ho1 hg1; have B3 := Kept.mk (grown_belowI (outI_nil w6.heap.size w6) hg1 (Below.refl _ _) (Nat.le_refl _)); have N1 := Kept.mk (ho1.keep (lit_below W1 (.cells #[.int .i64 (k : Int)] 3))); have B3a := Kept.mk (B3.out.trans ((lit_below W1 (.cells #[.int .i64 (k : Int)] 3)).mono B3.out.size)); clear hz T2 ho1 hg1 S1; have T3 := Kept.mk True.intro) | (at_builtin; have hz := T3; refine wpList_append_ints rfl (.tmp 38) (.tmp 40) rfl w6.heap.size v1 ([] ++ out.take R) rfl N1.out _ [(k : Int)] rfl (S2.out W1) HNN.out.2.1 B3a.out.size ?_; intro v2 W2 ho2 hg2; have N2 := Kept.mk ho2; have B4 := Kept.mk (grown_belowI N1.out hg2 B3a.out (Nat.le_refl _)); have O3 := Kept.mk (O2.out.keep B4.out); clear hz T3 ho2 hg2; have T4 := Kept.mk True.intro) | (have hz := T4; refine wpList_slice_lo rfl (.tmp 43) (.tmp 44) rfl w.heap.size _ out R rfl rfl O3.out HRl ?_; intro u3 hu3; have S3 := Kept.mk hu3; clear hz T4 hu3; have T5 := Kept.mk True.intro) | (at_builtin; have hz := T5; refine wpList_append_ints rfl (.tmp 42) (.tmp 45) rfl w6.heap.size v2 (([] ++ out.take R) ++ [(k : Int)]) rfl N2.out u3 (out.drop R) rfl S3.out HNN.out.2.2 B4.out.size ?_; intro v3 W3 ho3 hg3; have N3 := Kept.mk ho3; have B5 := Kept.mk (grown_belowI N2.out hg3 B4.out (Nat.le_refl _)); clear hz T5 ho3 hg3))
              go_roundw
              case rel => exact ⟨k + 1, by omega, by go_num, ⟨by rw [← HEQ.out]; exact N3.out.low (Nat.le_trans B.out.size B2.out.size)⟩, ⟨B.out.trans ((B2.out.trans (B5.out.mono B2.out.size)).mono B.out.size)⟩⟩
              case measure => simp [intOf]; omega
        · obtain rfl : R = r := by omega
          have HRK := Kept.mk (show R = k by omega)
          go_wp2
          refine rix2_region _ _ _ rfl R k oc oa _ rfl (by rw [HRK.out]; rfl) rfl rfl ?_
          intro f9 W9 d30 hb9
          simp only [List.foldl_cons, List.foldl_nil, d30]
          generalize f9 13 = y13
          generalize f9 14 = y14
          generalize f9 15 = y15
          generalize f9 16 = y16
          generalize f9 17 = y17
          generalize f9 18 = y18
          generalize f9 19 = y19
          generalize f9 20 = y20
          generalize f9 21 = y21
          generalize f9 22 = y22
          generalize f9 23 = y23
          generalize f9 24 = y24
          generalize f9 25 = y25
          generalize f9 26 = y26
          generalize f9 27 = y27
          generalize f9 28 = y28
          generalize f9 29 = y29
          clear d30
          simp only [List.setIfInBounds_toArray, List.set_cons_succ, List.set_cons_zero]
          have hw5 := B2.out.size
          replace B2 := Kept.mk (B2.out.trans (hb9.mono hw5))
          clear hb9
          have O2 := Kept.mk (O.out.keep B2.out)
          have HRl : R ≤ out.length := by rw [HLN.out]; exact hRk
          rename World => w6
          have S2 := Kept.mk (fun W => srcI_one (k : Int) W)
          have T1 := Kept.mk True.intro
          go_wp2_with (first | (have hz := T1; refine wpList_slice_hi rfl (.tmp 34) (.tmp 35) rfl w.heap.size _ out R rfl rfl O2.out HRl ?_; intro u1 hu1; have S1 := Kept.mk hu1; clear hz T1 hu1; have T2 := Kept.mk True.intro) | (at_builtin; have hz := T2; refine wpList_append_ints rfl (.tmp 33) (.tmp 36) rfl w6.heap.size (.slice none 0 0) [] rfl (outI_nil _ _) u1 (out.take R) rfl S1.out HNN.out.1 (Nat.le_refl _) ?_; intro v1 W1 ho1 hg1; have B3 := Kept.mk (grown_belowI (outI_nil w6.heap.size w6) hg1 (Below.refl _ _) (Nat.le_refl _)); have N1 := Kept.mk (ho1.keep (lit_below W1 (.cells #[.int .i64 (k : Int)] 3))); have B3a := Kept.mk (B3.out.trans ((lit_below W1 (.cells #[.int .i64 (k : Int)] 3)).mono B3.out.size)); clear hz T2 ho1 hg1 S1; have T3 := Kept.mk True.intro) | (at_builtin; have hz := T3; refine wpList_append_ints rfl (.tmp 38) (.tmp 40) rfl w6.heap.size v1 ([] ++ out.take R) rfl N1.out _ [(k : Int)] rfl (S2.out W1) HNN.out.2.1 B3a.out.size ?_; intro v2 W2 ho2 hg2; have N2 := Kept.mk ho2; have B4 := Kept.mk (grown_belowI N1.out hg2 B3a.out (Nat.le_refl _)); have O3 := Kept.mk (O2.out.keep B4.out); clear hz T3 ho2 hg2; have T4 := Kept.mk True.intro) | (have hz := T4; refine wpList_slice_lo rfl (.tmp 43) (.tmp 44) rfl w.heap.size _ out R rfl rfl O3.out HRl ?_; intro u3 hu3; have S3 := Kept.mk hu3; clear hz T4 hu3; have T5 := Kept.mk True.intro) | (at_builtin; have hz := T5; refine wpList_append_ints rfl (.tmp 42) (.tmp 45) rfl w6.heap.size v2 (([] ++ out.take R) ++ [(k : Int)]) rfl N2.out u3 (out.drop R) rfl S3.out HNN.out.2.2 B4.out.size ?_; intro v3 W3 ho3 hg3; have N3 := Kept.mk ho3; have B5 := Kept.mk (grown_belowI N2.out hg3 B4.out (Nat.le_refl _)); clear hz T5 ho3 hg3))
          go_roundw
          case rel => exact ⟨k + 1, by omega, by go_num, ⟨by rw [← HEQ.out]; exact N3.out.low (Nat.le_trans B.out.size B2.out.size)⟩, ⟨B.out.trans ((B2.out.trans (B5.out.mono B2.out.size)).mono B.out.size)⟩⟩
          case measure => simp [intOf]; omega
    · have hlt' : ¬ (k : Int) < (n : Int) := by omega
      obtain rfl : k = n := by omega
      have HE := Kept.mk (show idxM l = idxP l k by unfold idxM; rw [HN.out])
      go_wp2
      go_ret
      exact ⟨_, rfl, by rw [HE.out]; exact O.out, B.out⟩
end Go.Proofs.YtbgconagkgfplaaGreat
end
section
namespace Go.Proofs.YtbgconagkgfplaaGreat
open Go.RowKit
set_option linter.unusedVariables false
set_option linter.unusedSimpArgs false
attribute [local irreducible] setN

theorem slots_snoc {m : List En} {x : En} : slotsB (m ++ [x]) = true ↔ slotsB m = true ∧ okE x = true ∧ ∀ y ∈ m, nameB x y = false := by
  unfold slotsB apartB
  simp only [Bool.and_eq_true, decide_eq_true_eq, List.all_append, List.all_cons, List.all_nil, Bool.and_true, List.pairwise_append, List.pairwise_cons, List.not_mem_nil, List.mem_singleton, List.Pairwise.nil]
  constructor
  · rintro ⟨⟨h1, h2⟩, h3, _, h4⟩; exact ⟨⟨h1, h3⟩, h2, fun y hy => h4 y hy x rfl⟩
  · rintro ⟨⟨h1, h3⟩, h2, h4⟩; exact ⟨⟨h1, h2⟩, h3, ⟨fun _ h => h.elim, trivial⟩, fun y hy b hb => by rw [hb]; exact h4 y hy⟩
theorem slots_bad {l : List En} {k : Nat} {x : En} (h : l[k]? = some x) (hx : okE x = false) : slotsB l = false := by
  unfold slotsB
  rw [show l.all okE = false by rw [List.all_eq_false]; exact ⟨x, List.mem_of_getElem? h, by rw [hx]; decide⟩]; rfl
theorem slots_twice {l : List En} {k j : Nat} {x y : En} (h : l[k]? = some x) (hj : l[j]? = some y) (hlt : j < k) (hn : nameB x y = true) : slotsB l = false := by
  unfold slotsB
  cases ha : apartB l with
  | false => simp
  | true => rw [apart_at ha h hj hlt] at hn; cases hn
theorem rechk_at (E : En) (r : Bool) (v : Value) (w : World) (hv : isEn E v w) (hF : FitE E) (hr : okE E = r) : Calls Tryz.prog 101 #[v] w fun e w' => e = .returned (.bool r) ∧ Below w.heap.size w w' := by subst hr; exact rechk_any E v w hv hF
set_option maxRecDepth 100000 in
set_option maxHeartbeats 2000000 in
theorem rslots_any (l : List En) (v : Value) (w : World) (hv : isEns l v w) (hl : l.length ≤ 1000) (fl : ∀ e ∈ l, FitE e) : Calls Tryz.prog 128 #[v] w fun e w' => e = .returned (.bool (slotsB l)) ∧ Below w.heap.size w w' := by
  obtain ⟨va, vc, rfl⟩ := hv.len
  have HV := Kept.mk hv
  have FL := Kept.mk fl
  clear hv fl
  obtain ⟨S, hS⟩ : ∃ S, slotsB l = S := ⟨_, rfl⟩
  rw [hS]
  have HS := Kept.mk hS
  clear hS
  generalize hn : l.length = n at *
  have HN := Kept.mk hn
  clear hn
  go_enter Tryz.func128, Tryz.ntmps128
  go_wp2
  go_loopw [3] (fun IV WZ => ∃ k : Nat, k ≤ n ∧ IV = .int .i64 (k : Int) ∧ Kept (slotsB (l.take k) = true) ∧ Kept (Below w.heap.size w WZ)) (fun IV _ => n - (intOf IV).toNat)
  case atStart => exact ⟨0, Nat.zero_le _, rfl, ⟨by rw [List.take_zero]; rfl⟩, ⟨Below.refl _ _⟩⟩
  case round =>
    obtain ⟨k, hk, rfl, A, B⟩ := hrel
    by_cases hlt : k < n
    · have hlt' : (k : Int) < (n : Int) := by omega
      obtain ⟨X, hX⟩ : ∃ X, l[k]? = some X := ⟨_, List.getElem?_eq_getElem (by rw [HN.out]; exact hlt)⟩
      have HX := Kept.mk hX
      rcases HV.out.cases_ with ⟨_, _, _, hnil⟩ | ⟨bs, os, cs, ea, hbs, hall⟩
      · rw [hnil] at hX; simp at hX
      · injection ea with ea1 ea2 ea3
        subst ea1 ea3
        have HALL := Kept.mk hall
        obtain ⟨xp, xm, hxc, hxp, hxm⟩ := hall k X hX
        have HXC := Kept.mk hxc
        have HXP := Kept.mk hxp
        have HXM := Kept.mk hxm
        have FX := Kept.mk (FL.out X (List.mem_of_getElem? hX))
        have kx0 : wr.cell? ⟨bs, os + k * 9, none⟩ = _ := (B.out.cell (p := ⟨bs, os + k * 9 + 0, none⟩) hbs).trans (hxc 0 _ rfl)
        have kx1 : wr.cell? ⟨bs, os + k * 9 + 1, none⟩ = _ := (B.out.cell (p := ⟨bs, os + k * 9 + 1, none⟩) hbs).trans (hxc 1 _ rfl)
        have kx2 : wr.cell? ⟨bs, os + k * 9 + 2, none⟩ = _ := (B.out.cell (p := ⟨bs, os + k * 9 + 2, none⟩) hbs).trans (hxc 2 _ rfl)
        have kx3 : wr.cell? ⟨bs, os + k * 9 + 3, none⟩ = _ := (B.out.cell (p := ⟨bs, os + k * 9 + 3, none⟩) hbs).trans (hxc 3 _ rfl)
        have kx4 : wr.cell? ⟨bs, os + k * 9 + 4, none⟩ = _ := (B.out.cell (p := ⟨bs, os + k * 9 + 4, none⟩) hbs).trans (hxc 4 _ rfl)
        have kx5 : wr.cell? ⟨bs, os + k * 9 + 5, none⟩ = _ := (B.out.cell (p := ⟨bs, os + k * 9 + 5, none⟩) hbs).trans (hxc 5 _ rfl)
        have kx6 : wr.cell? ⟨bs, os + k * 9 + 6, none⟩ = _ := (B.out.cell (p := ⟨bs, os + k * 9 + 6, none⟩) hbs).trans (hxc 6 _ rfl)
        have kx7 : wr.cell? ⟨bs, os + k * 9 + 7, none⟩ = _ := (B.out.cell (p := ⟨bs, os + k * 9 + 7, none⟩) hbs).trans (hxc 7 _ rfl)
        have kx8 : wr.cell? ⟨bs, os + k * 9 + 8, none⟩ = _ := (B.out.cell (p := ⟨bs, os + k * 9 + 8, none⟩) hbs).trans (hxc 8 _ rfl)
        obtain ⟨c, hc⟩ : ∃ c, okE X = c := ⟨_, rfl⟩
        have HC := Kept.mk hc
        clear hX hall hxc hxp hxm ea2 hc
        go_wp2_with fail
        refine (rechk_at X c _ _ (en_mk HXP.out HXM.out B.out) FX.out HC.out).mono ?_
        rintro e W1 ⟨rfl, hb⟩
        replace B := Kept.mk (B.out.trans (hb.mono B.out.size))
        clear hb kx0 kx1 kx2 kx3 kx4 kx5 kx6 kx7 kx8
        cases c with
        | false =>
          have HF := Kept.mk (show S = false by rw [← HS.out]; exact slots_bad HX.out HC.out)
          go_wp2
          go_ret
          exact ⟨by rw [HF.out]; rfl, B.out⟩
        | true =>
          go_wp2
          go_loopw [4] (fun JV WZ => ∃ j : Nat, j ≤ k ∧ JV = .int .i64 (j : Int) ∧ Kept (∀ m y, m < j → l[m]? = some y → nameB X y = false) ∧ Kept (Below w.heap.size w WZ)) (fun JV _ => k - (intOf JV).toNat)
          case atStart => exact ⟨0, Nat.zero_le _, rfl, ⟨fun m y h => absurd h (Nat.not_lt_zero _)⟩, B⟩
          case round =>
            clear B
            obtain ⟨j, hj, rfl, AJ, B⟩ := hrel
            by_cases hjk : j < k
            · have hjk' : (j : Int) < (k : Int) := by omega
              obtain ⟨Y, hY⟩ : ∃ Y, l[j]? = some Y := ⟨_, List.getElem?_eq_getElem (by rw [HN.out]; omega)⟩
              have HY := Kept.mk hY
              obtain ⟨yp, ym, hyc, hyp, hym⟩ := HALL.out j Y hY
              have HYC := Kept.mk hyc
              obtain ⟨z, hz⟩ : ∃ z, nameB X Y = z := ⟨_, rfl⟩
              have HZ := Kept.mk hz
              have hsw := B.out.size
              clear hY hyc hz
              go_wp2
              refine rsl1_region _ _ _ rfl k j n bs os vc z X Y xp xm yp ym rfl rfl rfl hlt (by omega) (by omega) (fun jj x hx => (B.out.cell (p := ⟨bs, os + k * 9 + jj, none⟩) hbs).trans (HXC.out jj x hx)) (fun jj x hx => (B.out.cell (p := ⟨bs, os + j * 9 + jj, none⟩) hbs).trans (HYC.out jj x hx)) (stable_cells _ _ _ _ HXP.out B.out) (stable_cells _ _ _ _ HXM.out B.out) (stable_cells _ _ _ _ hyp B.out) (stable_cells _ _ _ _ hym B.out) HZ.out ?_
              intro f9 W9 d30 hb9
              simp only [List.foldl_cons, List.foldl_nil, d30]
              generalize f9 22 = y22
              generalize f9 23 = y23
              generalize f9 24 = y24
              generalize f9 25 = y25
              generalize f9 26 = y26
              generalize f9 27 = y27
              generalize f9 28 = y28
              generalize f9 29 = y29
              clear d30
              simp only [List.setIfInBounds_toArray, List.set_cons_succ, List.set_cons_zero]
              replace B := Kept.mk (B.out.trans (hb9.mono hsw))
              clear hb9 hyp hym HYC
              cases z with
              | true =>
                have HF := Kept.mk (show S = false by rw [← HS.out]; exact slots_twice HX.out HY.out hjk HZ.out)
                go_wp2
                go_ret
                exact ⟨by rw [HF.out]; rfl, B.out⟩
              | false =>
                go_wp2
                go_roundw
                case rel =>
                  refine ⟨j + 1, by omega, by go_num, ⟨fun m y hm hy => ?_⟩, B⟩
                  by_cases e : m = j
                  · subst e; rw [HY.out] at hy; injection hy with hy; rw [← hy]; exact HZ.out
                  · exact AJ.out m y (by omega) hy
                case measure => simp [intOf]; omega
            · have hjk' : ¬ (j : Int) < (k : Int) := by omega
              go_wp2
              go_roundw
              case rel =>
                refine ⟨k + 1, by omega, by go_num, ⟨?_⟩, B⟩
                rw [List.take_add_one, HX.out]
                refine slots_snoc.2 ⟨A.out, HC.out, fun y hy => ?_⟩
                obtain ⟨m, hm⟩ := List.getElem?_of_mem hy
                have hmk : m < k := by have := (List.getElem?_eq_some_iff.1 hm).1; rw [List.length_take] at this; omega
                rw [List.getElem?_take_of_lt hmk] at hm
                exact AJ.out m y (by omega) hm
              case measure => simp [intOf]; omega
    · have hlt' : ¬ (k : Int) < (n : Int) := by omega
      have HF := Kept.mk (show S = true by rw [← HS.out, ← A.out, List.take_of_length_le (by rw [HN.out]; omega)])
      go_wp2
      go_ret
      exact ⟨by rw [HF.out]; rfl, B.out⟩
theorem call_vb {f : FuncId} {vs : Array Value} {w : World} {r : Value} (h : Calls Tryz.prog f vs w fun e w' => e = .returned r ∧ Below w.heap.size w w') : Calls Tryz.prog f vs w fun e w' => ∃ x, e = .returned x ∧ isVal r x w' ∧ Below w.heap.size w w' := h.mono (by rintro e w' ⟨rfl, hb⟩; exact ⟨_, rfl, rfl, hb⟩)
theorem rslots_at (l : List En) (r : Bool) (v : Value) (w : World) (hv : isEns l v w) (hl : l.length ≤ 1000) (fl : ∀ e ∈ l, FitE e) (hr : slotsB l = r) : Calls Tryz.prog 128 #[v] w fun e w' => e = .returned (.bool r) ∧ Below w.heap.size w w' := by subst hr; exact rslots_any l v w hv hl fl
theorem rindex_pred (l : List En) (v : Value) (w : World) (hv : isEns l v w) (hl : l.length ≤ 1000) : Calls Tryz.prog 102 #[v] w fun e w' => ∃ x, e = .returned x ∧ isCells ((idxM l).map intC) x w' ∧ Below w.heap.size w w' :=
  (rindex_post l v w hv hl).mono (by rintro e w' ⟨v', rfl, h1, hb⟩; exact ⟨_, rfl, h1.cells, hb⟩)
theorem rints_at (a b : List Int) (r : Bool) (v u : Value) (w : World) (hv : isCells (a.map intC) v w) (hu : isCells (b.map intC) u w) (ha : a.length ≤ 100000) (hb : b.length ≤ 100000) (hr : decide (a = b) = r) : Calls Tryz.prog 51 #[v, u] w fun e w' => e = .returned (.bool r) ∧ Below w.heap.size w w' := by subst hr; exact refInts_any a b v u w hv hu (by omega) (by omega)
theorem geq_int {P : Program} (t : TypeId) (k : IntKind) (x y : Int) (b : Bool) (h : decide (y ≤ x) = b) (w : World) : (binOp .geq t (.int k x) (.int k y)).run P w = .ok (.bool b) w := by subst h; simp [go_sem]
theorem leq_int {P : Program} (t : TypeId) (k : IntKind) (x y : Int) (b : Bool) (h : decide (x ≤ y) = b) (w : World) : (binOp .leq t (.int k x) (.int k y)).run P w = .ok (.bool b) w := by subst h; simp [go_sem]
noncomputable def rck0Ops : Array Oper := regionOf Tryz.f100 1
set_option maxRecDepth 100000 in
set_option maxHeartbeats 2000000 in
theorem rck0_region (Q : Exit → Act → World → Prop) (a0 : Act) (w0 : World) (hsz : a0.tmps.size = 32) (g n sc : Nat) (c : Int) (sa : Option Addr) (vi : Value) (L : List En) (idx : List Int) (z : Bool) (e1 : a0.tmps.getD 1 undef = .pointer (some ⟨g, 0, none⟩)) (HG : CellsN w0 g [.int .i64 c, .slice sa n sc, vi]) (hs : isEns L (.slice sa n sc) w0) (hi : isCells (idx.map intC) vi w0) (hL : L.length ≤ 1000) (hI : idx.length ≤ 100000) (fL : ∀ e ∈ L, FitE e) (h1 : decide (1 ≤ c) = false)
    (hQ : ∀ (g : Nat → Value) (w : World), g 2 = .bool false → Below w0.heap.size w0 w → Q .normal { tmps := [3, 4, 5, 6, 7, 8, 9, 10, 11, 12, 13, 14, 15, 16, 17, 18, 19, 20, 21, 22, 23, 24, 25, 26, 27, 28, 29, 30, 31, 2].foldl (fun t s => t.setIfInBounds s (g s)) a0.tmps, defers := a0.defers } w) :
    (Code.region 1 rck0Ops true).wp Tryz.prog Q a0 w0 := by
  refine wp_region_flow mixed (by rw [hsz]; kernel_rfl) ?_
  rw [show rck0Ops.size = 30 by kernel_rfl]
  refine ⟨isVal (.pointer (some ⟨g, 0, none⟩)), step_field 25 (.tmp 1) 0 ⟨g, 0, none⟩ ⟨g, 0, none⟩ (by kernel_rfl) (wanted_none (by kernel_rfl)) (knows_old 1 (.pointer (some ⟨g, 0, none⟩)) (by kernel_rfl) e1) (f_ar_0_0 (g)), ?_⟩
  refine ⟨isVal (.int .i64 c), step_read 3 (.tmp 3) ⟨g, 0, none⟩ (.int .i64 c) (by kernel_rfl) (wanted_none (by kernel_rfl)) (knows_new (V := isVal (.pointer (some ⟨g, 0, none⟩))) 3 0 (by kernel_rfl) (by kernel_rfl) (by kernel_rfl)) (HG.2 0 _ rfl) (HG.1) (agg_noZ), ?_⟩
  refine ⟨isVal (.bool false), step_bin .geq 3 3 (.tmp 4) (.const (.int .i64 1)) (.int .i64 c) (.int .i64 1) (.bool false) (by kernel_rfl) (wanted_none (by kernel_rfl)) (knows_new (V := isVal (.int .i64 c)) 4 1 (by kernel_rfl) (by kernel_rfl) (by kernel_rfl)) (knows_const _) (fun _ => rfl) (geq_int _ _ _ _ _ h1), ?_⟩
  refine ⟨isVal (.bool false), step_move (.tmp 5) (by kernel_rfl) (wanted_none (by kernel_rfl)) (stable_val _) (knows_new (V := isVal (.bool false)) 5 2 (by kernel_rfl) (by kernel_rfl) (by kernel_rfl)), ?_⟩
  refine ⟨_, step_skip 3 6 true false (by kernel_rfl) (by kernel_rfl) (by kernel_rfl) (by kernel_rfl) rfl, ?_⟩
  refine ⟨_, step_skip 3 6 true false (by kernel_rfl) (by kernel_rfl) (by kernel_rfl) (by kernel_rfl) rfl, ?_⟩
  refine ⟨_, step_skip 3 6 true false (by kernel_rfl) (by kernel_rfl) (by kernel_rfl) (by kernel_rfl) rfl, ?_⟩
  refine ⟨isVal (.bool false), step_pick (.tmp 6) (.tmp 9) (.const (.bool false)) false (by kernel_rfl) (wanted_none (by kernel_rfl)) (stable_val _) (knows_new (V := isVal (.bool false)) 6 3 (by kernel_rfl) (by kernel_rfl) (by kernel_rfl)) (knows_const _), ?_⟩
  refine ⟨isVal (.bool false), step_move (.tmp 10) (by kernel_rfl) (wanted_none (by kernel_rfl)) (stable_val _) (knows_new (V := isVal (.bool false)) 10 7 (by kernel_rfl) (by kernel_rfl) (by kernel_rfl)), ?_⟩
  refine ⟨_, step_skip 8 11 true false (by kernel_rfl) (by kernel_rfl) (by kernel_rfl) (by kernel_rfl) rfl, ?_⟩
  refine ⟨_, step_skip 8 11 true false (by kernel_rfl) (by kernel_rfl) (by kernel_rfl) (by kernel_rfl) rfl, ?_⟩
  refine ⟨_, step_skip 8 11 true false (by kernel_rfl) (by kernel_rfl) (by kernel_rfl) (by kernel_rfl) rfl, ?_⟩
  refine ⟨_, step_skip 8 11 true false (by kernel_rfl) (by kernel_rfl) (by kernel_rfl) (by kernel_rfl) rfl, ?_⟩
  refine ⟨_, step_skip 8 11 true false (by kernel_rfl) (by kernel_rfl) (by kernel_rfl) (by kernel_rfl) rfl, ?_⟩
  refine ⟨_, step_skip 8 11 true false (by kernel_rfl) (by kernel_rfl) (by kernel_rfl) (by kernel_rfl) rfl, ?_⟩
  refine ⟨isVal (.bool false), step_pick (.tmp 11) (.tmp 17) (.const (.bool false)) false (by kernel_rfl) (wanted_none (by kernel_rfl)) (stable_val _) (knows_new (V := isVal (.bool false)) 11 8 (by kernel_rfl) (by kernel_rfl) (by kernel_rfl)) (knows_const _), ?_⟩
  refine ⟨isVal (.bool false), step_move (.tmp 18) (by kernel_rfl) (wanted_none (by kernel_rfl)) (stable_val _) (knows_new (V := isVal (.bool false)) 18 15 (by kernel_rfl) (by kernel_rfl) (by kernel_rfl)), ?_⟩
  refine ⟨_, step_skip 16 19 true false (by kernel_rfl) (by kernel_rfl) (by kernel_rfl) (by kernel_rfl) rfl, ?_⟩
  refine ⟨_, step_skip 16 19 true false (by kernel_rfl) (by kernel_rfl) (by kernel_rfl) (by kernel_rfl) rfl, ?_⟩
  refine ⟨_, step_skip 16 19 true false (by kernel_rfl) (by kernel_rfl) (by kernel_rfl) (by kernel_rfl) rfl, ?_⟩
  refine ⟨isVal (.bool false), step_pick (.tmp 19) (.tmp 22) (.const (.bool false)) false (by kernel_rfl) (wanted_none (by kernel_rfl)) (stable_val _) (knows_new (V := isVal (.bool false)) 19 16 (by kernel_rfl) (by kernel_rfl) (by kernel_rfl)) (knows_const _), ?_⟩
  refine ⟨isVal (.bool false), step_move (.tmp 23) (by kernel_rfl) (wanted_none (by kernel_rfl)) (stable_val _) (knows_new (V := isVal (.bool false)) 23 20 (by kernel_rfl) (by kernel_rfl) (by kernel_rfl)), ?_⟩
  refine ⟨_, step_skip 21 24 true false (by kernel_rfl) (by kernel_rfl) (by kernel_rfl) (by kernel_rfl) rfl, ?_⟩
  refine ⟨_, step_skip 21 24 true false (by kernel_rfl) (by kernel_rfl) (by kernel_rfl) (by kernel_rfl) rfl, ?_⟩
  refine ⟨_, step_skip 21 24 true false (by kernel_rfl) (by kernel_rfl) (by kernel_rfl) (by kernel_rfl) rfl, ?_⟩
  refine ⟨_, step_skip 21 24 true false (by kernel_rfl) (by kernel_rfl) (by kernel_rfl) (by kernel_rfl) rfl, ?_⟩
  refine ⟨_, step_skip 21 24 true false (by kernel_rfl) (by kernel_rfl) (by kernel_rfl) (by kernel_rfl) rfl, ?_⟩
  refine ⟨_, step_skip 21 24 true false (by kernel_rfl) (by kernel_rfl) (by kernel_rfl) (by kernel_rfl) rfl, ?_⟩
  refine ⟨isVal (.bool false), step_pick (.tmp 24) (.tmp 30) (.const (.bool false)) false (by kernel_rfl) (wanted_none (by kernel_rfl)) (stable_val _) (knows_new (V := isVal (.bool false)) 24 21 (by kernel_rfl) (by kernel_rfl) (by kernel_rfl)) (knows_const _), ?_⟩
  refine ⟨isVal (.bool false), step_assign (.tmp 31) (by kernel_rfl) (wanted_none (by kernel_rfl)) (stable_val _) (knows_new (V := isVal (.bool false)) 31 28 (by kernel_rfl) (by kernel_rfl) (by kernel_rfl)), ?_⟩
  intro a w hkp hb hd
  rw [kept_of hkp [some 3, some 4, some 5, some 6, some 7, some 8, some 9, some 10, some 11, some 12, some 13, some 14, some 15, some 16, some 17, some 18, some 19, some 20, some 21, some 22, some 23, some 24, some 25, some 26, some 27, some 28, some 29, some 30, some 31, some 2] [3, 4, 5, 6, 7, 8, 9, 10, 11, 12, 13, 14, 15, 16, 17, 18, 19, 20, 21, 22, 23, 24, 25, 26, 27, 28, 29, 30, 31, 2] (by kernel_rfl) (by decide)]
  have d2 := fdone_of (hd 29 (by rw [show rck0Ops.size = 30 by kernel_rfl]; decide)) (t := 2) (V := isVal (.bool false)) (by kernel_rfl) (by kernel_rfl)
  exact hQ (fun s => a.tmps.getD s undef) w d2 hb
noncomputable def rck1Ops : Array Oper := regionOf Tryz.f100 1
set_option maxRecDepth 100000 in
set_option maxHeartbeats 2000000 in
theorem rck1_region (Q : Exit → Act → World → Prop) (a0 : Act) (w0 : World) (hsz : a0.tmps.size = 32) (g n sc : Nat) (c : Int) (sa : Option Addr) (vi : Value) (L : List En) (idx : List Int) (z : Bool) (e1 : a0.tmps.getD 1 undef = .pointer (some ⟨g, 0, none⟩)) (HG : CellsN w0 g [.int .i64 c, .slice sa n sc, vi]) (hs : isEns L (.slice sa n sc) w0) (hi : isCells (idx.map intC) vi w0) (hL : L.length ≤ 1000) (hI : idx.length ≤ 100000) (fL : ∀ e ∈ L, FitE e) (h1 : decide (1 ≤ c) = true) (h2 : decide (c ≤ 8) = false)
    (hQ : ∀ (g : Nat → Value) (w : World), g 2 = .bool false → Below w0.heap.size w0 w → Q .normal { tmps := [3, 4, 5, 6, 7, 8, 9, 10, 11, 12, 13, 14, 15, 16, 17, 18, 19, 20, 21, 22, 23, 24, 25, 26, 27, 28, 29, 30, 31, 2].foldl (fun t s => t.setIfInBounds s (g s)) a0.tmps, defers := a0.defers } w) :
    (Code.region 1 rck1Ops true).wp Tryz.prog Q a0 w0 := by
  refine wp_region_flow mixed (by rw [hsz]; kernel_rfl) ?_
  rw [show rck1Ops.size = 30 by kernel_rfl]
  refine ⟨isVal (.pointer (some ⟨g, 0, none⟩)), step_field 25 (.tmp 1) 0 ⟨g, 0, none⟩ ⟨g, 0, none⟩ (by kernel_rfl) (wanted_none (by kernel_rfl)) (knows_old 1 (.pointer (some ⟨g, 0, none⟩)) (by kernel_rfl) e1) (f_ar_0_0 (g)), ?_⟩
  refine ⟨isVal (.int .i64 c), step_read 3 (.tmp 3) ⟨g, 0, none⟩ (.int .i64 c) (by kernel_rfl) (wanted_none (by kernel_rfl)) (knows_new (V := isVal (.pointer (some ⟨g, 0, none⟩))) 3 0 (by kernel_rfl) (by kernel_rfl) (by kernel_rfl)) (HG.2 0 _ rfl) (HG.1) (agg_noZ), ?_⟩
  refine ⟨isVal (.bool true), step_bin .geq 3 3 (.tmp 4) (.const (.int .i64 1)) (.int .i64 c) (.int .i64 1) (.bool true) (by kernel_rfl) (wanted_none (by kernel_rfl)) (knows_new (V := isVal (.int .i64 c)) 4 1 (by kernel_rfl) (by kernel_rfl) (by kernel_rfl)) (knows_const _) (fun _ => rfl) (geq_int _ _ _ _ _ h1), ?_⟩
  refine ⟨isVal (.bool true), step_move (.tmp 5) (by kernel_rfl) (wanted_none (by kernel_rfl)) (stable_val _) (knows_new (V := isVal (.bool true)) 5 2 (by kernel_rfl) (by kernel_rfl) (by kernel_rfl)), ?_⟩
  refine ⟨isVal (.pointer (some ⟨g, 0, none⟩)), step_field 25 (.tmp 1) 0 ⟨g, 0, none⟩ ⟨g, 0, none⟩ (by kernel_rfl) (wanted_some 3 6 true (by kernel_rfl) (by kernel_rfl) (by kernel_rfl) (by kernel_rfl)) (knows_old 1 (.pointer (some ⟨g, 0, none⟩)) (by kernel_rfl) e1) (f_ar_0_0 (g)), ?_⟩
  refine ⟨isVal (.int .i64 c), step_read 3 (.tmp 7) ⟨g, 0, none⟩ (.int .i64 c) (by kernel_rfl) (wanted_some 3 6 true (by kernel_rfl) (by kernel_rfl) (by kernel_rfl) (by kernel_rfl)) (knows_new (V := isVal (.pointer (some ⟨g, 0, none⟩))) 7 4 (by kernel_rfl) (by kernel_rfl) (by kernel_rfl)) (HG.2 0 _ rfl) (HG.1) (agg_noZ), ?_⟩
  refine ⟨isVal (.bool false), step_bin .leq 3 3 (.tmp 8) (.const (.int .i64 8)) (.int .i64 c) (.int .i64 8) (.bool false) (by kernel_rfl) (wanted_some 3 6 true (by kernel_rfl) (by kernel_rfl) (by kernel_rfl) (by kernel_rfl)) (knows_new (V := isVal (.int .i64 c)) 8 5 (by kernel_rfl) (by kernel_rfl) (by kernel_rfl)) (knows_const _) (fun _ => rfl) (leq_int _ _ _ _ _ h2), ?_⟩
  refine ⟨isVal (.bool false), step_pick (.tmp 6) (.tmp 9) (.const (.bool false)) true (by kernel_rfl) (wanted_none (by kernel_rfl)) (stable_val _) (knows_new (V := isVal (.bool true)) 6 3 (by kernel_rfl) (by kernel_rfl) (by kernel_rfl)) (knows_new (V := isVal (.bool false)) 9 6 (by kernel_rfl) (by kernel_rfl) (by kernel_rfl)), ?_⟩
  refine ⟨isVal (.bool false), step_move (.tmp 10) (by kernel_rfl) (wanted_none (by kernel_rfl)) (stable_val _) (knows_new (V := isVal (.bool false)) 10 7 (by kernel_rfl) (by kernel_rfl) (by kernel_rfl)), ?_⟩
  refine ⟨_, step_skip 8 11 true false (by kernel_rfl) (by kernel_rfl) (by kernel_rfl) (by kernel_rfl) rfl, ?_⟩
  refine ⟨_, step_skip 8 11 true false (by kernel_rfl) (by kernel_rfl) (by kernel_rfl) (by kernel_rfl) rfl, ?_⟩
  refine ⟨_, step_skip 8 11 true false (by kernel_rfl) (by kernel_rfl) (by kernel_rfl) (by kernel_rfl) rfl, ?_⟩
  refine ⟨_, step_skip 8 11 true false (by kernel_rfl) (by kernel_rfl) (by kernel_rfl) (by kernel_rfl) rfl, ?_⟩
  refine ⟨_, step_skip 8 11 true false (by kernel_rfl) (by kernel_rfl) (by kernel_rfl) (by kernel_rfl) rfl, ?_⟩
  refine ⟨_, step_skip 8 11 true false (by kernel_rfl) (by kernel_rfl) (by kernel_rfl) (by kernel_rfl) rfl, ?_⟩
  refine ⟨isVal (.bool false), step_pick (.tmp 11) (.tmp 17) (.const (.bool false)) false (by kernel_rfl) (wanted_none (by kernel_rfl)) (stable_val _) (knows_new (V := isVal (.bool false)) 11 8 (by kernel_rfl) (by kernel_rfl) (by kernel_rfl)) (knows_const _), ?_⟩
  refine ⟨isVal (.bool false), step_move (.tmp 18) (by kernel_rfl) (wanted_none (by kernel_rfl)) (stable_val _) (knows_new (V := isVal (.bool false)) 18 15 (by kernel_rfl) (by kernel_rfl) (by kernel_rfl)), ?_⟩
  refine ⟨_, step_skip 16 19 true false (by kernel_rfl) (by kernel_rfl) (by kernel_rfl) (by kernel_rfl) rfl, ?_⟩
  refine ⟨_, step_skip 16 19 true false (by kernel_rfl) (by kernel_rfl) (by kernel_rfl) (by kernel_rfl) rfl, ?_⟩
  refine ⟨_, step_skip 16 19 true false (by kernel_rfl) (by kernel_rfl) (by kernel_rfl) (by kernel_rfl) rfl, ?_⟩
  refine ⟨isVal (.bool false), step_pick (.tmp 19) (.tmp 22) (.const (.bool false)) false (by kernel_rfl) (wanted_none (by kernel_rfl)) (stable_val _) (knows_new (V := isVal (.bool false)) 19 16 (by kernel_rfl) (by kernel_rfl) (by kernel_rfl)) (knows_const _), ?_⟩
  refine ⟨isVal (.bool false), step_move (.tmp 23) (by kernel_rfl) (wanted_none (by kernel_rfl)) (stable_val _) (knows_new (V := isVal (.bool false)) 23 20 (by kernel_rfl) (by kernel_rfl) (by kernel_rfl)), ?_⟩
  refine ⟨_, step_skip 21 24 true false (by kernel_rfl) (by kernel_rfl) (by kernel_rfl) (by kernel_rfl) rfl, ?_⟩
  refine ⟨_, step_skip 21 24 true false (by kernel_rfl) (by kernel_rfl) (by kernel_rfl) (by kernel_rfl) rfl, ?_⟩
  refine ⟨_, step_skip 21 24 true false (by kernel_rfl) (by kernel_rfl) (by kernel_rfl) (by kernel_rfl) rfl, ?_⟩
  refine ⟨_, step_skip 21 24 true false (by kernel_rfl) (by kernel_rfl) (by kernel_rfl) (by kernel_rfl) rfl, ?_⟩
  refine ⟨_, step_skip 21 24 true false (by kernel_rfl) (by kernel_rfl) (by kernel_rfl) (by kernel_rfl) rfl, ?_⟩
  refine ⟨_, step_skip 21 24 true false (by kernel_rfl) (by kernel_rfl) (by kernel_rfl) (by kernel_rfl) rfl, ?_⟩
  refine ⟨isVal (.bool false), step_pick (.tmp 24) (.tmp 30) (.const (.bool false)) false (by kernel_rfl) (wanted_none (by kernel_rfl)) (stable_val _) (knows_new (V := isVal (.bool false)) 24 21 (by kernel_rfl) (by kernel_rfl) (by kernel_rfl)) (knows_const _), ?_⟩
  refine ⟨isVal (.bool false), step_assign (.tmp 31) (by kernel_rfl) (wanted_none (by kernel_rfl)) (stable_val _) (knows_new (V := isVal (.bool false)) 31 28 (by kernel_rfl) (by kernel_rfl) (by kernel_rfl)), ?_⟩
  intro a w hkp hb hd
  rw [kept_of hkp [some 3, some 4, some 5, some 6, some 7, some 8, some 9, some 10, some 11, some 12, some 13, some 14, some 15, some 16, some 17, some 18, some 19, some 20, some 21, some 22, some 23, some 24, some 25, some 26, some 27, some 28, some 29, some 30, some 31, some 2] [3, 4, 5, 6, 7, 8, 9, 10, 11, 12, 13, 14, 15, 16, 17, 18, 19, 20, 21, 22, 23, 24, 25, 26, 27, 28, 29, 30, 31, 2] (by kernel_rfl) (by decide)]
  have d2 := fdone_of (hd 29 (by rw [show rck1Ops.size = 30 by kernel_rfl]; decide)) (t := 2) (V := isVal (.bool false)) (by kernel_rfl) (by kernel_rfl)
  exact hQ (fun s => a.tmps.getD s undef) w d2 hb
noncomputable def rck2Ops : Array Oper := regionOf Tryz.f100 1
set_option maxRecDepth 100000 in
set_option maxHeartbeats 2000000 in
theorem rck2_region (Q : Exit → Act → World → Prop) (a0 : Act) (w0 : World) (hsz : a0.tmps.size = 32) (g n sc : Nat) (c : Int) (sa : Option Addr) (vi : Value) (L : List En) (idx : List Int) (z : Bool) (e1 : a0.tmps.getD 1 undef = .pointer (some ⟨g, 0, none⟩)) (HG : CellsN w0 g [.int .i64 c, .slice sa n sc, vi]) (hs : isEns L (.slice sa n sc) w0) (hi : isCells (idx.map intC) vi w0) (hL : L.length ≤ 1000) (hI : idx.length ≤ 100000) (fL : ∀ e ∈ L, FitE e) (h1 : decide (1 ≤ c) = true) (h2 : decide (c ≤ 8) = true) (h3 : decide ((n : Int) ≤ c) = false)
    (hQ : ∀ (g : Nat → Value) (w : World), g 2 = .bool false → Below w0.heap.size w0 w → Q .normal { tmps := [3, 4, 5, 6, 7, 8, 9, 10, 11, 12, 13, 14, 15, 16, 17, 18, 19, 20, 21, 22, 23, 24, 25, 26, 27, 28, 29, 30, 31, 2].foldl (fun t s => t.setIfInBounds s (g s)) a0.tmps, defers := a0.defers } w) :
    (Code.region 1 rck2Ops true).wp Tryz.prog Q a0 w0 := by
  refine wp_region_flow mixed (by rw [hsz]; kernel_rfl) ?_
  rw [show rck2Ops.size = 30 by kernel_rfl]
  refine ⟨isVal (.pointer (some ⟨g, 0, none⟩)), step_field 25 (.tmp 1) 0 ⟨g, 0, none⟩ ⟨g, 0, none⟩ (by kernel_rfl) (wanted_none (by kernel_rfl)) (knows_old 1 (.pointer (some ⟨g, 0, none⟩)) (by kernel_rfl) e1) (f_ar_0_0 (g)), ?_⟩
  refine ⟨isVal (.int .i64 c), step_read 3 (.tmp 3) ⟨g, 0, none⟩ (.int .i64 c) (by kernel_rfl) (wanted_none (by kernel_rfl)) (knows_new (V := isVal (.pointer (some ⟨g, 0, none⟩))) 3 0 (by kernel_rfl) (by kernel_rfl) (by kernel_rfl)) (HG.2 0 _ rfl) (HG.1) (agg_noZ), ?_⟩
  refine ⟨isVal (.bool true), step_bin .geq 3 3 (.tmp 4) (.const (.int .i64 1)) (.int .i64 c) (.int .i64 1) (.bool true) (by kernel_rfl) (wanted_none (by kernel_rfl)) (knows_new (V := isVal (.int .i64 c)) 4 1 (by kernel_rfl) (by kernel_rfl) (by kernel_rfl)) (knows_const _) (fun _ => rfl) (geq_int _ _ _ _ _ h1), ?_⟩
  refine ⟨isVal (.bool true), step_move (.tmp 5) (by kernel_rfl) (wanted_none (by kernel_rfl)) (stable_val _) (knows_new (V := isVal (.bool true)) 5 2 (by kernel_rfl) (by kernel_rfl) (by kernel_rfl)), ?_⟩
  refine ⟨isVal (.pointer (some ⟨g, 0, none⟩)), step_field 25 (.tmp 1) 0 ⟨g, 0, none⟩ ⟨g, 0, none⟩ (by kernel_rfl) (wanted_some 3 6 true (by kernel_rfl) (by kernel_rfl) (by kernel_rfl) (by kernel_rfl)) (knows_old 1 (.pointer (some ⟨g, 0, none⟩)) (by kernel_rfl) e1) (f_ar_0_0 (g)), ?_⟩
  refine ⟨isVal (.int .i64 c), step_read 3 (.tmp 7) ⟨g, 0, none⟩ (.int .i64 c) (by kernel_rfl) (wanted_some 3 6 true (by kernel_rfl) (by kernel_rfl) (by kernel_rfl) (by kernel_rfl)) (knows_new (V := isVal (.pointer (some ⟨g, 0, none⟩))) 7 4 (by kernel_rfl) (by kernel_rfl) (by kernel_rfl)) (HG.2 0 _ rfl) (HG.1) (agg_noZ), ?_⟩
  refine ⟨isVal (.bool true), step_bin .leq 3 3 (.tmp 8) (.const (.int .i64 8)) (.int .i64 c) (.int .i64 8) (.bool true) (by kernel_rfl) (wanted_some 3 6 true (by kernel_rfl) (by kernel_rfl) (by kernel_rfl) (by kernel_rfl)) (knows_new (V := isVal (.int .i64 c)) 8 5 (by kernel_rfl) (by kernel_rfl) (by kernel_rfl)) (knows_const _) (fun _ => rfl) (leq_int _ _ _ _ _ h2), ?_⟩
  refine ⟨isVal (.bool true), step_pick (.tmp 6) (.tmp 9) (.const (.bool false)) true (by kernel_rfl) (wanted_none (by kernel_rfl)) (stable_val _) (knows_new (V := isVal (.bool true)) 6 3 (by kernel_rfl) (by kernel_rfl) (by kernel_rfl)) (knows_new (V := isVal (.bool true)) 9 6 (by kernel_rfl) (by kernel_rfl) (by kernel_rfl)), ?_⟩
  refine ⟨isVal (.bool true), step_move (.tmp 10) (by kernel_rfl) (wanted_none (by kernel_rfl)) (stable_val _) (knows_new (V := isVal (.bool true)) 10 7 (by kernel_rfl) (by kernel_rfl) (by kernel_rfl)), ?_⟩
  refine ⟨isVal (.pointer (some ⟨g, 1, none⟩)), step_field 25 (.tmp 1) 1 ⟨g, 0, none⟩ ⟨g, 1, none⟩ (by kernel_rfl) (wanted_some 8 11 true (by kernel_rfl) (by kernel_rfl) (by kernel_rfl) (by kernel_rfl)) (knows_old 1 (.pointer (some ⟨g, 0, none⟩)) (by kernel_rfl) e1) (f_ar_0_1 (g)), ?_⟩
  refine ⟨isVal (.slice sa n sc), step_read 22 (.tmp 12) ⟨g, 1, none⟩ (.slice sa n sc) (by kernel_rfl) (wanted_some 8 11 true (by kernel_rfl) (by kernel_rfl) (by kernel_rfl) (by kernel_rfl)) (knows_new (V := isVal (.pointer (some ⟨g, 1, none⟩))) 12 9 (by kernel_rfl) (by kernel_rfl) (by kernel_rfl)) (HG.2 1 _ rfl) (HG.1) (agg_noS), ?_⟩
  refine ⟨isVal (.int .i64 (n : Int)), step_len 22 (.tmp 13) (.slice sa n sc) (.int .i64 (n : Int)) (by kernel_rfl) (wanted_some 8 11 true (by kernel_rfl) (by kernel_rfl) (by kernel_rfl) (by kernel_rfl)) (knows_new (V := isVal (.slice sa n sc)) 13 10 (by kernel_rfl) (by kernel_rfl) (by kernel_rfl)) ((fun ty w => by simp [Builtin.len_, run_underlying Tryz.underlying22]; rfl)), ?_⟩
  refine ⟨isVal (.pointer (some ⟨g, 0, none⟩)), step_field 25 (.tmp 1) 0 ⟨g, 0, none⟩ ⟨g, 0, none⟩ (by kernel_rfl) (wanted_some 8 11 true (by kernel_rfl) (by kernel_rfl) (by kernel_rfl) (by kernel_rfl)) (knows_old 1 (.pointer (some ⟨g, 0, none⟩)) (by kernel_rfl) e1) (f_ar_0_0 (g)), ?_⟩
  refine ⟨isVal (.int .i64 c), step_read 3 (.tmp 15) ⟨g, 0, none⟩ (.int .i64 c) (by kernel_rfl) (wanted_some 8 11 true (by kernel_rfl) (by kernel_rfl) (by kernel_rfl) (by kernel_rfl)) (knows_new (V := isVal (.pointer (some ⟨g, 0, none⟩))) 15 12 (by kernel_rfl) (by kernel_rfl) (by kernel_rfl)) (HG.2 0 _ rfl) (HG.1) (agg_noZ), ?_⟩
  refine ⟨isVal (.bool false), step_bin .leq 3 3 (.tmp 14) (.tmp 16) (.int .i64 (n : Int)) (.int .i64 c) (.bool false) (by kernel_rfl) (wanted_some 8 11 true (by kernel_rfl) (by kernel_rfl) (by kernel_rfl) (by kernel_rfl)) (knows_new (V := isVal (.int .i64 (n : Int))) 14 11 (by kernel_rfl) (by kernel_rfl) (by kernel_rfl)) (knows_new (V := isVal (.int .i64 c)) 16 13 (by kernel_rfl) (by kernel_rfl) (by kernel_rfl)) (fun _ => rfl) (leq_int _ _ _ _ _ h3), ?_⟩
  refine ⟨isVal (.bool false), step_pick (.tmp 11) (.tmp 17) (.const (.bool false)) true (by kernel_rfl) (wanted_none (by kernel_rfl)) (stable_val _) (knows_new (V := isVal (.bool true)) 11 8 (by kernel_rfl) (by kernel_rfl) (by kernel_rfl)) (knows_new (V := isVal (.bool false)) 17 14 (by kernel_rfl) (by kernel_rfl) (by kernel_rfl)), ?_⟩
  refine ⟨isVal (.bool false), step_move (.tmp 18) (by kernel_rfl) (wanted_none (by kernel_rfl)) (stable_val _) (knows_new (V := isVal (.bool false)) 18 15 (by kernel_rfl) (by kernel_rfl) (by kernel_rfl)), ?_⟩
  refine ⟨_, step_skip 16 19 true false (by kernel_rfl) (by kernel_rfl) (by kernel_rfl) (by kernel_rfl) rfl, ?_⟩
  refine ⟨_, step_skip 16 19 true false (by kernel_rfl) (by kernel_rfl) (by kernel_rfl) (by kernel_rfl) rfl, ?_⟩
  refine ⟨_, step_skip 16 19 true false (by kernel_rfl) (by kernel_rfl) (by kernel_rfl) (by kernel_rfl) rfl, ?_⟩
  refine ⟨isVal (.bool false), step_pick (.tmp 19) (.tmp 22) (.const (.bool false)) false (by kernel_rfl) (wanted_none (by kernel_rfl)) (stable_val _) (knows_new (V := isVal (.bool false)) 19 16 (by kernel_rfl) (by kernel_rfl) (by kernel_rfl)) (knows_const _), ?_⟩
  refine ⟨isVal (.bool false), step_move (.tmp 23) (by kernel_rfl) (wanted_none (by kernel_rfl)) (stable_val _) (knows_new (V := isVal (.bool false)) 23 20 (by kernel_rfl) (by kernel_rfl) (by kernel_rfl)), ?_⟩
  refine ⟨_, step_skip 21 24 true false (by kernel_rfl) (by kernel_rfl) (by kernel_rfl) (by kernel_rfl) rfl, ?_⟩
  refine ⟨_, step_skip 21 24 true false (by kernel_rfl) (by kernel_rfl) (by kernel_rfl) (by kernel_rfl) rfl, ?_⟩
  refine ⟨_, step_skip 21 24 true false (by kernel_rfl) (by kernel_rfl) (by kernel_rfl) (by kernel_rfl) rfl, ?_⟩
  refine ⟨_, step_skip 21 24 true false (by kernel_rfl) (by kernel_rfl) (by kernel_rfl) (by kernel_rfl) rfl, ?_⟩
  refine ⟨_, step_skip 21 24 true false (by kernel_rfl) (by kernel_rfl) (by kernel_rfl) (by kernel_rfl) rfl, ?_⟩
  refine ⟨_, step_skip 21 24 true false (by kernel_rfl) (by kernel_rfl) (by kernel_rfl) (by kernel_rfl) rfl, ?_⟩
  refine ⟨isVal (.bool false), step_pick (.tmp 24) (.tmp 30) (.const (.bool false)) false (by kernel_rfl) (wanted_none (by kernel_rfl)) (stable_val _) (knows_new (V := isVal (.bool false)) 24 21 (by kernel_rfl) (by kernel_rfl) (by kernel_rfl)) (knows_const _), ?_⟩
  refine ⟨isVal (.bool false), step_assign (.tmp 31) (by kernel_rfl) (wanted_none (by kernel_rfl)) (stable_val _) (knows_new (V := isVal (.bool false)) 31 28 (by kernel_rfl) (by kernel_rfl) (by kernel_rfl)), ?_⟩
  intro a w hkp hb hd
  rw [kept_of hkp [some 3, some 4, some 5, some 6, some 7, some 8, some 9, some 10, some 11, some 12, some 13, some 14, some 15, some 16, some 17, some 18, some 19, some 20, some 21, some 22, some 23, some 24, some 25, some 26, some 27, some 28, some 29, some 30, some 31, some 2] [3, 4, 5, 6, 7, 8, 9, 10, 11, 12, 13, 14, 15, 16, 17, 18, 19, 20, 21, 22, 23, 24, 25, 26, 27, 28, 29, 30, 31, 2] (by kernel_rfl) (by decide)]
  have d2 := fdone_of (hd 29 (by rw [show rck2Ops.size = 30 by kernel_rfl]; decide)) (t := 2) (V := isVal (.bool false)) (by kernel_rfl) (by kernel_rfl)
  exact hQ (fun s => a.tmps.getD s undef) w d2 hb
noncomputable def rck3Ops : Array Oper := regionOf Tryz.f100 1
set_option maxRecDepth 100000 in
set_option maxHeartbeats 2000000 in
theorem rck3_region (Q : Exit → Act → World → Prop) (a0 : Act) (w0 : World) (hsz : a0.tmps.size = 32) (g n sc : Nat) (c : Int) (sa : Option Addr) (vi : Value) (L : List En) (idx : List Int) (z : Bool) (e1 : a0.tmps.getD 1 undef = .pointer (some ⟨g, 0, none⟩)) (HG : CellsN w0 g [.int .i64 c, .slice sa n sc, vi]) (hs : isEns L (.slice sa n sc) w0) (hi : isCells (idx.map intC) vi w0) (hL : L.length ≤ 1000) (hI : idx.length ≤ 100000) (fL : ∀ e ∈ L, FitE e) (h1 : decide (1 ≤ c) = true) (h2 : decide (c ≤ 8) = true) (h3 : decide ((n : Int) ≤ c) = true) (h4 : slotsB L = false)
    (hQ : ∀ (g : Nat → Value) (w : World), g 2 = .bool false → Below w0.heap.size w0 w → Q .normal { tmps := [3, 4, 5, 6, 7, 8, 9, 10, 11, 12, 13, 14, 15, 16, 17, 18, 19, 20, 21, 22, 23, 24, 25, 26, 27, 28, 29, 30, 31, 2].foldl (fun t s => t.setIfInBounds s (g s)) a0.tmps, defers := a0.defers } w) :
    (Code.region 1 rck3Ops true).wp Tryz.prog Q a0 w0 := by
  refine wp_region_flow mixed (by rw [hsz]; kernel_rfl) ?_
  rw [show rck3Ops.size = 30 by kernel_rfl]
  refine ⟨isVal (.pointer (some ⟨g, 0, none⟩)), step_field 25 (.tmp 1) 0 ⟨g, 0, none⟩ ⟨g, 0, none⟩ (by kernel_rfl) (wanted_none (by kernel_rfl)) (knows_old 1 (.pointer (some ⟨g, 0, none⟩)) (by kernel_rfl) e1) (f_ar_0_0 (g)), ?_⟩
  refine ⟨isVal (.int .i64 c), step_read 3 (.tmp 3) ⟨g, 0, none⟩ (.int .i64 c) (by kernel_rfl) (wanted_none (by kernel_rfl)) (knows_new (V := isVal (.pointer (some ⟨g, 0, none⟩))) 3 0 (by kernel_rfl) (by kernel_rfl) (by kernel_rfl)) (HG.2 0 _ rfl) (HG.1) (agg_noZ), ?_⟩
  refine ⟨isVal (.bool true), step_bin .geq 3 3 (.tmp 4) (.const (.int .i64 1)) (.int .i64 c) (.int .i64 1) (.bool true) (by kernel_rfl) (wanted_none (by kernel_rfl)) (knows_new (V := isVal (.int .i64 c)) 4 1 (by kernel_rfl) (by kernel_rfl) (by kernel_rfl)) (knows_const _) (fun _ => rfl) (geq_int _ _ _ _ _ h1), ?_⟩
  refine ⟨isVal (.bool true), step_move (.tmp 5) (by kernel_rfl) (wanted_none (by kernel_rfl)) (stable_val _) (knows_new (V := isVal (.bool true)) 5 2 (by kernel_rfl) (by kernel_rfl) (by kernel_rfl)), ?_⟩
  refine ⟨isVal (.pointer (some ⟨g, 0, none⟩)), step_field 25 (.tmp 1) 0 ⟨g, 0, none⟩ ⟨g, 0, none⟩ (by kernel_rfl) (wanted_some 3 6 true (by kernel_rfl) (by kernel_rfl) (by kernel_rfl) (by kernel_rfl)) (knows_old 1 (.pointer (some ⟨g, 0, none⟩)) (by kernel_rfl) e1) (f_ar_0_0 (g)), ?_⟩
  refine ⟨isVal (.int .i64 c), step_read 3 (.tmp 7) ⟨g, 0, none⟩ (.int .i64 c) (by kernel_rfl) (wanted_some 3 6 true (by kernel_rfl) (by kernel_rfl) (by kernel_rfl) (by kernel_rfl)) (knows_new (V := isVal (.pointer (some ⟨g, 0, none⟩))) 7 4 (by kernel_rfl) (by kernel_rfl) (by kernel_rfl)) (HG.2 0 _ rfl) (HG.1) (agg_noZ), ?_⟩
  refine ⟨isVal (.bool true), step_bin .leq 3 3 (.tmp 8) (.const (.int .i64 8)) (.int .i64 c) (.int .i64 8) (.bool true) (by kernel_rfl) (wanted_some 3 6 true (by kernel_rfl) (by kernel_rfl) (by kernel_rfl) (by kernel_rfl)) (knows_new (V := isVal (.int .i64 c)) 8 5 (by kernel_rfl) (by kernel_rfl) (by kernel_rfl)) (knows_const _) (fun _ => rfl) (leq_int _ _ _ _ _ h2), ?_⟩
  refine ⟨isVal (.bool true), step_pick (.tmp 6) (.tmp 9) (.const (.bool false)) true (by kernel_rfl) (wanted_none (by kernel_rfl)) (stable_val _) (knows_new (V := isVal (.bool true)) 6 3 (by kernel_rfl) (by kernel_rfl) (by kernel_rfl)) (knows_new (V := isVal (.bool true)) 9 6 (by kernel_rfl) (by kernel_rfl) (by kernel_rfl)), ?_⟩
  refine ⟨isVal (.bool true), step_move (.tmp 10) (by kernel_rfl) (wanted_none (by kernel_rfl)) (stable_val _) (knows_new (V := isVal (.bool true)) 10 7 (by kernel_rfl) (by kernel_rfl) (by kernel_rfl)), ?_⟩
  refine ⟨isVal (.pointer (some ⟨g, 1, none⟩)), step_field 25 (.tmp 1) 1 ⟨g, 0, none⟩ ⟨g, 1, none⟩ (by kernel_rfl) (wanted_some 8 11 true (by kernel_rfl) (by kernel_rfl) (by kernel_rfl) (by kernel_rfl)) (knows_old 1 (.pointer (some ⟨g, 0, none⟩)) (by kernel_rfl) e1) (f_ar_0_1 (g)), ?_⟩
  refine ⟨isVal (.slice sa n sc), step_read 22 (.tmp 12) ⟨g, 1, none⟩ (.slice sa n sc) (by kernel_rfl) (wanted_some 8 11 true (by kernel_rfl) (by kernel_rfl) (by kernel_rfl) (by kernel_rfl)) (knows_new (V := isVal (.pointer (some ⟨g, 1, none⟩))) 12 9 (by kernel_rfl) (by kernel_rfl) (by kernel_rfl)) (HG.2 1 _ rfl) (HG.1) (agg_noS), ?_⟩
  refine ⟨isVal (.int .i64 (n : Int)), step_len 22 (.tmp 13) (.slice sa n sc) (.int .i64 (n : Int)) (by kernel_rfl) (wanted_some 8 11 true (by kernel_rfl) (by kernel_rfl) (by kernel_rfl) (by kernel_rfl)) (knows_new (V := isVal (.slice sa n sc)) 13 10 (by kernel_rfl) (by kernel_rfl) (by kernel_rfl)) ((fun ty w => by simp [Builtin.len_, run_underlying Tryz.underlying22]; rfl)), ?_⟩
  refine ⟨isVal (.pointer (some ⟨g, 0, none⟩)), step_field 25 (.tmp 1) 0 ⟨g, 0, none⟩ ⟨g, 0, none⟩ (by kernel_rfl) (wanted_some 8 11 true (by kernel_rfl) (by kernel_rfl) (by kernel_rfl) (by kernel_rfl)) (knows_old 1 (.pointer (some ⟨g, 0, none⟩)) (by kernel_rfl) e1) (f_ar_0_0 (g)), ?_⟩
  refine ⟨isVal (.int .i64 c), step_read 3 (.tmp 15) ⟨g, 0, none⟩ (.int .i64 c) (by kernel_rfl) (wanted_some 8 11 true (by kernel_rfl) (by kernel_rfl) (by kernel_rfl) (by kernel_rfl)) (knows_new (V := isVal (.pointer (some ⟨g, 0, none⟩))) 15 12 (by kernel_rfl) (by kernel_rfl) (by kernel_rfl)) (HG.2 0 _ rfl) (HG.1) (agg_noZ), ?_⟩
  refine ⟨isVal (.bool true), step_bin .leq 3 3 (.tmp 14) (.tmp 16) (.int .i64 (n : Int)) (.int .i64 c) (.bool true) (by kernel_rfl) (wanted_some 8 11 true (by kernel_rfl) (by kernel_rfl) (by kernel_rfl) (by kernel_rfl)) (knows_new (V := isVal (.int .i64 (n : Int))) 14 11 (by kernel_rfl) (by kernel_rfl) (by kernel_rfl)) (knows_new (V := isVal (.int .i64 c)) 16 13 (by kernel_rfl) (by kernel_rfl) (by kernel_rfl)) (fun _ => rfl) (leq_int _ _ _ _ _ h3), ?_⟩
  refine ⟨isVal (.bool true), step_pick (.tmp 11) (.tmp 17) (.const (.bool false)) true (by kernel_rfl) (wanted_none (by kernel_rfl)) (stable_val _) (knows_new (V := isVal (.bool true)) 11 8 (by kernel_rfl) (by kernel_rfl) (by kernel_rfl)) (knows_new (V := isVal (.bool true)) 17 14 (by kernel_rfl) (by kernel_rfl) (by kernel_rfl)), ?_⟩
  refine ⟨isVal (.bool true), step_move (.tmp 18) (by kernel_rfl) (wanted_none (by kernel_rfl)) (stable_val _) (knows_new (V := isVal (.bool true)) 18 15 (by kernel_rfl) (by kernel_rfl) (by kernel_rfl)), ?_⟩
  refine ⟨isVal (.pointer (some ⟨g, 1, none⟩)), step_field 25 (.tmp 1) 1 ⟨g, 0, none⟩ ⟨g, 1, none⟩ (by kernel_rfl) (wanted_some 16 19 true (by kernel_rfl) (by kernel_rfl) (by kernel_rfl) (by kernel_rfl)) (knows_old 1 (.pointer (some ⟨g, 0, none⟩)) (by kernel_rfl) e1) (f_ar_0_1 (g)), ?_⟩
  refine ⟨isVal (.slice sa n sc), step_read 22 (.tmp 20) ⟨g, 1, none⟩ (.slice sa n sc) (by kernel_rfl) (wanted_some 16 19 true (by kernel_rfl) (by kernel_rfl) (by kernel_rfl) (by kernel_rfl)) (knows_new (V := isVal (.pointer (some ⟨g, 1, none⟩))) 20 17 (by kernel_rfl) (by kernel_rfl) (by kernel_rfl)) (HG.2 1 _ rfl) (HG.1) (agg_noS), ?_⟩
  refine ⟨isVal (.bool false), step_call 128 #[.tmp 21] #[22] #[.slice sa n sc] (by kernel_rfl) (wanted_some 16 19 true (by kernel_rfl) (by kernel_rfl) (by kernel_rfl) (by kernel_rfl)) (stable_val _) (args1 (.tmp 21) (.slice sa n sc) (knows_new (V := isVal (.slice sa n sc)) 21 18 (by kernel_rfl) (by kernel_rfl) (by kernel_rfl))) (enters_of Tryz.func128 (by kernel_rfl) rfl) (by intro w' hb; exact call_vb (rslots_at L false _ w' (stable_ens _ _ _ _ hs hb) hL fL h4)), ?_⟩
  refine ⟨isVal (.bool false), step_pick (.tmp 19) (.tmp 22) (.const (.bool false)) true (by kernel_rfl) (wanted_none (by kernel_rfl)) (stable_val _) (knows_new (V := isVal (.bool true)) 19 16 (by kernel_rfl) (by kernel_rfl) (by kernel_rfl)) (knows_new (V := isVal (.bool false)) 22 19 (by kernel_rfl) (by kernel_rfl) (by kernel_rfl)), ?_⟩
  refine ⟨isVal (.bool false), step_move (.tmp 23) (by kernel_rfl) (wanted_none (by kernel_rfl)) (stable_val _) (knows_new (V := isVal (.bool false)) 23 20 (by kernel_rfl) (by kernel_rfl) (by kernel_rfl)), ?_⟩
  refine ⟨_, step_skip 21 24 true false (by kernel_rfl) (by kernel_rfl) (by kernel_rfl) (by kernel_rfl) rfl, ?_⟩
  refine ⟨_, step_skip 21 24 true false (by kernel_rfl) (by kernel_rfl) (by kernel_rfl) (by kernel_rfl) rfl, ?_⟩
  refine ⟨_, step_skip 21 24 true false (by kernel_rfl) (by kernel_rfl) (by kernel_rfl) (by kernel_rfl) rfl, ?_⟩
  refine ⟨_, step_skip 21 24 true false (by kernel_rfl) (by kernel_rfl) (by kernel_rfl) (by kernel_rfl) rfl, ?_⟩
  refine ⟨_, step_skip 21 24 true false (by kernel_rfl) (by kernel_rfl) (by kernel_rfl) (by kernel_rfl) rfl, ?_⟩
  refine ⟨_, step_skip 21 24 true false (by kernel_rfl) (by kernel_rfl) (by kernel_rfl) (by kernel_rfl) rfl, ?_⟩
  refine ⟨isVal (.bool false), step_pick (.tmp 24) (.tmp 30) (.const (.bool false)) false (by kernel_rfl) (wanted_none (by kernel_rfl)) (stable_val _) (knows_new (V := isVal (.bool false)) 24 21 (by kernel_rfl) (by kernel_rfl) (by kernel_rfl)) (knows_const _), ?_⟩
  refine ⟨isVal (.bool false), step_assign (.tmp 31) (by kernel_rfl) (wanted_none (by kernel_rfl)) (stable_val _) (knows_new (V := isVal (.bool false)) 31 28 (by kernel_rfl) (by kernel_rfl) (by kernel_rfl)), ?_⟩
  intro a w hkp hb hd
  rw [kept_of hkp [some 3, some 4, some 5, some 6, some 7, some 8, some 9, some 10, some 11, some 12, some 13, some 14, some 15, some 16, some 17, some 18, some 19, some 20, some 21, some 22, some 23, some 24, some 25, some 26, some 27, some 28, some 29, some 30, some 31, some 2] [3, 4, 5, 6, 7, 8, 9, 10, 11, 12, 13, 14, 15, 16, 17, 18, 19, 20, 21, 22, 23, 24, 25, 26, 27, 28, 29, 30, 31, 2] (by kernel_rfl) (by decide)]
  have d2 := fdone_of (hd 29 (by rw [show rck3Ops.size = 30 by kernel_rfl]; decide)) (t := 2) (V := isVal (.bool false)) (by kernel_rfl) (by kernel_rfl)
  exact hQ (fun s => a.tmps.getD s undef) w d2 hb
noncomputable def rck4Ops : Array Oper := regionOf Tryz.f100 1
set_option maxRecDepth 100000 in
set_option maxHeartbeats 2000000 in
theorem rck4_region (Q : Exit → Act → World → Prop) (a0 : Act) (w0 : World) (hsz : a0.tmps.size = 32) (g n sc : Nat) (c : Int) (sa : Option Addr) (vi : Value) (L : List En) (idx : List Int) (z : Bool) (e1 : a0.tmps.getD 1 undef = .pointer (some ⟨g, 0, none⟩)) (HG : CellsN w0 g [.int .i64 c, .slice sa n sc, vi]) (hs : isEns L (.slice sa n sc) w0) (hi : isCells (idx.map intC) vi w0) (hL : L.length ≤ 1000) (hI : idx.length ≤ 100000) (fL : ∀ e ∈ L, FitE e) (h1 : decide (1 ≤ c) = true) (h2 : decide (c ≤ 8) = true) (h3 : decide ((n : Int) ≤ c) = true) (h4 : slotsB L = true) (hz : decide (idx = idxM L) = z)
    (hQ : ∀ (g : Nat → Value) (w : World), g 2 = .bool z → Below w0.heap.size w0 w → Q .normal { tmps := [3, 4, 5, 6, 7, 8, 9, 10, 11, 12, 13, 14, 15, 16, 17, 18, 19, 20, 21, 22, 23, 24, 25, 26, 27, 28, 29, 30, 31, 2].foldl (fun t s => t.setIfInBounds s (g s)) a0.tmps, defers := a0.defers } w) :
    (Code.region 1 rck4Ops true).wp Tryz.prog Q a0 w0 := by
  refine wp_region_flow mixed (by rw [hsz]; kernel_rfl) ?_
  rw [show rck4Ops.size = 30 by kernel_rfl]
  refine ⟨isVal (.pointer (some ⟨g, 0, none⟩)), step_field 25 (.tmp 1) 0 ⟨g, 0, none⟩ ⟨g, 0, none⟩ (by kernel_rfl) (wanted_none (by kernel_rfl)) (knows_old 1 (.pointer (some ⟨g, 0, none⟩)) (by kernel_rfl) e1) (f_ar_0_0 (g)), ?_⟩
  refine ⟨isVal (.int .i64 c), step_read 3 (.tmp 3) ⟨g, 0, none⟩ (.int .i64 c) (by kernel_rfl) (wanted_none (by kernel_rfl)) (knows_new (V := isVal (.pointer (some ⟨g, 0, none⟩))) 3 0 (by kernel_rfl) (by kernel_rfl) (by kernel_rfl)) (HG.2 0 _ rfl) (HG.1) (agg_noZ), ?_⟩
  refine ⟨isVal (.bool true), step_bin .geq 3 3 (.tmp 4) (.const (.int .i64 1)) (.int .i64 c) (.int .i64 1) (.bool true) (by kernel_rfl) (wanted_none (by kernel_rfl)) (knows_new (V := isVal (.int .i64 c)) 4 1 (by kernel_rfl) (by kernel_rfl) (by kernel_rfl)) (knows_const _) (fun _ => rfl) (geq_int _ _ _ _ _ h1), ?_⟩
  refine ⟨isVal (.bool true), step_move (.tmp 5) (by kernel_rfl) (wanted_none (by kernel_rfl)) (stable_val _) (knows_new (V := isVal (.bool true)) 5 2 (by kernel_rfl) (by kernel_rfl) (by kernel_rfl)), ?_⟩
  refine ⟨isVal (.pointer (some ⟨g, 0, none⟩)), step_field 25 (.tmp 1) 0 ⟨g, 0, none⟩ ⟨g, 0, none⟩ (by kernel_rfl) (wanted_some 3 6 true (by kernel_rfl) (by kernel_rfl) (by kernel_rfl) (by kernel_rfl)) (knows_old 1 (.pointer (some ⟨g, 0, none⟩)) (by kernel_rfl) e1) (f_ar_0_0 (g)), ?_⟩
  refine ⟨isVal (.int .i64 c), step_read 3 (.tmp 7) ⟨g, 0, none⟩ (.int .i64 c) (by kernel_rfl) (wanted_some 3 6 true (by kernel_rfl) (by kernel_rfl) (by kernel_rfl) (by kernel_rfl)) (knows_new (V := isVal (.pointer (some ⟨g, 0, none⟩))) 7 4 (by kernel_rfl) (by kernel_rfl) (by kernel_rfl)) (HG.2 0 _ rfl) (HG.1) (agg_noZ), ?_⟩
  refine ⟨isVal (.bool true), step_bin .leq 3 3 (.tmp 8) (.const (.int .i64 8)) (.int .i64 c) (.int .i64 8) (.bool true) (by kernel_rfl) (wanted_some 3 6 true (by kernel_rfl) (by kernel_rfl) (by kernel_rfl) (by kernel_rfl)) (knows_new (V := isVal (.int .i64 c)) 8 5 (by kernel_rfl) (by kernel_rfl) (by kernel_rfl)) (knows_const _) (fun _ => rfl) (leq_int _ _ _ _ _ h2), ?_⟩
  refine ⟨isVal (.bool true), step_pick (.tmp 6) (.tmp 9) (.const (.bool false)) true (by kernel_rfl) (wanted_none (by kernel_rfl)) (stable_val _) (knows_new (V := isVal (.bool true)) 6 3 (by kernel_rfl) (by kernel_rfl) (by kernel_rfl)) (knows_new (V := isVal (.bool true)) 9 6 (by kernel_rfl) (by kernel_rfl) (by kernel_rfl)), ?_⟩
  refine ⟨isVal (.bool true), step_move (.tmp 10) (by kernel_rfl) (wanted_none (by kernel_rfl)) (stable_val _) (knows_new (V := isVal (.bool true)) 10 7 (by kernel_rfl) (by kernel_rfl) (by kernel_rfl)), ?_⟩
  refine ⟨isVal (.pointer (some ⟨g, 1, none⟩)), step_field 25 (.tmp 1) 1 ⟨g, 0, none⟩ ⟨g, 1, none⟩ (by kernel_rfl) (wanted_some 8 11 true (by kernel_rfl) (by kernel_rfl) (by kernel_rfl) (by kernel_rfl)) (knows_old 1 (.pointer (some ⟨g, 0, none⟩)) (by kernel_rfl) e1) (f_ar_0_1 (g)), ?_⟩
  refine ⟨isVal (.slice sa n sc), step_read 22 (.tmp 12) ⟨g, 1, none⟩ (.slice sa n sc) (by kernel_rfl) (wanted_some 8 11 true (by kernel_rfl) (by kernel_rfl) (by kernel_rfl) (by kernel_rfl)) (knows_new (V := isVal (.pointer (some ⟨g, 1, none⟩))) 12 9 (by kernel_rfl) (by kernel_rfl) (by kernel_rfl)) (HG.2 1 _ rfl) (HG.1) (agg_noS), ?_⟩
  refine ⟨isVal (.int .i64 (n : Int)), step_len 22 (.tmp 13) (.slice sa n sc) (.int .i64 (n : Int)) (by kernel_rfl) (wanted_some 8 11 true (by kernel_rfl) (by kernel_rfl) (by kernel_rfl) (by kernel_rfl)) (knows_new (V := isVal (.slice sa n sc)) 13 10 (by kernel_rfl) (by kernel_rfl) (by kernel_rfl)) ((fun ty w => by simp [Builtin.len_, run_underlying Tryz.underlying22]; rfl)), ?_⟩
  refine ⟨isVal (.pointer (some ⟨g, 0, none⟩)), step_field 25 (.tmp 1) 0 ⟨g, 0, none⟩ ⟨g, 0, none⟩ (by kernel_rfl) (wanted_some 8 11 true (by kernel_rfl) (by kernel_rfl) (by kernel_rfl) (by kernel_rfl)) (knows_old 1 (.pointer (some ⟨g, 0, none⟩)) (by kernel_rfl) e1) (f_ar_0_0 (g)), ?_⟩
  refine ⟨isVal (.int .i64 c), step_read 3 (.tmp 15) ⟨g, 0, none⟩ (.int .i64 c) (by kernel_rfl) (wanted_some 8 11 true (by kernel_rfl) (by kernel_rfl) (by kernel_rfl) (by kernel_rfl)) (knows_new (V := isVal (.pointer (some ⟨g, 0, none⟩))) 15 12 (by kernel_rfl) (by kernel_rfl) (by kernel_rfl)) (HG.2 0 _ rfl) (HG.1) (agg_noZ), ?_⟩
  refine ⟨isVal (.bool true), step_bin .leq 3 3 (.tmp 14) (.tmp 16) (.int .i64 (n : Int)) (.int .i64 c) (.bool true) (by kernel_rfl) (wanted_some 8 11 true (by kernel_rfl) (by kernel_rfl) (by kernel_rfl) (by kernel_rfl)) (knows_new (V := isVal (.int .i64 (n : Int))) 14 11 (by kernel_rfl) (by kernel_rfl) (by kernel_rfl)) (knows_new (V := isVal (.int .i64 c)) 16 13 (by kernel_rfl) (by kernel_rfl) (by kernel_rfl)) (fun _ => rfl) (leq_int _ _ _ _ _ h3), ?_⟩
  refine ⟨isVal (.bool true), step_pick (.tmp 11) (.tmp 17) (.const (.bool false)) true (by kernel_rfl) (wanted_none (by kernel_rfl)) (stable_val _) (knows_new (V := isVal (.bool true)) 11 8 (by kernel_rfl) (by kernel_rfl) (by kernel_rfl)) (knows_new (V := isVal (.bool true)) 17 14 (by kernel_rfl) (by kernel_rfl) (by kernel_rfl)), ?_⟩
  refine ⟨isVal (.bool true), step_move (.tmp 18) (by kernel_rfl) (wanted_none (by kernel_rfl)) (stable_val _) (knows_new (V := isVal (.bool true)) 18 15 (by kernel_rfl) (by kernel_rfl) (by kernel_rfl)), ?_⟩
  refine ⟨isVal (.pointer (some ⟨g, 1, none⟩)), step_field 25 (.tmp 1) 1 ⟨g, 0, none⟩ ⟨g, 1, none⟩ (by kernel_rfl) (wanted_some 16 19 true (by kernel_rfl) (by kernel_rfl) (by kernel_rfl) (by kernel_rfl)) (knows_old 1 (.pointer (some ⟨g, 0, none⟩)) (by kernel_rfl) e1) (f_ar_0_1 (g)), ?_⟩
  refine ⟨isVal (.slice sa n sc), step_read 22 (.tmp 20) ⟨g, 1, none⟩ (.slice sa n sc) (by kernel_rfl) (wanted_some 16 19 true (by kernel_rfl) (by kernel_rfl) (by kernel_rfl) (by kernel_rfl)) (knows_new (V := isVal (.pointer (some ⟨g, 1, none⟩))) 20 17 (by kernel_rfl) (by kernel_rfl) (by kernel_rfl)) (HG.2 1 _ rfl) (HG.1) (agg_noS), ?_⟩
  refine ⟨isVal (.bool true), step_call 128 #[.tmp 21] #[22] #[.slice sa n sc] (by kernel_rfl) (wanted_some 16 19 true (by kernel_rfl) (by kernel_rfl) (by kernel_rfl) (by kernel_rfl)) (stable_val _) (args1 (.tmp 21) (.slice sa n sc) (knows_new (V := isVal (.slice sa n sc)) 21 18 (by kernel_rfl) (by kernel_rfl) (by kernel_rfl))) (enters_of Tryz.func128 (by kernel_rfl) rfl) (by intro w' hb; exact call_vb (rslots_at L true _ w' (stable_ens _ _ _ _ hs hb) hL fL h4)), ?_⟩
  refine ⟨isVal (.bool true), step_pick (.tmp 19) (.tmp 22) (.const (.bool false)) true (by kernel_rfl) (wanted_none (by kernel_rfl)) (stable_val _) (knows_new (V := isVal (.bool true)) 19 16 (by kernel_rfl) (by kernel_rfl) (by kernel_rfl)) (knows_new (V := isVal (.bool true)) 22 19 (by kernel_rfl) (by kernel_rfl) (by kernel_rfl)), ?_⟩
  refine ⟨isVal (.bool true), step_move (.tmp 23) (by kernel_rfl) (wanted_none (by kernel_rfl)) (stable_val _) (knows_new (V := isVal (.bool true)) 23 20 (by kernel_rfl) (by kernel_rfl) (by kernel_rfl)), ?_⟩
  refine ⟨isVal (.pointer (some ⟨g, 2, none⟩)), step_field 25 (.tmp 1) 2 ⟨g, 0, none⟩ ⟨g, 2, none⟩ (by kernel_rfl) (wanted_some 21 24 true (by kernel_rfl) (by kernel_rfl) (by kernel_rfl) (by kernel_rfl)) (knows_old 1 (.pointer (some ⟨g, 0, none⟩)) (by kernel_rfl) e1) (f_ar_0_2 (g)), ?_⟩
  refine ⟨isVal vi, step_read 23 (.tmp 25) ⟨g, 2, none⟩ vi (by kernel_rfl) (wanted_some 21 24 true (by kernel_rfl) (by kernel_rfl) (by kernel_rfl) (by kernel_rfl)) (knows_new (V := isVal (.pointer (some ⟨g, 2, none⟩))) 25 22 (by kernel_rfl) (by kernel_rfl) (by kernel_rfl)) (HG.2 2 _ rfl) (HG.1) (agg_noI), ?_⟩
  refine ⟨isVal (.pointer (some ⟨g, 1, none⟩)), step_field 25 (.tmp 1) 1 ⟨g, 0, none⟩ ⟨g, 1, none⟩ (by kernel_rfl) (wanted_some 21 24 true (by kernel_rfl) (by kernel_rfl) (by kernel_rfl) (by kernel_rfl)) (knows_old 1 (.pointer (some ⟨g, 0, none⟩)) (by kernel_rfl) e1) (f_ar_0_1 (g)), ?_⟩
  refine ⟨isVal (.slice sa n sc), step_read 22 (.tmp 27) ⟨g, 1, none⟩ (.slice sa n sc) (by kernel_rfl) (wanted_some 21 24 true (by kernel_rfl) (by kernel_rfl) (by kernel_rfl) (by kernel_rfl)) (knows_new (V := isVal (.pointer (some ⟨g, 1, none⟩))) 27 24 (by kernel_rfl) (by kernel_rfl) (by kernel_rfl)) (HG.2 1 _ rfl) (HG.1) (agg_noS), ?_⟩
  refine ⟨(isCells ((idxM L).map intC)), step_call 102 #[.tmp 28] #[22] #[.slice sa n sc] (by kernel_rfl) (wanted_some 21 24 true (by kernel_rfl) (by kernel_rfl) (by kernel_rfl) (by kernel_rfl)) (stable_cells _) (args1 (.tmp 28) (.slice sa n sc) (knows_new (V := isVal (.slice sa n sc)) 28 25 (by kernel_rfl) (by kernel_rfl) (by kernel_rfl))) (enters_of Tryz.func102 (by kernel_rfl) rfl) (by intro w' hb; exact rindex_pred L _ w' (stable_ens _ _ _ _ hs hb) hL), ?_⟩
  refine ⟨isVal (.bool z), step_callP 51 #[.tmp 26, .tmp 29] #[23, 23] (by kernel_rfl) (wanted_some 21 24 true (by kernel_rfl) (by kernel_rfl) (by kernel_rfl) (by kernel_rfl)) (stable_val _) (enters_of Tryz.func51 (by kernel_rfl) rfl) (fun vs w => ∃ u v, vs = #[u, v] ∧ isVal vi u w ∧ isCells ((idxM L).map intC) v w) (pre2 (knows_new (V := isVal vi) 26 23 (by kernel_rfl) (by kernel_rfl) (by kernel_rfl)) (knows_new (V := (isCells ((idxM L).map intC))) 29 26 (by kernel_rfl) (by kernel_rfl) (by kernel_rfl))) (fun vs w' hb hp => by obtain ⟨u, v, rfl, hu, h2⟩ := hp; obtain rfl : u = vi := hu; exact call_vb (rints_at idx (idxM L) z _ _ w' (stable_cells _ _ _ _ hi hb) h2 hI (by rw [(idxP_rng L L.length).1 |> fun h => (show (idxM L).length = L.length from h)]; omega) hz)), ?_⟩
  refine ⟨isVal (.bool z), step_pick (.tmp 24) (.tmp 30) (.const (.bool false)) true (by kernel_rfl) (wanted_none (by kernel_rfl)) (stable_val _) (knows_new (V := isVal (.bool true)) 24 21 (by kernel_rfl) (by kernel_rfl) (by kernel_rfl)) (knows_new (V := isVal (.bool z)) 30 27 (by kernel_rfl) (by kernel_rfl) (by kernel_rfl)), ?_⟩
  refine ⟨isVal (.bool z), step_assign (.tmp 31) (by kernel_rfl) (wanted_none (by kernel_rfl)) (stable_val _) (knows_new (V := isVal (.bool z)) 31 28 (by kernel_rfl) (by kernel_rfl) (by kernel_rfl)), ?_⟩
  intro a w hkp hb hd
  rw [kept_of hkp [some 3, some 4, some 5, some 6, some 7, some 8, some 9, some 10, some 11, some 12, some 13, some 14, some 15, some 16, some 17, some 18, some 19, some 20, some 21, some 22, some 23, some 24, some 25, some 26, some 27, some 28, some 29, some 30, some 31, some 2] [3, 4, 5, 6, 7, 8, 9, 10, 11, 12, 13, 14, 15, 16, 17, 18, 19, 20, 21, 22, 23, 24, 25, 26, 27, 28, 29, 30, 31, 2] (by kernel_rfl) (by decide)]
  have d2 := fdone_of (hd 29 (by rw [show rck4Ops.size = 30 by kernel_rfl]; decide)) (t := 2) (V := isVal (.bool z)) (by kernel_rfl) (by kernel_rfl)
  exact hQ (fun s => a.tmps.getD s undef) w d2 hb
set_option maxRecDepth 100000 in
set_option maxHeartbeats 2000000 in
theorem rcheckA_any (A : Ar) (v : Value) (w : World) (hv : isAr A v w) (hF : FitA A) : Calls Tryz.prog 100 #[v] w fun e w' => e = .returned (.bool (okA A)) ∧ Below w.heap.size w w' := by
  obtain ⟨vs, vi, rfl, hs, hi⟩ := hv
  obtain ⟨sa, sc, rfl⟩ := hs.len
  have hB := lit_below w (.cells #[.int .i64 A.cap, .slice sa A.slots.length sc, vi] 25)
  have CG := cellsN_at w 25 [.int .i64 A.cap, .slice sa A.slots.length sc, vi] w.heap.size rfl
  have XS := stable_ens _ _ _ _ hs hB
  have XI := stable_cells _ _ _ _ hi hB
  have HK := Kept.mk (okA_ref A)
  unfold roomB at HK
  obtain ⟨z, hz⟩ : ∃ z, decide (A.index = idxM A.slots) = z := ⟨_, rfl⟩
  have hR : ∃ q, okA A = q := ⟨_, rfl⟩
  obtain ⟨q, hq⟩ := hR
  rw [hq] at HK ⊢
  generalize hn : A.slots.length = n at *
  cases h1 : decide (1 ≤ A.cap) with
  | false =>
    have HE := Kept.mk (show q = false by rw [HK.out, h1]; simp)
    have HH := Kept.mk hB
    have CG' := Kept.mk CG
    have XS' := Kept.mk XS
    have XI' := Kept.mk XI
    have Z1 := Kept.mk (And.intro h1 trivial)
    clear HK hs hi hB CG XS XI hq hn hz h1
    go_enter Tryz.func100, Tryz.ntmps100
    go_wp2
    refine rck0_region _ _ _ rfl w.heap.size n sc A.cap sa vi A.slots A.index z rfl CG'.out XS'.out XI'.out hF.slots (by have := hF.index; omega) hF.ents Z1.out.1 ?_
    intro f9 W9 d2 hb9
    simp only [List.foldl_cons, List.foldl_nil, d2]
    generalize f9 3 = y3
    generalize f9 4 = y4
    generalize f9 5 = y5
    generalize f9 6 = y6
    generalize f9 7 = y7
    generalize f9 8 = y8
    generalize f9 9 = y9
    generalize f9 10 = y10
    generalize f9 11 = y11
    generalize f9 12 = y12
    generalize f9 13 = y13
    generalize f9 14 = y14
    generalize f9 15 = y15
    generalize f9 16 = y16
    generalize f9 17 = y17
    generalize f9 18 = y18
    generalize f9 19 = y19
    generalize f9 20 = y20
    generalize f9 21 = y21
    generalize f9 22 = y22
    generalize f9 23 = y23
    generalize f9 24 = y24
    generalize f9 25 = y25
    generalize f9 26 = y26
    generalize f9 27 = y27
    generalize f9 28 = y28
    generalize f9 29 = y29
    generalize f9 30 = y30
    generalize f9 31 = y31
    clear d2
    simp only [List.setIfInBounds_toArray, List.set_cons_succ, List.set_cons_zero]
    have hbb := HH.out.trans (hb9.mono HH.out.size)
    clear hb9
    go_wp2
    go_ret
    exact ⟨by rw [HE.out]; rfl, hbb⟩
  | true =>
    cases h2 : decide (A.cap ≤ 8) with
    | false =>
      have HE := Kept.mk (show q = false by rw [HK.out, h1, h2]; simp)
      have HH := Kept.mk hB
      have CG' := Kept.mk CG
      have XS' := Kept.mk XS
      have XI' := Kept.mk XI
      have Z1 := Kept.mk (And.intro h1 (And.intro h2 trivial))
      clear HK hs hi hB CG XS XI hq hn hz h1 h2
      go_enter Tryz.func100, Tryz.ntmps100
      go_wp2
      refine rck1_region _ _ _ rfl w.heap.size n sc A.cap sa vi A.slots A.index z rfl CG'.out XS'.out XI'.out hF.slots (by have := hF.index; omega) hF.ents Z1.out.1 Z1.out.2.1 ?_
      intro f9 W9 d2 hb9
      simp only [List.foldl_cons, List.foldl_nil, d2]
      generalize f9 3 = y3
      generalize f9 4 = y4
      generalize f9 5 = y5
      generalize f9 6 = y6
      generalize f9 7 = y7
      generalize f9 8 = y8
      generalize f9 9 = y9
      generalize f9 10 = y10
      generalize f9 11 = y11
      generalize f9 12 = y12
      generalize f9 13 = y13
      generalize f9 14 = y14
      generalize f9 15 = y15
      generalize f9 16 = y16
      generalize f9 17 = y17
      generalize f9 18 = y18
      generalize f9 19 = y19
      generalize f9 20 = y20
      generalize f9 21 = y21
      generalize f9 22 = y22
      generalize f9 23 = y23
      generalize f9 24 = y24
      generalize f9 25 = y25
      generalize f9 26 = y26
      generalize f9 27 = y27
      generalize f9 28 = y28
      generalize f9 29 = y29
      generalize f9 30 = y30
      generalize f9 31 = y31
      clear d2
      simp only [List.setIfInBounds_toArray, List.set_cons_succ, List.set_cons_zero]
      have hbb := HH.out.trans (hb9.mono HH.out.size)
      clear hb9
      go_wp2
      go_ret
      exact ⟨by rw [HE.out]; rfl, hbb⟩
    | true =>
      cases h3 : decide ((n : Int) ≤ A.cap) with
      | false =>
        have HE := Kept.mk (show q = false by rw [HK.out, h1, h2, h3]; simp)
        have HH := Kept.mk hB
        have CG' := Kept.mk CG
        have XS' := Kept.mk XS
        have XI' := Kept.mk XI
        have Z1 := Kept.mk (And.intro h1 (And.intro h2 (And.intro h3 trivial)))
        clear HK hs hi hB CG XS XI hq hn hz h1 h2 h3
        go_enter Tryz.func100, Tryz.ntmps100
        go_wp2
        refine rck2_region _ _ _ rfl w.heap.size n sc A.cap sa vi A.slots A.index z rfl CG'.out XS'.out XI'.out hF.slots (by have := hF.index; omega) hF.ents Z1.out.1 Z1.out.2.1 Z1.out.2.2.1 ?_
        intro f9 W9 d2 hb9
        simp only [List.foldl_cons, List.foldl_nil, d2]
        generalize f9 3 = y3
        generalize f9 4 = y4
        generalize f9 5 = y5
        generalize f9 6 = y6
        generalize f9 7 = y7
        generalize f9 8 = y8
        generalize f9 9 = y9
        generalize f9 10 = y10
        generalize f9 11 = y11
        generalize f9 12 = y12
        generalize f9 13 = y13
        generalize f9 14 = y14
        generalize f9 15 = y15
        generalize f9 16 = y16
        generalize f9 17 = y17
        generalize f9 18 = y18
        generalize f9 19 = y19
        generalize f9 20 = y20
        generalize f9 21 = y21
        generalize f9 22 = y22
        generalize f9 23 = y23
        generalize f9 24 = y24
        generalize f9 25 = y25
        generalize f9 26 = y26
        generalize f9 27 = y27
        generalize f9 28 = y28
        generalize f9 29 = y29
        generalize f9 30 = y30
        generalize f9 31 = y31
        clear d2
        simp only [List.setIfInBounds_toArray, List.set_cons_succ, List.set_cons_zero]
        have hbb := HH.out.trans (hb9.mono HH.out.size)
        clear hb9
        go_wp2
        go_ret
        exact ⟨by rw [HE.out]; rfl, hbb⟩
      | true =>
        cases h4 : slotsB A.slots with
        | false =>
          have HE := Kept.mk (show q = false by rw [HK.out, h1, h2, h3, h4]; simp)
          have HH := Kept.mk hB
          have CG' := Kept.mk CG
          have XS' := Kept.mk XS
          have XI' := Kept.mk XI
          have Z1 := Kept.mk (And.intro h1 (And.intro h2 (And.intro h3 (And.intro h4 trivial))))
          clear HK hs hi hB CG XS XI hq hn hz h1 h2 h3 h4
          go_enter Tryz.func100, Tryz.ntmps100
          go_wp2
          refine rck3_region _ _ _ rfl w.heap.size n sc A.cap sa vi A.slots A.index z rfl CG'.out XS'.out XI'.out hF.slots (by have := hF.index; omega) hF.ents Z1.out.1 Z1.out.2.1 Z1.out.2.2.1 Z1.out.2.2.2.1 ?_
          intro f9 W9 d2 hb9
          simp only [List.foldl_cons, List.foldl_nil, d2]
          generalize f9 3 = y3
          generalize f9 4 = y4
          generalize f9 5 = y5
          generalize f9 6 = y6
          generalize f9 7 = y7
          generalize f9 8 = y8
          generalize f9 9 = y9
          generalize f9 10 = y10
          generalize f9 11 = y11
          generalize f9 12 = y12
          generalize f9 13 = y13
          generalize f9 14 = y14
          generalize f9 15 = y15
          generalize f9 16 = y16
          generalize f9 17 = y17
          generalize f9 18 = y18
          generalize f9 19 = y19
          generalize f9 20 = y20
          generalize f9 21 = y21
          generalize f9 22 = y22
          generalize f9 23 = y23
          generalize f9 24 = y24
          generalize f9 25 = y25
          generalize f9 26 = y26
          generalize f9 27 = y27
          generalize f9 28 = y28
          generalize f9 29 = y29
          generalize f9 30 = y30
          generalize f9 31 = y31
          clear d2
          simp only [List.setIfInBounds_toArray, List.set_cons_succ, List.set_cons_zero]
          have hbb := HH.out.trans (hb9.mono HH.out.size)
          clear hb9
          go_wp2
          go_ret
          exact ⟨by rw [HE.out]; rfl, hbb⟩
        | true =>
          have HE := Kept.mk (show q = z by rw [HK.out, h1, h2, h3, h4, hz]; simp)
          have HH := Kept.mk hB
          have CG' := Kept.mk CG
          have XS' := Kept.mk XS
          have XI' := Kept.mk XI
          have Z1 := Kept.mk (And.intro h1 (And.intro h2 (And.intro h3 (And.intro h4 hz))))
          clear HK hs hi hB CG XS XI hq hn h1 h2 h3 h4 hz
          go_enter Tryz.func100, Tryz.ntmps100
          go_wp2
          refine rck4_region _ _ _ rfl w.heap.size n sc A.cap sa vi A.slots A.index z rfl CG'.out XS'.out XI'.out hF.slots (by have := hF.index; omega) hF.ents Z1.out.1 Z1.out.2.1 Z1.out.2.2.1 Z1.out.2.2.2.1 Z1.out.2.2.2.2 ?_
          intro f9 W9 d2 hb9
          simp only [List.foldl_cons, List.foldl_nil, d2]
          generalize f9 3 = y3
          generalize f9 4 = y4
          generalize f9 5 = y5
          generalize f9 6 = y6
          generalize f9 7 = y7
          generalize f9 8 = y8
          generalize f9 9 = y9
          generalize f9 10 = y10
          generalize f9 11 = y11
          generalize f9 12 = y12
          generalize f9 13 = y13
          generalize f9 14 = y14
          generalize f9 15 = y15
          generalize f9 16 = y16
          generalize f9 17 = y17
          generalize f9 18 = y18
          generalize f9 19 = y19
          generalize f9 20 = y20
          generalize f9 21 = y21
          generalize f9 22 = y22
          generalize f9 23 = y23
          generalize f9 24 = y24
          generalize f9 25 = y25
          generalize f9 26 = y26
          generalize f9 27 = y27
          generalize f9 28 = y28
          generalize f9 29 = y29
          generalize f9 30 = y30
          generalize f9 31 = y31
          clear d2
          simp only [List.setIfInBounds_toArray, List.set_cons_succ, List.set_cons_zero]
          have hbb := HH.out.trans (hb9.mono HH.out.size)
          clear hb9
          go_wp2
          go_ret
          exact ⟨by rw [HE.out]; rfl, hbb⟩
end Go.Proofs.YtbgconagkgfplaaGreat
end
section
namespace Go.Proofs.YtbgconagkgfplaaGreat
open Go.RowKit
set_option linter.unusedVariables false
set_option linter.unusedSimpArgs false
attribute [local irreducible] setN

theorem resame_val (X Y : En) (z : Bool) (v u : Value) (w : World) (hv : isEn X v w) (hu : isEn Y u w) (hX : FitE X) (hY : FitE Y) (hz : decide (X = Y) = z) : Calls Tryz.prog 28 #[v, u] w fun e w' => ∃ x, e = .returned x ∧ isVal (.bool z) x w' ∧ Below w.heap.size w w' :=
  (resame_any X Y v u w hv hu hX.val hY.val).mono (by rintro e w' ⟨rfl, h⟩; exact ⟨_, rfl, by rw [hz]; rfl, h⟩)
noncomputable def rallOps : Array Oper := regionOf Tryz.f35 6
set_option maxRecDepth 100000 in
set_option maxHeartbeats 2000000 in
theorem rall_region (Q : Exit → Act → World → Prop) (a0 : Act) (w0 : World) (hsz : a0.tmps.size = 27) (k n bs os cs bt ot ct : Nat) (z : Bool) (X Y : En) (xp xm yp ym : Value) (e5 : a0.tmps.getD 5 undef = .int .i64 (k : Int)) (e0 : a0.tmps.getD 0 undef = .slice (some ⟨bs, os, none⟩) n cs) (e1 : a0.tmps.getD 1 undef = .slice (some ⟨bt, ot, none⟩) n ct) (hk : k < n) (hbs : bs < w0.heap.size) (hbt : bt < w0.heap.size) (hxc : ∀ (j : Nat) (x : Value), [.string ⟨X.key.toArray⟩, .int .i64 X.val.kind, .int .i64 X.val.time, .int .i64 X.val.node, .bool X.val.dead, .string ⟨X.val.text.toArray⟩, xp, xm, .int .u64 (X.val.flags.toNat : Int)][j]? = some x → w0.cell? ⟨bs, os + k * 9 + j, none⟩ = some x) (hyc : ∀ (j : Nat) (x : Value), [.string ⟨Y.key.toArray⟩, .int .i64 Y.val.kind, .int .i64 Y.val.time, .int .i64 Y.val.node, .bool Y.val.dead, .string ⟨Y.val.text.toArray⟩, yp, ym, .int .u64 (Y.val.flags.toNat : Int)][j]? = some x → w0.cell? ⟨bt, ot + k * 9 + j, none⟩ = some x) (hxp : isCells (X.val.plus.map intC) xp w0) (hxm : isCells (X.val.minus.map intC) xm w0) (hyp : isCells (Y.val.plus.map intC) yp w0) (hym : isCells (Y.val.minus.map intC) ym w0) (fX : FitE X) (fY : FitE Y) (hz : decide (X = Y) = z)
    (hQ : ∀ (g : Nat → Value) (w : World), g 26 = .bool !z → Below w0.heap.size w0 w → Q .normal { tmps := [17, 18, 19, 20, 21, 22, 23, 24, 25, 26].foldl (fun t s => t.setIfInBounds s (g s)) a0.tmps, defers := a0.defers } w) :
    (Code.region 6 rallOps true).wp Tryz.prog Q a0 w0 := by
  refine wp_region_flow mixed (by rw [hsz]; kernel_rfl) ?_
  rw [show rallOps.size = 10 by kernel_rfl]
  refine ⟨isVal (.slice (some ⟨bs, os, none⟩) n cs), step_move (.tmp 0) (by kernel_rfl) (wanted_none (by kernel_rfl)) (stable_val _) (knows_old 0 (.slice (some ⟨bs, os, none⟩) n cs) (by kernel_rfl) e0), ?_⟩
  refine ⟨isVal (.int .i64 (k : Int)), step_move (.tmp 5) (by kernel_rfl) (wanted_none (by kernel_rfl)) (stable_val _) (knows_old 5 (.int .i64 (k : Int)) (by kernel_rfl) e5), ?_⟩
  refine ⟨isVal (.pointer (some ⟨bs, os + k * 9, none⟩)), step_placeE 22 30 (.tmp 17) (.tmp 18) bs (os) (n) (cs) (k) (os + k * 9) (by kernel_rfl) (wanted_none (by kernel_rfl)) (knows_new (V := isVal (.slice (some ⟨bs, os, none⟩) n cs)) 17 0 (by kernel_rfl) (by kernel_rfl) (by kernel_rfl)) (knows_new (V := isVal (.int .i64 (k : Int))) 18 1 (by kernel_rfl) (by kernel_rfl) (by kernel_rfl)) Tryz.underlying22 (by kernel_rfl) (⟨hk, rfl⟩), ?_⟩
  refine ⟨isVal (.agg #[.string ⟨X.key.toArray⟩, .int .i64 X.val.kind, .int .i64 X.val.time, .int .i64 X.val.node, .bool X.val.dead, .string ⟨X.val.text.toArray⟩, xp, xm, .int .u64 (X.val.flags.toNat : Int)]), step_loadA 30 (.tmp 19) (bs) (os + k * 9) [.string ⟨X.key.toArray⟩, .int .i64 X.val.kind, .int .i64 X.val.time, .int .i64 X.val.node, .bool X.val.dead, .string ⟨X.val.text.toArray⟩, xp, xm, .int .u64 (X.val.flags.toNat : Int)] (by kernel_rfl) (wanted_none (by kernel_rfl)) (knows_new (V := isVal (.pointer (some ⟨bs, os + k * 9, none⟩))) 19 2 (by kernel_rfl) (by kernel_rfl) (by kernel_rfl)) size_en agg_en (⟨hbs, hxc⟩), ?_⟩
  refine ⟨isVal (.slice (some ⟨bt, ot, none⟩) n ct), step_move (.tmp 1) (by kernel_rfl) (wanted_none (by kernel_rfl)) (stable_val _) (knows_old 1 (.slice (some ⟨bt, ot, none⟩) n ct) (by kernel_rfl) e1), ?_⟩
  refine ⟨isVal (.int .i64 (k : Int)), step_move (.tmp 5) (by kernel_rfl) (wanted_none (by kernel_rfl)) (stable_val _) (knows_old 5 (.int .i64 (k : Int)) (by kernel_rfl) e5), ?_⟩
  refine ⟨isVal (.pointer (some ⟨bt, ot + k * 9, none⟩)), step_placeE 22 30 (.tmp 21) (.tmp 22) bt (ot) (n) (ct) (k) (ot + k * 9) (by kernel_rfl) (wanted_none (by kernel_rfl)) (knows_new (V := isVal (.slice (some ⟨bt, ot, none⟩) n ct)) 21 4 (by kernel_rfl) (by kernel_rfl) (by kernel_rfl)) (knows_new (V := isVal (.int .i64 (k : Int))) 22 5 (by kernel_rfl) (by kernel_rfl) (by kernel_rfl)) Tryz.underlying22 (by kernel_rfl) (⟨hk, rfl⟩), ?_⟩
  refine ⟨isVal (.agg #[.string ⟨Y.key.toArray⟩, .int .i64 Y.val.kind, .int .i64 Y.val.time, .int .i64 Y.val.node, .bool Y.val.dead, .string ⟨Y.val.text.toArray⟩, yp, ym, .int .u64 (Y.val.flags.toNat : Int)]), step_loadA 30 (.tmp 23) (bt) (ot + k * 9) [.string ⟨Y.key.toArray⟩, .int .i64 Y.val.kind, .int .i64 Y.val.time, .int .i64 Y.val.node, .bool Y.val.dead, .string ⟨Y.val.text.toArray⟩, yp, ym, .int .u64 (Y.val.flags.toNat : Int)] (by kernel_rfl) (wanted_none (by kernel_rfl)) (knows_new (V := isVal (.pointer (some ⟨bt, ot + k * 9, none⟩))) 23 6 (by kernel_rfl) (by kernel_rfl) (by kernel_rfl)) size_en agg_en (⟨hbt, hyc⟩), ?_⟩
  refine ⟨isVal (.bool z), step_call 28 #[.tmp 20, .tmp 24] #[30, 30] #[.agg #[.string ⟨X.key.toArray⟩, .int .i64 X.val.kind, .int .i64 X.val.time, .int .i64 X.val.node, .bool X.val.dead, .string ⟨X.val.text.toArray⟩, xp, xm, .int .u64 (X.val.flags.toNat : Int)], .agg #[.string ⟨Y.key.toArray⟩, .int .i64 Y.val.kind, .int .i64 Y.val.time, .int .i64 Y.val.node, .bool Y.val.dead, .string ⟨Y.val.text.toArray⟩, yp, ym, .int .u64 (Y.val.flags.toNat : Int)]] (by kernel_rfl) (wanted_none (by kernel_rfl)) (stable_val _) (args2 (.tmp 20) (.tmp 24) (.agg #[.string ⟨X.key.toArray⟩, .int .i64 X.val.kind, .int .i64 X.val.time, .int .i64 X.val.node, .bool X.val.dead, .string ⟨X.val.text.toArray⟩, xp, xm, .int .u64 (X.val.flags.toNat : Int)]) (.agg #[.string ⟨Y.key.toArray⟩, .int .i64 Y.val.kind, .int .i64 Y.val.time, .int .i64 Y.val.node, .bool Y.val.dead, .string ⟨Y.val.text.toArray⟩, yp, ym, .int .u64 (Y.val.flags.toNat : Int)]) (knows_new (V := isVal (.agg #[.string ⟨X.key.toArray⟩, .int .i64 X.val.kind, .int .i64 X.val.time, .int .i64 X.val.node, .bool X.val.dead, .string ⟨X.val.text.toArray⟩, xp, xm, .int .u64 (X.val.flags.toNat : Int)])) 20 3 (by kernel_rfl) (by kernel_rfl) (by kernel_rfl)) (knows_new (V := isVal (.agg #[.string ⟨Y.key.toArray⟩, .int .i64 Y.val.kind, .int .i64 Y.val.time, .int .i64 Y.val.node, .bool Y.val.dead, .string ⟨Y.val.text.toArray⟩, yp, ym, .int .u64 (Y.val.flags.toNat : Int)])) 24 7 (by kernel_rfl) (by kernel_rfl) (by kernel_rfl))) (enters_of Tryz.func28 (by kernel_rfl) rfl) (by intro w' hb; exact resame_val X Y z _ _ w' (en_mk hxp hxm hb) (en_mk hyp hym hb) fX fY hz), ?_⟩
  refine ⟨isVal (.bool !z), step_un .not 4 (.tmp 25) (.bool z) (.bool !z) (by kernel_rfl) (wanted_none (by kernel_rfl)) (knows_new (V := isVal (.bool z)) 25 8 (by kernel_rfl) (by kernel_rfl) (by kernel_rfl)) (fun _ => rfl), ?_⟩
  intro a w hkp hb hd
  rw [kept_of hkp [some 17, some 18, some 19, some 20, some 21, some 22, some 23, some 24, some 25, some 26] [17, 18, 19, 20, 21, 22, 23, 24, 25, 26] (by kernel_rfl) (by decide)]
  have d26 := fdone_of (hd 9 (by rw [show rallOps.size = 10 by kernel_rfl]; decide)) (t := 26) (V := isVal (.bool !z)) (by kernel_rfl) (by kernel_rfl)
  exact hQ (fun s => a.tmps.getD s undef) w d26 hb
set_option maxRecDepth 100000 in
set_option maxHeartbeats 2000000 in
theorem refAll_any (l m : List En) (v u : Value) (w : World) (hv : isEns l v w) (hu : isEns m u w) (hl : l.length ≤ 1000) (hm : m.length ≤ 1000) (fl : ∀ e ∈ l, FitE e) (fm : ∀ e ∈ m, FitE e) : Calls Tryz.prog 35 #[v, u] w fun e w' => e = .returned (.bool (decide (l = m))) ∧ Below w.heap.size w w' := by
  obtain ⟨va, vc, rfl⟩ := hv.len
  obtain ⟨ua, uc, rfl⟩ := hu.len
  by_cases hlen : l.length = m.length
  · have HV := Kept.mk hv
    have HU := Kept.mk hu
    have FL := Kept.mk fl
    have FM := Kept.mk fm
    clear hv hu fl fm
    generalize hn : l.length = n at *
    generalize hmn : m.length = n2 at *
    subst hlen
    have HN := Kept.mk (And.intro hn hmn)
    clear hn hmn
    go_enter Tryz.func35, Tryz.ntmps35
    go_wp2
    go_loopw [5] (fun i wr => ∃ k : Nat, k ≤ n ∧ i = .int .i64 (k : Int) ∧ Kept (Below w.heap.size w wr) ∧ Kept (∀ j, j < k → l[j]? = m[j]?)) (fun i _ => n - (intOf i).toNat)
    case atStart => exact ⟨0, Nat.zero_le _, rfl, ⟨Below.refl _ _⟩, ⟨fun j h => absurd h (Nat.not_lt_zero _)⟩⟩
    case round =>
      obtain ⟨k, hk, rfl, B, A⟩ := hrel
      by_cases hlt : k < n
      · have hlt' : (k : Int) < (n : Int) := by omega
        obtain ⟨X, hX⟩ : ∃ X, l[k]? = some X := ⟨_, List.getElem?_eq_getElem (by have := HN.out.1; omega)⟩
        obtain ⟨Y, hY⟩ : ∃ Y, m[k]? = some Y := ⟨_, List.getElem?_eq_getElem (by have := HN.out.2; omega)⟩
        obtain ⟨bs, os, cs, hvs, hbs, xp, xm, hxc, hxp, hxm⟩ := HV.out.get hX
        injection hvs with h1 hz1 h2
        clear hz1
        subst h1 h2
        obtain ⟨bt, ot, ct, hvt, hbt, yp, ym, hyc, hyp, hym⟩ := HU.out.get hY
        injection hvt with h1 hz1 h2
        clear hz1
        subst h1 h2
        have FX := Kept.mk (FL.out X (List.mem_of_getElem? hX))
        have FY := Kept.mk (FM.out Y (List.mem_of_getElem? hY))
        have HXY := Kept.mk (And.intro hX hY)
        have HXC := Kept.mk hxc
        have HYC := Kept.mk hyc
        obtain ⟨z, hz⟩ : ∃ z, decide (X = Y) = z := ⟨_, rfl⟩
        have HZ := Kept.mk hz
        have hsw := B.out.size
        clear hX hY hz hxc hyc
        go_wp2
        refine rall_region _ _ _ rfl k n bs os vc bt ot uc z X Y xp xm yp ym rfl rfl rfl hlt (by omega) (by omega) (fun j x hx => (B.out.cell (p := ⟨bs, os + k * 9 + j, none⟩) hbs).trans (HXC.out j x hx)) (fun j x hx => (B.out.cell (p := ⟨bt, ot + k * 9 + j, none⟩) hbt).trans (HYC.out j x hx)) (stable_cells _ _ _ _ hxp B.out) (stable_cells _ _ _ _ hxm B.out) (stable_cells _ _ _ _ hyp B.out) (stable_cells _ _ _ _ hym B.out) FX.out FY.out HZ.out ?_
        intro f9 W9 d26 hb9
        simp only [List.foldl_cons, List.foldl_nil, d26]
        generalize f9 17 = y17
        generalize f9 18 = y18
        generalize f9 19 = y19
        generalize f9 20 = y20
        generalize f9 21 = y21
        generalize f9 22 = y22
        generalize f9 23 = y23
        generalize f9 24 = y24
        generalize f9 25 = y25
        clear d26
        simp only [List.setIfInBounds_toArray, List.set_cons_succ, List.set_cons_zero]
        replace B := Kept.mk (B.out.trans (hb9.mono hsw))
        clear hb9
        cases z with
        | true =>
          have HQ := Kept.mk (of_decide_eq_true HZ.out)
          go_wp2
          go_roundw
          case rel =>
            refine ⟨k + 1, by omega, by go_num, B, ⟨fun j hj => ?_⟩⟩
            by_cases e : j = k
            · subst e; rw [HXY.out.1, HXY.out.2, HQ.out]
            · exact A.out j (by omega)
          case measure => simp [intOf]; omega
        | false =>
          have HE := Kept.mk (show decide (l = m) = false from decide_eq_false (fun e => by
            have := HXY.out.1; rw [e, HXY.out.2] at this; injection this with this
            exact (of_decide_eq_false HZ.out) this.symm))
          go_wp2
          go_ret
          exact ⟨by rw [HE.out]; rfl, B.out⟩
      · have hlt' : ¬ (k : Int) < (n : Int) := by omega
        have HE := Kept.mk (show decide (l = m) = true from decide_eq_true (List.ext_getElem? (fun j => by
          by_cases hj : j < k
          · exact A.out j hj
          · rw [List.getElem?_eq_none (by have := HN.out.1; omega), List.getElem?_eq_none (by have := HN.out.2; omega)])))
        go_wp2
        go_ret
        exact ⟨by rw [HE.out]; rfl, B.out⟩
  · have HE := Kept.mk (show decide (l = m) = false from decide_eq_false (fun e => hlen (by rw [e])))
    clear hv hu fl fm
    generalize l.length = n at *
    generalize m.length = n2 at *
    have hl1 : ((n : Int) == (n2 : Int)) = false := by simp; omega
    have hl2 : ((n : Int) != (n2 : Int)) = true := by simp; omega
    go_enter Tryz.func35, Tryz.ntmps35
    go_wp2
    go_ret
    exact ⟨by rw [HE.out]; rfl, Below.refl _ _⟩
end Go.Proofs.YtbgconagkgfplaaGreat
end
section
namespace Go.Proofs.YtbgconagkgfplaaGreat
open Go.RowKit
set_option linter.unusedVariables false
set_option linter.unusedSimpArgs false
attribute [local irreducible] setN

def srcP (ps : RowE) : VP := fun v w => SrcE v ps w
theorem SrcE.keepE {u : Value} {ps : RowE} {w w' : World} (h : SrcE u ps w) (hb : Below w.heap.size w w') : SrcE u ps w' := by
  rcases h with h | ⟨a, c, e, hc⟩
  · exact .inl h
  · exact .inr ⟨a, c, e, fun j x hx => (hb.cell (World.block_lt_of_cell? w _ (hc j x hx))).trans (hc j x hx)⟩
theorem stable_src (ps : RowE) : Stable (srcP ps) := fun v w w' h hb => SrcE.keepE h hb
theorem src_oneE (X : En) (xp xm : Value) (w : World) : SrcE (.slice (some ⟨w.heap.size, 0, none⟩) 1 1) [(X, xp, xm)] (w.alloc (.cells #[.string ⟨X.key.toArray⟩, .int .i64 X.val.kind, .int .i64 X.val.time, .int .i64 X.val.node, .bool X.val.dead, .string ⟨X.val.text.toArray⟩, xp, xm, .int .u64 (X.val.flags.toNat : Int)] 30)) := by
  refine .inr ⟨⟨w.heap.size, 0, none⟩, 1, rfl, fun j x hx => ?_⟩
  rw [add_at, Nat.zero_add, World.cell?_alloc_new]
  simpa [flatE, enL] using hx
section
variable {ops : Array Oper} {base : World} {a0 : Act} {Q : Exit → Act → World → Prop} {kn : Nat → VP} {i : Nat} {V : VP}
theorem step_src1 (X : En) (xp xm : Value) (x : Operand) (hop : (ops[i]?).map (·.op) = some (.buildSlice 22 1 #[(0, x)])) (hw : Wanted ops a0 kn i) (h0 : Knows ops a0 kn i x (isVal (.agg #[.string ⟨X.key.toArray⟩, .int .i64 X.val.kind, .int .i64 X.val.time, .int .i64 X.val.node, .bool X.val.dead, .string ⟨X.val.text.toArray⟩, xp, xm, .int .u64 (X.val.flags.toNat : Int)]))) : FStep Tryz.prog ops base a0 Q kn i (srcP [(X, xp, xm)]) :=
  step_mk (stable_src _) hw fun o ho a w hk hb hd => by
    have e0 : a.eval x = .agg #[.string ⟨X.key.toArray⟩, .int .i64 X.val.kind, .int .i64 X.val.time, .int .i64 X.val.node, .bool X.val.dead, .string ⟨X.val.text.toArray⟩, xp, xm, .int .u64 (X.val.flags.toNat : Int)] := h0 a w hk hd
    obtain ⟨ie, hie, hz, hsz⟩ : ∃ ie, Tryz.prog.info? 30 = some ie ∧ ie.zero = some (.agg #[.string ⟨#[]⟩, .int .i64 0, .int .i64 0, .int .i64 0, .bool false, .string ⟨#[]⟩, .slice none 0 0, .slice none 0 0, .int .u64 0]) ∧ ie.size = 9 := by
      have := Tryz.infoEn
      obtain ⟨ie, h1, h2⟩ := Option.map_eq_some_iff.1 this
      simp only [Prod.mk.injEq] at h2
      exact ⟨ie, h1, h2.1, h2.2⟩
    have hf : Instr.fill (fun i => some (i * ie.size, ie.size)) ((Array.range (1 * ie.size)).map ((Value.agg #[.string ⟨#[]⟩, .int .i64 0, .int .i64 0, .int .i64 0, .bool false, .string ⟨#[]⟩, .slice none 0 0, .slice none 0 0, .int .u64 0]).cells[· % (Value.agg #[.string ⟨#[]⟩, .int .i64 0, .int .i64 0, .int .i64 0, .bool false, .string ⟨#[]⟩, .slice none 0 0, .slice none 0 0, .int .u64 0]).cells.size]!)) ((#[(0, x)] : Array (Nat × Operand)).map fun (i, x) => (i, a.eval x)).toList = some #[.string ⟨X.key.toArray⟩, .int .i64 X.val.kind, .int .i64 X.val.time, .int .i64 X.val.node, .bool X.val.dead, .string ⟨X.val.text.toArray⟩, xp, xm, .int .u64 (X.val.flags.toNat : Int)] := by
      have e1 : ((#[(0, x)] : Array (Nat × Operand)).map fun (i, x) => (i, a.eval x)).toList = [(0, .agg #[.string ⟨X.key.toArray⟩, .int .i64 X.val.kind, .int .i64 X.val.time, .int .i64 X.val.node, .bool X.val.dead, .string ⟨X.val.text.toArray⟩, xp, xm, .int .u64 (X.val.flags.toNat : Int)])] := by simp [e0]
      rw [e1, hsz]
      exact fill_en X xp xm _ (by simp)
    refine wp_buildSlice 22 30 1 _ (op_of hop ho) _ ie (.agg #[.string ⟨#[]⟩, .int .i64 0, .int .i64 0, .int .i64 0, .bool false, .string ⟨#[]⟩, .slice none 0 0, .slice none 0 0, .int .u64 0]) Tryz.underlying22 hie hz (by rw [hsz]; omega) (by rw [hsz]; omega) hf ?_
    exact ⟨_, rfl, src_oneE X xp xm w, lit_below w _⟩
end
noncomputable def rallAOps : Array Oper := regionOf Tryz.f83 7
set_option maxRecDepth 100000 in
set_option maxHeartbeats 2000000 in
theorem rallA_region (Q : Exit → Act → World → Prop) (a0 : Act) (w0 : World) (hsz : a0.tmps.size = 28) (B : Nat) (v0 : Value) (ps : RowE) (g bs os cs n bi oi ci m k q : Nat) (c : Int) (X : En) (xp xm : Value) (e3 : a0.tmps.getD 3 undef = v0) (e1 : a0.tmps.getD 1 undef = .pointer (some ⟨g, 0, none⟩)) (e4 : a0.tmps.getD 4 undef = .int .i64 (k : Int)) (HG : CellsN w0 g [.int .i64 c, .slice (some ⟨bs, os, none⟩) n cs, .slice (some ⟨bi, oi, none⟩) m ci]) (hbi : bi < w0.heap.size) (hkm : k < m) (hq : w0.cell? ⟨bi, oi + k, none⟩ = some (.int .i64 (q : Int))) (hqn : q < n) (hbs : bs < w0.heap.size) (hxc : ∀ (jj : Nat) (x : Value), [.string ⟨X.key.toArray⟩, .int .i64 X.val.kind, .int .i64 X.val.time, .int .i64 X.val.node, .bool X.val.dead, .string ⟨X.val.text.toArray⟩, xp, xm, .int .u64 (X.val.flags.toNat : Int)][jj]? = some x → w0.cell? ⟨bs, os + q * 9 + jj, none⟩ = some x) (hO : OutV B v0 ps w0) (hr2 : RowsOk [(X, xp, xm)] w0) (hoff : ∀ q ∈ [(X, xp, xm)], ∀ b, v0.ownBlock = some b → OffQ b q) (hn : ps.length ≤ 900) (hB : B ≤ w0.heap.size)
    (hQ : ∀ (f : Nat → Value) (w1 : World), f 3 = f 26 → OutV B (f 26) (ps ++ [(X, xp, xm)]) w1 → Below B w0 w1 → Q .normal { tmps := [15, 16, 17, 18, 19, 20, 21, 22, 23, 24, 25, 26, 3].foldl (fun t s => t.setIfInBounds s (f s)) a0.tmps, defers := a0.defers } w1) :
    (Code.region 7 rallAOps true).wp Tryz.prog Q a0 w0 := by
  refine wp_region_relC grows_pre 11 mixed (by rw [hsz]; kernel_rfl) (by kernel_rfl) ?_
  rw [show rallAOps.size - 11 = 2 by kernel_rfl]
  refine ⟨isVal v0, RStep.old 3 v0 (by kernel_rfl) (by kernel_rfl) (by kernel_rfl) e3, ?_⟩
  refine ⟨isVal (.pointer (some ⟨g, 1, none⟩)), RStep.of grows_pre (stable_val _) (by kernel_rfl) (by intro w hbw; exact step_field 25 (.tmp 1) 1 ⟨g, 0, none⟩ ⟨g, 1, none⟩ (by kernel_rfl) (wanted_none (by kernel_rfl)) (knows_old 1 (.pointer (some ⟨g, 0, none⟩)) (by kernel_rfl) e1) (f_ar_0_1 (g))), ?_⟩
  refine ⟨isVal (.slice (some ⟨bs, os, none⟩) n cs), RStep.of grows_pre (stable_val _) (by kernel_rfl) (by intro w hbw; exact step_read 22 (.tmp 16) ⟨g, 1, none⟩ (.slice (some ⟨bs, os, none⟩) n cs) (by kernel_rfl) (wanted_none (by kernel_rfl)) (knows_new (V := isVal (.pointer (some ⟨g, 1, none⟩))) 16 1 (by kernel_rfl) (by kernel_rfl) (by kernel_rfl)) (((hbw.cell (p := ⟨g, 1, none⟩) HG.1).trans (HG.2 1 _ rfl))) ((Nat.lt_of_lt_of_le HG.1 hbw.size)) (agg_noS)), ?_⟩
  refine ⟨isVal (.pointer (some ⟨g, 2, none⟩)), RStep.of grows_pre (stable_val _) (by kernel_rfl) (by intro w hbw; exact step_field 25 (.tmp 1) 2 ⟨g, 0, none⟩ ⟨g, 2, none⟩ (by kernel_rfl) (wanted_none (by kernel_rfl)) (knows_old 1 (.pointer (some ⟨g, 0, none⟩)) (by kernel_rfl) e1) (f_ar_0_2 (g))), ?_⟩
  refine ⟨isVal (.slice (some ⟨bi, oi, none⟩) m ci), RStep.of grows_pre (stable_val _) (by kernel_rfl) (by intro w hbw; exact step_read 23 (.tmp 18) ⟨g, 2, none⟩ (.slice (some ⟨bi, oi, none⟩) m ci) (by kernel_rfl) (wanted_none (by kernel_rfl)) (knows_new (V := isVal (.pointer (some ⟨g, 2, none⟩))) 18 3 (by kernel_rfl) (by kernel_rfl) (by kernel_rfl)) (((hbw.cell (p := ⟨g, 2, none⟩) HG.1).trans (HG.2 2 _ rfl))) ((Nat.lt_of_lt_of_le HG.1 hbw.size)) (agg_noI)), ?_⟩
  refine ⟨isVal (.int .i64 (k : Int)), RStep.of grows_pre (stable_val _) (by kernel_rfl) (by intro w hbw; exact step_move (.tmp 4) (by kernel_rfl) (wanted_none (by kernel_rfl)) (stable_val _) (knows_old 4 (.int .i64 (k : Int)) (by kernel_rfl) e4)), ?_⟩
  refine ⟨isVal (.pointer (some ⟨bi, oi + k, none⟩)), RStep.of grows_pre (stable_val _) (by kernel_rfl) (by intro w hbw; exact step_place 23 3 (.tmp 19) (.tmp 20) bi (oi) (m) (ci) (k) (by kernel_rfl) (wanted_none (by kernel_rfl)) (knows_new (V := isVal (.slice (some ⟨bi, oi, none⟩) m ci)) 19 4 (by kernel_rfl) (by kernel_rfl) (by kernel_rfl)) (knows_new (V := isVal (.int .i64 (k : Int))) 20 5 (by kernel_rfl) (by kernel_rfl) (by kernel_rfl)) Tryz.underlying23 (by kernel_rfl) (hkm)), ?_⟩
  refine ⟨isVal (.int .i64 (q : Int)), RStep.of grows_pre (stable_val _) (by kernel_rfl) (by intro w hbw; exact step_read 3 (.tmp 21) ⟨bi, oi + k, none⟩ (.int .i64 (q : Int)) (by kernel_rfl) (wanted_none (by kernel_rfl)) (knows_new (V := isVal (.pointer (some ⟨bi, oi + k, none⟩))) 21 6 (by kernel_rfl) (by kernel_rfl) (by kernel_rfl)) (((hbw.cell (p := ⟨bi, oi + k, none⟩) hbi).trans hq)) ((Nat.lt_of_lt_of_le hbi hbw.size)) (agg_noZ)), ?_⟩
  refine ⟨isVal (.pointer (some ⟨bs, os + q * 9, none⟩)), RStep.of grows_pre (stable_val _) (by kernel_rfl) (by intro w hbw; exact step_placeE 22 30 (.tmp 17) (.tmp 22) bs (os) (n) (cs) (q) (os + q * 9) (by kernel_rfl) (wanted_none (by kernel_rfl)) (knows_new (V := isVal (.slice (some ⟨bs, os, none⟩) n cs)) 17 2 (by kernel_rfl) (by kernel_rfl) (by kernel_rfl)) (knows_new (V := isVal (.int .i64 (q : Int))) 22 7 (by kernel_rfl) (by kernel_rfl) (by kernel_rfl)) Tryz.underlying22 (by kernel_rfl) (⟨hqn, rfl⟩)), ?_⟩
  refine ⟨isVal (.agg #[.string ⟨X.key.toArray⟩, .int .i64 X.val.kind, .int .i64 X.val.time, .int .i64 X.val.node, .bool X.val.dead, .string ⟨X.val.text.toArray⟩, xp, xm, .int .u64 (X.val.flags.toNat : Int)]), RStep.of grows_pre (stable_val _) (by kernel_rfl) (by intro w hbw; exact step_loadA 30 (.tmp 23) (bs) (os + q * 9) [.string ⟨X.key.toArray⟩, .int .i64 X.val.kind, .int .i64 X.val.time, .int .i64 X.val.node, .bool X.val.dead, .string ⟨X.val.text.toArray⟩, xp, xm, .int .u64 (X.val.flags.toNat : Int)] (by kernel_rfl) (wanted_none (by kernel_rfl)) (knows_new (V := isVal (.pointer (some ⟨bs, os + q * 9, none⟩))) 23 8 (by kernel_rfl) (by kernel_rfl) (by kernel_rfl)) size_en agg_en (⟨Nat.lt_of_lt_of_le hbs hbw.size, fun j x hx => (hbw.cell (p := ⟨bs, os + q * 9 + j, none⟩) hbs).trans (hxc j x hx)⟩)), ?_⟩
  refine ⟨srcP [(X, xp, xm)], RStep.of grows_pre (stable_src _) (by kernel_rfl) (by intro w hbw; exact step_src1 X xp xm (.tmp 24) (by kernel_rfl) (wanted_none (by kernel_rfl)) (knows_new (V := isVal (.agg #[.string ⟨X.key.toArray⟩, .int .i64 X.val.kind, .int .i64 X.val.time, .int .i64 X.val.node, .bool X.val.dead, .string ⟨X.val.text.toArray⟩, xp, xm, .int .u64 (X.val.flags.toNat : Int)])) 24 9 (by kernel_rfl) (by kernel_rfl) (by kernel_rfl))), ?_⟩
  intro a w hk0 hb0 hd
  have hb : Below w0.heap.size w0 w := hb0
  have d15 : a.eval (.tmp 15) = v0 := fdone_of (rdone_f (hd 0 (by decide))) (t := 15) (V := isVal v0) (by kernel_rfl) (by kernel_rfl)
  have d25 : SrcE (a.eval (.tmp 25)) [(X, xp, xm)] w := fdone_of (rdone_f (hd 10 (by decide))) (t := 25) (V := srcP [(X, xp, xm)]) (by kernel_rfl) (by kernel_rfl)
  have h26 : 26 < a.tmps.size := by rw [hk0.2.1, hsz]; decide
  refine tail_op (fun _ _ => True) (OP := .call { callee := .builtin .append, args := #[.tmp 15, .tmp 25], argTypes := #[22, 22] }) (by kernel_rfl) (fun o ho e => ?_)
  have hdst : o.dst = some 26 := by have : (rallAOps[11]?).map (·.dst) = some (some 26) := by kernel_rfl
                                    rw [ho] at this; simpa using this
  obtain ⟨v', w1, hrun, ho1, hgr⟩ := run_append_ens (hO.keep hb) d25 (fun q hq => ⟨stable_cells _ _ _ _ (hr2 q hq).1 hb, stable_cells _ _ _ _ (hr2 q hq).2 hb⟩) hoff (by simp; omega) (Nat.le_trans hB hb.size) o.type
  unfold Oper.wp execOp
  rw [e]
  simp only [resolve, Sem.run_bind, Sem.run_pure, Result.andThen_ok, invoke, builtin, List.map_toArray, List.map_cons, List.map_nil, d15, hrun, Oper.upon, hdst]
  have hB1 : Below B w0 w1 := (hb.mono hB).trans ((Below.refl B w).grown hgr (Nat.le_trans hB hb.size) (fun j hj => (hO.own.lt j hj).1))
  show Tail Tryz.prog rallAOps Q 1 12 (a.put (some 26) v') w1
  refine tail_op (fun _ _ => True) (OP := .assign (.tmp 26)) (by kernel_rfl) (fun o2 ho2 e2 => ?_)
  have hdst2 : o2.dst = some 3 := by have : (rallAOps[12]?).map (·.dst) = some (some 3) := by kernel_rfl
                                     rw [ho2] at this; simpa using this
  have e26 : (a.put (some 26) v').tmps.getD 26 undef = v' := getD_put_self h26
  unfold Oper.wp execOp
  rw [e2]
  simp only [Oper.upon, Sem.run_pure, hdst2]
  show Tail Tryz.prog rallAOps Q 0 13 (((a.put (some 26) v')).put (some 3) ((a.put (some 26) v').tmps.getD 26 undef)) w1
  rw [e26]
  have h3 : 3 < (a.put (some 26) v').tmps.size := by rw [size_put, hk0.2.1, hsz]; decide
  have f3 : ((a.put (some 26) v').put (some 3) v').tmps.getD 3 undef = v' := getD_put_self h3
  have f26 : ((a.put (some 26) v').put (some 3) v').tmps.getD 26 undef = v' := (getD_put (by decide)).trans e26
  show Q .normal ((a.put (some 26) v').put (some 3) v') w1
  have key := act_of (a := (a.put (some 26) v').put (some 3) v') (a0 := a0) (by rw [defers_put, defers_put]; exact hk0.1) (by rw [size_put, size_put]; exact hk0.2.1) [15, 16, 17, 18, 19, 20, 21, 22, 23, 24, 25, 26, 3] (fun t ht => by
    have n1 : t ≠ 3 := by rintro rfl; revert ht; decide
    have n2 : t ≠ 26 := by rintro rfl; revert ht; decide
    rw [getD_put n1, getD_put n2]
    refine hk0.2.2 t ?_
    have e13 : ((List.range 11).all fun i => (rallAOps[i]?).all fun o => o.dst != some t) = ([15, 16, 17, 18, 19, 20, 21, 22, 23, 24, 25].all fun d => some d != some t) := by kernel_rfl
    rw [e13, List.all_eq_true]
    intro d hd'
    simp only [bne_iff_ne, ne_eq, Option.some.injEq]
    rintro rfl
    rw [List.contains_eq_mem] at ht
    simp only [decide_eq_false_iff_not] at ht
    exact ht (by simp only [List.mem_cons, List.not_mem_nil, or_false] at hd' ⊢; omega))
  rw [key]
  refine hQ (fun s => ((a.put (some 26) v').put (some 3) v').tmps.getD s undef) w1 (f3.trans f26.symm) ?_ hB1
  show OutV B (((a.put (some 26) v').put (some 3) v').tmps.getD 26 undef) _ _
  rw [f26]
  exact ho1
def EnsPost (l : List En) (w : World) (e : Ending) (w' : World) : Prop := ∃ v', e = .returned v' ∧ isEns l v' w' ∧ Below w.heap.size w w'
theorem rcheckA_at (A : Ar) (r : Bool) (v : Value) (w : World) (hv : isAr A v w) (hF : FitA A) (hr : okA A = r) : Calls Tryz.prog 100 #[v] w fun e w' => e = .returned (.bool r) ∧ Below w.heap.size w w' := by subst hr; exact rcheckA_any A v w hv hF
set_option maxRecDepth 100000 in
set_option maxHeartbeats 2000000 in
theorem rallA_post (A : Ar) (v : Value) (w : World) (hv : isAr A v w) (hF : FitA A) : Calls Tryz.prog 83 #[v] w (EnsPost (allA A) w) := by
  obtain ⟨vs, vi, rfl, hs, hi⟩ := hv
  obtain ⟨HB, VA⟩ := abox w A vs vi hs hi w.heap.size rfl
  have CG := Kept.mk (cellsN_at w 25 [.int .i64 A.cap, vs, vi] w.heap.size rfl)
  have XA := Kept.mk (show isAr A (.agg #[.int .i64 A.cap, vs, vi]) (w.alloc (.cells #[.int .i64 A.cap, vs, vi] 25)) from stable_ar A _ _ _ ⟨vs, vi, rfl, hs, hi⟩ HB.out)
  have HS := Kept.mk hs
  have HI := Kept.mk hi
  have ka0 := CG.out.2 0 _ rfl
  have ka1 := CG.out.2 1 _ rfl
  have ka2 := CG.out.2 2 _ rfl
  clear VA hs hi
  cases hok : okA A with
  | false =>
    have HO := Kept.mk hok
    have HE := Kept.mk (show allA A = [] by unfold allA; rw [hok]; rfl)
    clear hok
    go_enter Tryz.func83, Tryz.ntmps83
    go_wp2_with fail
    refine (rcheckA_at A false _ _ XA.out hF HO.out).mono ?_
    rintro e W1 ⟨rfl, hb⟩
    replace HB := Kept.mk (HB.out.trans (hb.mono HB.out.size))
    clear hb XA CG ka0 ka1 ka2
    go_wp2
    go_ret
    exact ⟨_, rfl, by rw [HE.out]; exact .inl ⟨rfl, rfl⟩, HB.out⟩
  | true =>
    have HO := Kept.mk hok
    have OA := Kept.mk (okA_iff.1 hok)
    have HE := Kept.mk (show allA A = ordA A by unfold allA; rw [hok]; rfl)
    clear hok
    obtain ⟨ia, ci, ei⟩ := HI.out.len
    rw [List.length_map] at ei
    obtain ⟨sa, cs, es⟩ := HS.out.len
    subst ei es
    have f1 := hF.slots
    generalize hM : A.index.length = M at *
    have HM := Kept.mk hM
    generalize hN : A.slots.length = N at *
    have HN := Kept.mk hN
    have hMN : M = N := by rw [← hM, ← hN]; exact OA.out.len
    have HMN := Kept.mk hMN
    have hM8 : M ≤ 8 := by have h1 := OA.out.fits; have h2 := OA.out.room; omega
    clear hM hN hMN
    go_enter Tryz.func83, Tryz.ntmps83
    go_wp2_with fail
    refine (rcheckA_at A true _ _ XA.out hF HO.out).mono ?_
    rintro e W1 ⟨rfl, hb⟩
    replace HB := Kept.mk (HB.out.trans (hb.mono HB.out.size))
    replace CG := Kept.mk (CG.out.keep hb CG.out.1)
    clear hb XA ka0 ka1 ka2
    go_wp2
    go_loopw [3, 4] (fun OV IV WZ => ∃ (k : Nat) (ps : RowE), k ≤ M ∧ IV = .int .i64 (k : Int) ∧ Kept (OutV W1.heap.size OV ps WZ) ∧ Kept (ps.map (·.1) = (ordA A).take k) ∧ Kept (Below W1.heap.size W1 WZ)) (fun _ IV _ => M - (intOf IV).toNat)
    case atStart => exact ⟨0, [], Nat.zero_le _, rfl, ⟨outV_nil _ _⟩, ⟨rfl⟩, ⟨Below.refl _ _⟩⟩
    case round =>
      obtain ⟨k, ps, hk, rfl, OV, HPS, BZ⟩ := hrel
      have CG2 := Kept.mk (CG.out.keep BZ.out CG.out.1)
      have HB2 := Kept.mk (HB.out.trans (BZ.out.mono HB.out.size))
      have kb1 := CG2.out.2 1 _ rfl
      have kb2 := CG2.out.2 2 _ rfl
      have hpl : ps.length ≤ M := by have := congrArg List.length HPS.out; rw [List.length_map, List.length_take] at this; omega
      by_cases hlt : k < M
      · have hlt' : (k : Int) < (M : Int) := by omega
        obtain ⟨p, hp⟩ : ∃ p, A.index[k]? = some p := ⟨_, List.getElem?_eq_getElem (by rw [HM.out]; exact hlt)⟩
        have hpr := OA.out.rng p (List.mem_of_getElem? hp)
        rw [HN.out] at hpr
        obtain ⟨q, rfl⟩ : ∃ q : Nat, p = (q : Int) := ⟨p.toNat, by omega⟩
        have hqN : q < N := by omega
        obtain ⟨X, hX⟩ : ∃ X, A.slots[q]? = some X := ⟨_, List.getElem?_eq_getElem (by rw [HN.out]; exact hqN)⟩
        have HTK := Kept.mk (show (ordA A).take (k + 1) = (ordA A).take k ++ [X] by rw [List.take_add_one, ord_get hp hX]; rfl)
        obtain ⟨bs, os, cs', ea, hbs, xp, xm, hxc, hxp, hxm⟩ := HS.out.get hX
        injection ea with ea1 _ ea3
        subst ea1 ea3
        obtain ⟨bi, oi, ci', eb, hbi, hci⟩ := HI.out.some_ (by rw [List.length_map, HM.out]; omega)
        injection eb with eb1 eb2 eb3
        clear eb2
        subst eb1 eb3
        have hqc := hci k (intC (q : Int)) (by rw [List.getElem?_map, hp]; rfl)
        have HQ := Kept.mk hqc
        have HXC := Kept.mk hxc
        have ROW := Kept.mk (show RowsOk [(X, xp, xm)] w from fun q hq => by rw [List.mem_singleton] at hq; subst hq; exact ⟨hxp, hxm⟩)
        have hw1 := HB.out.size
        have hwz := HB2.out.size
        have hzz := BZ.out.size
        clear hp hX hxc hci hqc hxp hxm hpr kb1
        go_wp2
        refine rallA_region _ _ _ rfl W1.heap.size u3 ps w.heap.size bs os cs N bi oi ci M k q A.cap X xp xm rfl rfl rfl CG2.out (by omega) hlt ((HB2.out.cell (p := ⟨bi, oi + k, none⟩) hbi).trans HQ.out) hqN (by omega) (fun jj x hx => (HB2.out.cell (p := ⟨bs, os + q * 9 + jj, none⟩) hbs).trans (HXC.out jj x hx)) OV.out (fun q hq => ⟨stable_cells _ _ _ _ (ROW.out q hq).1 HB2.out, stable_cells _ _ _ _ (ROW.out q hq).2 HB2.out⟩) (fun q hq b hbo => off_old ROW.out (by have := (OV.out.own.lt b hbo).1; omega) q hq) (by omega) BZ.out.size ?_
        intro f9 W9 d3 ho hb9
        simp only [List.foldl_cons, List.foldl_nil, d3]
        have OV9 := Kept.mk ho
        have BZ9 := Kept.mk (BZ.out.trans hb9)
        clear ho hb9 d3
        generalize f9 26 = y26 at OV9 ⊢
        generalize f9 15 = y15
        generalize f9 16 = y16
        generalize f9 17 = y17
        generalize f9 18 = y18
        generalize f9 19 = y19
        generalize f9 20 = y20
        generalize f9 21 = y21
        generalize f9 22 = y22
        generalize f9 23 = y23
        generalize f9 24 = y24
        generalize f9 25 = y25
        simp only [List.setIfInBounds_toArray, List.set_cons_succ, List.set_cons_zero]
        clear f9 CG2 kb2
        go_wp2
        go_roundw
        case rel => exact ⟨k + 1, ps ++ [(X, xp, xm)], by omega, by go_num, OV9, ⟨by rw [List.map_append, HPS.out, HTK.out]; rfl⟩, BZ9⟩
        case measure => simp [intOf]; omega
      · have hlt' : ¬ (k : Int) < (M : Int) := by omega
        have HEN := Kept.mk (show isEns (allA A) u3 wr by rw [HE.out, show ordA A = ps.map (·.1) by rw [HPS.out, List.take_of_length_le (by rw [ord_length OA.out, HN.out, ← HMN.out]; omega)]]; exact OV.out.ens)
        go_wp2
        go_ret
        exact ⟨_, rfl, HEN.out, HB2.out⟩
set_option maxRecDepth 100000 in
set_option maxHeartbeats 2000000 in
theorem rfind_any (A : Ar) (kind : Int) (key : List UInt8) (v : Value) (w : World) (hv : isAr A v w) (hF : FitA A) : Calls Tryz.prog 65 #[v, .int .i64 kind, .string ⟨key.toArray⟩] w fun e w' => e = .returned (.int .i64 (findI A (nameE kind key))) ∧ Below w.heap.size w w' := by
  obtain ⟨vs, vi, rfl, hs, hi⟩ := hv
  obtain ⟨HB, VA⟩ := abox w A vs vi hs hi w.heap.size rfl
  have CG := Kept.mk (cellsN_at w 25 [.int .i64 A.cap, vs, vi] w.heap.size rfl)
  have XA := Kept.mk (show isAr A (.agg #[.int .i64 A.cap, vs, vi]) (w.alloc (.cells #[.int .i64 A.cap, vs, vi] 25)) from stable_ar A _ _ _ ⟨vs, vi, rfl, hs, hi⟩ HB.out)
  have HS := Kept.mk hs
  have HI := Kept.mk hi
  have ka0 := CG.out.2 0 _ rfl
  have ka1 := CG.out.2 1 _ rfl
  have ka2 := CG.out.2 2 _ rfl
  clear VA hs hi
  obtain ⟨p, hp⟩ : ∃ p, findI A (nameE kind key) = p := ⟨_, rfl⟩
  rw [hp]
  have HP := Kept.mk hp
  clear hp
  cases hok : okA A with
  | false =>
    have HO := Kept.mk hok
    have HE := Kept.mk (show p = -1 by rw [← HP.out]; exact find_bad hok _)
    clear hok
    go_enter Tryz.func65, Tryz.ntmps65
    go_wp2_with fail
    refine (rcheckA_at A false _ _ XA.out hF HO.out).mono ?_
    rintro e W1 ⟨rfl, hb⟩
    replace HB := Kept.mk (HB.out.trans (hb.mono HB.out.size))
    clear hb XA CG ka0 ka1 ka2
    go_wp2
    go_ret
    exact ⟨by rw [HE.out]; rfl, HB.out⟩
  | true =>
    have HO := Kept.mk hok
    have OA := Kept.mk (okA_iff.1 hok)
    clear hok
    obtain ⟨sa, cs, es⟩ := HS.out.len
    subst es
    have f1 := hF.slots
    generalize hN : A.slots.length = N at *
    have HN := Kept.mk hN
    clear hN
    go_enter Tryz.func65, Tryz.ntmps65
    go_wp2_with fail
    refine (rcheckA_at A true _ _ XA.out hF HO.out).mono ?_
    rintro e W1 ⟨rfl, hb⟩
    replace HB := Kept.mk (HB.out.trans (hb.mono HB.out.size))
    replace CG := Kept.mk (CG.out.keep hb CG.out.1)
    have kb1 := CG.out.2 1 _ rfl
    clear hb XA ka0 ka1 ka2
    go_wp2
    go_loop [7] (fun IV => ∃ k : Nat, k ≤ N ∧ IV = .int .i64 (k : Int) ∧ Kept (∀ j E, j < k → A.slots[j]? = some E → nameB E (nameE kind key) = false)) (fun IV => N - (intOf IV).toNat)
    case atStart => exact ⟨0, Nat.zero_le _, rfl, ⟨fun j E h => absurd h (Nat.not_lt_zero _)⟩⟩
    case round =>
      obtain ⟨k, hk, rfl, AJ⟩ := hrel
      by_cases hlt : k < N
      · have hlt' : (k : Int) < (N : Int) := by omega
        obtain ⟨E, hE⟩ : ∃ E, A.slots[k]? = some E := ⟨_, List.getElem?_eq_getElem (by rw [HN.out]; exact hlt)⟩
        have HX := Kept.mk hE
        obtain ⟨bs, os, cs', ea, hbs, xp, xm, hxc, hxp, hxm⟩ := HS.out.get hE
        injection ea with ea1 _ ea3
        subst ea1 ea3
        have kx0 : W1.cell? ⟨bs, os + k * 9, none⟩ = _ := (HB.out.cell (p := ⟨bs, os + k * 9 + 0, none⟩) hbs).trans (hxc 0 _ rfl)
        have kx1 : W1.cell? ⟨bs, os + k * 9 + 1, none⟩ = _ := (HB.out.cell (p := ⟨bs, os + k * 9 + 1, none⟩) hbs).trans (hxc 1 _ rfl)
        have HNM := Kept.mk (show nameB E (nameE kind key) = ((E.val.kind == kind) && (E.key == key)) by unfold nameB nameE; rw [Bool.eq_iff_iff]; simp)
        clear hE hxc hxp hxm
        have no : nameB E (nameE kind key) = false → ∀ j E', j < k + 1 → A.slots[j]? = some E' → nameB E' (nameE kind key) = false := fun hf j E' hj he => by
          by_cases e : j = k
          · subst e; rw [HX.out] at he; injection he with he; rw [← he]; exact hf
          · exact AJ.out j E' (by omega) he
        have NO := Kept.mk no
        clear no
        cases h1 : (E.val.kind == kind) with
        | false =>
          have HF := Kept.mk (NO.out (by rw [HNM.out, h1]; rfl))
          go_wp2
          go_round
          case rel => exact ⟨k + 1, by omega, by go_num, HF⟩
          case measure => simp [intOf]; omega
        | true =>
          cases h2 : (E.key == key) with
          | false =>
            have HF := Kept.mk (NO.out (by rw [HNM.out, h2, Bool.and_false]))
            go_wp2
            go_round
            case rel => exact ⟨k + 1, by omega, by go_num, HF⟩
            case measure => simp [intOf]; omega
          | true =>
            have HF := Kept.mk (show p = (k : Int) by rw [← HP.out]; exact find_ref OA.out _ HX.out (by rw [HNM.out, h1, h2]; rfl))
            go_wp2
            go_ret
            exact ⟨by rw [HF.out]; rfl, HB.out⟩
      · have hlt' : ¬ (k : Int) < (N : Int) := by omega
        have HF := Kept.mk (show p = -1 by
          rw [← HP.out]; refine find_ref_no OA.out _ (fun e he => ?_)
          obtain ⟨j, hj⟩ := List.getElem?_of_mem he
          exact AJ.out j e (by have := (List.getElem?_eq_some_iff.1 hj).1; rw [HN.out] at this; omega) hj)
        go_wp2
        go_ret
        exact ⟨by rw [HF.out]; rfl, HB.out⟩
end Go.Proofs.YtbgconagkgfplaaGreat
end
section
namespace Go.Proofs.YtbgconagkgfplaaGreat
open Go.RowKit
set_option linter.unusedVariables false
set_option linter.unusedSimpArgs false

/-- The sum of what f tells of the first n places. -/
def sumTo (f : Nat → Int) : Nat → Int
  | 0 => 0
  | n + 1 => sumTo f n + f n
theorem sum_range (f : Nat → Int) : ∀ n, ((List.range n).map f).sum = sumTo f n
  | 0 => rfl
  | n + 1 => by rw [List.range_succ, List.map_append, List.sum_append, sum_range f n]; simp [sumTo]
theorem sumTo_sub (f g : Nat → Int) : ∀ n, sumTo (fun j => f j - g j) n = sumTo f n - sumTo g n
  | 0 => rfl
  | n + 1 => by simp only [sumTo, sumTo_sub f g n]; omega
theorem sumTo_bound (f : Nat → Int) (h : ∀ j, 0 ≤ f j ∧ f j ≤ 65535) : ∀ n, 0 ≤ sumTo f n ∧ sumTo f n ≤ 65535 * n
  | 0 => by simp [sumTo]
  | n + 1 => by
    have := sumTo_bound f h n
    have := h n
    simp only [sumTo]
    omega
/-- What one of two has: the numbers of those places that are its own. -/
def half (own : Bool) (m : Nat → Bool) (f : Nat → Int) : Nat → Int := fun j => if m j = own then f j else 0
def cntV (f g : Nat → Int) : Va := ⟨2, 0, 0, false, [], (List.range 8).map f, (List.range 8).map g, 0⟩
end Go.Proofs.YtbgconagkgfplaaGreat
end
