/- Joined texts: contracts of the program's functions, and the mathematics that they lean on. -/
import Derived.Test.YtbgconagkgfplaaGreatPartF
section
namespace Go.Proofs.YtbgconagkgfplaaGreat
open Go.RowKit
set_option linter.unusedVariables false
set_option linter.unusedSimpArgs false
attribute [local irreducible] setN

def eK : En := ⟨[107], ⟨1, 4, 0, false, [120], [], [], 0⟩⟩
def dA : Ar := ⟨3, [eK], [0]⟩
def xY : En := putDF dA 2 [107] [121]
def dB : Ar := joinAF dA xY
def yN : En := addDF dB 1 [110] (-5)
def dC : Ar := joinAF dB yN
def zF : En := setDF dC [102] 9
def dD : Ar := joinAF dC zF
def uK : En := delDF dD 0 [107]
def dQ : Ar := joinAF dD uK
theorem ok_dA : okA dA = true := by kernel_rfl
theorem fit_dA : FitA dA := okA_fit (okA_iff.1 ok_dA)
theorem ok_dB : okA dB = true := by kernel_rfl
theorem fit_dB : FitA dB := okA_fit (okA_iff.1 ok_dB)
theorem ok_dC : okA dC = true := by kernel_rfl
theorem fit_dC : FitA dC := okA_fit (okA_iff.1 ok_dC)
theorem ok_dD : okA dD = true := by kernel_rfl
theorem fit_dD : FitA dD := okA_fit (okA_iff.1 ok_dD)
theorem ok_dQ : okA dQ = true := by kernel_rfl
theorem fit_dQ : FitA dQ := okA_fit (okA_iff.1 ok_dQ)
theorem fit_xY : FitE xY := ok_fit' (by kernel_rfl)
theorem fit_yN : FitE yN := ok_fit' (by kernel_rfl)
theorem fit_zF : FitE zF := ok_fit' (by kernel_rfl)
theorem fit_uK : FitE uK := ok_fit' (by kernel_rfl)
theorem wd_x (v : Value) (w : World) (hv : isAr dA v w) : Calls Tryz.prog 20 #[v, .int .i64 2, .string ⟨#[107]⟩, .string ⟨#[121]⟩] w fun e w' => ∃ v', e = .returned (.tuple #[v', .int .i64 0]) ∧ isEn xY v' w' ∧ Below w.heap.size w w' := gd_put dA 2 [107] [121] 0 xY v w hv fit_dA (by decide) (by decide) (by kernel_rfl) (by kernel_rfl)
theorem wd_y (v : Value) (w : World) (hv : isAr dB v w) : Calls Tryz.prog 24 #[v, .int .i64 1, .string ⟨#[110]⟩, .int .i64 (-5)] w fun e w' => ∃ v', e = .returned (.tuple #[v', .int .i64 0]) ∧ isEn yN v' w' ∧ Below w.heap.size w w' := gd_add dB 1 [110] (-5) 0 yN v w hv fit_dB (by decide) (by kernel_rfl) (by kernel_rfl)
theorem wd_z (v : Value) (w : World) (hv : isAr dC v w) : Calls Tryz.prog 26 #[v, .string ⟨#[102]⟩, .int .u64 9] w fun e w' => ∃ v', e = .returned (.tuple #[v', .int .i64 0]) ∧ isEn zF v' w' ∧ Below w.heap.size w w' := gd_set dC [102] 9 0 zF v w hv fit_dC (by decide) (by kernel_rfl) (by kernel_rfl)
theorem wd_u (v : Value) (w : World) (hv : isAr dD v w) : Calls Tryz.prog 22 #[v, .int .i64 0, .string ⟨#[107]⟩] w fun e w' => ∃ v', e = .returned (.tuple #[v', .int .i64 0]) ∧ isEn uK v' w' ∧ Below w.heap.size w w' := gd_del dD 0 [107] 0 uK v w hv fit_dD (by decide) (by kernel_rfl) (by kernel_rfl)
theorem wd_n1 (v : Value) (w : World) (hv : isAr dQ v w) : Calls Tryz.prog 22 #[v, .int .i64 0, .string ⟨#[107]⟩] w fun e w' => ∃ v', e = .returned (.tuple #[v', .int .i64 9]) ∧ isEn zeroE v' w' ∧ Below w.heap.size w w' := gd_del dQ 0 [107] 9 zeroE v w hv fit_dQ (by decide) (by kernel_rfl) (by kernel_rfl)
theorem wd_n2 (v : Value) (w : World) (hv : isAr dD v w) : Calls Tryz.prog 26 #[v, .string ⟨#[103]⟩, .int .u64 1] w fun e w' => ∃ v', e = .returned (.tuple #[v', .int .i64 4]) ∧ isEn zeroE v' w' ∧ Below w.heap.size w w' := gd_set dD [103] 1 4 zeroE v w hv fit_dD (by decide) (by kernel_rfl) (by kernel_rfl)
theorem wd_n3 (v : Value) (w : World) (hv : isAr dA v w) : Calls Tryz.prog 20 #[v, .int .i64 8, .string ⟨#[107]⟩, .string ⟨#[]⟩] w fun e w' => ∃ v', e = .returned (.tuple #[v', .int .i64 10]) ∧ isEn zeroE v' w' ∧ Below w.heap.size w w' := gd_put dA 8 [107] [] 10 zeroE v w hv fit_dA (by decide) (by decide) (by kernel_rfl) (by kernel_rfl)
theorem wd_b (v u : Value) (w : World) (hv : isAr dA v w) (hu : isEn xY u w) : Calls Tryz.prog 14 #[v, u] w fun e w' => ∃ v', e = .returned (.tuple #[v', .bool true, .int .i64 0]) ∧ isAr dB v' w' ∧ Below w.heap.size w w' := ga_join dA xY dB true 0 v u w hv hu fit_dA fit_xY rfl (by kernel_rfl) (by kernel_rfl)
theorem wd_c (v u : Value) (w : World) (hv : isAr dB v w) (hu : isEn yN u w) : Calls Tryz.prog 14 #[v, u] w fun e w' => ∃ v', e = .returned (.tuple #[v', .bool true, .int .i64 0]) ∧ isAr dC v' w' ∧ Below w.heap.size w w' := ga_join dB yN dC true 0 v u w hv hu fit_dB fit_yN rfl (by kernel_rfl) (by kernel_rfl)
theorem wd_d (v u : Value) (w : World) (hv : isAr dC v w) (hu : isEn zF u w) : Calls Tryz.prog 14 #[v, u] w fun e w' => ∃ v', e = .returned (.tuple #[v', .bool true, .int .i64 0]) ∧ isAr dD v' w' ∧ Below w.heap.size w w' := ga_join dC zF dD true 0 v u w hv hu fit_dC fit_zF rfl (by kernel_rfl) (by kernel_rfl)
theorem wd_q (v u : Value) (w : World) (hv : isAr dD v w) (hu : isEn uK u w) : Calls Tryz.prog 14 #[v, u] w fun e w' => ∃ v', e = .returned (.tuple #[v', .bool true, .int .i64 0]) ∧ isAr dQ v' w' ∧ Below w.heap.size w w' := ga_join dD uK dQ true 0 v u w hv hu fit_dD fit_uK rfl (by kernel_rfl) (by kernel_rfl)
theorem wd_t1 (v : Value) (w : World) (hv : isAr dB v w) : Calls Tryz.prog 29 #[v, .string ⟨#[107]⟩] w fun e w' => e = .returned (.tuple #[.string ⟨#[121]⟩, .bool true]) ∧ Below w.heap.size w w' := gd_text dB [107] [121] true v w hv fit_dB (by kernel_rfl) (by kernel_rfl)
theorem wd_t2 (v : Value) (w : World) (hv : isAr dQ v w) : Calls Tryz.prog 29 #[v, .string ⟨#[107]⟩] w fun e w' => ∃ t : List UInt8, e = .returned (.tuple #[.string ⟨t.toArray⟩, .bool false]) ∧ Below w.heap.size w w' := (gd_text dQ [107] _ false v w hv fit_dQ rfl (by kernel_rfl)).mono (fun e w' h => ⟨_, h⟩)
theorem wd_s (v : Value) (w : World) (hv : isAr dC v w) : Calls Tryz.prog 31 #[v, .string ⟨#[110]⟩] w fun e w' => e = .returned (.tuple #[.int .i64 (-5), .bool true]) ∧ Below w.heap.size w w' := gd_sum dC [110] (-5) true v w hv fit_dC (by kernel_rfl) (by kernel_rfl)
theorem wd_f (v : Value) (w : World) (hv : isAr dD v w) : Calls Tryz.prog 33 #[v, .string ⟨#[102]⟩] w fun e w' => e = .returned (.tuple #[.int .u64 9, .bool true]) ∧ Below w.heap.size w w' := gd_flags dD [102] 9 true v w hv fit_dD (by kernel_rfl) (by kernel_rfl)
theorem wd_l3 (v : Value) (w : World) (hv : isAr dD v w) : Calls Tryz.prog 36 #[v] w fun e w' => ∃ a c, e = .returned (.slice a 3 c) ∧ Below w.heap.size w w' := (gd_scan dD _ v w hv fit_dD rfl).mono (by
  rintro e w' ⟨v', rfl, hl, hb⟩
  obtain ⟨a, c, ev⟩ := hl.len
  rw [show (scanA dD).length = 3 by kernel_rfl] at ev
  exact ⟨a, c, by rw [ev], hb⟩)
theorem wd_l2 (v : Value) (w : World) (hv : isAr dQ v w) : Calls Tryz.prog 36 #[v] w fun e w' => ∃ a c, e = .returned (.slice a 2 c) ∧ Below w.heap.size w w' := (gd_scan dQ _ v w hv fit_dQ rfl).mono (by
  rintro e w' ⟨v', rfl, hl, hb⟩
  obtain ⟨a, c, ev⟩ := hl.len
  rw [show (scanA dQ).length = 2 by kernel_rfl] at ev
  exact ⟨a, c, by rw [ev], hb⟩)
theorem wd_lit (w : World) : Kept (Below w.heap.size w (((w.alloc (.cells #[.string ⟨#[107]⟩, .int .i64 1, .int .i64 4, .int .i64 0, .bool false, .string ⟨#[120]⟩, .slice none 0 0, .slice none 0 0, .int .u64 0] 30)).alloc (.cells #[.int .i64 0] 3)).alloc (.cells #[.int .i64 3, .slice (some ⟨w.heap.size, 0, none⟩) 1 1, .slice (some ⟨w.heap.size + 1, 0, none⟩) 1 1] 25))) ∧ Kept (VarA (((w.alloc (.cells #[.string ⟨#[107]⟩, .int .i64 1, .int .i64 4, .int .i64 0, .bool false, .string ⟨#[120]⟩, .slice none 0 0, .slice none 0 0, .int .u64 0] 30)).alloc (.cells #[.int .i64 0] 3)).alloc (.cells #[.int .i64 3, .slice (some ⟨w.heap.size, 0, none⟩) 1 1, .slice (some ⟨w.heap.size + 1, 0, none⟩) 1 1] 25)) (w.heap.size + 1 + 1) dA) ∧ Kept (isAr dA (.agg #[.int .i64 3, .slice (some ⟨w.heap.size, 0, none⟩) 1 1, .slice (some ⟨w.heap.size + 1, 0, none⟩) 1 1]) (((w.alloc (.cells #[.string ⟨#[107]⟩, .int .i64 1, .int .i64 4, .int .i64 0, .bool false, .string ⟨#[120]⟩, .slice none 0 0, .slice none 0 0, .int .u64 0] 30)).alloc (.cells #[.int .i64 0] 3)).alloc (.cells #[.int .i64 3, .slice (some ⟨w.heap.size, 0, none⟩) 1 1, .slice (some ⟨w.heap.size + 1, 0, none⟩) 1 1] 25))) := by
  have h1 := lit_below w (.cells #[.string ⟨#[107]⟩, .int .i64 1, .int .i64 4, .int .i64 0, .bool false, .string ⟨#[120]⟩, .slice none 0 0, .slice none 0 0, .int .u64 0] 30)
  have h2 := lit_below (w.alloc (.cells #[.string ⟨#[107]⟩, .int .i64 1, .int .i64 4, .int .i64 0, .bool false, .string ⟨#[120]⟩, .slice none 0 0, .slice none 0 0, .int .u64 0] 30)) (.cells #[.int .i64 0] 3)
  have h3 := lit_below ((w.alloc (.cells #[.string ⟨#[107]⟩, .int .i64 1, .int .i64 4, .int .i64 0, .bool false, .string ⟨#[120]⟩, .slice none 0 0, .slice none 0 0, .int .u64 0] 30)).alloc (.cells #[.int .i64 0] 3)) (.cells #[.int .i64 3, .slice (some ⟨w.heap.size, 0, none⟩) 1 1, .slice (some ⟨w.heap.size + 1, 0, none⟩) 1 1] 25)
  have s1 : (w.alloc (.cells #[.string ⟨#[107]⟩, .int .i64 1, .int .i64 4, .int .i64 0, .bool false, .string ⟨#[120]⟩, .slice none 0 0, .slice none 0 0, .int .u64 0] 30)).heap.size = w.heap.size + 1 := by simp
  have B1 := ((Blk.new w 30 [.string ⟨#[107]⟩, .int .i64 1, .int .i64 4, .int .i64 0, .bool false, .string ⟨#[120]⟩, .slice none 0 0, .slice none 0 0, .int .u64 0] w.heap.size rfl).alloc (.cells #[.int .i64 0] 3)).alloc (.cells #[.int .i64 3, .slice (some ⟨w.heap.size, 0, none⟩) 1 1, .slice (some ⟨w.heap.size + 1, 0, none⟩) 1 1] 25)
  have B2 := (Blk.new (w.alloc (.cells #[.string ⟨#[107]⟩, .int .i64 1, .int .i64 4, .int .i64 0, .bool false, .string ⟨#[120]⟩, .slice none 0 0, .slice none 0 0, .int .u64 0] 30)) 3 [.int .i64 0] (w.heap.size + 1) (by simp)).alloc (.cells #[.int .i64 3, .slice (some ⟨w.heap.size, 0, none⟩) 1 1, .slice (some ⟨w.heap.size + 1, 0, none⟩) 1 1] 25)
  have B3 := Blk.new ((w.alloc (.cells #[.string ⟨#[107]⟩, .int .i64 1, .int .i64 4, .int .i64 0, .bool false, .string ⟨#[120]⟩, .slice none 0 0, .slice none 0 0, .int .u64 0] 30)).alloc (.cells #[.int .i64 0] 3)) 25 [.int .i64 3, .slice (some ⟨w.heap.size, 0, none⟩) 1 1, .slice (some ⟨w.heap.size + 1, 0, none⟩) 1 1] (w.heap.size + 1 + 1) (by simp)
  have h12 : Below w.heap.size w _ := h1.trans (h2.mono h1.size)
  have hE1 : isEns dA.slots (.slice (some ⟨w.heap.size, 0, none⟩) 1 1) (((w.alloc (.cells #[.string ⟨#[107]⟩, .int .i64 1, .int .i64 4, .int .i64 0, .bool false, .string ⟨#[120]⟩, .slice none 0 0, .slice none 0 0, .int .u64 0] 30)).alloc (.cells #[.int .i64 0] 3)).alloc (.cells #[.int .i64 3, .slice (some ⟨w.heap.size, 0, none⟩) 1 1, .slice (some ⟨w.heap.size + 1, 0, none⟩) 1 1] 25)) := .inr (.inr ⟨w.heap.size, 0, 1, rfl, B1.lt, fun j E hE => by
    match j, hE with
    | 0, hE => obtain rfl : eK = E := Option.some.inj hE; exact ⟨.slice none 0 0, .slice none 0 0, fun i x hi => by rw [Nat.zero_mul, Nat.zero_add]; exact B1.cells.2 i x hi, .inl ⟨rfl, rfl⟩, .inl ⟨rfl, rfl⟩⟩
    | n + 1, hE => simp [dA] at hE⟩)
  have hI1 : isCells (dA.index.map intC) (.slice (some ⟨w.heap.size + 1, 0, none⟩) 1 1) (((w.alloc (.cells #[.string ⟨#[107]⟩, .int .i64 1, .int .i64 4, .int .i64 0, .bool false, .string ⟨#[120]⟩, .slice none 0 0, .slice none 0 0, .int .u64 0] 30)).alloc (.cells #[.int .i64 0] 3)).alloc (.cells #[.int .i64 3, .slice (some ⟨w.heap.size, 0, none⟩) 1 1, .slice (some ⟨w.heap.size + 1, 0, none⟩) 1 1] 25)) := .inr (.inr ⟨w.heap.size + 1, 0, 1, rfl, B2.lt, fun j x hx => by rw [Nat.zero_add]; exact B2.cells.2 j x hx⟩)
  exact ⟨⟨h12.trans (h3.mono h12.size)⟩, ⟨_, _, B3.cells, hE1, hI1⟩, ⟨_, _, rfl, hE1, hI1⟩⟩
theorem xY_time : (Value.int .i64 xY.val.time) = .int .i64 5 := rfl
theorem uK_time : (Value.int .i64 uK.val.time) = .int .i64 6 := rfl
attribute [local irreducible] zeroE eK dA xY dB yN dC zF dD uK dQ
set_option maxRecDepth 100000 in
set_option maxHeartbeats 8000000 in
theorem dworks_any (w : World) : Calls Tryz.prog 19 #[] w fun e w' => e = .returned (.bool true) ∧ Below w.heap.size w w' := by
  obtain ⟨hB, Va, Xl⟩ := wd_lit w
  go_enter Tryz.func19, Tryz.ntmps19
  go_wp2_with fail
  generalize (((w.alloc (.cells #[.string ⟨#[107]⟩, .int .i64 1, .int .i64 4, .int .i64 0, .bool false, .string ⟨#[120]⟩, .slice none 0 0, .slice none 0 0, .int .u64 0] 30)).alloc (.cells #[.int .i64 0] 3)).alloc (.cells #[.int .i64 3, .slice (some ⟨w.heap.size, 0, none⟩) 1 1, .slice (some ⟨w.heap.size + 1, 0, none⟩) 1 1] 25)) = W0 at *
  ((with_reducible refine (wd_x _ _ Xl.out).mono ?_); rintro e U ⟨v', rfl, ⟨p', m', rfl, hp', hm'⟩, hb1⟩)
  obtain ⟨K1, K2, K3, K4, K5⟩ := enew U xY p' m' hp' hm' U.heap.size rfl
  clear hp' hm'
  replace hB := Kept.mk (hB.out.trans ((hb1).mono hB.out.size))
  replace Va := Kept.mk (Va.out.keep (hb1))
  clear hb1
  go_wp2_with (have hz0 := K1; refine wpList_storeN 30 rfl (.tmp 2) (.tmp 44) rfl U.heap.size [.string ⟨xY.key.toArray⟩, .int .i64 xY.val.kind, .int .i64 xY.val.time, .int .i64 xY.val.node, .bool xY.val.dead, .string ⟨xY.val.text.toArray⟩, p', m', .int .u64 (xY.val.flags.toNat : Int)] size_en rfl rfl K1.out rfl K2.out K5.out ?_; replace hB := Kept.mk (hB.out.trans ((K3.out).mono hB.out.size)); replace Va := Kept.mk (Va.out.keep (K3.out)); have Vx := Kept.mk (show VarN _ _ xY from ⟨_, _, K4.out⟩); clear hz0 K1 K2 K3 K4 K5; generalize setN (U.alloc (.cells #[.string ⟨#[]⟩, .int .i64 0, .int .i64 0, .int .i64 0, .bool false, .string ⟨#[]⟩, .slice none 0 0, .slice none 0 0, .int .u64 0] 30)) U.heap.size 0 [.string ⟨xY.key.toArray⟩, .int .i64 xY.val.kind, .int .i64 xY.val.time, .int .i64 xY.val.node, .bool xY.val.dead, .string ⟨xY.val.text.toArray⟩, p', m', .int .u64 (xY.val.flags.toNat : Int)] = W1 at *; generalize U.heap.size = gx at *; obtain ⟨qa, ra, xa, sa, ia, ka0, ka1, ka2⟩ := Va.out.open_; have Xa := Kept.mk xa; have Sa := Kept.mk sa; have Ia := Kept.mk ia; clear xa sa ia; obtain ⟨qx, rx, xx, yx, kx0, kx1, kx2, kx3, kx4, kx5, kx6, kx7, kx8⟩ := Vx.out.open_; have Xx := Kept.mk xx; have Yx := Kept.mk yx; clear xx yx)
  ((with_reducible refine (wd_b _ _ _ Xa.out Xx.out).mono ?_); rintro e U ⟨v', rfl, ⟨p', m', rfl, hp', hm'⟩, hb1⟩)
  obtain ⟨K1, K2, K3, K4, K5⟩ := anew U dB p' m' hp' hm' U.heap.size rfl
  clear hp' hm'
  clear Xa Sa Ia ka0 ka1 ka2
  clear Xx Yx kx0 kx1 kx2 kx3 kx4 kx5 kx6 kx7 kx8
  replace hB := Kept.mk (hB.out.trans ((hb1).mono hB.out.size))
  replace Va := Kept.mk (Va.out.keep (hb1))
  replace Vx := Kept.mk (Vx.out.keep (hb1))
  clear hb1
  go_wp2_with (have hz0 := K1; refine wpList_storeN 25 rfl (.tmp 4) (.tmp 50) rfl U.heap.size [.int .i64 dB.cap, p', m'] size_ar rfl rfl K1.out rfl K2.out K5.out ?_; replace hB := Kept.mk (hB.out.trans ((K3.out).mono hB.out.size)); replace Va := Kept.mk (Va.out.keep (K3.out)); replace Vx := Kept.mk (Vx.out.keep (K3.out)); have Vb := Kept.mk K4.out; clear hz0 K1 K2 K3 K4 K5; generalize setN (U.alloc (.cells #[.int .i64 0, .slice none 0 0, .slice none 0 0] 25)) U.heap.size 0 [.int .i64 dB.cap, p', m'] = W2 at *; generalize U.heap.size = gb at *; obtain ⟨qb, rb, xb, sb, ib, kb0, kb1, kb2⟩ := Vb.out.open_; have Xb := Kept.mk xb; have Sb := Kept.mk sb; have Ib := Kept.mk ib; clear xb sb ib)
  ((with_reducible refine (wd_t1 _ _ Xb.out).mono ?_); rintro e W3 ⟨rfl, hb1⟩)
  clear Xb Sb Ib kb0 kb1 kb2
  replace hB := Kept.mk (hB.out.trans ((hb1).mono hB.out.size))
  replace Va := Kept.mk (Va.out.keep (hb1))
  replace Vx := Kept.mk (Vx.out.keep (hb1))
  replace Vb := Kept.mk (Vb.out.keep (hb1))
  clear hb1
  obtain ⟨qb, rb, xb, sb, ib, kb0, kb1, kb2⟩ := Vb.out.open_
  have Xb := Kept.mk xb
  have Sb := Kept.mk sb
  have Ib := Kept.mk ib
  clear xb sb ib
  go_wp2_with fail
  ((with_reducible refine (wd_y _ _ Xb.out).mono ?_); rintro e U ⟨v', rfl, ⟨p', m', rfl, hp', hm'⟩, hb1⟩)
  obtain ⟨K1, K2, K3, K4, K5⟩ := enew U yN p' m' hp' hm' U.heap.size rfl
  clear hp' hm'
  clear Xb Sb Ib kb0 kb1 kb2
  replace hB := Kept.mk (hB.out.trans ((hb1).mono hB.out.size))
  replace Va := Kept.mk (Va.out.keep (hb1))
  replace Vx := Kept.mk (Vx.out.keep (hb1))
  replace Vb := Kept.mk (Vb.out.keep (hb1))
  clear hb1
  go_wp2_with (have hz0 := K1; refine wpList_storeN 30 rfl (.tmp 9) (.tmp 61) rfl U.heap.size [.string ⟨yN.key.toArray⟩, .int .i64 yN.val.kind, .int .i64 yN.val.time, .int .i64 yN.val.node, .bool yN.val.dead, .string ⟨yN.val.text.toArray⟩, p', m', .int .u64 (yN.val.flags.toNat : Int)] size_en rfl rfl K1.out rfl K2.out K5.out ?_; replace hB := Kept.mk (hB.out.trans ((K3.out).mono hB.out.size)); replace Va := Kept.mk (Va.out.keep (K3.out)); replace Vx := Kept.mk (Vx.out.keep (K3.out)); replace Vb := Kept.mk (Vb.out.keep (K3.out)); have Vy := Kept.mk (show VarN _ _ yN from ⟨_, _, K4.out⟩); clear hz0 K1 K2 K3 K4 K5; generalize setN (U.alloc (.cells #[.string ⟨#[]⟩, .int .i64 0, .int .i64 0, .int .i64 0, .bool false, .string ⟨#[]⟩, .slice none 0 0, .slice none 0 0, .int .u64 0] 30)) U.heap.size 0 [.string ⟨yN.key.toArray⟩, .int .i64 yN.val.kind, .int .i64 yN.val.time, .int .i64 yN.val.node, .bool yN.val.dead, .string ⟨yN.val.text.toArray⟩, p', m', .int .u64 (yN.val.flags.toNat : Int)] = W4 at *; generalize U.heap.size = gy at *; obtain ⟨qb, rb, xb, sb, ib, kb0, kb1, kb2⟩ := Vb.out.open_; have Xb := Kept.mk xb; have Sb := Kept.mk sb; have Ib := Kept.mk ib; clear xb sb ib; obtain ⟨qy, ry, xy, yy, ky0, ky1, ky2, ky3, ky4, ky5, ky6, ky7, ky8⟩ := Vy.out.open_; have Xy := Kept.mk xy; have Yy := Kept.mk yy; clear xy yy)
  ((with_reducible refine (wd_c _ _ _ Xb.out Xy.out).mono ?_); rintro e U ⟨v', rfl, ⟨p', m', rfl, hp', hm'⟩, hb1⟩)
  obtain ⟨K1, K2, K3, K4, K5⟩ := anew U dC p' m' hp' hm' U.heap.size rfl
  clear hp' hm'
  clear Xb Sb Ib kb0 kb1 kb2
  clear Xy Yy ky0 ky1 ky2 ky3 ky4 ky5 ky6 ky7 ky8
  replace hB := Kept.mk (hB.out.trans ((hb1).mono hB.out.size))
  replace Va := Kept.mk (Va.out.keep (hb1))
  replace Vx := Kept.mk (Vx.out.keep (hb1))
  replace Vb := Kept.mk (Vb.out.keep (hb1))
  replace Vy := Kept.mk (Vy.out.keep (hb1))
  clear hb1
  go_wp2_with (have hz0 := K1; refine wpList_storeN 25 rfl (.tmp 11) (.tmp 67) rfl U.heap.size [.int .i64 dC.cap, p', m'] size_ar rfl rfl K1.out rfl K2.out K5.out ?_; replace hB := Kept.mk (hB.out.trans ((K3.out).mono hB.out.size)); replace Va := Kept.mk (Va.out.keep (K3.out)); replace Vx := Kept.mk (Vx.out.keep (K3.out)); replace Vb := Kept.mk (Vb.out.keep (K3.out)); replace Vy := Kept.mk (Vy.out.keep (K3.out)); have Vc := Kept.mk K4.out; clear hz0 K1 K2 K3 K4 K5; generalize setN (U.alloc (.cells #[.int .i64 0, .slice none 0 0, .slice none 0 0] 25)) U.heap.size 0 [.int .i64 dC.cap, p', m'] = W5 at *; generalize U.heap.size = gc at *; obtain ⟨qc, rc, xc, sc, ic, kc0, kc1, kc2⟩ := Vc.out.open_; have Xc := Kept.mk xc; have Sc := Kept.mk sc; have Ic := Kept.mk ic; clear xc sc ic)
  clear Vy Vb
  ((with_reducible refine (wd_s _ _ Xc.out).mono ?_); rintro e W6 ⟨rfl, hb1⟩)
  clear Xc Sc Ic kc0 kc1 kc2
  replace hB := Kept.mk (hB.out.trans ((hb1).mono hB.out.size))
  replace Va := Kept.mk (Va.out.keep (hb1))
  replace Vx := Kept.mk (Vx.out.keep (hb1))
  replace Vc := Kept.mk (Vc.out.keep (hb1))
  clear hb1
  obtain ⟨qc, rc, xc, sc, ic, kc0, kc1, kc2⟩ := Vc.out.open_
  have Xc := Kept.mk xc
  have Sc := Kept.mk sc
  have Ic := Kept.mk ic
  clear xc sc ic
  go_wp2_with fail
  ((with_reducible refine (wd_z _ _ Xc.out).mono ?_); rintro e U ⟨v', rfl, ⟨p', m', rfl, hp', hm'⟩, hb1⟩)
  obtain ⟨K1, K2, K3, K4, K5⟩ := enew U zF p' m' hp' hm' U.heap.size rfl
  clear hp' hm'
  clear Xc Sc Ic kc0 kc1 kc2
  replace hB := Kept.mk (hB.out.trans ((hb1).mono hB.out.size))
  replace Va := Kept.mk (Va.out.keep (hb1))
  replace Vx := Kept.mk (Vx.out.keep (hb1))
  replace Vc := Kept.mk (Vc.out.keep (hb1))
  clear hb1
  go_wp2_with (have hz0 := K1; refine wpList_storeN 30 rfl (.tmp 16) (.tmp 78) rfl U.heap.size [.string ⟨zF.key.toArray⟩, .int .i64 zF.val.kind, .int .i64 zF.val.time, .int .i64 zF.val.node, .bool zF.val.dead, .string ⟨zF.val.text.toArray⟩, p', m', .int .u64 (zF.val.flags.toNat : Int)] size_en rfl rfl K1.out rfl K2.out K5.out ?_; replace hB := Kept.mk (hB.out.trans ((K3.out).mono hB.out.size)); replace Va := Kept.mk (Va.out.keep (K3.out)); replace Vx := Kept.mk (Vx.out.keep (K3.out)); replace Vc := Kept.mk (Vc.out.keep (K3.out)); have Vz := Kept.mk (show VarN _ _ zF from ⟨_, _, K4.out⟩); clear hz0 K1 K2 K3 K4 K5; generalize setN (U.alloc (.cells #[.string ⟨#[]⟩, .int .i64 0, .int .i64 0, .int .i64 0, .bool false, .string ⟨#[]⟩, .slice none 0 0, .slice none 0 0, .int .u64 0] 30)) U.heap.size 0 [.string ⟨zF.key.toArray⟩, .int .i64 zF.val.kind, .int .i64 zF.val.time, .int .i64 zF.val.node, .bool zF.val.dead, .string ⟨zF.val.text.toArray⟩, p', m', .int .u64 (zF.val.flags.toNat : Int)] = W7 at *; generalize U.heap.size = gz at *; obtain ⟨qc, rc, xc, sc, ic, kc0, kc1, kc2⟩ := Vc.out.open_; have Xc := Kept.mk xc; have Sc := Kept.mk sc; have Ic := Kept.mk ic; clear xc sc ic; obtain ⟨qz, rz, xz, yz, kz0, kz1, kz2, kz3, kz4, kz5, kz6, kz7, kz8⟩ := Vz.out.open_; have Xz := Kept.mk xz; have Yz := Kept.mk yz; clear xz yz)
  ((with_reducible refine (wd_d _ _ _ Xc.out Xz.out).mono ?_); rintro e U ⟨v', rfl, ⟨p', m', rfl, hp', hm'⟩, hb1⟩)
  obtain ⟨K1, K2, K3, K4, K5⟩ := anew U dD p' m' hp' hm' U.heap.size rfl
  clear hp' hm'
  clear Xc Sc Ic kc0 kc1 kc2
  clear Xz Yz kz0 kz1 kz2 kz3 kz4 kz5 kz6 kz7 kz8
  replace hB := Kept.mk (hB.out.trans ((hb1).mono hB.out.size))
  replace Va := Kept.mk (Va.out.keep (hb1))
  replace Vx := Kept.mk (Vx.out.keep (hb1))
  replace Vc := Kept.mk (Vc.out.keep (hb1))
  replace Vz := Kept.mk (Vz.out.keep (hb1))
  clear hb1
  go_wp2_with (have hz0 := K1; refine wpList_storeN 25 rfl (.tmp 18) (.tmp 84) rfl U.heap.size [.int .i64 dD.cap, p', m'] size_ar rfl rfl K1.out rfl K2.out K5.out ?_; replace hB := Kept.mk (hB.out.trans ((K3.out).mono hB.out.size)); replace Va := Kept.mk (Va.out.keep (K3.out)); replace Vx := Kept.mk (Vx.out.keep (K3.out)); replace Vc := Kept.mk (Vc.out.keep (K3.out)); replace Vz := Kept.mk (Vz.out.keep (K3.out)); have Vd := Kept.mk K4.out; clear hz0 K1 K2 K3 K4 K5; generalize setN (U.alloc (.cells #[.int .i64 0, .slice none 0 0, .slice none 0 0] 25)) U.heap.size 0 [.int .i64 dD.cap, p', m'] = W8 at *; generalize U.heap.size = gd at *; obtain ⟨qd, rd, xd, sd, id, kd0, kd1, kd2⟩ := Vd.out.open_; have Xd := Kept.mk xd; have Sd := Kept.mk sd; have Id := Kept.mk id; clear xd sd id)
  clear Vz Vc
  ((with_reducible refine (wd_f _ _ Xd.out).mono ?_); rintro e W9 ⟨rfl, hb1⟩)
  clear Xd Sd Id kd0 kd1 kd2
  replace hB := Kept.mk (hB.out.trans ((hb1).mono hB.out.size))
  replace Va := Kept.mk (Va.out.keep (hb1))
  replace Vx := Kept.mk (Vx.out.keep (hb1))
  replace Vd := Kept.mk (Vd.out.keep (hb1))
  clear hb1
  obtain ⟨qd, rd, xd, sd, id, kd0, kd1, kd2⟩ := Vd.out.open_
  have Xd := Kept.mk xd
  have Sd := Kept.mk sd
  have Id := Kept.mk id
  clear xd sd id
  go_wp2_with fail
  ((with_reducible refine (wd_u _ _ Xd.out).mono ?_); rintro e U ⟨v', rfl, ⟨p', m', rfl, hp', hm'⟩, hb1⟩)
  obtain ⟨K1, K2, K3, K4, K5⟩ := enew U uK p' m' hp' hm' U.heap.size rfl
  clear hp' hm'
  clear Xd Sd Id kd0 kd1 kd2
  replace hB := Kept.mk (hB.out.trans ((hb1).mono hB.out.size))
  replace Va := Kept.mk (Va.out.keep (hb1))
  replace Vx := Kept.mk (Vx.out.keep (hb1))
  replace Vd := Kept.mk (Vd.out.keep (hb1))
  clear hb1
  go_wp2_with (have hz0 := K1; refine wpList_storeN 30 rfl (.tmp 23) (.tmp 95) rfl U.heap.size [.string ⟨uK.key.toArray⟩, .int .i64 uK.val.kind, .int .i64 uK.val.time, .int .i64 uK.val.node, .bool uK.val.dead, .string ⟨uK.val.text.toArray⟩, p', m', .int .u64 (uK.val.flags.toNat : Int)] size_en rfl rfl K1.out rfl K2.out K5.out ?_; replace hB := Kept.mk (hB.out.trans ((K3.out).mono hB.out.size)); replace Va := Kept.mk (Va.out.keep (K3.out)); replace Vx := Kept.mk (Vx.out.keep (K3.out)); replace Vd := Kept.mk (Vd.out.keep (K3.out)); have Vu := Kept.mk (show VarN _ _ uK from ⟨_, _, K4.out⟩); clear hz0 K1 K2 K3 K4 K5; generalize setN (U.alloc (.cells #[.string ⟨#[]⟩, .int .i64 0, .int .i64 0, .int .i64 0, .bool false, .string ⟨#[]⟩, .slice none 0 0, .slice none 0 0, .int .u64 0] 30)) U.heap.size 0 [.string ⟨uK.key.toArray⟩, .int .i64 uK.val.kind, .int .i64 uK.val.time, .int .i64 uK.val.node, .bool uK.val.dead, .string ⟨uK.val.text.toArray⟩, p', m', .int .u64 (uK.val.flags.toNat : Int)] = W10 at *; generalize U.heap.size = gu at *; obtain ⟨qd, rd, xd, sd, id, kd0, kd1, kd2⟩ := Vd.out.open_; have Xd := Kept.mk xd; have Sd := Kept.mk sd; have Id := Kept.mk id; clear xd sd id; obtain ⟨qu, ru, xu, yu, ku0, ku1, ku2, ku3, ku4, ku5, ku6, ku7, ku8⟩ := Vu.out.open_; have Xu := Kept.mk xu; have Yu := Kept.mk yu; clear xu yu)
  ((with_reducible refine (wd_q _ _ _ Xd.out Xu.out).mono ?_); rintro e U ⟨v', rfl, ⟨p', m', rfl, hp', hm'⟩, hb1⟩)
  obtain ⟨K1, K2, K3, K4, K5⟩ := anew U dQ p' m' hp' hm' U.heap.size rfl
  clear hp' hm'
  clear Xd Sd Id kd0 kd1 kd2
  clear Xu Yu ku0 ku1 ku2 ku3 ku4 ku5 ku6 ku7 ku8
  replace hB := Kept.mk (hB.out.trans ((hb1).mono hB.out.size))
  replace Va := Kept.mk (Va.out.keep (hb1))
  replace Vx := Kept.mk (Vx.out.keep (hb1))
  replace Vd := Kept.mk (Vd.out.keep (hb1))
  replace Vu := Kept.mk (Vu.out.keep (hb1))
  clear hb1
  go_wp2_with (have hz0 := K1; refine wpList_storeN 25 rfl (.tmp 25) (.tmp 101) rfl U.heap.size [.int .i64 dQ.cap, p', m'] size_ar rfl rfl K1.out rfl K2.out K5.out ?_; replace hB := Kept.mk (hB.out.trans ((K3.out).mono hB.out.size)); replace Va := Kept.mk (Va.out.keep (K3.out)); replace Vx := Kept.mk (Vx.out.keep (K3.out)); replace Vd := Kept.mk (Vd.out.keep (K3.out)); replace Vu := Kept.mk (Vu.out.keep (K3.out)); have Vq := Kept.mk K4.out; clear hz0 K1 K2 K3 K4 K5; generalize setN (U.alloc (.cells #[.int .i64 0, .slice none 0 0, .slice none 0 0] 25)) U.heap.size 0 [.int .i64 dQ.cap, p', m'] = W11 at *; generalize U.heap.size = gq at *; obtain ⟨qq, rq, xq, sq, iq, kq0, kq1, kq2⟩ := Vq.out.open_; have Xq := Kept.mk xq; have Sq := Kept.mk sq; have Iq := Kept.mk iq; clear xq sq iq)
  ((with_reducible refine (wd_t2 _ _ Xq.out).mono ?_); rintro e W12 ⟨t2, rfl, hb1⟩)
  clear Xq Sq Iq kq0 kq1 kq2
  replace hB := Kept.mk (hB.out.trans ((hb1).mono hB.out.size))
  replace Va := Kept.mk (Va.out.keep (hb1))
  replace Vx := Kept.mk (Vx.out.keep (hb1))
  replace Vd := Kept.mk (Vd.out.keep (hb1))
  replace Vu := Kept.mk (Vu.out.keep (hb1))
  replace Vq := Kept.mk (Vq.out.keep (hb1))
  clear hb1
  obtain ⟨qq, rq, xq, sq, iq, kq0, kq1, kq2⟩ := Vq.out.open_
  have Xq := Kept.mk xq
  have Sq := Kept.mk sq
  have Iq := Kept.mk iq
  clear xq sq iq
  go_wp2_with fail
  ((with_reducible refine (wd_n1 _ _ Xq.out).mono ?_); rintro e U ⟨v', rfl, ⟨p', m', rfl, hp', hm'⟩, hb1⟩)
  obtain ⟨K1, K2, K3, K4, K5⟩ := enew U zeroE p' m' hp' hm' U.heap.size rfl
  clear hp' hm'
  clear Xq Sq Iq kq0 kq1 kq2
  replace hB := Kept.mk (hB.out.trans ((hb1).mono hB.out.size))
  replace Va := Kept.mk (Va.out.keep (hb1))
  replace Vx := Kept.mk (Vx.out.keep (hb1))
  replace Vd := Kept.mk (Vd.out.keep (hb1))
  replace Vu := Kept.mk (Vu.out.keep (hb1))
  replace Vq := Kept.mk (Vq.out.keep (hb1))
  clear hb1
  go_wp2_with (have hz0 := K1; refine wpList_storeN 30 rfl (.tmp 30) (.tmp 112) rfl U.heap.size [.string ⟨zeroE.key.toArray⟩, .int .i64 zeroE.val.kind, .int .i64 zeroE.val.time, .int .i64 zeroE.val.node, .bool zeroE.val.dead, .string ⟨zeroE.val.text.toArray⟩, p', m', .int .u64 (zeroE.val.flags.toNat : Int)] size_en rfl rfl K1.out rfl K2.out K5.out ?_; replace hB := Kept.mk (hB.out.trans ((K3.out).mono hB.out.size)); replace Va := Kept.mk (Va.out.keep (K3.out)); replace Vx := Kept.mk (Vx.out.keep (K3.out)); replace Vd := Kept.mk (Vd.out.keep (K3.out)); replace Vu := Kept.mk (Vu.out.keep (K3.out)); replace Vq := Kept.mk (Vq.out.keep (K3.out)); have Vn1 := Kept.mk (show VarN _ _ zeroE from ⟨_, _, K4.out⟩); clear hz0 K1 K2 K3 K4 K5; generalize setN (U.alloc (.cells #[.string ⟨#[]⟩, .int .i64 0, .int .i64 0, .int .i64 0, .bool false, .string ⟨#[]⟩, .slice none 0 0, .slice none 0 0, .int .u64 0] 30)) U.heap.size 0 [.string ⟨zeroE.key.toArray⟩, .int .i64 zeroE.val.kind, .int .i64 zeroE.val.time, .int .i64 zeroE.val.node, .bool zeroE.val.dead, .string ⟨zeroE.val.text.toArray⟩, p', m', .int .u64 (zeroE.val.flags.toNat : Int)] = W13 at *; generalize U.heap.size = gn1 at *; obtain ⟨qd, rd, xd, sd, id, kd0, kd1, kd2⟩ := Vd.out.open_; have Xd := Kept.mk xd; have Sd := Kept.mk sd; have Id := Kept.mk id; clear xd sd id)
  clear Vn1
  ((with_reducible refine (wd_n2 _ _ Xd.out).mono ?_); rintro e U ⟨v', rfl, ⟨p', m', rfl, hp', hm'⟩, hb1⟩)
  obtain ⟨K1, K2, K3, K4, K5⟩ := enew U zeroE p' m' hp' hm' U.heap.size rfl
  clear hp' hm'
  clear Xd Sd Id kd0 kd1 kd2
  replace hB := Kept.mk (hB.out.trans ((hb1).mono hB.out.size))
  replace Va := Kept.mk (Va.out.keep (hb1))
  replace Vx := Kept.mk (Vx.out.keep (hb1))
  replace Vd := Kept.mk (Vd.out.keep (hb1))
  replace Vu := Kept.mk (Vu.out.keep (hb1))
  replace Vq := Kept.mk (Vq.out.keep (hb1))
  clear hb1
  go_wp2_with (have hz0 := K1; refine wpList_storeN 30 rfl (.tmp 32) (.tmp 117) rfl U.heap.size [.string ⟨zeroE.key.toArray⟩, .int .i64 zeroE.val.kind, .int .i64 zeroE.val.time, .int .i64 zeroE.val.node, .bool zeroE.val.dead, .string ⟨zeroE.val.text.toArray⟩, p', m', .int .u64 (zeroE.val.flags.toNat : Int)] size_en rfl rfl K1.out rfl K2.out K5.out ?_; replace hB := Kept.mk (hB.out.trans ((K3.out).mono hB.out.size)); replace Va := Kept.mk (Va.out.keep (K3.out)); replace Vx := Kept.mk (Vx.out.keep (K3.out)); replace Vd := Kept.mk (Vd.out.keep (K3.out)); replace Vu := Kept.mk (Vu.out.keep (K3.out)); replace Vq := Kept.mk (Vq.out.keep (K3.out)); have Vn2 := Kept.mk (show VarN _ _ zeroE from ⟨_, _, K4.out⟩); clear hz0 K1 K2 K3 K4 K5; generalize setN (U.alloc (.cells #[.string ⟨#[]⟩, .int .i64 0, .int .i64 0, .int .i64 0, .bool false, .string ⟨#[]⟩, .slice none 0 0, .slice none 0 0, .int .u64 0] 30)) U.heap.size 0 [.string ⟨zeroE.key.toArray⟩, .int .i64 zeroE.val.kind, .int .i64 zeroE.val.time, .int .i64 zeroE.val.node, .bool zeroE.val.dead, .string ⟨zeroE.val.text.toArray⟩, p', m', .int .u64 (zeroE.val.flags.toNat : Int)] = W14 at *; generalize U.heap.size = gn2 at *; obtain ⟨qa, ra, xa, sa, ia, ka0, ka1, ka2⟩ := Va.out.open_; have Xa := Kept.mk xa; have Sa := Kept.mk sa; have Ia := Kept.mk ia; clear xa sa ia)
  clear Vn2
  ((with_reducible refine (wd_n3 _ _ Xa.out).mono ?_); rintro e U ⟨v', rfl, ⟨p', m', rfl, hp', hm'⟩, hb1⟩)
  obtain ⟨K1, K2, K3, K4, K5⟩ := enew U zeroE p' m' hp' hm' U.heap.size rfl
  clear hp' hm'
  clear Xa Sa Ia ka0 ka1 ka2
  replace hB := Kept.mk (hB.out.trans ((hb1).mono hB.out.size))
  replace Va := Kept.mk (Va.out.keep (hb1))
  replace Vx := Kept.mk (Vx.out.keep (hb1))
  replace Vd := Kept.mk (Vd.out.keep (hb1))
  replace Vu := Kept.mk (Vu.out.keep (hb1))
  replace Vq := Kept.mk (Vq.out.keep (hb1))
  clear hb1
  go_wp2_with (have hz0 := K1; refine wpList_storeN 30 rfl (.tmp 34) (.tmp 122) rfl U.heap.size [.string ⟨zeroE.key.toArray⟩, .int .i64 zeroE.val.kind, .int .i64 zeroE.val.time, .int .i64 zeroE.val.node, .bool zeroE.val.dead, .string ⟨zeroE.val.text.toArray⟩, p', m', .int .u64 (zeroE.val.flags.toNat : Int)] size_en rfl rfl K1.out rfl K2.out K5.out ?_; replace hB := Kept.mk (hB.out.trans ((K3.out).mono hB.out.size)); replace Va := Kept.mk (Va.out.keep (K3.out)); replace Vx := Kept.mk (Vx.out.keep (K3.out)); replace Vd := Kept.mk (Vd.out.keep (K3.out)); replace Vu := Kept.mk (Vu.out.keep (K3.out)); replace Vq := Kept.mk (Vq.out.keep (K3.out)); have Vn3 := Kept.mk (show VarN _ _ zeroE from ⟨_, _, K4.out⟩); clear hz0 K1 K2 K3 K4 K5; generalize setN (U.alloc (.cells #[.string ⟨#[]⟩, .int .i64 0, .int .i64 0, .int .i64 0, .bool false, .string ⟨#[]⟩, .slice none 0 0, .slice none 0 0, .int .u64 0] 30)) U.heap.size 0 [.string ⟨zeroE.key.toArray⟩, .int .i64 zeroE.val.kind, .int .i64 zeroE.val.time, .int .i64 zeroE.val.node, .bool zeroE.val.dead, .string ⟨zeroE.val.text.toArray⟩, p', m', .int .u64 (zeroE.val.flags.toNat : Int)] = W15 at *; generalize U.heap.size = gn3 at *; obtain ⟨qx, rx, xx, yx, kx0, kx1, kx2, kx3, kx4, kx5, kx6, kx7, kx8⟩ := Vx.out.open_; have Xx := Kept.mk xx; have Yx := Kept.mk yx; clear xx yx; obtain ⟨qu, ru, xu, yu, ku0, ku1, ku2, ku3, ku4, ku5, ku6, ku7, ku8⟩ := Vu.out.open_; have Xu := Kept.mk xu; have Yu := Kept.mk yu; clear xu yu; obtain ⟨qd, rd, xd, sd, id, kd0, kd1, kd2⟩ := Vd.out.open_; have Xd := Kept.mk xd; have Sd := Kept.mk sd; have Id := Kept.mk id; clear xd sd id; rw [xY_time] at kx2; rw [uK_time] at ku2; clear Vn3)
  ((with_reducible refine (wd_l3 _ _ Xd.out).mono ?_); rintro e W16 ⟨a3, c3, rfl, hb1⟩)
  clear Xx Yx kx0 kx1 kx2 kx3 kx4 kx5 kx6 kx7 kx8
  clear Xu Yu ku0 ku1 ku2 ku3 ku4 ku5 ku6 ku7 ku8
  clear Xd Sd Id kd0 kd1 kd2
  replace hB := Kept.mk (hB.out.trans ((hb1).mono hB.out.size))
  replace Va := Kept.mk (Va.out.keep (hb1))
  replace Vx := Kept.mk (Vx.out.keep (hb1))
  replace Vd := Kept.mk (Vd.out.keep (hb1))
  replace Vu := Kept.mk (Vu.out.keep (hb1))
  replace Vq := Kept.mk (Vq.out.keep (hb1))
  clear hb1
  obtain ⟨qq, rq, xq, sq, iq, kq0, kq1, kq2⟩ := Vq.out.open_
  have Xq := Kept.mk xq
  have Sq := Kept.mk sq
  have Iq := Kept.mk iq
  clear xq sq iq
  go_wp2_with fail
  ((with_reducible refine (wd_l2 _ _ Xq.out).mono ?_); rintro e W17 ⟨a4, c4, rfl, hb1⟩)
  clear Xq Sq Iq kq0 kq1 kq2
  replace hB := Kept.mk (hB.out.trans ((hb1).mono hB.out.size))
  replace Va := Kept.mk (Va.out.keep (hb1))
  replace Vx := Kept.mk (Vx.out.keep (hb1))
  replace Vd := Kept.mk (Vd.out.keep (hb1))
  replace Vu := Kept.mk (Vu.out.keep (hb1))
  replace Vq := Kept.mk (Vq.out.keep (hb1))
  clear hb1
  go_wp2
  go_ret
  exact ⟨rfl, hB.out⟩
end Go.Proofs.YtbgconagkgfplaaGreat
end
section
namespace Go.Proofs.YtbgconagkgfplaaGreat
set_option linter.unusedVariables false
set_option linter.unusedSimpArgs false

theorem sum_set : ∀ (l : List Int) (k : Nat) (x y : Int), l[k]? = some y → (l.set k x).sum = l.sum + (x - y)
  | [], k, x, y, h => by simp at h
  | a :: r, 0, x, y, h => by
    simp only [List.getElem?_cons_zero, Option.some.injEq] at h
    subst h
    simp only [List.set_cons_zero, List.sum_cons]; omega
  | a :: r, k + 1, x, y, h => by
    rw [List.getElem?_cons_succ] at h
    rw [List.set_cons_succ, List.sum_cons, List.sum_cons, sum_set r k x y h]; omega
theorem zip_noughts : ∀ (l : List Int) (n : Nat), l.length = n → (∀ y ∈ l, 0 ≤ y) → List.zipWith maxI l (List.replicate n 0) = l
  | [], n, h, _ => by subst h; rfl
  | a :: r, 0, h, _ => by simp at h
  | a :: r, n + 1, h, h0 => by
    rw [List.replicate_succ, List.zipWith_cons_cons, zip_noughts r n (by simpa using h) (fun y hy => h0 y (List.mem_cons_of_mem _ hy))]
    have := h0 a (List.mem_cons_self ..)
    rw [show maxI a 0 = a by unfold maxI; split <;> omega]
theorem zip_single : ∀ (l : List Int) (n k : Nat) (x y : Int), l.length = n → (∀ y ∈ l, 0 ≤ y) → l[k]? = some y → y ≤ x → List.zipWith maxI l ((List.replicate n 0).set k x) = l.set k x
  | [], n, k, x, y, h, _, hk, _ => by simp at hk
  | a :: r, 0, k, x, y, h, _, _, _ => by simp at h
  | a :: r, n + 1, 0, x, y, h, h0, hk, hx => by
    simp only [List.getElem?_cons_zero, Option.some.injEq] at hk
    subst hk
    rw [List.replicate_succ, List.set_cons_zero, List.zipWith_cons_cons, zip_noughts r n (by simpa using h) (fun y hy => h0 y (List.mem_cons_of_mem _ hy)), List.set_cons_zero]
    rw [show maxI a x = x by unfold maxI; split <;> omega]
  | a :: r, n + 1, k + 1, x, y, h, h0, hk, hx => by
    rw [List.getElem?_cons_succ] at hk
    rw [List.replicate_succ, List.set_cons_succ, List.zipWith_cons_cons, zip_single r n k x y (by simpa using h) (fun y hy => h0 y (List.mem_cons_of_mem _ hy)) hk hx, List.set_cons_succ]
    have := h0 a (List.mem_cons_self ..)
    rw [show maxI a 0 = a by unfold maxI; split <;> omega]
theorem okRow_iff {l : List Int} : okRow l = true ↔ l.length = 8 ∧ ∀ y ∈ l, 0 ≤ y ∧ y ≤ 65535 := by
  unfold okRow okNum
  simp only [Bool.and_eq_true, decide_eq_true_eq, List.all_eq_true]
theorem okRow_rep : okRow (List.replicate 8 0) = true := by decide
theorem okRow_set {l : List Int} (h : okRow l = true) {k : Nat} {x : Int} (hx : 0 ≤ x ∧ x ≤ 65535) : okRow (l.set k x) = true := by
  obtain ⟨h1, h2⟩ := okRow_iff.1 h
  refine okRow_iff.2 ⟨by rw [List.length_set, h1], fun y hy => ?_⟩
  rcases List.mem_or_eq_of_mem_set hy with hy | rfl
  · exact h2 y hy
  · exact hx
theorem cntE_ok (key : List UInt8) (k : Nat) (n x : Int) (hx : 0 ≤ x ∧ x ≤ 65535) : okV (cntE key (k : Int) n x).val = true := by
  have h1 : okRow (onlyI (k : Int) x) = true := by unfold onlyI; exact okRow_set okRow_rep hx
  refine count_ok rfl ?_ rfl
  unfold inCount cntE
  by_cases c : n < 0
  · simp only [if_pos c, h1, okRow_rep]; rfl
  · simp only [if_neg c, h1, okRow_rep]; rfl
/-- A counter whose number of a node is greater. -/
def bumpV (W : Va) (k : Nat) (n x : Int) : Va := ⟨2, 0, 0, false, [], if n < 0 then W.plus else W.plus.set k x, if n < 0 then W.minus.set k x else W.minus, 0⟩
theorem sum_count {W : Va} (hW : okV W = true) (hk : W.kind = 2) : sumN W = W.plus.sum - W.minus.sum := by
  have h := kindN_ok hW
  unfold sumN
  rw [if_pos (by omega)]
theorem join_bump {W : Va} (hW : okV W = true) (hk2 : W.kind = 2) (key : List UInt8) {k : Nat} {n x y : Int} (hy : (sideL W n)[k]? = some y) (hx : 0 ≤ x ∧ x ≤ 65535) (hyx : y ≤ x) :
    joinF W (cntE key (k : Int) n x).val = bumpV W k n x ∧ okV (bumpV W k n x) = true ∧ sumN (bumpV W k n x) = sumN W + (if n < 0 then y - x else x - y) ∧ ∀ m j, j ≠ k → (sideL (bumpV W k n x) m)[j]? = (sideL W m)[j]? := by
  have hu := cntE_ok key k n x hx
  have h00 : joinE W (cntE key (k : Int) n x).val = 0 := joinE_zero.2 ⟨hW, hu, hk2⟩
  obtain ⟨h1, _⟩ := ok_count hW hk2
  unfold inCount at h1
  rw [Bool.and_eq_true] at h1
  obtain ⟨p1, p2⟩ := okRow_iff.1 h1.1
  obtain ⟨m1, m2⟩ := okRow_iff.1 h1.2
  have e : joinF W (cntE key (k : Int) n x).val = bumpV W k n x := by
    rw [joinF_ok h00, joinV_count hk2]
    unfold joinCount cntE bumpV
    by_cases c : n < 0
    · have hy' : W.minus[k]? = some y := by unfold sideL at hy; rwa [if_pos c] at hy
      simp only [if_pos c]
      rw [zip_noughts W.plus 8 p1 (fun y hy => (p2 y hy).1)]
      unfold onlyI
      rw [Int.toNat_natCast, zip_single W.minus 8 k x y m1 (fun y hy => (m2 y hy).1) hy' hyx]
    · have hy' : W.plus[k]? = some y := by unfold sideL at hy; rwa [if_neg c] at hy
      simp only [if_neg c]
      rw [zip_noughts W.minus 8 m1 (fun y hy => (m2 y hy).1)]
      unfold onlyI
      rw [Int.toNat_natCast, zip_single W.plus 8 k x y p1 (fun y hy => (p2 y hy).1) hy' hyx]
  have hok : okV (bumpV W k n x) = true := by rw [← e]; exact (join_ok h00).1
  refine ⟨e, hok, ?_, fun m j hj => ?_⟩
  · rw [sum_count hok rfl, sum_count hW hk2]
    unfold bumpV
    by_cases c : n < 0
    · have hy' : W.minus[k]? = some y := by unfold sideL at hy; rwa [if_pos c] at hy
      simp only [if_pos c]
      rw [sum_set W.minus k x y hy']; omega
    · have hy' : W.plus[k]? = some y := by unfold sideL at hy; rwa [if_neg c] at hy
      simp only [if_neg c]
      rw [sum_set W.plus k x y hy']; omega
  · unfold sideL bumpV
    by_cases c : n < 0 <;> by_cases d : m < 0 <;> simp only [c, d, if_true, if_false] <;> (try rfl) <;> rw [List.getElem?_set_ne (Ne.symm hj)]
theorem arg_zero' {n : Int} (h : argE n = 0) : n ≠ 0 ∧ -65535 ≤ n ∧ n ≤ 65535 := by
  unfold argE at h; split at h
  · cases h
  · omega
theorem side_row {W : Va} (hW : okV W = true) (hk2 : W.kind = 2) (n : Int) : (sideL W n).length = 8 ∧ ∀ y ∈ sideL W n, 0 ≤ y ∧ y ≤ 65535 := by
  obtain ⟨h1, _⟩ := ok_count hW hk2
  unfold inCount at h1
  rw [Bool.and_eq_true] at h1
  unfold sideL
  split
  · exact okRow_iff.1 h1.2
  · exact okRow_iff.1 h1.1
/-- What Add's delta is. -/
theorem add_delta {A : Ar} {node : Int} {key : List UInt8} {n : Int} (h : addDE A node key n = 0) : OkA A ∧ (∃ k : Nat, node = (k : Int) ∧ k < 8 ∧ ∃ y, (sideL (heldV A 2 key) n)[k]? = some y ∧ 0 ≤ y ∧ y + absI n ≤ 65535 ∧ addDF A node key n = cntE key (k : Int) n (y + absI n) ∧ togI (heldV A 2 key) node n = y + absI n) ∧ okE (addDF A node key n) = true ∧ roomE A (heldB A 2 key) = 0 ∧ n ≠ 0 ∧ 1 ≤ key.length ∧ key.length ≤ 8 := by
  have z := first_zero h
  have hA := chk_zero (z (chkA A) (by simp))
  have hn := node_zero (z (nodeE node) (by simp))
  have hk := key_zero (z (keyE key) (by simp))
  have hr := z (roomE A (heldB A 2 key)) (by simp)
  have ha := arg_zero' (z (argE n) (by simp))
  have ho : togI (heldV A 2 key) node n ≤ 65535 := by have := z (overE (heldV A 2 key) node n) (by simp); unfold overE at this; split at this <;> omega
  obtain ⟨v1, v2⟩ := held_ok A (kind := 2) key (.inr (.inl rfl))
  obtain ⟨s1, s2⟩ := side_row v1 v2 n
  obtain ⟨k, rfl⟩ := Int.eq_ofNat_of_zero_le hn.1
  have hk8 : k < 8 := by omega
  obtain ⟨y, hy⟩ : ∃ y, (sideL (heldV A 2 key) n)[k]? = some y := ⟨_, List.getElem?_eq_getElem (by omega)⟩
  have hyr := s2 y (List.mem_of_getElem? hy)
  have ht : togI (heldV A 2 key) (k : Int) n = y + absI n := by unfold togI; rw [Int.toNat_natCast, hy]; rfl
  have he : addDF A (k : Int) key n = cntE key (k : Int) n (y + absI n) := by unfold addDF; rw [if_pos h, ht]
  have hab : 0 ≤ absI n := by unfold absI; split <;> omega
  refine ⟨hA, ⟨k, rfl, hk8, y, hy, hyr.1, by omega, he, ht⟩, ?_, hr, ha.1, hk⟩
  rw [he]
  have hv := cntE_ok key k n (y + absI n) (by omega)
  unfold okE
  rw [hv]
  simp only [Bool.and_true, Bool.and_eq_true, decide_eq_true_eq]
  exact hk
theorem abs_sign (n y : Int) : (if n < 0 then y - (y + absI n) else (y + absI n) - y) = n := by unfold absI; split <;> omega
theorem sumT_held {A : Ar} (key : List UInt8) : sumT A key = sumN (heldV A 2 key) := by
  unfold sumT
  cases h : heldB A 2 key with
  | true => rw [if_pos rfl]
  | false =>
    rw [if_neg (by decide)]
    have : heldV A 2 key = leastF 2 := by unfold heldV; rw [if_neg (by unfold heldB at h; exact of_decide_eq_false h)]
    rw [this]; decide
/-- Add, joined. -/
theorem add_writes {A : Ar} {node : Int} {key : List UInt8} {n : Int} (h : addDE A node key n = 0) : OkA A ∧ okE (addDF A node key n) = true ∧ joinAE A (addDF A node key n) = 0 ∧ joinAB A (addDF A node key n) = true ∧ heldB (joinAF A (addDF A node key n)) 2 key = true ∧ sumT (joinAF A (addDF A node key n)) key = sumT A key + n := by
  obtain ⟨hA, ⟨k, hnk, hk8, y, hy, hy0, hyx, he, _⟩, hx, hr, hn0, _⟩ := add_delta h
  obtain ⟨v1, v2⟩ := held_ok A (kind := 2) key (.inr (.inl rfl))
  have hr' : roomE A (heldB A (addDF A node key n).val.kind (addDF A node key n).key) = 0 := by rw [he]; exact hr
  have h0 := room_join hA hx hr'
  obtain ⟨j1, j2, j3⟩ := join_held hA hx h0
  have hab : 0 ≤ absI n := by unfold absI; split <;> omega
  obtain ⟨b1, b2, b3, _⟩ := join_bump v1 v2 key (n := n) (x := y + absI n) hy (by omega) (by omega)
  have ek : (addDF A node key n).val.kind = 2 := by rw [he]; rfl
  have ey : (addDF A node key n).key = key := by rw [he]; rfl
  rw [ek, ey] at j1 j2 j3
  have j2' : heldV (joinAF A (addDF A node key n)) 2 key = bumpV (heldV A 2 key) k n (y + absI n) := by rw [j2, ← b1, he]
  have hs : sumT (joinAF A (addDF A node key n)) key = sumT A key + n := by rw [sumT_held, sumT_held, j2', b3, abs_sign]
  refine ⟨hA, hx, h0, ?_, j1, hs⟩
  rw [j3, decide_eq_false]
  · rfl
  · rintro ⟨_, e2⟩
    rw [← j2, ] at e2
    rw [sumT_held, sumT_held, e2] at hs
    omega
/-- Two nodes that count apart. -/
theorem add_two {A : Ar} {p q : Int} {key : List UInt8} {n m : Int} (h : addDE A p key n = 0) (g : addDE A q key m = 0) (hpq : p ≠ q) : mergeO A [addDF A p key n, addDF A q key m] = 0 ∧ sumT (mergeF A [addDF A p key n, addDF A q key m]) key = sumT A key + n + m := by
  obtain ⟨hA, hx, hj, _, hb, hs⟩ := add_writes h
  obtain ⟨_, ⟨k, hnk, hk8, y, hy, hy0, hyx, he, _⟩, hx2, hr2, hn0, _⟩ := add_delta h
  obtain ⟨_, ⟨l, hnl, hl8, z, hz, hz0, hzx, ge, _⟩, gx, gr, gn0, _⟩ := add_delta g
  obtain ⟨v1, v2⟩ := held_ok A (kind := 2) key (.inr (.inl rfl))
  have hab : 0 ≤ absI n := by unfold absI; split <;> omega
  have hab2 : 0 ≤ absI m := by unfold absI; split <;> omega
  obtain ⟨b1, b2, b3, b4⟩ := join_bump v1 v2 key (n := n) (x := y + absI n) hy (by omega) (by omega)
  have ek : (addDF A p key n).val.kind = 2 := by rw [he]; rfl
  have ey : (addDF A p key n).key = key := by rw [he]; rfl
  have hB := join_okA hA (addDF A p key n)
  obtain ⟨_, j2, _⟩ := join_held hA hx hj
  rw [ek, ey] at j2
  have j2' : heldV (joinAF A (addDF A p key n)) 2 key = bumpV (heldV A 2 key) k n (y + absI n) := by rw [j2, ← b1, he]
  have gk : (addDF A q key m).val.kind = 2 := by rw [ge]; rfl
  have gy : (addDF A q key m).key = key := by rw [ge]; rfl
  have hj2 : joinAE (joinAF A (addDF A p key n)) (addDF A q key m) = 0 := room_join hB gx (by rw [gk, gy, hb]; unfold roomE; rw [if_neg (fun h => by cases h.1)])
  obtain ⟨_, i2, _⟩ := join_held hB gx hj2
  rw [gk, gy, j2'] at i2
  have hlk : l ≠ k := by rintro rfl; exact hpq (by rw [hnk, hnl])
  have hz' : (sideL (bumpV (heldV A 2 key) k n (y + absI n)) m)[l]? = some z := by rw [b4 m l hlk]; exact hz
  obtain ⟨c1, c2, c3, _⟩ := join_bump b2 rfl key (n := m) (x := z + absI m) hz' (by omega) (by omega)
  rw [ge] at i2
  rw [c1] at i2
  refine ⟨?_, ?_⟩
  · show (if joinAE A (addDF A p key n) = 0 then 0 else 1) + ((if joinAE (joinAF A (addDF A p key n)) (addDF A q key m) = 0 then 0 else 1) + 0) = 0
    rw [hj, hj2]; rfl
  · show sumT (joinAF (joinAF A (addDF A p key n)) (addDF A q key m)) key = _
    rw [sumT_held, ge, i2, c3, abs_sign, ← j2', ← sumT_held, hs]
/-- Of two registers that are put the greater node's is read. -/
theorem put_two {A : Ar} {p q : Int} {key s t : List UInt8} (h : putDE A p key s = 0) (g : putDE A q key t = 0) (hpq : p < q) : mergeO A [putDF A q key t, putDF A p key s] = 0 ∧ textT (mergeF A [putDF A q key t, putDF A p key s]) key = t := by
  obtain ⟨hA, hx, ex, _, _, _, _⟩ := put_writes h
  obtain ⟨_, gx, ey, gj, _, gb, gv⟩ := put_writes g
  have hB := join_okA hA (putDF A q key t)
  have ek : (putDF A p key s).val.kind = 1 := by rw [ex]; rfl
  have ekk : (putDF A p key s).key = key := by rw [ex]; rfl
  have gk : (putDF A q key t).val.kind = 1 := by rw [ey]; rfl
  have hj2 : joinAE (joinAF A (putDF A q key t)) (putDF A p key s) = 0 := room_join hB hx (by rw [ek, ekk, gb]; unfold roomE; rw [if_neg (fun h => by cases h.1)])
  obtain ⟨i1, i2, _⟩ := join_held hB hx hj2
  rw [ek, ekk] at i1 i2
  have hw : joinF (putDF A p key s).val (putDF A q key t).val = (putDF A q key t).val := reg_wins (okE_val hx) ek (okE_val gx) gk (.inr ⟨by rw [ex, ey]; rfl, by rw [ex, ey]; exact hpq⟩)
  have hc : joinF (putDF A q key t).val (putDF A p key s).val = joinF (putDF A p key s).val (putDF A q key t).val := join_comm (joinE_zero.2 ⟨okE_val gx, okE_val hx, by rw [ek, gk]⟩)
  rw [gv, hc, hw] at i2
  refine ⟨?_, ?_⟩
  · show (if joinAE A (putDF A q key t) = 0 then 0 else 1) + ((if joinAE (joinAF A (putDF A q key t)) (putDF A p key s) = 0 then 0 else 1) + 0) = 0
    rw [gj, hj2]; rfl
  · show textT (joinAF (joinAF A (putDF A q key t)) (putDF A p key s)) key = t
    unfold textT
    rw [if_pos i1, i2, ey]; rfl
end Go.Proofs.YtbgconagkgfplaaGreat
end
section
namespace Go.Proofs.YtbgconagkgfplaaGreat
set_option linter.unusedVariables false
set_option linter.unusedSimpArgs false

theorem put_facts {A : Ar} {node : Int} {key text : List UInt8} (h : putDE A node key text = 0) : FitE (putDF A node key text) ∧ FitA (joinAF A (putDF A node key text)) ∧ joinAB A (putDF A node key text) = true ∧ joinAE A (putDF A node key text) = 0 ∧ textT (joinAF A (putDF A node key text)) key = text ∧ textB (joinAF A (putDF A node key text)) key = true := by
  obtain ⟨h1, h2, h3, h4, h5, h6, h7⟩ := put_writes h
  refine ⟨ok_fit' h2, okA_fit (join_okA h1 _), h5, h4, ?_, ?_⟩
  · unfold textT; rw [if_pos h6, h7, h3]; rfl
  · unfold textB; rw [h6, h7, h3]; rfl
theorem del_facts {A : Ar} {node : Int} {key : List UInt8} (h : delDE A node key = 0) : FitE (delDF A node key) ∧ FitA (joinAF A (delDF A node key)) ∧ joinAB A (delDF A node key) = true ∧ joinAE A (delDF A node key) = 0 ∧ textB (joinAF A (delDF A node key)) key = false := by
  obtain ⟨h1, h2, h4, h5, h6, h7, h8⟩ := del_writes h
  refine ⟨ok_fit' h2, okA_fit (join_okA h1 _), h5, h4, ?_⟩
  unfold textB; rw [h6, h7, h8]; rfl
theorem sum_within : ∀ (l : List Int), (∀ y ∈ l, 0 ≤ y ∧ y ≤ 65535) → 0 ≤ l.sum ∧ l.sum ≤ 65535 * l.length
  | [], _ => by simp
  | a :: r, h => by
    have h1 := h a (List.mem_cons_self ..)
    have h2 := sum_within r (fun y hy => h y (List.mem_cons_of_mem _ hy))
    rw [List.sum_cons, List.length_cons]
    omega
theorem sumT_bound (A : Ar) (key : List UInt8) : -524280 ≤ sumT A key ∧ sumT A key ≤ 524280 := by
  obtain ⟨v1, v2⟩ := held_ok A (kind := 2) key (.inr (.inl rfl))
  rw [sumT_held, sum_count v1 v2]
  obtain ⟨h1, _⟩ := ok_count v1 v2
  unfold inCount at h1
  rw [Bool.and_eq_true] at h1
  obtain ⟨p1, p2⟩ := okRow_iff.1 h1.1
  obtain ⟨m1, m2⟩ := okRow_iff.1 h1.2
  have a := sum_within _ p2
  have b := sum_within _ m2
  rw [p1] at a
  rw [m1] at b
  omega
theorem add_facts {A : Ar} {node : Int} {key : List UInt8} {n : Int} (h : addDE A node key n = 0) : FitE (addDF A node key n) ∧ FitA (joinAF A (addDF A node key n)) ∧ joinAB A (addDF A node key n) = true ∧ joinAE A (addDF A node key n) = 0 ∧ sumT (joinAF A (addDF A node key n)) key = sumT A key + n ∧ heldB (joinAF A (addDF A node key n)) 2 key = true ∧ -65535 ≤ n ∧ n ≤ 65535 := by
  obtain ⟨h1, h2, h3, h4, h5, h6⟩ := add_writes h
  exact ⟨ok_fit' h2, okA_fit (join_okA h1 _), h4, h3, h6, h5, (arg_zero' (first_zero h (argE n) (by simp))).2⟩
theorem set_facts {A : Ar} {key : List UInt8} (flags : UInt64) (h : setDE A key = 0) : FitE (setDF A key flags) ∧ FitA (joinAF A (setDF A key flags)) ∧ joinAE A (setDF A key flags) = 0 ∧ flagT (joinAF A (setDF A key flags)) key = flagT A key ||| flags ∧ heldB (joinAF A (setDF A key flags)) 3 key = true := by
  obtain ⟨h1, h2, h3, h4, h5⟩ := set_writes flags h
  refine ⟨ok_fit' h2, okA_fit (join_okA h1 _), h3, ?_, h4⟩
  show (if heldB (joinAF A (setDF A key flags)) 3 key = true then (heldV (joinAF A (setDF A key flags)) 3 key).flags else 0) = _
  rw [if_pos h4, h5]
theorem bad_same {A : Ar} {node : Int} {key : List UInt8} {n : Int} (h : chkA A ≠ 0 ∨ node < 0 ∨ 7 < node ∨ key = [] ∨ 8 < key.length) : ∃ e : Int, e ≠ 0 ∧ addDE A node key n = e ∧ putDE A node key [] = e ∧ delDE A node key = e := by
  unfold addDE putDE delDE
  simp only [firstE]
  by_cases h1 : chkA A = 0
  · rw [if_pos h1, if_pos h1, if_pos h1]
    by_cases h2 : nodeE node = 0
    · rw [if_pos h2, if_pos h2, if_pos h2]
      have hk : keyE key ≠ 0 := by
        have hn := node_zero h2
        unfold keyE
        rcases h with h | h | h | rfl | h
        · exact absurd h1 h
        · omega
        · omega
        · simp
        · rw [if_pos (.inr h)]; omega
      rw [if_neg hk, if_neg hk, if_neg hk]
      exact ⟨_, hk, rfl, rfl, rfl⟩
    · rw [if_neg h2, if_neg h2, if_neg h2]
      exact ⟨_, h2, rfl, rfl, rfl⟩
  · rw [if_neg h1, if_neg h1, if_neg h1]
    exact ⟨_, h1, rfl, rfl, rfl⟩
end Go.Proofs.YtbgconagkgfplaaGreat
end
