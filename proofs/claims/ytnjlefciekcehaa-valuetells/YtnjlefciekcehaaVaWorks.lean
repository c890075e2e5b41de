/- works() of layer 6: the document's example, and one of each kind. -/
import Derived.Test.YtnjlefciekcehaaVaBelow
namespace Go.Proofs.Ytnjlefciekcehaa
open Go.RowKit
set_option linter.unusedVariables false
set_option linter.unusedSimpArgs false
attribute [local irreducible] setN

def va1 : Va := ⟨1, 3, 1, false, [120], [], [], 0⟩
def va2 : Va := ⟨1, 3, 2, false, [97], [], [], 0⟩
def vn : Va := ⟨2, 0, 0, false, [], [5, 0, 0, 0, 0, 0, 0, 1], [0, 2, 0, 0, 0, 0, 0, 0], 0⟩
def vf5 : Va := ⟨3, 0, 0, false, [], [], [], 5⟩
def vf6 : Va := ⟨3, 0, 0, false, [], [], [], 6⟩
def vf7 : Va := ⟨3, 0, 0, false, [], [], [], 7⟩
def vd : Va := ⟨1, 0, 0, true, [120], [], [], 0⟩
def vz : Va := leastF 2
theorem c_ab (v u : Value) (w : World) (hv : isVa va1 v w) (hu : isVa va2 u w) : Calls Try.prog 13 #[v, u] w fun e w' => ∃ v', e = .returned (.tuple #[v', .int .i64 0]) ∧ isVaN w.heap.size va2 v' w' ∧ Below w.heap.size w w' := by
  have h := vjoin_any va1 va2 v u w hv hu ⟨by decide, by decide, by decide⟩ ⟨by decide, by decide, by decide⟩
  rwa [show joinF va1 va2 = va2 by kernel_rfl, show joinE va1 va2 = 0 by kernel_rfl] at h
theorem c_zn (v u : Value) (w : World) (hv : isVa vz v w) (hu : isVa vn u w) : Calls Try.prog 13 #[v, u] w fun e w' => ∃ v', e = .returned (.tuple #[v', .int .i64 0]) ∧ isVaN w.heap.size vn v' w' ∧ Below w.heap.size w w' := by
  have h := vjoin_any vz vn v u w hv hu ⟨by decide, by decide, by decide⟩ ⟨by decide, by decide, by decide⟩
  rwa [show joinF vz vn = vn by kernel_rfl, show joinE vz vn = 0 by kernel_rfl] at h
theorem c_ff (v u : Value) (w : World) (hv : isVa vf5 v w) (hu : isVa vf6 u w) : Calls Try.prog 13 #[v, u] w fun e w' => ∃ v', e = .returned (.tuple #[v', .int .i64 0]) ∧ isVaN w.heap.size vf7 v' w' ∧ Below w.heap.size w w' := by
  have h := vjoin_any vf5 vf6 v u w hv hu ⟨by decide, by decide, by decide⟩ ⟨by decide, by decide, by decide⟩
  rwa [show joinF vf5 vf6 = vf7 by kernel_rfl, show joinE vf5 vf6 = 0 by kernel_rfl] at h
theorem c_an (v u : Value) (w : World) (hv : isVa va1 v w) (hu : isVa vn u w) : Calls Try.prog 13 #[v, u] w fun e w' => ∃ v', e = .returned (.tuple #[v', .int .i64 3]) ∧ isVaN w.heap.size zeroV v' w' ∧ Below w.heap.size w w' := by
  have h := vjoin_any va1 vn v u w hv hu ⟨by decide, by decide, by decide⟩ ⟨by decide, by decide, by decide⟩
  rwa [show joinF va1 vn = zeroV by kernel_rfl, show joinE va1 vn = 3 by kernel_rfl] at h
theorem c_az (v u : Value) (w : World) (hv : isVa va1 v w) (hu : isVa zeroV u w) : Calls Try.prog 13 #[v, u] w fun e w' => ∃ v', e = .returned (.tuple #[v', .int .i64 2]) ∧ isVaN w.heap.size zeroV v' w' ∧ Below w.heap.size w w' := by
  have h := vjoin_any va1 zeroV v u w hv hu ⟨by decide, by decide, by decide⟩ ⟨by decide, by decide, by decide⟩
  rwa [show joinF va1 zeroV = zeroV by kernel_rfl, show joinE va1 zeroV = 2 by kernel_rfl] at h
theorem c_least (w : World) : Calls Try.prog 15 #[.int .i64 2] w fun e w' => ∃ v', e = .returned (.tuple #[v', .int .i64 0]) ∧ isVaN w.heap.size vz v' w' ∧ Below w.heap.size w w' := vleast_any 2 w
theorem c_four (w : World) : Calls Try.prog 15 #[.int .i64 4] w fun e w' => ∃ v', e = .returned (.tuple #[v', .int .i64 3]) ∧ isVaN w.heap.size zeroV v' w' ∧ Below w.heap.size w w' := vleast_any 4 w
theorem row_new (W : World) (cs : Array Value) (l : List Int) (hl : l.length = 8) (h : cs = (l.map intC).toArray) : isCells (l.map intC) (.slice (some ⟨W.heap.size, 0, none⟩) 8 8) (W.alloc (.cells cs 3)) := by
  subst h
  have e : (l.map intC).length = 8 := by rw [List.length_map]; exact hl
  have := (show isCells (l.map intC) (.slice (some ⟨W.heap.size, 0, none⟩) (l.map intC).length 8) (W.alloc (.cells (l.map intC).toArray 3)) from .inr (.inr ⟨W.heap.size, 0, 8, rfl, by simp, fun j x hx => by rw [World.cell?_alloc_new, Nat.zero_add]; simpa using hx⟩))
  rwa [e] at this
theorem vn_new (W : World) : Kept (Below W.heap.size W (((W.alloc (.cells #[.int .i64 5, .int .i64 0, .int .i64 0, .int .i64 0, .int .i64 0, .int .i64 0, .int .i64 0, .int .i64 1] 3)).alloc (.cells #[.int .i64 0, .int .i64 2, .int .i64 0, .int .i64 0, .int .i64 0, .int .i64 0, .int .i64 0, .int .i64 0] 3)).alloc (.cells #[.int .i64 2, .int .i64 0, .int .i64 0, .bool false, .string ⟨#[]⟩, .slice (some ⟨W.heap.size, 0, none⟩) 8 8, .slice (some ⟨W.heap.size + 1, 0, none⟩) 8 8, .int .u64 0] 25))) ∧ Kept (VarV (((W.alloc (.cells #[.int .i64 5, .int .i64 0, .int .i64 0, .int .i64 0, .int .i64 0, .int .i64 0, .int .i64 0, .int .i64 1] 3)).alloc (.cells #[.int .i64 0, .int .i64 2, .int .i64 0, .int .i64 0, .int .i64 0, .int .i64 0, .int .i64 0, .int .i64 0] 3)).alloc (.cells #[.int .i64 2, .int .i64 0, .int .i64 0, .bool false, .string ⟨#[]⟩, .slice (some ⟨W.heap.size, 0, none⟩) 8 8, .slice (some ⟨W.heap.size + 1, 0, none⟩) 8 8, .int .u64 0] 25)) (W.heap.size + 1 + 1) vn) ∧ Kept (isVa vn (.agg #[.int .i64 2, .int .i64 0, .int .i64 0, .bool false, .string ⟨#[]⟩, .slice (some ⟨W.heap.size, 0, none⟩) 8 8, .slice (some ⟨W.heap.size + 1, 0, none⟩) 8 8, .int .u64 0]) (((W.alloc (.cells #[.int .i64 5, .int .i64 0, .int .i64 0, .int .i64 0, .int .i64 0, .int .i64 0, .int .i64 0, .int .i64 1] 3)).alloc (.cells #[.int .i64 0, .int .i64 2, .int .i64 0, .int .i64 0, .int .i64 0, .int .i64 0, .int .i64 0, .int .i64 0] 3)).alloc (.cells #[.int .i64 2, .int .i64 0, .int .i64 0, .bool false, .string ⟨#[]⟩, .slice (some ⟨W.heap.size, 0, none⟩) 8 8, .slice (some ⟨W.heap.size + 1, 0, none⟩) 8 8, .int .u64 0] 25))) := by
  have b1 := lit_below W (.cells #[.int .i64 5, .int .i64 0, .int .i64 0, .int .i64 0, .int .i64 0, .int .i64 0, .int .i64 0, .int .i64 1] 3)
  have b2 := lit_below (W.alloc (.cells #[.int .i64 5, .int .i64 0, .int .i64 0, .int .i64 0, .int .i64 0, .int .i64 0, .int .i64 0, .int .i64 1] 3)) (.cells #[.int .i64 0, .int .i64 2, .int .i64 0, .int .i64 0, .int .i64 0, .int .i64 0, .int .i64 0, .int .i64 0] 3)
  have b3 := lit_below ((W.alloc (.cells #[.int .i64 5, .int .i64 0, .int .i64 0, .int .i64 0, .int .i64 0, .int .i64 0, .int .i64 0, .int .i64 1] 3)).alloc (.cells #[.int .i64 0, .int .i64 2, .int .i64 0, .int .i64 0, .int .i64 0, .int .i64 0, .int .i64 0, .int .i64 0] 3)) (.cells #[.int .i64 2, .int .i64 0, .int .i64 0, .bool false, .string ⟨#[]⟩, .slice (some ⟨W.heap.size, 0, none⟩) 8 8, .slice (some ⟨W.heap.size + 1, 0, none⟩) 8 8, .int .u64 0] 25)
  have r1 := row_new W #[.int .i64 5, .int .i64 0, .int .i64 0, .int .i64 0, .int .i64 0, .int .i64 0, .int .i64 0, .int .i64 1] [5, 0, 0, 0, 0, 0, 0, 1] rfl rfl
  have r2 := row_new (W.alloc (.cells #[.int .i64 5, .int .i64 0, .int .i64 0, .int .i64 0, .int .i64 0, .int .i64 0, .int .i64 0, .int .i64 1] 3)) #[.int .i64 0, .int .i64 2, .int .i64 0, .int .i64 0, .int .i64 0, .int .i64 0, .int .i64 0, .int .i64 0] [0, 2, 0, 0, 0, 0, 0, 0] rfl rfl
  have hs : (W.alloc (.cells #[.int .i64 5, .int .i64 0, .int .i64 0, .int .i64 0, .int .i64 0, .int .i64 0, .int .i64 0, .int .i64 1] 3)).heap.size = W.heap.size + 1 := by simp
  rw [hs] at r2
  have r1' := stable_cells _ _ _ _ (stable_cells _ _ _ _ r1 b2) b3
  have r2' := stable_cells _ _ _ _ r2 b3
  exact ⟨⟨(b1.trans (b2.mono b1.size)).trans (b3.mono (b1.trans (b2.mono b1.size)).size)⟩, ⟨⟨_, _, cellsN_at ((W.alloc (.cells #[.int .i64 5, .int .i64 0, .int .i64 0, .int .i64 0, .int .i64 0, .int .i64 0, .int .i64 0, .int .i64 1] 3)).alloc (.cells #[.int .i64 0, .int .i64 2, .int .i64 0, .int .i64 0, .int .i64 0, .int .i64 0, .int .i64 0, .int .i64 0] 3)) 25 [.int .i64 2, .int .i64 0, .int .i64 0, .bool false, .string ⟨#[]⟩, .slice (some ⟨W.heap.size, 0, none⟩) 8 8, .slice (some ⟨W.heap.size + 1, 0, none⟩) 8 8, .int .u64 0] (W.heap.size + 1 + 1) (by simp), r1', r2'⟩⟩, ⟨⟨_, _, rfl, r1', r2'⟩⟩⟩
theorem ab_new (w : World) : Kept (Below w.heap.size w ((w.alloc (.cells #[.int .i64 1, .int .i64 3, .int .i64 1, .bool false, .string ⟨#[120]⟩, .slice none 0 0, .slice none 0 0, .int .u64 0] 25)).alloc (.cells #[.int .i64 1, .int .i64 3, .int .i64 2, .bool false, .string ⟨#[97]⟩, .slice none 0 0, .slice none 0 0, .int .u64 0] 25))) ∧ Kept (VarV ((w.alloc (.cells #[.int .i64 1, .int .i64 3, .int .i64 1, .bool false, .string ⟨#[120]⟩, .slice none 0 0, .slice none 0 0, .int .u64 0] 25)).alloc (.cells #[.int .i64 1, .int .i64 3, .int .i64 2, .bool false, .string ⟨#[97]⟩, .slice none 0 0, .slice none 0 0, .int .u64 0] 25)) w.heap.size va1) ∧ Kept (VarV ((w.alloc (.cells #[.int .i64 1, .int .i64 3, .int .i64 1, .bool false, .string ⟨#[120]⟩, .slice none 0 0, .slice none 0 0, .int .u64 0] 25)).alloc (.cells #[.int .i64 1, .int .i64 3, .int .i64 2, .bool false, .string ⟨#[97]⟩, .slice none 0 0, .slice none 0 0, .int .u64 0] 25)) (w.heap.size + 1) va2) := by
  obtain ⟨b1, v1⟩ := vbox w va1 (.slice none 0 0) (.slice none 0 0) (.inl ⟨rfl, rfl⟩) (.inl ⟨rfl, rfl⟩) w.heap.size rfl
  obtain ⟨b2, v2⟩ := vbox (w.alloc (.cells #[.int .i64 1, .int .i64 3, .int .i64 1, .bool false, .string ⟨#[120]⟩, .slice none 0 0, .slice none 0 0, .int .u64 0] 25)) va2 (.slice none 0 0) (.slice none 0 0) (.inl ⟨rfl, rfl⟩) (.inl ⟨rfl, rfl⟩) (w.heap.size + 1) (by simp)
  exact ⟨⟨b1.out.trans (b2.out.mono b1.out.size)⟩, ⟨v1.out.keep b2.out⟩, v2⟩
theorem nil_va (A : Va) (hp : A.plus = []) (hm : A.minus = []) (w : World) : isVa A (.agg #[.int .i64 A.kind, .int .i64 A.time, .int .i64 A.node, .bool A.dead, .string ⟨A.text.toArray⟩, .slice none 0 0, .slice none 0 0, .int .u64 (A.flags.toNat : Int)]) w := ⟨_, _, rfl, .inl ⟨rfl, by rw [hp]; rfl⟩, .inl ⟨rfl, by rw [hm]; rfl⟩⟩
theorem va1_lit (w : World) : isVa va1 (.agg #[.int .i64 1, .int .i64 3, .int .i64 1, .bool false, .string ⟨#[120]⟩, .slice none 0 0, .slice none 0 0, .int .u64 0]) w := nil_va va1 rfl rfl w
theorem va2_lit (w : World) : isVa va2 (.agg #[.int .i64 1, .int .i64 3, .int .i64 2, .bool false, .string ⟨#[97]⟩, .slice none 0 0, .slice none 0 0, .int .u64 0]) w := nil_va va2 rfl rfl w
theorem vf5_lit (w : World) : isVa vf5 (.agg #[.int .i64 3, .int .i64 0, .int .i64 0, .bool false, .string ⟨#[]⟩, .slice none 0 0, .slice none 0 0, .int .u64 5]) w := nil_va vf5 rfl rfl w
theorem vf6_lit (w : World) : isVa vf6 (.agg #[.int .i64 3, .int .i64 0, .int .i64 0, .bool false, .string ⟨#[]⟩, .slice none 0 0, .slice none 0 0, .int .u64 6]) w := nil_va vf6 rfl rfl w
theorem zeroV_lit (w : World) : isVa zeroV (.agg #[.int .i64 0, .int .i64 0, .int .i64 0, .bool false, .string ⟨#[]⟩, .slice none 0 0, .slice none 0 0, .int .u64 0]) w := nil_va zeroV rfl rfl w
theorem vd_lit (w : World) : isVa vd (.agg #[.int .i64 1, .int .i64 0, .int .i64 0, .bool true, .string ⟨#[120]⟩, .slice none 0 0, .slice none 0 0, .int .u64 0]) w := nil_va vd rfl rfl w
theorem f_same (A B : Va) (r : Bool) (v u : Value) (w : World) (hv : isVa A v w) (hu : isVa B u w) (h1 : Fit A) (h2 : Fit B) (hr : decide (A = B) = r) : Calls Try.prog 22 #[v, u] w fun e w' => e = .returned (.bool r) ∧ Below w.heap.size w w' := by
  subst hr; exact vsame_fit A B v u w hv hu h1 h2
theorem f_sum (v : Value) (w : World) (hv : isVa vn v w) : Calls Try.prog 23 #[v] w fun e w' => e = .returned (.int .i64 4) ∧ Below w.heap.size w w' := by
  have := vsum_any vn v w hv ⟨by decide, by decide, by decide⟩
  rwa [show sumN vn = 4 by kernel_rfl] at this
theorem f_check (A : Va) (r : Int) (v : Value) (w : World) (hv : isVa A v w) (h1 : Fit A) (hr : checkV A = r) : Calls Try.prog 20 #[v] w fun e w' => e = .returned (.int .i64 r) ∧ Below w.heap.size w w' := by
  subst hr; exact vcheck_any A v w hv h1
theorem f_below (A B : Va) (r : Bool) (v u : Value) (w : World) (hv : isVa A v w) (hu : isVa B u w) (h1 : Fit A) (h2 : Fit B) (hr : belowB A B = r) : Calls Try.prog 21 #[v, u] w fun e w' => e = .returned (.bool r) ∧ Below w.heap.size w w' := by
  subst hr; exact vbelow_any A B v u w hv hu h1 h2
set_option maxRecDepth 100000 in
set_option maxHeartbeats 4000000 in
theorem vworks_any (w : World) : Calls Try.prog 10 #[] w fun e w' => e = .returned (.bool true) ∧ Below w.heap.size w w' := by
  obtain ⟨hB, Va, Vb⟩ := ab_new w
  go_enter Try.func10, Try.ntmps10
  go_wp2_with fail
  generalize (w.alloc (.cells #[.int .i64 1, .int .i64 3, .int .i64 1, .bool false, .string ⟨#[120]⟩, .slice none 0 0, .slice none 0 0, .int .u64 0] 25)).alloc (.cells #[.int .i64 1, .int .i64 3, .int .i64 2, .bool false, .string ⟨#[97]⟩, .slice none 0 0, .slice none 0 0, .int .u64 0] 25) = W0 at *
  ((with_reducible refine (c_ab _ _ _ (va1_lit _) (va2_lit _)).mono ?_); rintro e U ⟨v', rfl, ⟨p', m', rfl, hp', hm', _, _⟩, hb1⟩)
  obtain ⟨K1, K2, K3, K4, K5⟩ := vnew U va2 p' m' hp' hm' U.heap.size rfl
  clear hp' hm'
  replace hB := Kept.mk (hB.out.trans ((hb1).mono hB.out.size))
  replace Va := Kept.mk (Va.out.keep (hb1))
  replace Vb := Kept.mk (Vb.out.keep (hb1))
  clear hb1
  go_wp2_with (have hz0 := K1; refine wpList_storeN 25 rfl (.tmp 3) (.tmp 24) rfl U.heap.size [.int .i64 va2.kind, .int .i64 va2.time, .int .i64 va2.node, .bool va2.dead, .string ⟨va2.text.toArray⟩, p', m', .int .u64 (va2.flags.toNat : Int)] size_va rfl rfl K1.out rfl K2.out K5.out ?_; replace hB := Kept.mk (hB.out.trans ((K3.out).mono hB.out.size)); replace Va := Kept.mk (Va.out.keep (K3.out)); replace Vb := Kept.mk (Vb.out.keep (K3.out)); have Vc := Kept.mk K4.out.var; clear hz0 K1 K2 K3 K4 K5; generalize setN (U.alloc (.cells #[.int .i64 0, .int .i64 0, .int .i64 0, .bool false, .string ⟨#[]⟩, .slice none 0 0, .slice none 0 0, .int .u64 0] 25)) U.heap.size 0 [.int .i64 va2.kind, .int .i64 va2.time, .int .i64 va2.node, .bool va2.dead, .string ⟨va2.text.toArray⟩, p', m', .int .u64 (va2.flags.toNat : Int)] = W1 at *; generalize U.heap.size = gc at *)
  ((with_reducible refine (c_least _).mono ?_); rintro e U ⟨v', rfl, ⟨p', m', rfl, hp', hm', _, _⟩, hb1⟩)
  obtain ⟨K1, K2, K3, K4, K5⟩ := vnew U vz p' m' hp' hm' U.heap.size rfl
  clear hp' hm'
  replace hB := Kept.mk (hB.out.trans ((hb1).mono hB.out.size))
  replace Va := Kept.mk (Va.out.keep (hb1))
  replace Vb := Kept.mk (Vb.out.keep (hb1))
  replace Vc := Kept.mk (Vc.out.keep (hb1))
  clear hb1
  go_wp2_with (have hz0 := K1; refine wpList_storeN 25 rfl (.tmp 5) (.tmp 28) rfl U.heap.size [.int .i64 vz.kind, .int .i64 vz.time, .int .i64 vz.node, .bool vz.dead, .string ⟨vz.text.toArray⟩, p', m', .int .u64 (vz.flags.toNat : Int)] size_va rfl rfl K1.out rfl K2.out K5.out ?_; replace hB := Kept.mk (hB.out.trans ((K3.out).mono hB.out.size)); replace Va := Kept.mk (Va.out.keep (K3.out)); replace Vb := Kept.mk (Vb.out.keep (K3.out)); replace Vc := Kept.mk (Vc.out.keep (K3.out)); have Vz := Kept.mk K4.out.var; clear hz0 K1 K2 K3 K4 K5; generalize setN (U.alloc (.cells #[.int .i64 0, .int .i64 0, .int .i64 0, .bool false, .string ⟨#[]⟩, .slice none 0 0, .slice none 0 0, .int .u64 0] 25)) U.heap.size 0 [.int .i64 vz.kind, .int .i64 vz.time, .int .i64 vz.node, .bool vz.dead, .string ⟨vz.text.toArray⟩, p', m', .int .u64 (vz.flags.toNat : Int)] = W2 at *; generalize U.heap.size = gz at *; obtain ⟨KB, Vn, XN⟩ := vn_new W2; obtain ⟨qz, rz, xz, _, _, kz0, kz1, kz2, kz3, kz4, kz5, kz6, kz7⟩ := (Vz.out.keep KB.out).open_; have Xz := Kept.mk xz; clear xz)
  replace hB := Kept.mk (hB.out.trans ((KB.out).mono hB.out.size))
  replace Va := Kept.mk (Va.out.keep (KB.out))
  replace Vb := Kept.mk (Vb.out.keep (KB.out))
  replace Vc := Kept.mk (Vc.out.keep (KB.out))
  replace Vz := Kept.mk (Vz.out.keep (KB.out))
  generalize (((W2.alloc (.cells #[.int .i64 5, .int .i64 0, .int .i64 0, .int .i64 0, .int .i64 0, .int .i64 0, .int .i64 0, .int .i64 1] 3)).alloc (.cells #[.int .i64 0, .int .i64 2, .int .i64 0, .int .i64 0, .int .i64 0, .int .i64 0, .int .i64 0, .int .i64 0] 3)).alloc (.cells #[.int .i64 2, .int .i64 0, .int .i64 0, .bool false, .string ⟨#[]⟩, .slice (some ⟨W2.heap.size, 0, none⟩) 8 8, .slice (some ⟨W2.heap.size + 1, 0, none⟩) 8 8, .int .u64 0] 25)) = W20 at *
  ((with_reducible refine (c_zn _ _ _ Xz.out XN.out).mono ?_); rintro e U ⟨v', rfl, ⟨p', m', rfl, hp', hm', _, _⟩, hb1⟩)
  obtain ⟨K1, K2, K3, K4, K5⟩ := vnew U vn p' m' hp' hm' U.heap.size rfl
  clear hp' hm'
  clear Xz kz0 kz1 kz2 kz3 kz4 kz5 kz6 kz7
  replace hB := Kept.mk (hB.out.trans ((hb1).mono hB.out.size))
  replace Va := Kept.mk (Va.out.keep (hb1))
  replace Vb := Kept.mk (Vb.out.keep (hb1))
  replace Vc := Kept.mk (Vc.out.keep (hb1))
  replace Vz := Kept.mk (Vz.out.keep (hb1))
  replace Vn := Kept.mk (Vn.out.keep (hb1))
  clear hb1
  go_wp2_with (have hz0 := K1; refine wpList_storeN 25 rfl (.tmp 8) (.tmp 37) rfl U.heap.size [.int .i64 vn.kind, .int .i64 vn.time, .int .i64 vn.node, .bool vn.dead, .string ⟨vn.text.toArray⟩, p', m', .int .u64 (vn.flags.toNat : Int)] size_va rfl rfl K1.out rfl K2.out K5.out ?_; replace hB := Kept.mk (hB.out.trans ((K3.out).mono hB.out.size)); replace Va := Kept.mk (Va.out.keep (K3.out)); replace Vb := Kept.mk (Vb.out.keep (K3.out)); replace Vc := Kept.mk (Vc.out.keep (K3.out)); replace Vz := Kept.mk (Vz.out.keep (K3.out)); replace Vn := Kept.mk (Vn.out.keep (K3.out)); have Vm := Kept.mk K4.out.var; clear hz0 K1 K2 K3 K4 K5; generalize setN (U.alloc (.cells #[.int .i64 0, .int .i64 0, .int .i64 0, .bool false, .string ⟨#[]⟩, .slice none 0 0, .slice none 0 0, .int .u64 0] 25)) U.heap.size 0 [.int .i64 vn.kind, .int .i64 vn.time, .int .i64 vn.node, .bool vn.dead, .string ⟨vn.text.toArray⟩, p', m', .int .u64 (vn.flags.toNat : Int)] = W3 at *; generalize U.heap.size = gm at *)
  ((with_reducible refine (c_ff _ _ _ (vf5_lit _) (vf6_lit _)).mono ?_); rintro e U ⟨v', rfl, ⟨p', m', rfl, hp', hm', _, _⟩, hb1⟩)
  obtain ⟨K1, K2, K3, K4, K5⟩ := vnew U vf7 p' m' hp' hm' U.heap.size rfl
  clear hp' hm'
  replace hB := Kept.mk (hB.out.trans ((hb1).mono hB.out.size))
  replace Va := Kept.mk (Va.out.keep (hb1))
  replace Vb := Kept.mk (Vb.out.keep (hb1))
  replace Vc := Kept.mk (Vc.out.keep (hb1))
  replace Vz := Kept.mk (Vz.out.keep (hb1))
  replace Vn := Kept.mk (Vn.out.keep (hb1))
  replace Vm := Kept.mk (Vm.out.keep (hb1))
  clear hb1
  go_wp2_with (have hz0 := K1; refine wpList_storeN 25 rfl (.tmp 10) (.tmp 43) rfl U.heap.size [.int .i64 vf7.kind, .int .i64 vf7.time, .int .i64 vf7.node, .bool vf7.dead, .string ⟨vf7.text.toArray⟩, p', m', .int .u64 (vf7.flags.toNat : Int)] size_va rfl rfl K1.out rfl K2.out K5.out ?_; replace hB := Kept.mk (hB.out.trans ((K3.out).mono hB.out.size)); replace Va := Kept.mk (Va.out.keep (K3.out)); replace Vb := Kept.mk (Vb.out.keep (K3.out)); replace Vc := Kept.mk (Vc.out.keep (K3.out)); replace Vz := Kept.mk (Vz.out.keep (K3.out)); replace Vn := Kept.mk (Vn.out.keep (K3.out)); replace Vm := Kept.mk (Vm.out.keep (K3.out)); have Vx := Kept.mk K4.out.var; clear hz0 K1 K2 K3 K4 K5; generalize setN (U.alloc (.cells #[.int .i64 0, .int .i64 0, .int .i64 0, .bool false, .string ⟨#[]⟩, .slice none 0 0, .slice none 0 0, .int .u64 0] 25)) U.heap.size 0 [.int .i64 vf7.kind, .int .i64 vf7.time, .int .i64 vf7.node, .bool vf7.dead, .string ⟨vf7.text.toArray⟩, p', m', .int .u64 (vf7.flags.toNat : Int)] = W4 at *; generalize U.heap.size = gx at *; obtain ⟨qa, ra, xa, -, -, ka0, ka1, ka2, ka3, ka4, ka5, ka6, ka7⟩ := Va.out.open_; have Xa := Kept.mk xa; clear xa; obtain ⟨qn, rn, xn, -, -, kn0, kn1, kn2, kn3, kn4, kn5, kn6, kn7⟩ := Vn.out.open_; have Xn := Kept.mk xn; clear xn)
  ((with_reducible refine (c_an _ _ _ Xa.out Xn.out).mono ?_); rintro e U ⟨v', rfl, ⟨p', m', rfl, hp', hm', _, _⟩, hb1⟩)
  obtain ⟨K1, K2, K3, K4, K5⟩ := vnew U zeroV p' m' hp' hm' U.heap.size rfl
  clear hp' hm'
  clear Xa ka0 ka1 ka2 ka3 ka4 ka5 ka6 ka7
  clear Xn kn0 kn1 kn2 kn3 kn4 kn5 kn6 kn7
  replace hB := Kept.mk (hB.out.trans ((hb1).mono hB.out.size))
  replace Va := Kept.mk (Va.out.keep (hb1))
  replace Vb := Kept.mk (Vb.out.keep (hb1))
  replace Vc := Kept.mk (Vc.out.keep (hb1))
  replace Vz := Kept.mk (Vz.out.keep (hb1))
  replace Vn := Kept.mk (Vn.out.keep (hb1))
  replace Vm := Kept.mk (Vm.out.keep (hb1))
  replace Vx := Kept.mk (Vx.out.keep (hb1))
  clear hb1
  go_wp2_with (have hz0 := K1; refine wpList_storeN 25 rfl (.tmp 12) (.tmp 49) rfl U.heap.size [.int .i64 zeroV.kind, .int .i64 zeroV.time, .int .i64 zeroV.node, .bool zeroV.dead, .string ⟨zeroV.text.toArray⟩, p', m', .int .u64 (zeroV.flags.toNat : Int)] size_va rfl rfl K1.out rfl K2.out K5.out ?_; replace hB := Kept.mk (hB.out.trans ((K3.out).mono hB.out.size)); replace Va := Kept.mk (Va.out.keep (K3.out)); replace Vb := Kept.mk (Vb.out.keep (K3.out)); replace Vc := Kept.mk (Vc.out.keep (K3.out)); replace Vz := Kept.mk (Vz.out.keep (K3.out)); replace Vn := Kept.mk (Vn.out.keep (K3.out)); replace Vm := Kept.mk (Vm.out.keep (K3.out)); replace Vx := Kept.mk (Vx.out.keep (K3.out)); have Vo := Kept.mk K4.out.var; clear hz0 K1 K2 K3 K4 K5; generalize setN (U.alloc (.cells #[.int .i64 0, .int .i64 0, .int .i64 0, .bool false, .string ⟨#[]⟩, .slice none 0 0, .slice none 0 0, .int .u64 0] 25)) U.heap.size 0 [.int .i64 zeroV.kind, .int .i64 zeroV.time, .int .i64 zeroV.node, .bool zeroV.dead, .string ⟨zeroV.text.toArray⟩, p', m', .int .u64 (zeroV.flags.toNat : Int)] = W5 at *; generalize U.heap.size = go at *; obtain ⟨qa, ra, xa, -, -, ka0, ka1, ka2, ka3, ka4, ka5, ka6, ka7⟩ := Va.out.open_; have Xa := Kept.mk xa; clear xa)
  ((with_reducible refine (c_az _ _ _ Xa.out (zeroV_lit _)).mono ?_); rintro e U ⟨v', rfl, ⟨p', m', rfl, hp', hm', _, _⟩, hb1⟩)
  obtain ⟨K1, K2, K3, K4, K5⟩ := vnew U zeroV p' m' hp' hm' U.heap.size rfl
  clear hp' hm'
  clear Xa ka0 ka1 ka2 ka3 ka4 ka5 ka6 ka7
  replace hB := Kept.mk (hB.out.trans ((hb1).mono hB.out.size))
  replace Va := Kept.mk (Va.out.keep (hb1))
  replace Vb := Kept.mk (Vb.out.keep (hb1))
  replace Vc := Kept.mk (Vc.out.keep (hb1))
  replace Vz := Kept.mk (Vz.out.keep (hb1))
  replace Vn := Kept.mk (Vn.out.keep (hb1))
  replace Vm := Kept.mk (Vm.out.keep (hb1))
  replace Vx := Kept.mk (Vx.out.keep (hb1))
  replace Vo := Kept.mk (Vo.out.keep (hb1))
  clear hb1
  go_wp2_with (have hz0 := K1; refine wpList_storeN 25 rfl (.tmp 14) (.tmp 55) rfl U.heap.size [.int .i64 zeroV.kind, .int .i64 zeroV.time, .int .i64 zeroV.node, .bool zeroV.dead, .string ⟨zeroV.text.toArray⟩, p', m', .int .u64 (zeroV.flags.toNat : Int)] size_va rfl rfl K1.out rfl K2.out K5.out ?_; replace hB := Kept.mk (hB.out.trans ((K3.out).mono hB.out.size)); replace Va := Kept.mk (Va.out.keep (K3.out)); replace Vb := Kept.mk (Vb.out.keep (K3.out)); replace Vc := Kept.mk (Vc.out.keep (K3.out)); replace Vz := Kept.mk (Vz.out.keep (K3.out)); replace Vn := Kept.mk (Vn.out.keep (K3.out)); replace Vm := Kept.mk (Vm.out.keep (K3.out)); replace Vx := Kept.mk (Vx.out.keep (K3.out)); replace Vo := Kept.mk (Vo.out.keep (K3.out)); have Vd := Kept.mk K4.out.var; clear hz0 K1 K2 K3 K4 K5; generalize setN (U.alloc (.cells #[.int .i64 0, .int .i64 0, .int .i64 0, .bool false, .string ⟨#[]⟩, .slice none 0 0, .slice none 0 0, .int .u64 0] 25)) U.heap.size 0 [.int .i64 zeroV.kind, .int .i64 zeroV.time, .int .i64 zeroV.node, .bool zeroV.dead, .string ⟨zeroV.text.toArray⟩, p', m', .int .u64 (zeroV.flags.toNat : Int)] = W6 at *; generalize U.heap.size = gd at *)
  ((with_reducible refine (c_four _).mono ?_); rintro e U ⟨v', rfl, ⟨p', m', rfl, hp', hm', _, _⟩, hb1⟩)
  obtain ⟨K1, K2, K3, K4, K5⟩ := vnew U zeroV p' m' hp' hm' U.heap.size rfl
  clear hp' hm'
  replace hB := Kept.mk (hB.out.trans ((hb1).mono hB.out.size))
  replace Va := Kept.mk (Va.out.keep (hb1))
  replace Vb := Kept.mk (Vb.out.keep (hb1))
  replace Vc := Kept.mk (Vc.out.keep (hb1))
  replace Vz := Kept.mk (Vz.out.keep (hb1))
  replace Vn := Kept.mk (Vn.out.keep (hb1))
  replace Vm := Kept.mk (Vm.out.keep (hb1))
  replace Vx := Kept.mk (Vx.out.keep (hb1))
  replace Vo := Kept.mk (Vo.out.keep (hb1))
  replace Vd := Kept.mk (Vd.out.keep (hb1))
  clear hb1
  go_wp2_with (have hz0 := K1; refine wpList_storeN 25 rfl (.tmp 16) (.tmp 59) rfl U.heap.size [.int .i64 zeroV.kind, .int .i64 zeroV.time, .int .i64 zeroV.node, .bool zeroV.dead, .string ⟨zeroV.text.toArray⟩, p', m', .int .u64 (zeroV.flags.toNat : Int)] size_va rfl rfl K1.out rfl K2.out K5.out ?_; replace hB := Kept.mk (hB.out.trans ((K3.out).mono hB.out.size)); replace Va := Kept.mk (Va.out.keep (K3.out)); replace Vb := Kept.mk (Vb.out.keep (K3.out)); replace Vc := Kept.mk (Vc.out.keep (K3.out)); replace Vz := Kept.mk (Vz.out.keep (K3.out)); replace Vn := Kept.mk (Vn.out.keep (K3.out)); replace Vm := Kept.mk (Vm.out.keep (K3.out)); replace Vx := Kept.mk (Vx.out.keep (K3.out)); replace Vo := Kept.mk (Vo.out.keep (K3.out)); replace Vd := Kept.mk (Vd.out.keep (K3.out)); have Vq := Kept.mk K4.out.var; clear hz0 K1 K2 K3 K4 K5; generalize setN (U.alloc (.cells #[.int .i64 0, .int .i64 0, .int .i64 0, .bool false, .string ⟨#[]⟩, .slice none 0 0, .slice none 0 0, .int .u64 0] 25)) U.heap.size 0 [.int .i64 zeroV.kind, .int .i64 zeroV.time, .int .i64 zeroV.node, .bool zeroV.dead, .string ⟨zeroV.text.toArray⟩, p', m', .int .u64 (zeroV.flags.toNat : Int)] = W7 at *; generalize U.heap.size = gq at *; obtain ⟨qc, rc, xc, -, -, kc0, kc1, kc2, kc3, kc4, kc5, kc6, kc7⟩ := Vc.out.open_; have Xc := Kept.mk xc; clear xc; obtain ⟨qb, rb, xb, -, -, kb0, kb1, kb2, kb3, kb4, kb5, kb6, kb7⟩ := Vb.out.open_; have Xb := Kept.mk xb; clear xb)
  ((with_reducible refine (f_same va2 va2 true _ _ _ Xc.out Xb.out ⟨by decide, by decide, by decide⟩ ⟨by decide, by decide, by decide⟩ (by decide)).mono ?_); rintro e W8 ⟨rfl, hb1⟩)
  clear Xc kc0 kc1 kc2 kc3 kc4 kc5 kc6 kc7
  clear Xb kb0 kb1 kb2 kb3 kb4 kb5 kb6 kb7
  replace hB := Kept.mk (hB.out.trans ((hb1).mono hB.out.size))
  replace Va := Kept.mk (Va.out.keep (hb1))
  replace Vb := Kept.mk (Vb.out.keep (hb1))
  replace Vc := Kept.mk (Vc.out.keep (hb1))
  replace Vz := Kept.mk (Vz.out.keep (hb1))
  replace Vn := Kept.mk (Vn.out.keep (hb1))
  replace Vm := Kept.mk (Vm.out.keep (hb1))
  replace Vx := Kept.mk (Vx.out.keep (hb1))
  replace Vo := Kept.mk (Vo.out.keep (hb1))
  replace Vd := Kept.mk (Vd.out.keep (hb1))
  replace Vq := Kept.mk (Vq.out.keep (hb1))
  clear hb1
  obtain ⟨qm, rm, xm, -, -, km0, km1, km2, km3, km4, km5, km6, km7⟩ := Vm.out.open_
  have Xm := Kept.mk xm
  clear xm
  obtain ⟨qn, rn, xn, -, -, kn0, kn1, kn2, kn3, kn4, kn5, kn6, kn7⟩ := Vn.out.open_
  have Xn := Kept.mk xn
  clear xn
  go_wp2_with fail
  ((with_reducible refine (f_same vn vn true _ _ _ Xm.out Xn.out ⟨by decide, by decide, by decide⟩ ⟨by decide, by decide, by decide⟩ (by decide)).mono ?_); rintro e W9 ⟨rfl, hb1⟩)
  clear Xm km0 km1 km2 km3 km4 km5 km6 km7
  clear Xn kn0 kn1 kn2 kn3 kn4 kn5 kn6 kn7
  replace hB := Kept.mk (hB.out.trans ((hb1).mono hB.out.size))
  replace Va := Kept.mk (Va.out.keep (hb1))
  replace Vb := Kept.mk (Vb.out.keep (hb1))
  replace Vc := Kept.mk (Vc.out.keep (hb1))
  replace Vz := Kept.mk (Vz.out.keep (hb1))
  replace Vn := Kept.mk (Vn.out.keep (hb1))
  replace Vm := Kept.mk (Vm.out.keep (hb1))
  replace Vx := Kept.mk (Vx.out.keep (hb1))
  replace Vo := Kept.mk (Vo.out.keep (hb1))
  replace Vd := Kept.mk (Vd.out.keep (hb1))
  replace Vq := Kept.mk (Vq.out.keep (hb1))
  clear hb1
  obtain ⟨qn, rn, xn, -, -, kn0, kn1, kn2, kn3, kn4, kn5, kn6, kn7⟩ := Vn.out.open_
  have Xn := Kept.mk xn
  clear xn
  go_wp2_with fail
  ((with_reducible refine (f_sum _ _ Xn.out).mono ?_); rintro e W10 ⟨rfl, hb1⟩)
  clear Xn kn0 kn1 kn2 kn3 kn4 kn5 kn6 kn7
  replace hB := Kept.mk (hB.out.trans ((hb1).mono hB.out.size))
  replace Va := Kept.mk (Va.out.keep (hb1))
  replace Vb := Kept.mk (Vb.out.keep (hb1))
  replace Vc := Kept.mk (Vc.out.keep (hb1))
  replace Vz := Kept.mk (Vz.out.keep (hb1))
  replace Vn := Kept.mk (Vn.out.keep (hb1))
  replace Vm := Kept.mk (Vm.out.keep (hb1))
  replace Vx := Kept.mk (Vx.out.keep (hb1))
  replace Vo := Kept.mk (Vo.out.keep (hb1))
  replace Vd := Kept.mk (Vd.out.keep (hb1))
  replace Vq := Kept.mk (Vq.out.keep (hb1))
  clear hb1
  obtain ⟨qx, rx, xx, -, -, kx0, kx1, kx2, kx3, kx4, kx5, kx6, kx7⟩ := Vx.out.open_
  have Xx := Kept.mk xx
  clear xx
  obtain ⟨qa, ra, xa, -, -, ka0, ka1, ka2, ka3, ka4, ka5, ka6, ka7⟩ := Va.out.open_
  have Xa := Kept.mk xa
  clear xa
  have hx7 : ((vf7.flags.toNat : Int) == 7) = true := by decide
  go_wp2_with fail
  ((with_reducible refine (f_check va1 0 _ _ Xa.out ⟨by decide, by decide, by decide⟩ rfl).mono ?_); rintro e W11 ⟨rfl, hb1⟩)
  clear Xx kx0 kx1 kx2 kx3 kx4 kx5 kx6 kx7
  clear Xa ka0 ka1 ka2 ka3 ka4 ka5 ka6 ka7
  replace hB := Kept.mk (hB.out.trans ((hb1).mono hB.out.size))
  replace Va := Kept.mk (Va.out.keep (hb1))
  replace Vb := Kept.mk (Vb.out.keep (hb1))
  replace Vc := Kept.mk (Vc.out.keep (hb1))
  replace Vz := Kept.mk (Vz.out.keep (hb1))
  replace Vn := Kept.mk (Vn.out.keep (hb1))
  replace Vm := Kept.mk (Vm.out.keep (hb1))
  replace Vx := Kept.mk (Vx.out.keep (hb1))
  replace Vo := Kept.mk (Vo.out.keep (hb1))
  replace Vd := Kept.mk (Vd.out.keep (hb1))
  replace Vq := Kept.mk (Vq.out.keep (hb1))
  clear hb1
  go_wp2_with fail
  ((with_reducible refine (f_check vd 2 _ _ (vd_lit _) ⟨by decide, by decide, by decide⟩ rfl).mono ?_); rintro e W12 ⟨rfl, hb1⟩)
  replace hB := Kept.mk (hB.out.trans ((hb1).mono hB.out.size))
  replace Va := Kept.mk (Va.out.keep (hb1))
  replace Vb := Kept.mk (Vb.out.keep (hb1))
  replace Vc := Kept.mk (Vc.out.keep (hb1))
  replace Vz := Kept.mk (Vz.out.keep (hb1))
  replace Vn := Kept.mk (Vn.out.keep (hb1))
  replace Vm := Kept.mk (Vm.out.keep (hb1))
  replace Vx := Kept.mk (Vx.out.keep (hb1))
  replace Vo := Kept.mk (Vo.out.keep (hb1))
  replace Vd := Kept.mk (Vd.out.keep (hb1))
  replace Vq := Kept.mk (Vq.out.keep (hb1))
  clear hb1
  obtain ⟨qa, ra, xa, -, -, ka0, ka1, ka2, ka3, ka4, ka5, ka6, ka7⟩ := Va.out.open_
  have Xa := Kept.mk xa
  clear xa
  obtain ⟨qb, rb, xb, -, -, kb0, kb1, kb2, kb3, kb4, kb5, kb6, kb7⟩ := Vb.out.open_
  have Xb := Kept.mk xb
  clear xb
  go_wp2_with fail
  ((with_reducible refine (f_below va1 va2 true _ _ _ Xa.out Xb.out ⟨by decide, by decide, by decide⟩ ⟨by decide, by decide, by decide⟩ rfl).mono ?_); rintro e W13 ⟨rfl, hb1⟩)
  clear Xa ka0 ka1 ka2 ka3 ka4 ka5 ka6 ka7
  clear Xb kb0 kb1 kb2 kb3 kb4 kb5 kb6 kb7
  replace hB := Kept.mk (hB.out.trans ((hb1).mono hB.out.size))
  replace Va := Kept.mk (Va.out.keep (hb1))
  replace Vb := Kept.mk (Vb.out.keep (hb1))
  replace Vc := Kept.mk (Vc.out.keep (hb1))
  replace Vz := Kept.mk (Vz.out.keep (hb1))
  replace Vn := Kept.mk (Vn.out.keep (hb1))
  replace Vm := Kept.mk (Vm.out.keep (hb1))
  replace Vx := Kept.mk (Vx.out.keep (hb1))
  replace Vo := Kept.mk (Vo.out.keep (hb1))
  replace Vd := Kept.mk (Vd.out.keep (hb1))
  replace Vq := Kept.mk (Vq.out.keep (hb1))
  clear hb1
  obtain ⟨qa, ra, xa, -, -, ka0, ka1, ka2, ka3, ka4, ka5, ka6, ka7⟩ := Va.out.open_
  have Xa := Kept.mk xa
  clear xa
  obtain ⟨qb, rb, xb, -, -, kb0, kb1, kb2, kb3, kb4, kb5, kb6, kb7⟩ := Vb.out.open_
  have Xb := Kept.mk xb
  clear xb
  go_wp2_with fail
  ((with_reducible refine (f_below va2 va1 false _ _ _ Xb.out Xa.out ⟨by decide, by decide, by decide⟩ ⟨by decide, by decide, by decide⟩ rfl).mono ?_); rintro e W14 ⟨rfl, hb1⟩)
  clear Xa ka0 ka1 ka2 ka3 ka4 ka5 ka6 ka7
  clear Xb kb0 kb1 kb2 kb3 kb4 kb5 kb6 kb7
  replace hB := Kept.mk (hB.out.trans ((hb1).mono hB.out.size))
  replace Va := Kept.mk (Va.out.keep (hb1))
  replace Vb := Kept.mk (Vb.out.keep (hb1))
  replace Vc := Kept.mk (Vc.out.keep (hb1))
  replace Vz := Kept.mk (Vz.out.keep (hb1))
  replace Vn := Kept.mk (Vn.out.keep (hb1))
  replace Vm := Kept.mk (Vm.out.keep (hb1))
  replace Vx := Kept.mk (Vx.out.keep (hb1))
  replace Vo := Kept.mk (Vo.out.keep (hb1))
  replace Vd := Kept.mk (Vd.out.keep (hb1))
  replace Vq := Kept.mk (Vq.out.keep (hb1))
  clear hb1
  obtain ⟨qa, ra, xa, -, -, ka0, ka1, ka2, ka3, ka4, ka5, ka6, ka7⟩ := Va.out.open_
  have Xa := Kept.mk xa
  clear xa
  obtain ⟨qb, rb, xb, -, -, kb0, kb1, kb2, kb3, kb4, kb5, kb6, kb7⟩ := Vb.out.open_
  have Xb := Kept.mk xb
  clear xb
  go_wp2_with fail
  ((with_reducible refine (f_same va1 va2 false _ _ _ Xa.out Xb.out ⟨by decide, by decide, by decide⟩ ⟨by decide, by decide, by decide⟩ (by decide)).mono ?_); rintro e W15 ⟨rfl, hb1⟩)
  clear Xa ka0 ka1 ka2 ka3 ka4 ka5 ka6 ka7
  clear Xb kb0 kb1 kb2 kb3 kb4 kb5 kb6 kb7
  replace hB := Kept.mk (hB.out.trans ((hb1).mono hB.out.size))
  replace Va := Kept.mk (Va.out.keep (hb1))
  replace Vb := Kept.mk (Vb.out.keep (hb1))
  replace Vc := Kept.mk (Vc.out.keep (hb1))
  replace Vz := Kept.mk (Vz.out.keep (hb1))
  replace Vn := Kept.mk (Vn.out.keep (hb1))
  replace Vm := Kept.mk (Vm.out.keep (hb1))
  replace Vx := Kept.mk (Vx.out.keep (hb1))
  replace Vo := Kept.mk (Vo.out.keep (hb1))
  replace Vd := Kept.mk (Vd.out.keep (hb1))
  replace Vq := Kept.mk (Vq.out.keep (hb1))
  clear hb1
  go_wp2
  go_ret
  exact ⟨rfl, hB.out⟩
end Go.Proofs.Ytnjlefciekcehaa
