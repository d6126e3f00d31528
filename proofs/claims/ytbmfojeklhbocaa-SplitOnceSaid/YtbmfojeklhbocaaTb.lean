/-
  Terms: contract of the reference's Great.
-/
import Derived.Test.YtbmfojeklhbocaaTa
import Derived.Test.YtbmfojeklhbocaaProg
import Derived.Deep.RegionHeld3
set_option linter.unusedSimpArgs false
set_option linter.unusedVariables false
namespace Go.Proofs.Ytbmfojeklhbocaa
open Go.RowKit

/-- Is a term more than is gone through? (f: how deep it is looked at.) -/
def grT : Nat → Int → Tm → Bool
  | 0, _, _ => true
  | f + 1, d, .mk h _ n _ args => if 40 < d ∨ 17 < n ∨ 3000 < h.v.s.size ∨ 100 < h.op.size then true else args.any (grT f (d + 1 + n))
theorem any_take {α : Type} {p : α → Bool} {l : List α} {k : Nat} {v : α} (h : l[k]? = some v) : (l.take (k + 1)).any p = ((l.take k).any p || p v) := by
  rw [List.take_add_one, h]; simp
/-- A term's box. -/
theorem box_at (w : World) (t : Tm) (ty : TypeId) : AtT (w.alloc (.cells t.arr ty)) ⟨w.heap.size, 0, none⟩ t := by
  have h : ∀ j u, t.cells[j]? = some u → (w.alloc (.cells t.arr ty)).cell? ⟨w.heap.size, j, none⟩ = some u := by
    intro j u hu
    rw [World.cell?_alloc_at _ _ _ _ rfl]
    simpa [Tm.arr] using hu
  obtain ⟨hd, A, n, c, l⟩ := t
  exact ⟨h 0 _ rfl, h 1 _ rfl, h 2 _ rfl, h 3 _ rfl, h 4 _ rfl, h 5 _ rfl, h 6 _ rfl, h 7 _ rfl, h 8 _ rfl, h 9 _ rfl, h 10 _ rfl⟩
theorem AtT.under {w w' : World} {ad : Addr} {t : Tm} {B : Nat} (h : AtT w ad t) (hb : Below B w w') (ha : ad.block < B) : AtT w' ad t := h.keep fun p hp => hb.cell (by omega)

set_option maxRecDepth 100000 in
set_option maxHeartbeats 4000000 in
theorem great18_any : ∀ (f : Nat) (d : Int) (t : Tm) (w : World), TmIn w w.heap.size t → 41 ≤ d + f → 0 ≤ d → d ≤ 1000 → Calls Try.prog 29 #[t.agg, .int .i64 d] w (RetB w (.bool (grT f d t))) := by
  intro f
  induction f with
  | zero =>
    intro d t w hin hf h0 h1
    have hd : (40 : Int) < d := by omega
    obtain ⟨⟨k0, op0, no0, ⟨vk0, vi0, vs0⟩, of0, nm0, tb0, cl0⟩, A0, n0, c0, l0⟩ := t
    simp only [Tm.agg, TmH.agg, Tm.h, Tm.A, Tm.n, Tm.c]
    go_enter Try.func29, Try.ntmps29
    go_wp2_with fail
    go_ret
    exact ⟨rfl, by (with_reducible repeat (first | exact Below.refl _ _ | exact hb1 | exact hb1 | refine bto0 ?_ hb1 | refine bto0 ?_ hb1 | refine bdr ?_ _ | refine Below.drew ?_ | refine ball ?_ _))⟩
  | succ f ih =>
    intro d t w hin hf h0 h1
    have hnc := hin.nc
    have hok := hin.hok
    have hin' := hin
    obtain ⟨⟨k0, op0, no0, ⟨vk0, vi0, vs0⟩, of0, nm0, tb0, cl0⟩, A0, n0, c0, l0⟩ := t
    simp only [Tm.h, Tm.A, Tm.n, Tm.c] at hnc hok
    obtain ⟨_, o1, ⟨_, _, o2⟩, _⟩ := hok
    simp only at o1 o2
    unfold maxLen at hnc o1 o2
    have hgr : ∀ b, (if 40 < d ∨ 17 < n0 ∨ 3000 < vs0.size ∨ 100 < op0.size then true else l0.any (grT f (d + 1 + n0))) = b → grT (f + 1) d (Tm.mk ⟨k0, op0, no0, ⟨vk0, vi0, vs0⟩, of0, nm0, tb0, cl0⟩ A0 n0 c0 l0) = b := fun b h => h
    have Hgr := Lib.hid hgr
    clear hgr
    by_cases hc : 40 < d ∨ 17 < n0 ∨ 3000 < vs0.size ∨ 100 < op0.size
    · have hT := Lib.hid (Hgr.out true (by rw [if_pos hc]))
      simp only [Tm.agg, TmH.agg, Tm.h, Tm.A, Tm.n, Tm.c]
      have hc' : 40 < d ∨ (d ≤ 40 ∧ (17 : Int) < (n0 : Int)) ∨ (d ≤ 40 ∧ (n0 : Int) ≤ 17 ∧ (3000 : Int) < (vs0.size : Int)) ∨ (d ≤ 40 ∧ (n0 : Int) ≤ 17 ∧ (vs0.size : Int) ≤ 3000 ∧ (100 : Int) < (op0.size : Int)) := by omega
      clear hin hin' ih hc Hgr
      rcases hc' with h | ⟨h, h2⟩ | ⟨h, h2, h3⟩ | ⟨h, h2, h3, h4⟩
      all_goals
        go_enter Try.func29, Try.ntmps29
        go_wp2_with fail
        go_ret
        exact ⟨by rw [hT.out]; rfl, by (with_reducible repeat (first | exact Below.refl _ _ | exact hb1 | exact hb1 | refine bto0 ?_ hb1 | refine bto0 ?_ hb1 | refine bdr ?_ _ | refine Below.drew ?_ | refine ball ?_ _))⟩
    · have g1 : d ≤ 40 := by omega
      have g2 : (n0 : Int) ≤ 17 := by omega
      have g3 : (vs0.size : Int) ≤ 3000 := by omega
      have g4 : (op0.size : Int) ≤ 100 := by omega
      have hT : Hid (grT (f + 1) d (Tm.mk ⟨k0, op0, no0, ⟨vk0, vi0, vs0⟩, of0, nm0, tb0, cl0⟩ A0 n0 c0 l0) = l0.any (grT f (d + 1 + n0))) := Lib.hid (Hgr.out _ (by rw [if_neg hc]))
      have hl := hin.len
      simp only [Tm.args, Tm.n] at hl
      have Hl := Lib.hid hl
      have hb0 : Below w.heap.size w (w.alloc (.cells #[.int .u8 k0, .string op0, .bool no0, .int .u8 vk0, .int .i64 vi0, .string vs0, .string of0, .string nm0, .int .i64 tb0, .int .i64 cl0, .slice A0 n0 c0] 56)) := ball (Below.refl _ _) _
      have hX := box_at w (Tm.mk ⟨k0, op0, no0, ⟨vk0, vi0, vs0⟩, of0, nm0, tb0, cl0⟩ A0 n0 c0 l0) 56
      have hX' : AtT (w.alloc (.cells #[.int .u8 k0, .string op0, .bool no0, .int .u8 vk0, .int .i64 vi0, .string vs0, .string of0, .string nm0, .int .i64 tb0, .int .i64 cl0, .slice A0 n0 c0] 56)) ⟨w.heap.size, 0, none⟩ (Tm.mk ⟨k0, op0, no0, ⟨vk0, vi0, vs0⟩, of0, nm0, tb0, cl0⟩ A0 n0 c0 l0) := hX
      have hrd := hin.reads
      simp only [Tm.args, Tm.A, Tm.n] at hrd
      have hargs := hin.args
      simp only [Tm.args] at hargs
      have Hih := Lib.hid fun (a : Tm) (W : World) (ha : a ∈ l0) (hb : Below w.heap.size w W) => ih (d + 1 + n0) a W (((hargs a ha).under hb).more hb.size) (by omega) (by omega) (by omega)
      simp only [Tm.agg, TmH.agg, Tm.h, Tm.A, Tm.n, Tm.c]
      clear hin hin' ih hc Hgr hl hX hargs hf
      go_enter Try.func29, Try.ntmps29
      go_wp2_with fail
      obtain ⟨W0, hW0⟩ : ∃ W0, w.alloc (.cells #[.int .u8 k0, .string op0, .bool no0, .int .u8 vk0, .int .i64 vi0, .string vs0, .string of0, .string nm0, .int .i64 tb0, .int .i64 cl0, .slice A0 n0 c0] 56) = W0 := ⟨_, rfl⟩
      have hz0 : w.heap.size < W0.heap.size := by rw [← hW0]; simp
      rw [hW0] at hb0 hX' ⊢
      clear hW0
      go_loopw [30] (fun i wr => ∃ k : Nat, k ≤ n0 ∧ i = .int .i64 k ∧ (l0.take k).any (grT f (d + 1 + n0)) = false ∧ Below W0.heap.size W0 wr) (fun i _ => n0 - (intOf i).toNat)
      case atStart => exact ⟨0, Nat.zero_le _, rfl, rfl, Below.refl _ _⟩
      case round =>
        obtain ⟨k, hk, rfl, hany, hb⟩ := hrel
        have q0 : (0 : Int) ≤ (k : Int) := by omega
        have hbw := bto0 hb0 hb
        have Hany := Lib.hid hany
        clear hany
        by_cases hlt : k < n0
        · have q1 : (k : Int) < (n0 : Int) := by omega
          obtain ⟨ad, v, rfl, hab, hv, hat⟩ := (hrd.below hbw).tm hlt
          have HC := Lib.hid fun W hbW => Hih.out v W (List.mem_of_getElem? hv) hbW
          have hstep := any_take (p := grT f (d + 1 + n0)) hv
          rw [Hany.out, Bool.false_or] at hstep
          have Hstep := Lib.hid hstep
          obtain ⟨b, hbv⟩ : ∃ b, grT f (d + 1 + n0) v = b := ⟨_, rfl⟩
          have hall : Hid (b = true → l0.any (grT f (d + 1 + n0)) = true) := Lib.hid fun hbt => List.any_eq_true.2 ⟨v, List.mem_of_getElem? hv, by rw [hbv]; exact hbt⟩
          rw [hbv] at HC Hstep
          clear hv hstep hbv Hih
          have hXk := hX'.under hb hz0
          obtain ⟨⟨k1, op1, no1, ⟨vk1, vi1, vs1⟩, of1, nm1, tb1, cl1⟩, A1, n1, c1, l1⟩ := v
          obtain ⟨x0, x1, x2, x3, x4, x5, x6, x7, x8, x9, x10⟩ := hXk
          obtain ⟨y0, y1, y2, y3, y4, y5, y6, y7, y8, y9, y10⟩ := hat
          simp only [Tm.agg, TmH.agg, Tm.h, Tm.A, Tm.n, Tm.c, Nat.zero_add] at HC x10 y0 y1 y2 y3 y4 y5 y6 y7 y8 y9 y10
          clear x0 x1 x2 x3 x4 x5 x6 x7 x8 x9
          have hw1 : IntKind.i64.wrap (d + 1) = d + 1 := IntWalk.i64_in _ (by omega)
          have hw2 : IntKind.i64.wrap (d + 1 + (n0 : Int)) = d + 1 + (n0 : Int) := IntWalk.i64_in _ (by omega)
          have hS : Hid (∀ W, Below wr.heap.size wr W → W.cell? ⟨w.heap.size, 10, none⟩ = some (.slice (some ad) n0 c0) ∧ W.cell? (ad.add (k * 11)) = some (.int .u8 k1) ∧ W.cell? ⟨(ad.add (k * 11)).block, (ad.add (k * 11)).off + 1, none⟩ = some (.string op1) ∧ W.cell? ⟨(ad.add (k * 11)).block, (ad.add (k * 11)).off + 2, none⟩ = some (.bool no1) ∧ W.cell? ⟨(ad.add (k * 11)).block, (ad.add (k * 11)).off + 3, none⟩ = some (.int .u8 vk1) ∧ W.cell? ⟨(ad.add (k * 11)).block, (ad.add (k * 11)).off + 4, none⟩ = some (.int .i64 vi1) ∧ W.cell? ⟨(ad.add (k * 11)).block, (ad.add (k * 11)).off + 5, none⟩ = some (.string vs1) ∧ W.cell? ⟨(ad.add (k * 11)).block, (ad.add (k * 11)).off + 6, none⟩ = some (.string of1) ∧ W.cell? ⟨(ad.add (k * 11)).block, (ad.add (k * 11)).off + 7, none⟩ = some (.string nm1) ∧ W.cell? ⟨(ad.add (k * 11)).block, (ad.add (k * 11)).off + 8, none⟩ = some (.int .i64 tb1) ∧ W.cell? ⟨(ad.add (k * 11)).block, (ad.add (k * 11)).off + 9, none⟩ = some (.int .i64 cl1) ∧ W.cell? ⟨(ad.add (k * 11)).block, (ad.add (k * 11)).off + 10, none⟩ = some (.slice A1 n1 c1) ∧ Below wr.heap.size wr W) := by
            refine Lib.hid fun W hW => ⟨(hW.cell ?_).trans x10, (hW.cell ?_).trans y0, (hW.cell ?_).trans y1, (hW.cell ?_).trans y2, (hW.cell ?_).trans y3, (hW.cell ?_).trans y4, (hW.cell ?_).trans y5, (hW.cell ?_).trans y6, (hW.cell ?_).trans y7, (hW.cell ?_).trans y8, (hW.cell ?_).trans y9, (hW.cell ?_).trans y10, hW⟩
            all_goals (have := hb.size; simp only [block_of_add]; omega)
          go_wp2_with fail
          go_region_held3 (fun W => W.cell? ⟨w.heap.size, 10, none⟩ = some (.slice (some ad) n0 c0) ∧ W.cell? (ad.add (k * 11)) = some (.int .u8 k1) ∧ W.cell? ⟨(ad.add (k * 11)).block, (ad.add (k * 11)).off + 1, none⟩ = some (.string op1) ∧ W.cell? ⟨(ad.add (k * 11)).block, (ad.add (k * 11)).off + 2, none⟩ = some (.bool no1) ∧ W.cell? ⟨(ad.add (k * 11)).block, (ad.add (k * 11)).off + 3, none⟩ = some (.int .u8 vk1) ∧ W.cell? ⟨(ad.add (k * 11)).block, (ad.add (k * 11)).off + 4, none⟩ = some (.int .i64 vi1) ∧ W.cell? ⟨(ad.add (k * 11)).block, (ad.add (k * 11)).off + 5, none⟩ = some (.string vs1) ∧ W.cell? ⟨(ad.add (k * 11)).block, (ad.add (k * 11)).off + 6, none⟩ = some (.string of1) ∧ W.cell? ⟨(ad.add (k * 11)).block, (ad.add (k * 11)).off + 7, none⟩ = some (.string nm1) ∧ W.cell? ⟨(ad.add (k * 11)).block, (ad.add (k * 11)).off + 8, none⟩ = some (.int .i64 tb1) ∧ W.cell? ⟨(ad.add (k * 11)).block, (ad.add (k * 11)).off + 9, none⟩ = some (.int .i64 cl1) ∧ W.cell? ⟨(ad.add (k * 11)).block, (ad.add (k * 11)).off + 10, none⟩ = some (.slice A1 n1 c1) ∧ Below wr.heap.size wr W)
            (first | exact hS.out _ (by (with_reducible repeat (first | exact Below.refl _ _ | exact hb1 | refine bto0 ?_ hb1 | refine bdr ?_ _ | refine Below.drew ?_ | refine ball ?_ _))) | assumption)
            (first | (go_at_call 29; (with_reducible refine (HC.out _ (bto0 hbw (by (with_reducible repeat (first | exact Below.refl _ _ | exact hb1 | exact hb1 | refine bto0 ?_ hb1 | refine bto0 ?_ hb1 | refine bdr ?_ _ | refine Below.drew ?_ | refine ball ?_ _))))).mono ?_); rintro e w1 ⟨rfl, hb1⟩))
          have hbb : Below wr.heap.size wr w1 := by (with_reducible repeat (first | exact Below.refl _ _ | exact hb1 | refine bto0 ?_ hb1 | refine bdr ?_ _ | refine Below.drew ?_ | refine ball ?_ _))
          cases b
          · go_wp2
            go_roundw
            case rel => exact ⟨k + 1, by omega, by go_num, Hstep.out, bto0 hb hbb⟩
            case measure => simp [intOf]; omega
          · go_wp2
            go_ret
            exact ⟨by rw [hT.out, hall.out (by first | trivial | rfl)]; rfl, bto0 hbw hbb⟩
        · obtain rfl : k = n0 := by omega
          have hF : Hid (l0.any (grT f (d + 1 + k)) = false) := Lib.hid (by have := Hany.out; rwa [List.take_of_length_le (by rw [Hl.out]; exact Nat.le_refl _)] at this)
          go_wp2
          go_ret
          exact ⟨by rw [hT.out, hF.out]; rfl, hbw⟩
end Go.Proofs.Ytbmfojeklhbocaa
