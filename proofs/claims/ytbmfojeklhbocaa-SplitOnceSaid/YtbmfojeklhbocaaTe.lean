/-
  Terms: their fields (plain); contract of the reference's Fields.
-/
import Derived.Test.YtbmfojeklhbocaaTc
import Derived.Test.YtbmfojeklhbocaaWx
import Derived.Deep.RegionHeld3
import Derived.Deep.Onto
set_option linter.unusedSimpArgs false
set_option linter.unusedVariables false
namespace Go.Proofs.Ytbmfojeklhbocaa
open Go.RowKit

/-- A term's fields. -/
def fdT : Nat → Tm → List Tm
  | 0, _ => []
  | f + 1, .mk h A n c args => if h.k = 2 then [.mk h A n c args] else args.flatMap (fdT f)
theorem fdT_succ (f : Nat) (h : TmH) (A : Option Addr) (n c : Nat) (args : List Tm) : fdT (f + 1) (.mk h A n c args) = if h.k = 2 then [.mk h A n c args] else args.flatMap (fdT f) := rfl
theorem grT_succ (f : Nat) (d : Int) (h : TmH) (A : Option Addr) (n c : Nat) (args : List Tm) : grT (f + 1) d (.mk h A n c args) = if 40 < d ∨ 17 < n ∨ 3000 < h.v.s.size ∨ 100 < h.op.size then true else args.any (grT f (d + 1 + n)) := rfl
theorem grT_args {f : Nat} {d : Int} {h : TmH} {A : Option Addr} {n c : Nat} {args : List Tm} (hg : grT (f + 1) d (.mk h A n c args) = false) : d ≤ 40 ∧ n ≤ 17 ∧ ∀ a ∈ args, grT f (d + 1 + n) a = false := by
  rw [grT_succ] at hg
  split at hg
  · cases hg
  · rename_i hc
    refine ⟨by omega, by omega, fun a ha => ?_⟩
    rw [List.any_eq_false] at hg
    simpa using hg a ha
theorem grT_deep {f : Nat} {d : Int} {t : Tm} (h : grT f d t = false) : d ≤ 40 := by
  cases f with
  | zero => cases h
  | succ f => cases t; exact (grT_args h).1
theorem flat_le {α : Type} (g : α → List Tm) (m : Nat) : ∀ l : List α, (∀ a ∈ l, (g a).length ≤ m) → (l.flatMap g).length ≤ l.length * m
  | [], _ => by simp
  | a :: l, h => by
    rw [List.flatMap_cons, List.length_append, List.length_cons, Nat.succ_mul]
    have h1 := h a (by simp)
    have h2 := flat_le g m l fun b hb => h b (by simp [hb])
    omega
/-- Terms whose arguments are as many as they say. -/
def wfT : Nat → Tm → Prop
  | 0, _ => True
  | f + 1, .mk _ _ n _ args => args.length = n ∧ ∀ a ∈ args, wfT f a
theorem wfT_of {w : World} {B : Nat} : ∀ (f : Nat) (t : Tm), TmIn w B t → wfT f t
  | 0, _, _ => trivial
  | f + 1, .mk h A n c args, hin => ⟨hin.len, fun a ha => wfT_of f a (hin.args a ha)⟩
theorem fd_len' : ∀ (f d : Nat) (t : Tm), grT f (d : Int) t = false → wfT f t → (fdT f t).length ≤ 2 ^ (41 - d)
  | 0, _, _, h, _ => by cases h
  | f + 1, d, .mk h A n c args, hg, hwf => by
    obtain ⟨h1, h2, h3⟩ := grT_args hg
    obtain ⟨hn, hw⟩ := hwf
    rw [fdT_succ]
    split
    · show 1 ≤ _; exact Nat.one_le_two_pow
    · rcases Nat.eq_zero_or_pos args.length with h0 | h0
      · have : args = [] := List.eq_nil_of_length_eq_zero h0
        subst this
        simp
      · obtain ⟨a0, ha0⟩ : ∃ a, a ∈ args := List.exists_mem_of_length_pos h0
        have hd := grT_deep (h3 a0 ha0)
        have hm : ∀ a ∈ args, (fdT f a).length ≤ 2 ^ (41 - (d + 1 + n)) := fun a ha => fd_len' f (d + 1 + n) a (by have := h3 a ha; simpa using this) (hw a ha)
        have hfl := flat_le (fdT f) _ args hm
        refine Nat.le_trans hfl ?_
        have e : 41 - d = n + 1 + (41 - (d + 1 + n)) := by omega
        rw [e, Nat.pow_add]
        exact Nat.mul_le_mul_right _ (Nat.le_trans (show args.length ≤ n by omega) (Nat.le_trans (Nat.le_of_lt Nat.lt_two_pow_self) (Nat.pow_le_pow_right (by omega) (by omega))))
theorem flat_take {l : List Tm} {k f : Nat} {v : Tm} (h : l[k]? = some v) : (l.take (k + 1)).flatMap (fdT f) = (l.take k).flatMap (fdT f) ++ fdT f v := by
  rw [List.take_add_one, h]; simp
theorem flat_pre (l : List Tm) (k f : Nat) : ((l.take k).flatMap (fdT f)).length ≤ (l.flatMap (fdT f)).length := by
  conv => rhs; rw [← List.take_append_drop k l]
  rw [List.flatMap_append, List.length_append]; omega
/-- Terms in a row of the call's own. -/
def RetTs (w : World) (l : List Tm) (e : Ending) (w' : World) : Prop := ∃ A c, e = .returned (.slice A l.length c) ∧ l.length ≤ c ∧ w'.ownsRow w.heap.size 56 11 (.slice A l.length c) l.length (vT l) ∧ Below w.heap.size w w'
def zT : Value := .agg #[.int .u8 0, .string ⟨#[]⟩, .bool false, .int .u8 0, .int .i64 0, .string ⟨#[]⟩, .string ⟨#[]⟩, .string ⟨#[]⟩, .int .i64 0, .int .i64 0, .slice none 0 0]
theorem Try.infoT : (Try.prog.info? 56).map (fun i => (i.zero, i.size, i.bytes)) = some (some zT, 11, 136) := by kernel_rfl

set_option maxRecDepth 100000 in
set_option maxHeartbeats 4000000 in
theorem fields_any : ∀ (f d : Nat) (t : Tm) (w : World), 2 ≤ d → TmIn w w.heap.size t → grT f (d : Int) t = false → Calls Try.prog 41 #[t.agg, .bool false] w (RetTs w (fdT f t)) := by
  intro f
  induction f with
  | zero => intro d t w _ _ h; cases h
  | succ f ih =>
    intro d t w hd2 hin hg
    have hnc := hin.nc
    have hl := hin.len
    have hrd := hin.reads
    have hargs := hin.args
    have hlen := fd_len' (f + 1) d t hg (wfT_of _ _ hin)
    obtain ⟨⟨k0, op0, no0, ⟨vk0, vi0, vs0⟩, of0, nm0, tb0, cl0⟩, A0, n0, c0, l0⟩ := t
    simp only [Tm.h, Tm.A, Tm.n, Tm.c, Tm.args] at hnc hl hrd hargs
    obtain ⟨hd40, hn17, hga⟩ := grT_args hg
    have hcap : (2 : Nat) ^ (41 - d) ≤ 2 ^ 39 := Nat.pow_le_pow_right (by omega) (by omega)
    have hX := box_at w (Tm.mk ⟨k0, op0, no0, ⟨vk0, vi0, vs0⟩, of0, nm0, tb0, cl0⟩ A0 n0 c0 l0) 56
    have hX' : AtT ((w.alloc (.cells #[.int .u8 k0, .string op0, .bool no0, .int .u8 vk0, .int .i64 vi0, .string vs0, .string of0, .string nm0, .int .i64 tb0, .int .i64 cl0, .slice A0 n0 c0] 56)).alloc (.cells #[] 56)) ⟨w.heap.size, 0, none⟩ (Tm.mk ⟨k0, op0, no0, ⟨vk0, vi0, vs0⟩, of0, nm0, tb0, cl0⟩ A0 n0 c0 l0) := hX.under (ball (Below.refl _ _) _) (by simp)
    have hb0 : Below w.heap.size w ((w.alloc (.cells #[.int .u8 k0, .string op0, .bool no0, .int .u8 vk0, .int .i64 vi0, .string vs0, .string of0, .string nm0, .int .i64 tb0, .int .i64 cl0, .slice A0 n0 c0] 56)).alloc (.cells #[] 56)) := ball (ball (Below.refl _ _) _) _
    have hown0 : ((w.alloc (.cells #[.int .u8 k0, .string op0, .bool no0, .int .u8 vk0, .int .i64 vi0, .string vs0, .string of0, .string nm0, .int .i64 tb0, .int .i64 cl0, .slice A0 n0 c0] 56)).alloc (.cells #[] 56)).ownsRow (w.heap.size + 1) 56 11 (.slice (some ⟨w.heap.size + 1, 0, none⟩) 0 0) 0 [] := by
      have h := own_empty (w.alloc (.cells #[.int .u8 k0, .string op0, .bool no0, .int .u8 vk0, .int .i64 vi0, .string vs0, .string of0, .string nm0, .int .i64 tb0, .int .i64 cl0, .slice A0 n0 c0] 56)) 56 11 (g := w.heap.size + 1) (by simp)
      simpa using h
    obtain ⟨i0, hi0, hz0, hs0, hy0⟩ := int_info8 Try.infoT
    simp only [Tm.agg, TmH.agg, Tm.h, Tm.A, Tm.n, Tm.c]
    by_cases hk : k0 = 2
    · have e1 : (k0 == 2) = true := by simpa using hk
      have hU : Hid (fdT (f + 1) (Tm.mk ⟨k0, op0, no0, ⟨vk0, vi0, vs0⟩, of0, nm0, tb0, cl0⟩ A0 n0 c0 l0) = [(Tm.mk ⟨k0, op0, no0, ⟨vk0, vi0, vs0⟩, of0, nm0, tb0, cl0⟩ A0 n0 c0 l0)]) := Lib.hid (by rw [fdT_succ, if_pos hk])
      have hsz1 : w.heap.size + 1 ≤ ((w.alloc (.cells #[.int .u8 k0, .string op0, .bool no0, .int .u8 vk0, .int .i64 vi0, .string vs0, .string of0, .string nm0, .int .i64 tb0, .int .i64 cl0, .slice A0 n0 c0] 56)).alloc (.cells #[] 56)).heap.size := by simp
      have HX := Lib.hid hX'
      have x0 := hX'.c0
      simp only [Tm.h] at x0
      clear hin hX hX' ih hrd hargs hga hk hlen hcap hg
      go_enter Try.func41, Try.ntmps41
      go_wp2_with (at_builtin; go_loud (refine wpList_pushX (news := Tm.cells (Tm.mk ⟨k0, op0, no0, ⟨vk0, vi0, vs0⟩, of0, nm0, tb0, cl0⟩ A0 n0 c0 l0)) rfl _ _ 37 rfl (w.heap.size + 1) 56 i0 zT 11 136 Try.underlying37 hi0 hz0 hs0 hy0 rfl (by decide) (.slice (some ⟨w.heap.size + 1, 0, none⟩) 0 0) 0 _ rfl hown0 rfl (w.heap.size + 1 + 1) rfl (by simp) (Tm.len _) (cells_oneT _) (by omega) (by omega) hsz1 ?_); intro v4 w4 hown4 hg4)
      have hb4 : Below w.heap.size w w4 := belowX_grown hown0 (by omega) hsz1 hg4 hb0
      obtain ⟨A4, c4, rfl, hc4⟩ := own_form hown4
      go_ret
      rw [hU.out]
      refine ⟨A4, c4, rfl, hc4, ?_, hb4⟩
      rw [vT_one]
      exact World.ownsRow.mono hown4 (by omega)
    · have e1 : (k0 == 2) = false := by simpa using hk
      have hU : Hid (fdT (f + 1) (Tm.mk ⟨k0, op0, no0, ⟨vk0, vi0, vs0⟩, of0, nm0, tb0, cl0⟩ A0 n0 c0 l0) = l0.flatMap (fdT f)) := Lib.hid (by rw [fdT_succ, if_neg hk])
      rw [hU.out] at hlen
      have Hl := Lib.hid hl
      have hnI : (n0 : Int) ≤ 17 := by omega
      have Hih := Lib.hid fun (a : Tm) (W : World) (ha : a ∈ l0) (hb : Below w.heap.size w W) => ih (d + 1 + n0) a W (by omega) (((hargs a ha).under hb).more hb.size) (by have := hga a ha; simpa using this)
      have x0 := hX'.c0
      simp only [Tm.h] at x0
      have hbig : (l0.flatMap (fdT f)).length ≤ 549755813888 := Nat.le_trans hlen hcap
      have Hbig := Lib.hid hbig
      have hz : ((w.alloc (.cells #[.int .u8 k0, .string op0, .bool no0, .int .u8 vk0, .int .i64 vi0, .string vs0, .string of0, .string nm0, .int .i64 tb0, .int .i64 cl0, .slice A0 n0 c0] 56)).alloc (.cells #[] 56)).heap.size = w.heap.size + 1 + 1 := by simp
      clear hin hX ih hargs hga hk hl hlen hcap hg hbig
      have hsz0 : w.heap.size + 1 ≤ ((w.alloc (.cells #[.int .u8 k0, .string op0, .bool no0, .int .u8 vk0, .int .i64 vi0, .string vs0, .string of0, .string nm0, .int .i64 tb0, .int .i64 cl0, .slice A0 n0 c0] 56)).alloc (.cells #[] 56)).heap.size := by omega
      clear hz
      by_cases h7 : k0 = 7
      all_goals
        first
          | have e2 : (k0 == 7) = true := by simpa using h7
          | have e2 : (k0 == 7) = false := by simpa using h7
        clear h7
        have x10 := hX'.c10
        simp only [Tm.A, Tm.n, Tm.c, Nat.zero_add] at x10
        go_enter Try.func41, Try.ntmps41
        go_wp2_with fail
        obtain ⟨W0, hW0⟩ : ∃ W0, (w.alloc (.cells #[.int .u8 k0, .string op0, .bool no0, .int .u8 vk0, .int .i64 vi0, .string vs0, .string of0, .string nm0, .int .i64 tb0, .int .i64 cl0, .slice A0 n0 c0] 56)).alloc (.cells #[] 56) = W0 := ⟨_, rfl⟩
        rw [hW0] at hb0 hX' hown0 hsz0 x0 x10 ⊢
        clear hW0 x0 x10
        go_loopw [5, 25] (fun v i wr => ∃ k : Nat, k ≤ n0 ∧ i = .int .i64 k ∧ wr.ownsRow (w.heap.size + 1) 56 11 v ((l0.take k).flatMap (fdT f)).length (vT ((l0.take k).flatMap (fdT f))) ∧ AtT wr ⟨w.heap.size, 0, none⟩ (Tm.mk ⟨k0, op0, no0, ⟨vk0, vi0, vs0⟩, of0, nm0, tb0, cl0⟩ A0 n0 c0 l0) ∧ Below w.heap.size w wr ∧ w.heap.size + 1 ≤ wr.heap.size) (fun _ i _ => n0 - (intOf i).toNat)
        case atStart => exact ⟨0, Nat.zero_le _, rfl, hown0, hX', hb0, hsz0⟩
        case round =>
          clear hb0 hX' hown0 hsz0
          obtain ⟨k, hk, rfl, hown, hX', hb, hsz⟩ := hrel
          have q0 : (0 : Int) ≤ (k : Int) := by omega
          by_cases hlt : k < n0
          · have q1 : (k : Int) < (n0 : Int) := by omega
            obtain ⟨ad, v, rfl, hab, hv, hat⟩ := (hrd.below hb).tm hlt
            have HC := Lib.hid (Hih.out v wr (List.mem_of_getElem? hv) hb)
            have hstep := flat_take (f := f) hv
            have hpre := flat_pre l0 (k + 1) f
            rw [hstep, List.length_append] at hpre
            have hb2 := Hbig.out
            have x10 := hX'.c10
            simp only [Tm.A, Tm.n, Tm.c, Nat.zero_add] at x10
            obtain ⟨I, hI⟩ : ∃ I, (l0.take k).flatMap (fdT f) = I := ⟨_, rfl⟩
            obtain ⟨J, hJ⟩ : ∃ J, fdT f v = J := ⟨_, rfl⟩
            rw [hI] at hown hstep hpre
            rw [hJ] at hstep hpre HC
            have hIJ : I.length + J.length ≤ 549755813888 := by omega
            have Hstep := Lib.hid hstep
            have HX := Lib.hid hX'
            clear hv hstep hpre hI hJ hb2 hX'
            obtain ⟨⟨k1, op1, no1, ⟨vk1, vi1, vs1⟩, of1, nm1, tb1, cl1⟩, A1, n1, c1, l1⟩ := v
            obtain ⟨y0, y1, y2, y3, y4, y5, y6, y7, y8, y9, y10⟩ := hat
            simp only [Tm.agg, TmH.agg, Tm.h, Tm.A, Tm.n, Tm.c] at HC y0 y1 y2 y3 y4 y5 y6 y7 y8 y9 y10
            have hmx : I.length + J.length ≤ maxLen := by unfold maxLen; omega
            have hby : (I.length + J.length) * 136 ≤ 140737488355328 := by omega
            have Hmx := Lib.hid (And.intro hmx hby)
            clear hmx hby hIJ
            go_wp2_with fail
            refine HC.out.mono ?_
            rintro e w1 ⟨A1, c1, rfl, hc1, own1, hb1⟩
            have hown2 := own_below hown hb1
            have hX2 := HX.out.under hb1 (show w.heap.size < wr.heap.size by omega)
            have hbw2 := bto0 hb hb1
            have hsz2 := Nat.le_trans hsz hb1.size
            have hro := Reads.of_own own1
            go_wp2_with (at_builtin; go_loud (refine wpList_append_any _ rfl _ _ 37 rfl (w.heap.size + 1) 56 i0 zT 11 136 Try.underlying37 hi0 hz0 hs0 hy0 rfl (by decide) u5 I.length (vT I) rfl hown2 w1.heap.size A1 J.length c1 (vT J) rfl hro (vT_oneCell J) Hmx.out.1 Hmx.out.2 hsz2 ?_); intro v4 w4 hown4 hg4 ho4)
            have hk4 : Below (w.heap.size + 1) w1 w4 := by
              refine (Below.refl _ _).grown hg4 hsz2 fun q hq => ?_
              exact (hown2.lt q hq).1
            have hb4 : Below w.heap.size w w4 := by
              refine hbw2.grown hg4 hbw2.size fun q hq => ?_
              have := (hown2.lt q hq).1
              omega
            go_roundw
            case rel => exact ⟨k + 1, by omega, by go_num, by rw [Hstep.out, vT_app, List.length_append]; exact hown4, hX2.under hk4 (by simp), hb4, Nat.le_trans hsz2 hg4.size⟩
            case measure => simp [intOf]; omega
          · obtain rfl : k = n0 := by omega
            have hT : Hid (l0.take k = l0) := Lib.hid (List.take_of_length_le (by rw [Hl.out]; exact Nat.le_refl _))
            rw [hT.out] at hown
            obtain ⟨A5, c5, rfl, hc5⟩ := own_form hown
            go_wp2
            go_ret
            rw [hU.out]
            exact ⟨A5, c5, rfl, hc5, World.ownsRow.mono hown (by omega), hb⟩
end Go.Proofs.Ytbmfojeklhbocaa
