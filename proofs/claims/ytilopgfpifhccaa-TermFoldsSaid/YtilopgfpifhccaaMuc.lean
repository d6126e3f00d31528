/-
  The program's Fold.
-/
import Derived.Test.YtilopgfpifhccaaMtv
import Derived.Test.YtilopgfpifhccaaMub
import Derived.Test.YtilopgfpifhccaaMua
set_option linter.unusedSimpArgs false
set_option linter.unusedVariables false
namespace Go.Proofs.Ytilopgfpifhccaa
open Go.RowKit

def RetF (f : Nat) (w : World) (t : Tm) (e : Ending) (w' : World) : Prop := ∃ t', e = .returned t'.agg ∧ Fo f t t' ∧ TmQ w' (fun b => w.heap.size ≤ b ∧ b < w'.heap.size) t' ∧ Below w.heap.size w w'
theorem own_cap {w : World} {base : Nat} {e : TypeId} {size n : Nat} {v : Value} {xs : List Value} (h : w.ownsRow base e size v n xs) : ∃ A c, v = .slice A n c ∧ n ≤ c ∧ c ≤ maxLen := by
  rcases h.2 with ⟨rfl, h0⟩ | ⟨g, cap, cur, hv, hb, hg, hn, hc, _⟩
  · subst h0; exact ⟨none, 0, rfl, Nat.le_refl _, Nat.zero_le _⟩
  · exact ⟨_, _, hv, hn, hc⟩
theorem readsQ_own {w : World} {base : Nat} {e : TypeId} {size n c : Nat} {A : Option Addr} {xs : List Value} (h : w.ownsRow base e size (.slice A n c) n xs) : ReadsQ w (fun b => base ≤ b ∧ b < w.heap.size) size A n xs := by
  refine ⟨h.1, fun hn => ?_⟩
  obtain ⟨g, cap, hv, hb, hlt⟩ := h.form hn
  have hA : A = some ⟨g, 0, none⟩ := by injection hv
  subst hA
  exact ⟨_, rfl, ⟨hb, hlt⟩, h.cells (g := g) rfl⟩

theorem fold_fin {W : World} {R : Nat} {tm : Array Value} {Q : Ending → World → Prop} {a0 a1 a2 a3 a4 a5 a6 a7 a8 a9 a10 : Value} {k2 vk2 vi2 tb2 cl2 : Int} {op2 vs2 of2 nm2 : ByteArray} {no2 : Bool} {A2 : Option Addr} {n2 c2 : Nat} {l2 : List Tm} (hR : Blk W R 26 #[a0, a1, a2, a3, a4, a5, a6, a7, a8, a9, a10])
    (h2 : tm[2]? = some (.pointer (some ⟨R, 0, none⟩))) (h : ∀ W', (∀ p : Addr, p.block ≠ R → W'.cell? p = W.cell? p) → W'.heap.size = W.heap.size → (∀ w0 : World, w0.heap.size ≤ R → Below w0.heap.size w0 W → Below w0.heap.size w0 W') → Q (.returned (Tm.agg (Tm.mk ⟨k2, op2, no2, ⟨vk2, vi2, vs2⟩, of2, nm2, tb2, cl2⟩ A2 n2 c2 l2))) W') :
    bodyPost Try.prog Try.f16 Q Exit.ret { tmps := tm, defers := [] } (((((((((((W.setCell ⟨R, 0, none⟩ (.int .u8 k2)).setCell ⟨R, 1, none⟩ (.string op2)).setCell ⟨R, 2, none⟩ (.bool no2)).setCell ⟨R, 3, none⟩ (.int .u8 vk2)).setCell ⟨R, 4, none⟩ (.int .i64 vi2)).setCell ⟨R, 5, none⟩ (.string vs2)).setCell ⟨R, 6, none⟩ (.string of2)).setCell ⟨R, 7, none⟩ (.string nm2)).setCell ⟨R, 8, none⟩ (.int .i64 tb2)).setCell ⟨R, 9, none⟩ (.int .i64 cl2)).setCell ⟨R, 10, none⟩ (.slice A2 n2 c2)) := by
  have T := (((((((((((hR.set_ 0 (.int .u8 k2)).set_ 1 (.string op2)).set_ 2 (.bool no2)).set_ 3 (.int .u8 vk2)).set_ 4 (.int .i64 vi2)).set_ 5 (.string vs2)).set_ 6 (.string of2)).set_ 7 (.string nm2)).set_ 8 (.int .i64 tb2)).set_ 9 (.int .i64 cl2)).set_ 10 (.slice A2 n2 c2))
  simp only [List.setIfInBounds_toArray, List.set_cons_zero, List.set_cons_succ] at T
  obtain ⟨W', hW'⟩ : ∃ W', (((((((((((W.setCell ⟨R, 0, none⟩ (.int .u8 k2)).setCell ⟨R, 1, none⟩ (.string op2)).setCell ⟨R, 2, none⟩ (.bool no2)).setCell ⟨R, 3, none⟩ (.int .u8 vk2)).setCell ⟨R, 4, none⟩ (.int .i64 vi2)).setCell ⟨R, 5, none⟩ (.string vs2)).setCell ⟨R, 6, none⟩ (.string of2)).setCell ⟨R, 7, none⟩ (.string nm2)).setCell ⟨R, 8, none⟩ (.int .i64 tb2)).setCell ⟨R, 9, none⟩ (.int .i64 cl2)).setCell ⟨R, 10, none⟩ (.slice A2 n2 c2)) = W' := ⟨_, rfl⟩
  have hfar : ∀ p : Addr, p.block ≠ R → W'.cell? p = W.cell? p := by
    intro p hp
    rw [← hW']
    repeat rw [World.cell?_setCell_other _ _ _ _ (by intro e; first | exact hp (by rw [e]) | exact hp (by rw [← e]))]
  have hsz : W'.heap.size = W.heap.size := by rw [← hW']; simp [World.setCell]
  have hbl : ∀ w0 : World, w0.heap.size ≤ R → Below w0.heap.size w0 W → Below w0.heap.size w0 W' := by
    intro w0 h0 hb
    rw [← hW']
    repeat (refine bset ?_ h0 _)
    exact hb
  rw [hW'] at T ⊢
  clear hW'
  have q0 : W'.cell? ⟨R, 0, none⟩ = some (.int .u8 k2) := T.cell 0
  have q1 : W'.cell? ⟨R, 1, none⟩ = some (.string op2) := T.cell 1
  have q2 : W'.cell? ⟨R, 2, none⟩ = some (.bool no2) := T.cell 2
  have q3 : W'.cell? ⟨R, 3, none⟩ = some (.int .u8 vk2) := T.cell 3
  have q4 : W'.cell? ⟨R, 4, none⟩ = some (.int .i64 vi2) := T.cell 4
  have q5 : W'.cell? ⟨R, 5, none⟩ = some (.string vs2) := T.cell 5
  have q6 : W'.cell? ⟨R, 6, none⟩ = some (.string of2) := T.cell 6
  have q7 : W'.cell? ⟨R, 7, none⟩ = some (.string nm2) := T.cell 7
  have q8 : W'.cell? ⟨R, 8, none⟩ = some (.int .i64 tb2) := T.cell 8
  have q9 : W'.cell? ⟨R, 9, none⟩ = some (.int .i64 cl2) := T.cell 9
  have q10 : W'.cell? ⟨R, 10, none⟩ = some (.slice A2 n2 c2) := T.cell 10
  exact bodyPost_ret (v := .agg #[.int .u8 k2, .string op2, .bool no2, .int .u8 vk2, .int .i64 vi2, .string vs2, .string of2, .string nm2, .int .i64 tb2, .int .i64 cl2, .slice A2 n2 c2]) (by simp [results, Try.results16, go_sem, h2, q0, q1, q2, q3, q4, q5, q6, q7, q8, q9, q10]) rfl (h W' hfar hsz hbl)

theorem blk11 {w : World} {g : Nat} {t : TypeId} {a0 a1 a2 a3 a4 a5 a6 a7 a8 a9 a10 v0 v1 v2 v3 v4 v5 v6 v7 v8 v9 v10 : Value} (h : Blk w g t #[a0, a1, a2, a3, a4, a5, a6, a7, a8, a9, a10]) : Blk (((((((((((w.setCell ⟨g, 0, none⟩ (v0)).setCell ⟨g, 1, none⟩ (v1)).setCell ⟨g, 2, none⟩ (v2)).setCell ⟨g, 3, none⟩ (v3)).setCell ⟨g, 4, none⟩ (v4)).setCell ⟨g, 5, none⟩ (v5)).setCell ⟨g, 6, none⟩ (v6)).setCell ⟨g, 7, none⟩ (v7)).setCell ⟨g, 8, none⟩ (v8)).setCell ⟨g, 9, none⟩ (v9)).setCell ⟨g, 10, none⟩ (v10)) g t #[v0, v1, v2, v3, v4, v5, v6, v7, v8, v9, v10] := by
  have T := (((((((((((h.set_ 0 v0).set_ 1 v1).set_ 2 v2).set_ 3 v3).set_ 4 v4).set_ 5 v5).set_ 6 v6).set_ 7 v7).set_ 8 v8).set_ 9 v9).set_ 10 v10)
  simp only [List.setIfInBounds_toArray, List.set_cons_zero, List.set_cons_succ] at T
  exact T
theorem fold_end {W : World} {R : Nat} {tm : Array Value} {Q : Ending → World → Prop} {k2 vk2 vi2 tb2 cl2 : Int} {op2 vs2 of2 nm2 : ByteArray} {no2 : Bool} {A2 : Option Addr} {n2 c2 : Nat} (hR : Blk W R 26 #[.int .u8 k2, .string op2, .bool no2, .int .u8 vk2, .int .i64 vi2, .string vs2, .string of2, .string nm2, .int .i64 tb2, .int .i64 cl2, .slice A2 n2 c2])
    (h2 : tm[2]? = some (.pointer (some ⟨R, 0, none⟩))) (h : Q (.returned (.agg #[.int .u8 k2, .string op2, .bool no2, .int .u8 vk2, .int .i64 vi2, .string vs2, .string of2, .string nm2, .int .i64 tb2, .int .i64 cl2, .slice A2 n2 c2])) W) :
    bodyPost Try.prog Try.f16 Q Exit.ret { tmps := tm, defers := [] } W := by
  have q0 : W.cell? ⟨R, 0, none⟩ = some (.int .u8 k2) := hR.cell 0
  have q1 : W.cell? ⟨R, 1, none⟩ = some (.string op2) := hR.cell 1
  have q2 : W.cell? ⟨R, 2, none⟩ = some (.bool no2) := hR.cell 2
  have q3 : W.cell? ⟨R, 3, none⟩ = some (.int .u8 vk2) := hR.cell 3
  have q4 : W.cell? ⟨R, 4, none⟩ = some (.int .i64 vi2) := hR.cell 4
  have q5 : W.cell? ⟨R, 5, none⟩ = some (.string vs2) := hR.cell 5
  have q6 : W.cell? ⟨R, 6, none⟩ = some (.string of2) := hR.cell 6
  have q7 : W.cell? ⟨R, 7, none⟩ = some (.string nm2) := hR.cell 7
  have q8 : W.cell? ⟨R, 8, none⟩ = some (.int .i64 tb2) := hR.cell 8
  have q9 : W.cell? ⟨R, 9, none⟩ = some (.int .i64 cl2) := hR.cell 9
  have q10 : W.cell? ⟨R, 10, none⟩ = some (.slice A2 n2 c2) := hR.cell 10
  exact bodyPost_ret (v := .agg #[.int .u8 k2, .string op2, .bool no2, .int .u8 vk2, .int .i64 vi2, .string vs2, .string of2, .string nm2, .int .i64 tb2, .int .i64 cl2, .slice A2 n2 c2]) (by simp [results, Try.results16, go_sem, h2, q0, q1, q2, q3, q4, q5, q6, q7, q8, q9, q10]) rfl h

theorem no_env (W : World) : EnvO W none 0 [] none 0 [] := ⟨⟨by simp [vRv], fun h => absurd h (by omega)⟩, by simp, no_tot, by decide, by decide, by simp⟩
set_option maxRecDepth 100000 in
set_option maxHeartbeats 16000000 in
theorem fold18_any : ∀ (f : Nat) (t : Tm) (w : World), TmIn w w.heap.size t → shV f t → Calls Try.prog 16 #[t.agg] w (RetF f w t) := by
  intro f
  induction f with
  | zero => intro t w _ h; exact absurd h id
  | succ f ih =>
    intro t w hin hsh
    have hnc := hin.nc
    have hok := hin.hok
    have hl := hin.len
    have hrd := hin.reads
    have hargs := hin.args
    have CC := Lib.hid fun (W : World) (hb : Below w.heap.size w W) => const18_any (f + 1) t W ((hin.under hb).more hb.size) hsh
    have EE := Lib.hid fun (W : World) (hb : Below w.heap.size w W) => eval18_any none 0 0 [] none 0 0 [] (f + 1) t W (no_env W) ((hin.under hb).more hb.size) hsh
    have HV := Lib.hid (evT_ok (rows := []) (tot := []) (by simp) (by simp) (f + 1) t w _ hin hsh)
    have HF := Lib.hid fun (t' : Tm) (h : (toV (f + 1) t ∧ ∃ v, evT [] [] (f + 1) t = some v ∧ t' = litT v) ∨ (¬ toV (f + 1) t ∧ t'.h = t.h ∧ All2 (Fo f) t.args t'.args)) => (show Fo (f + 1) t t' from h)
    have HTV := Lib.hid (show toV (f + 1) t ↔ (t.h.k ≠ 1 ∧ coT (f + 1) t = true ∧ (evT [] [] (f + 1) t).isSome = true) from Iff.rfl)
    obtain ⟨hn17, hsa⟩ : t.n ≤ 17 ∧ ∀ a ∈ t.args, shV f a := by
      cases t with | mk h A n c args => exact ⟨hsh.1, hsh.2.2⟩
    have HI := Lib.hid fun (v : Tm) (W : World) (hv : v ∈ t.args) (hb : Below w.heap.size w W) => ih v W (((hargs v hv).under hb).more hb.size) (hsa v hv)
    obtain ⟨o, ho⟩ : ∃ o, evT [] [] (f + 1) t = o := ⟨_, rfl⟩
    obtain ⟨cb, hcb⟩ : ∃ cb, coT (f + 1) t = cb := ⟨_, rfl⟩
    have e0 : evT (List.map Rv.l []) [] (f + 1) t = o := ho
    rw [e0] at EE
    rw [ho] at HV HF HTV
    rw [hcb] at CC HTV
    clear hin hsh ho hcb e0 hargs hsa ih
    obtain ⟨⟨k0, op0, no0, ⟨vk0, vi0, vs0⟩, of0, nm0, tb0, cl0⟩, A0, n0, c0, l0⟩ := t
    simp only [Tm.agg, TmH.agg, Tm.h, Tm.A, Tm.n, Tm.c, Tm.args] at *
    have nI : (n0 : Int) ≤ 17 := by omega
    have HL := Lib.hid hl
    have HR := Lib.hid hrd
    have HOK := Lib.hid hok
    clear hl hrd hok hn17
    have hb0 : Below w.heap.size w ((w.alloc (.cells #[.int .u8 k0, .string op0, .bool no0, .int .u8 vk0, .int .i64 vi0, .string vs0, .string of0, .string nm0, .int .i64 tb0, .int .i64 cl0, .slice A0 n0 c0] 26)).alloc (.cells #[.int .u8 0, .string ⟨#[]⟩, .bool false, .int .u8 0, .int .i64 0, .string ⟨#[]⟩, .string ⟨#[]⟩, .string ⟨#[]⟩, .int .i64 0, .int .i64 0, .slice none 0 0] 26)) := ball (ball (Below.refl _ _) _) _
    have hX0 : Blk ((w.alloc (.cells #[.int .u8 k0, .string op0, .bool no0, .int .u8 vk0, .int .i64 vi0, .string vs0, .string of0, .string nm0, .int .i64 tb0, .int .i64 cl0, .slice A0 n0 c0] 26)).alloc (.cells #[.int .u8 0, .string ⟨#[]⟩, .bool false, .int .u8 0, .int .i64 0, .string ⟨#[]⟩, .string ⟨#[]⟩, .string ⟨#[]⟩, .int .i64 0, .int .i64 0, .slice none 0 0] 26)) w.heap.size 26 #[.int .u8 k0, .string op0, .bool no0, .int .u8 vk0, .int .i64 vi0, .string vs0, .string of0, .string nm0, .int .i64 tb0, .int .i64 cl0, .slice A0 n0 c0] := (Blk.new _ _ _).alloc _
    have hR0 : Blk ((w.alloc (.cells #[.int .u8 k0, .string op0, .bool no0, .int .u8 vk0, .int .i64 vi0, .string vs0, .string of0, .string nm0, .int .i64 tb0, .int .i64 cl0, .slice A0 n0 c0] 26)).alloc (.cells #[.int .u8 0, .string ⟨#[]⟩, .bool false, .int .u8 0, .int .i64 0, .string ⟨#[]⟩, .string ⟨#[]⟩, .string ⟨#[]⟩, .int .i64 0, .int .i64 0, .slice none 0 0] 26)) (w.heap.size + 1) 26 #[.int .u8 0, .string ⟨#[]⟩, .bool false, .int .u8 0, .int .i64 0, .string ⟨#[]⟩, .string ⟨#[]⟩, .string ⟨#[]⟩, .int .i64 0, .int .i64 0, .slice none 0 0] := Blk.newAt (by simp)
    by_cases h1 : k0 = 1
    · subst h1
      have hbW := hb0
      have hXW := hX0
      have hRW := hR0
      have hzW : w.heap.size + 2 ≤ ((w.alloc (.cells #[.int .u8 1, .string op0, .bool no0, .int .u8 vk0, .int .i64 vi0, .string vs0, .string of0, .string nm0, .int .i64 tb0, .int .i64 cl0, .slice A0 n0 c0] 26)).alloc (.cells #[.int .u8 0, .string ⟨#[]⟩, .bool false, .int .u8 0, .int .i64 0, .string ⟨#[]⟩, .string ⟨#[]⟩, .string ⟨#[]⟩, .int .i64 0, .int .i64 0, .slice none 0 0] 26)).heap.size := by simp
      clear hb0 hX0 hR0
      go_enter Try.func16, Try.ntmps16
      have hnot : ¬ toV (f + 1) (Tm.mk ⟨1, op0, no0, ⟨vk0, vi0, vs0⟩, of0, nm0, tb0, cl0⟩ A0 n0 c0 l0) := fun h => (HTV.out.1 h).1 rfl
      have HNOT := Lib.hid hnot
      clear hnot HTV CC EE HV
      obtain ⟨WT, hWT⟩ : ∃ WT, WT = ((w.alloc (.cells #[.int .u8 1, .string op0, .bool no0, .int .u8 vk0, .int .i64 vi0, .string vs0, .string of0, .string nm0, .int .i64 tb0, .int .i64 cl0, .slice A0 n0 c0] 26)).alloc (.cells #[.int .u8 0, .string ⟨#[]⟩, .bool false, .int .u8 0, .int .i64 0, .string ⟨#[]⟩, .string ⟨#[]⟩, .string ⟨#[]⟩, .int .i64 0, .int .i64 0, .slice none 0 0] 26)) := ⟨_, rfl⟩
      have x10 : ((w.alloc (.cells #[.int .u8 1, .string op0, .bool no0, .int .u8 vk0, .int .i64 vi0, .string vs0, .string of0, .string nm0, .int .i64 tb0, .int .i64 cl0, .slice A0 n0 c0] 26)).alloc (.cells #[.int .u8 0, .string ⟨#[]⟩, .bool false, .int .u8 0, .int .i64 0, .string ⟨#[]⟩, .string ⟨#[]⟩, .string ⟨#[]⟩, .int .i64 0, .int .i64 0, .slice none 0 0] 26)).cell? ⟨w.heap.size, 10, none⟩ = some (.slice A0 n0 c0) := hXW.cell 10
      go_wp2_with fail
      clear x10
      try rw [← hWT]
      rw [← hWT] at hbW hXW hRW hzW
      clear hWT
      obtain ⟨i0, hi0, hz0, hs0, hy0⟩ := int_info8 Try.infoTm
      go_loopw [5, 26] (fun v i wr => ∃ (k : Nat) (ts : List Tm), k ≤ n0 ∧ i = .int .i64 k ∧ wr.ownsRow WT.heap.size 26 11 v k (vT ts) ∧ All2 (Fo f) (l0.take k) ts ∧ (∀ t ∈ ts, TmQ wr (fun b => WT.heap.size ≤ b ∧ b < wr.heap.size ∧ some b ≠ v.ownBlock) t) ∧ Below WT.heap.size WT wr) (fun _ i _ => n0 - (intOf i).toNat)
      case atStart => exact ⟨0, [], Nat.zero_le _, rfl, ⟨by simp [vT], .inl ⟨rfl, rfl⟩⟩, All2.nil, by simp, Below.refl _ _⟩
      case round =>
        obtain ⟨k, ts, hk, rfl, hown, hall, hq, hb⟩ := hrel
        have q0 : (0 : Int) ≤ (k : Int) := by omega
        have hbw := bto0 hbW hb
        have hzr := hb.size
        have HO := Lib.hid (And.intro hown (And.intro hall hq))
        clear hall hq
        by_cases hlt : k < n0
        · have q1 : (k : Int) < (n0 : Int) := by omega
          obtain ⟨ad, v1, rfl, hab, hv1, hat⟩ := (HR.out.below hbw).tm hlt
          have HC := Lib.hid fun (W : World) (hW : Below wr.heap.size wr W) => HI.out v1 W (List.mem_of_getElem? hv1) (bto0 hbw hW)
          have HV1 := Lib.hid hv1
          clear hv1
          obtain ⟨t1, ht1⟩ : ∃ t1, v1 = t1 := ⟨_, rfl⟩
          have HT1 := Lib.hid ht1
          clear ht1
          obtain ⟨⟨k1, op1, no1, ⟨vk1, vi1, vs1⟩, of1, nm1, tb1, cl1⟩, A1, n1, c1, l1⟩ := v1
          obtain ⟨y0, y1, y2, y3, y4, y5, y6, y7, y8, y9, y10⟩ := hat
          simp only [Tm.agg, TmH.agg, Tm.h, Tm.A, Tm.n, Tm.c] at HC y0 y1 y2 y3 y4 y5 y6 y7 y8 y9 y10
          go_wp2_with fail
          refine (HC.out _ (ball (Below.refl _ _) _)).mono ?_
          rintro e w1 ⟨t2, rfl, hfo, htq, hb1⟩
          have hbx : Below wr.heap.size wr w1 := bto0 (ball (Below.refl _ _) _) hb1
          have hown1 := own_below18 hown hbx
          have hz1 := hb1.size
          simp only [alloc_size] at hz1 htq
          have HFO := Lib.hid (And.intro hfo htq)
          clear hfo htq
          obtain ⟨⟨k2, op2, no2, ⟨vk2, vi2, vs2⟩, of2, nm2, tb2, cl2⟩, A2, n2, c2, l2⟩ := t2
          simp only [Tm.agg, TmH.agg, Tm.h, Tm.A, Tm.n, Tm.c]
          have hzb : WT.heap.size ≤ w1.heap.size := by omega
          go_wp2_with (at_builtin; refine wpList_pushR (news := [.int .u8 k2, .string op2, .bool no2, .int .u8 vk2, .int .i64 vi2, .string vs2, .string of2, .string nm2, .int .i64 tb2, .int .i64 cl2, .slice A2 n2 c2]) rfl (.tmp 30) (.tmp 33) 24 rfl WT.heap.size 26 i0 _ 11 136 Try.underlying24 hi0 hz0 hs0 hy0 rfl (by decide) u5 k _ rfl hown1 rfl w1.heap.size rfl rfl rfl (cells_oneT (Tm.mk ⟨k2, op2, no2, ⟨vk2, vi2, vs2⟩, of2, nm2, tb2, cl2⟩ A2 n2 c2 l2)) (by omega) (by omega) hzb ?_; intro v4 w4 hown4 hg4 hob4)
          go_roundw
          case rel =>
            have hz4 := hg4.size
            simp only [alloc_size] at hz4
            refine ⟨k + 1, ts ++ [(Tm.mk ⟨k2, op2, no2, ⟨vk2, vi2, vs2⟩, of2, nm2, tb2, cl2⟩ A2 n2 c2 l2)], by omega, by go_num, ?_, HO.out.2.1.snoc HV1.out HFO.out.1, ?_, ?_⟩
            · rw [vT_app, vT_one]; exact hown4
            · intro t ht
              have hfar : ∀ p : Addr, p.block < w1.heap.size → some p.block ≠ u5.ownBlock → w4.cell? p = w1.cell? p := fun p hp hne => by
                rw [World.cell?_of_block (hg4.block p.block (by simp only [alloc_size]; omega) hne)]
                exact World.cell?_alloc_lt _ _ p hp
              have hnew : ∀ b, b < w1.heap.size → some b ≠ u5.ownBlock → some b ≠ v4.ownBlock := fun b hbz hne => by
                rcases hob4 with h | h
                · rw [h]; exact hne
                · rw [h]; intro e; injection e with e; omega
              rcases List.mem_append.1 ht with ht | ht
              · refine (HO.out.2.2 t ht).keep (fun b hbq => ⟨hbq.1, by omega, hnew b (by omega) hbq.2.2⟩) fun p hp => ?_
                rw [hfar p (by omega) hp.2.2]
                exact hbx.cell hp.2.1
              · rw [List.mem_singleton] at ht
                subst ht
                have hne : ∀ b, wr.heap.size + 1 ≤ b → some b ≠ u5.ownBlock := fun b hbz e => by (have := (HO.out.1.lt b e.symm).2; omega)
                refine HFO.out.2.keep (fun b hbq => ⟨by omega, by omega, hnew b hbq.2 (hne b hbq.1)⟩) fun p hp => hfar p hp.2 (hne _ hp.1)
            · exact (ball (bto0 hb hbx) _).grown hg4 (by simp only [alloc_size]; omega) fun g hgg => (hown1.lt g hgg).1
          case measure => simp [intOf]; omega
        · obtain rfl : n0 = k := by omega
          obtain ⟨A1, c1, rfl, hc1, hcm⟩ := own_cap hown
          have HZ := Lib.hid (And.intro hc1 hcm)
          have hXr := blkOf hb (by omega) hXW
          have hRr := blkOf hb (by omega) hRW
          have hXs : Blk (wr.setCell ⟨w.heap.size, 10, none⟩ (.slice A1 n0 c1)) w.heap.size 26 #[.int .u8 1, .string op0, .bool no0, .int .u8 vk0, .int .i64 vi0, .string vs0, .string of0, .string nm0, .int .i64 tb0, .int .i64 cl0, .slice A1 n0 c1] := by
            have T := hXr.set_ 10 (.slice A1 n0 c1)
            simp only [List.setIfInBounds_toArray, List.set_cons_zero, List.set_cons_succ] at T
            exact T
          have hRs : Blk (wr.setCell ⟨w.heap.size, 10, none⟩ (.slice A1 n0 c1)) (w.heap.size + 1) 26 #[.int .u8 0, .string ⟨#[]⟩, .bool false, .int .u8 0, .int .i64 0, .string ⟨#[]⟩, .string ⟨#[]⟩, .string ⟨#[]⟩, .int .i64 0, .int .i64 0, .slice none 0 0] := hRr.far (by simp) _
          have x10 : wr.cell? ⟨w.heap.size, 10, none⟩ = some (.slice A0 n0 c0) := hXr.cell 10
          have xf : wr.frozen? ⟨w.heap.size, 10, none⟩ = false := hXr.frozen 10
          have y0 : (wr.setCell ⟨w.heap.size, 10, none⟩ (.slice A1 n0 c1)).cell? ⟨w.heap.size, 0, none⟩ = some (.int .u8 1) := hXs.cell 0
          have y1 : (wr.setCell ⟨w.heap.size, 10, none⟩ (.slice A1 n0 c1)).cell? ⟨w.heap.size, 1, none⟩ = some (.string op0) := hXs.cell 1
          have y2 : (wr.setCell ⟨w.heap.size, 10, none⟩ (.slice A1 n0 c1)).cell? ⟨w.heap.size, 2, none⟩ = some (.bool no0) := hXs.cell 2
          have y3 : (wr.setCell ⟨w.heap.size, 10, none⟩ (.slice A1 n0 c1)).cell? ⟨w.heap.size, 3, none⟩ = some (.int .u8 vk0) := hXs.cell 3
          have y4 : (wr.setCell ⟨w.heap.size, 10, none⟩ (.slice A1 n0 c1)).cell? ⟨w.heap.size, 4, none⟩ = some (.int .i64 vi0) := hXs.cell 4
          have y5 : (wr.setCell ⟨w.heap.size, 10, none⟩ (.slice A1 n0 c1)).cell? ⟨w.heap.size, 5, none⟩ = some (.string vs0) := hXs.cell 5
          have y6 : (wr.setCell ⟨w.heap.size, 10, none⟩ (.slice A1 n0 c1)).cell? ⟨w.heap.size, 6, none⟩ = some (.string of0) := hXs.cell 6
          have y7 : (wr.setCell ⟨w.heap.size, 10, none⟩ (.slice A1 n0 c1)).cell? ⟨w.heap.size, 7, none⟩ = some (.string nm0) := hXs.cell 7
          have y8 : (wr.setCell ⟨w.heap.size, 10, none⟩ (.slice A1 n0 c1)).cell? ⟨w.heap.size, 8, none⟩ = some (.int .i64 tb0) := hXs.cell 8
          have y9 : (wr.setCell ⟨w.heap.size, 10, none⟩ (.slice A1 n0 c1)).cell? ⟨w.heap.size, 9, none⟩ = some (.int .i64 cl0) := hXs.cell 9
          have y10 : (wr.setCell ⟨w.heap.size, 10, none⟩ (.slice A1 n0 c1)).cell? ⟨w.heap.size, 10, none⟩ = some (.slice A1 n0 c1) := hXs.cell 10
          have z0 : (wr.setCell ⟨w.heap.size, 10, none⟩ (.slice A1 n0 c1)).cell? ⟨w.heap.size + 1, 0, none⟩ = some (.int .u8 0) := hRs.cell 0
          have zf0 : (wr.setCell ⟨w.heap.size, 10, none⟩ (.slice A1 n0 c1)).frozen? ⟨w.heap.size + 1, 0, none⟩ = false := hRs.frozen 0
          have z1 : (wr.setCell ⟨w.heap.size, 10, none⟩ (.slice A1 n0 c1)).cell? ⟨w.heap.size + 1, 1, none⟩ = some (.string ⟨#[]⟩) := hRs.cell 1
          have zf1 : (wr.setCell ⟨w.heap.size, 10, none⟩ (.slice A1 n0 c1)).frozen? ⟨w.heap.size + 1, 1, none⟩ = false := hRs.frozen 1
          have z2 : (wr.setCell ⟨w.heap.size, 10, none⟩ (.slice A1 n0 c1)).cell? ⟨w.heap.size + 1, 2, none⟩ = some (.bool false) := hRs.cell 2
          have zf2 : (wr.setCell ⟨w.heap.size, 10, none⟩ (.slice A1 n0 c1)).frozen? ⟨w.heap.size + 1, 2, none⟩ = false := hRs.frozen 2
          have z3 : (wr.setCell ⟨w.heap.size, 10, none⟩ (.slice A1 n0 c1)).cell? ⟨w.heap.size + 1, 3, none⟩ = some (.int .u8 0) := hRs.cell 3
          have zf3 : (wr.setCell ⟨w.heap.size, 10, none⟩ (.slice A1 n0 c1)).frozen? ⟨w.heap.size + 1, 3, none⟩ = false := hRs.frozen 3
          have z4 : (wr.setCell ⟨w.heap.size, 10, none⟩ (.slice A1 n0 c1)).cell? ⟨w.heap.size + 1, 4, none⟩ = some (.int .i64 0) := hRs.cell 4
          have zf4 : (wr.setCell ⟨w.heap.size, 10, none⟩ (.slice A1 n0 c1)).frozen? ⟨w.heap.size + 1, 4, none⟩ = false := hRs.frozen 4
          have z5 : (wr.setCell ⟨w.heap.size, 10, none⟩ (.slice A1 n0 c1)).cell? ⟨w.heap.size + 1, 5, none⟩ = some (.string ⟨#[]⟩) := hRs.cell 5
          have zf5 : (wr.setCell ⟨w.heap.size, 10, none⟩ (.slice A1 n0 c1)).frozen? ⟨w.heap.size + 1, 5, none⟩ = false := hRs.frozen 5
          have z6 : (wr.setCell ⟨w.heap.size, 10, none⟩ (.slice A1 n0 c1)).cell? ⟨w.heap.size + 1, 6, none⟩ = some (.string ⟨#[]⟩) := hRs.cell 6
          have zf6 : (wr.setCell ⟨w.heap.size, 10, none⟩ (.slice A1 n0 c1)).frozen? ⟨w.heap.size + 1, 6, none⟩ = false := hRs.frozen 6
          have z7 : (wr.setCell ⟨w.heap.size, 10, none⟩ (.slice A1 n0 c1)).cell? ⟨w.heap.size + 1, 7, none⟩ = some (.string ⟨#[]⟩) := hRs.cell 7
          have zf7 : (wr.setCell ⟨w.heap.size, 10, none⟩ (.slice A1 n0 c1)).frozen? ⟨w.heap.size + 1, 7, none⟩ = false := hRs.frozen 7
          have z8 : (wr.setCell ⟨w.heap.size, 10, none⟩ (.slice A1 n0 c1)).cell? ⟨w.heap.size + 1, 8, none⟩ = some (.int .i64 0) := hRs.cell 8
          have zf8 : (wr.setCell ⟨w.heap.size, 10, none⟩ (.slice A1 n0 c1)).frozen? ⟨w.heap.size + 1, 8, none⟩ = false := hRs.frozen 8
          have z9 : (wr.setCell ⟨w.heap.size, 10, none⟩ (.slice A1 n0 c1)).cell? ⟨w.heap.size + 1, 9, none⟩ = some (.int .i64 0) := hRs.cell 9
          have zf9 : (wr.setCell ⟨w.heap.size, 10, none⟩ (.slice A1 n0 c1)).frozen? ⟨w.heap.size + 1, 9, none⟩ = false := hRs.frozen 9
          have z10 : (wr.setCell ⟨w.heap.size, 10, none⟩ (.slice A1 n0 c1)).cell? ⟨w.heap.size + 1, 10, none⟩ = some (.slice none 0 0) := hRs.cell 10
          have zf10 : (wr.setCell ⟨w.heap.size, 10, none⟩ (.slice A1 n0 c1)).frozen? ⟨w.heap.size + 1, 10, none⟩ = false := hRs.frozen 10
          have hw1 : w.heap.size < wr.heap.size := by omega
          have hw2 : w.heap.size + 1 < wr.heap.size := by omega
          have HRS := Lib.hid (And.intro hRs (And.intro hXr hown))
          clear hXs hRs hXr hRr hown hc1 hcm
          go_wp2_with fail
          refine fold_fin (l2 := ts) HRS.out.1 (by simp) fun W' hfar hsz hbl => ?_
          have hfar2 : ∀ p : Addr, WT.heap.size ≤ p.block → W'.cell? p = wr.cell? p := fun p hp => by
            rw [hfar p (by omega)]
            exact World.cell?_setCell_other _ _ _ _ (fun e => by subst e; simp at hp; omega)
          have hsz2 : W'.heap.size = wr.heap.size := by rw [hsz]; simp [World.setCell]
          refine ⟨_, rfl, HF.out _ (.inr ⟨HNOT.out, rfl, ?_⟩), ?_, hbl w (by omega) (bset hbw (by simp) _)⟩
          · have := HO.out.2.1
            rw [List.take_of_length_le (by rw [HL.out]; exact Nat.le_refl _)] at this
            exact this
          · have hrq := readsQ_own HRS.out.2.2
            refine .mk _ A1 n0 c1 ts HOK.out HZ.out.1 HZ.out.2 ⟨hrq.1, fun h0 => ?_⟩ fun t ht => (HO.out.2.2 t ht).keep (fun b hbq => ⟨by omega, by omega⟩) fun p hp => hfar2 p hp.1
            obtain ⟨ad, hA, hqb, hcell⟩ := hrq.2 h0
            exact ⟨ad, hA, ⟨by omega, by omega⟩, fun j u hu => (hfar2 _ (by rw [block_of_add]; exact hqb.1)).trans (hcell j u hu)⟩
    · have e1 : (k0 != 1) = true := by simpa using h1
      cases cb with
      | false =>
        go_enter Try.func16, Try.ntmps16
        go_wp2_with fail
        refine (CC.out _ hb0).mono ?_
        rintro e w1 ⟨rfl, hb1⟩
        have hbW := bto0 hb0 hb1
        have hz1 := hb1.size
        simp only [alloc_size] at hz1
        have hXW := blkOf hb1 (by simp only [alloc_size]; omega) hX0
        have hRW := blkOf hb1 (by simp only [alloc_size]; omega) hR0
        have hzW : w.heap.size + 2 ≤ w1.heap.size := by omega
        clear hb0 hX0 hR0 hb1
        have hnot : ¬ toV (f + 1) (Tm.mk ⟨k0, op0, no0, ⟨vk0, vi0, vs0⟩, of0, nm0, tb0, cl0⟩ A0 n0 c0 l0) := fun h => by (have := (HTV.out.1 h).2.1; cases this)
        have HNOT := Lib.hid hnot
        clear hnot HTV CC EE HV
        obtain ⟨WT, hWT⟩ : ∃ WT, WT = w1 := ⟨_, rfl⟩
        have x10 : w1.cell? ⟨w.heap.size, 10, none⟩ = some (.slice A0 n0 c0) := hXW.cell 10
        go_wp2_with fail
        clear x10
        try rw [← hWT]
        rw [← hWT] at hbW hXW hRW hzW
        clear hWT
        obtain ⟨i0, hi0, hz0, hs0, hy0⟩ := int_info8 Try.infoTm
        go_loopw [5, 26] (fun v i wr => ∃ (k : Nat) (ts : List Tm), k ≤ n0 ∧ i = .int .i64 k ∧ wr.ownsRow WT.heap.size 26 11 v k (vT ts) ∧ All2 (Fo f) (l0.take k) ts ∧ (∀ t ∈ ts, TmQ wr (fun b => WT.heap.size ≤ b ∧ b < wr.heap.size ∧ some b ≠ v.ownBlock) t) ∧ Below WT.heap.size WT wr) (fun _ i _ => n0 - (intOf i).toNat)
        case atStart => exact ⟨0, [], Nat.zero_le _, rfl, ⟨by simp [vT], .inl ⟨rfl, rfl⟩⟩, All2.nil, by simp, Below.refl _ _⟩
        case round =>
          obtain ⟨k, ts, hk, rfl, hown, hall, hq, hb⟩ := hrel
          have q0 : (0 : Int) ≤ (k : Int) := by omega
          have hbw := bto0 hbW hb
          have hzr := hb.size
          have HO := Lib.hid (And.intro hown (And.intro hall hq))
          clear hall hq
          by_cases hlt : k < n0
          · have q1 : (k : Int) < (n0 : Int) := by omega
            obtain ⟨ad, v1, rfl, hab, hv1, hat⟩ := (HR.out.below hbw).tm hlt
            have HC := Lib.hid fun (W : World) (hW : Below wr.heap.size wr W) => HI.out v1 W (List.mem_of_getElem? hv1) (bto0 hbw hW)
            have HV1 := Lib.hid hv1
            clear hv1
            obtain ⟨t1, ht1⟩ : ∃ t1, v1 = t1 := ⟨_, rfl⟩
            have HT1 := Lib.hid ht1
            clear ht1
            obtain ⟨⟨k1, op1, no1, ⟨vk1, vi1, vs1⟩, of1, nm1, tb1, cl1⟩, A1, n1, c1, l1⟩ := v1
            obtain ⟨y0, y1, y2, y3, y4, y5, y6, y7, y8, y9, y10⟩ := hat
            simp only [Tm.agg, TmH.agg, Tm.h, Tm.A, Tm.n, Tm.c] at HC y0 y1 y2 y3 y4 y5 y6 y7 y8 y9 y10
            go_wp2_with fail
            refine (HC.out _ (ball (Below.refl _ _) _)).mono ?_
            rintro e w1 ⟨t2, rfl, hfo, htq, hb1⟩
            have hbx : Below wr.heap.size wr w1 := bto0 (ball (Below.refl _ _) _) hb1
            have hown1 := own_below18 hown hbx
            have hz1 := hb1.size
            simp only [alloc_size] at hz1 htq
            have HFO := Lib.hid (And.intro hfo htq)
            clear hfo htq
            obtain ⟨⟨k2, op2, no2, ⟨vk2, vi2, vs2⟩, of2, nm2, tb2, cl2⟩, A2, n2, c2, l2⟩ := t2
            simp only [Tm.agg, TmH.agg, Tm.h, Tm.A, Tm.n, Tm.c]
            have hzb : WT.heap.size ≤ w1.heap.size := by omega
            go_wp2_with (at_builtin; refine wpList_pushR (news := [.int .u8 k2, .string op2, .bool no2, .int .u8 vk2, .int .i64 vi2, .string vs2, .string of2, .string nm2, .int .i64 tb2, .int .i64 cl2, .slice A2 n2 c2]) rfl (.tmp 30) (.tmp 33) 24 rfl WT.heap.size 26 i0 _ 11 136 Try.underlying24 hi0 hz0 hs0 hy0 rfl (by decide) u5 k _ rfl hown1 rfl w1.heap.size rfl rfl rfl (cells_oneT (Tm.mk ⟨k2, op2, no2, ⟨vk2, vi2, vs2⟩, of2, nm2, tb2, cl2⟩ A2 n2 c2 l2)) (by omega) (by omega) hzb ?_; intro v4 w4 hown4 hg4 hob4)
            go_roundw
            case rel =>
              have hz4 := hg4.size
              simp only [alloc_size] at hz4
              refine ⟨k + 1, ts ++ [(Tm.mk ⟨k2, op2, no2, ⟨vk2, vi2, vs2⟩, of2, nm2, tb2, cl2⟩ A2 n2 c2 l2)], by omega, by go_num, ?_, HO.out.2.1.snoc HV1.out HFO.out.1, ?_, ?_⟩
              · rw [vT_app, vT_one]; exact hown4
              · intro t ht
                have hfar : ∀ p : Addr, p.block < w1.heap.size → some p.block ≠ u5.ownBlock → w4.cell? p = w1.cell? p := fun p hp hne => by
                  rw [World.cell?_of_block (hg4.block p.block (by simp only [alloc_size]; omega) hne)]
                  exact World.cell?_alloc_lt _ _ p hp
                have hnew : ∀ b, b < w1.heap.size → some b ≠ u5.ownBlock → some b ≠ v4.ownBlock := fun b hbz hne => by
                  rcases hob4 with h | h
                  · rw [h]; exact hne
                  · rw [h]; intro e; injection e with e; omega
                rcases List.mem_append.1 ht with ht | ht
                · refine (HO.out.2.2 t ht).keep (fun b hbq => ⟨hbq.1, by omega, hnew b (by omega) hbq.2.2⟩) fun p hp => ?_
                  rw [hfar p (by omega) hp.2.2]
                  exact hbx.cell hp.2.1
                · rw [List.mem_singleton] at ht
                  subst ht
                  have hne : ∀ b, wr.heap.size + 1 ≤ b → some b ≠ u5.ownBlock := fun b hbz e => by (have := (HO.out.1.lt b e.symm).2; omega)
                  refine HFO.out.2.keep (fun b hbq => ⟨by omega, by omega, hnew b hbq.2 (hne b hbq.1)⟩) fun p hp => hfar p hp.2 (hne _ hp.1)
              · exact (ball (bto0 hb hbx) _).grown hg4 (by simp only [alloc_size]; omega) fun g hgg => (hown1.lt g hgg).1
            case measure => simp [intOf]; omega
          · obtain rfl : n0 = k := by omega
            obtain ⟨A1, c1, rfl, hc1, hcm⟩ := own_cap hown
            have HZ := Lib.hid (And.intro hc1 hcm)
            have hXr := blkOf hb (by omega) hXW
            have hRr := blkOf hb (by omega) hRW
            have hXs : Blk (wr.setCell ⟨w.heap.size, 10, none⟩ (.slice A1 n0 c1)) w.heap.size 26 #[.int .u8 k0, .string op0, .bool no0, .int .u8 vk0, .int .i64 vi0, .string vs0, .string of0, .string nm0, .int .i64 tb0, .int .i64 cl0, .slice A1 n0 c1] := by
              have T := hXr.set_ 10 (.slice A1 n0 c1)
              simp only [List.setIfInBounds_toArray, List.set_cons_zero, List.set_cons_succ] at T
              exact T
            have hRs : Blk (wr.setCell ⟨w.heap.size, 10, none⟩ (.slice A1 n0 c1)) (w.heap.size + 1) 26 #[.int .u8 0, .string ⟨#[]⟩, .bool false, .int .u8 0, .int .i64 0, .string ⟨#[]⟩, .string ⟨#[]⟩, .string ⟨#[]⟩, .int .i64 0, .int .i64 0, .slice none 0 0] := hRr.far (by simp) _
            have x10 : wr.cell? ⟨w.heap.size, 10, none⟩ = some (.slice A0 n0 c0) := hXr.cell 10
            have xf : wr.frozen? ⟨w.heap.size, 10, none⟩ = false := hXr.frozen 10
            have y0 : (wr.setCell ⟨w.heap.size, 10, none⟩ (.slice A1 n0 c1)).cell? ⟨w.heap.size, 0, none⟩ = some (.int .u8 k0) := hXs.cell 0
            have y1 : (wr.setCell ⟨w.heap.size, 10, none⟩ (.slice A1 n0 c1)).cell? ⟨w.heap.size, 1, none⟩ = some (.string op0) := hXs.cell 1
            have y2 : (wr.setCell ⟨w.heap.size, 10, none⟩ (.slice A1 n0 c1)).cell? ⟨w.heap.size, 2, none⟩ = some (.bool no0) := hXs.cell 2
            have y3 : (wr.setCell ⟨w.heap.size, 10, none⟩ (.slice A1 n0 c1)).cell? ⟨w.heap.size, 3, none⟩ = some (.int .u8 vk0) := hXs.cell 3
            have y4 : (wr.setCell ⟨w.heap.size, 10, none⟩ (.slice A1 n0 c1)).cell? ⟨w.heap.size, 4, none⟩ = some (.int .i64 vi0) := hXs.cell 4
            have y5 : (wr.setCell ⟨w.heap.size, 10, none⟩ (.slice A1 n0 c1)).cell? ⟨w.heap.size, 5, none⟩ = some (.string vs0) := hXs.cell 5
            have y6 : (wr.setCell ⟨w.heap.size, 10, none⟩ (.slice A1 n0 c1)).cell? ⟨w.heap.size, 6, none⟩ = some (.string of0) := hXs.cell 6
            have y7 : (wr.setCell ⟨w.heap.size, 10, none⟩ (.slice A1 n0 c1)).cell? ⟨w.heap.size, 7, none⟩ = some (.string nm0) := hXs.cell 7
            have y8 : (wr.setCell ⟨w.heap.size, 10, none⟩ (.slice A1 n0 c1)).cell? ⟨w.heap.size, 8, none⟩ = some (.int .i64 tb0) := hXs.cell 8
            have y9 : (wr.setCell ⟨w.heap.size, 10, none⟩ (.slice A1 n0 c1)).cell? ⟨w.heap.size, 9, none⟩ = some (.int .i64 cl0) := hXs.cell 9
            have y10 : (wr.setCell ⟨w.heap.size, 10, none⟩ (.slice A1 n0 c1)).cell? ⟨w.heap.size, 10, none⟩ = some (.slice A1 n0 c1) := hXs.cell 10
            have z0 : (wr.setCell ⟨w.heap.size, 10, none⟩ (.slice A1 n0 c1)).cell? ⟨w.heap.size + 1, 0, none⟩ = some (.int .u8 0) := hRs.cell 0
            have zf0 : (wr.setCell ⟨w.heap.size, 10, none⟩ (.slice A1 n0 c1)).frozen? ⟨w.heap.size + 1, 0, none⟩ = false := hRs.frozen 0
            have z1 : (wr.setCell ⟨w.heap.size, 10, none⟩ (.slice A1 n0 c1)).cell? ⟨w.heap.size + 1, 1, none⟩ = some (.string ⟨#[]⟩) := hRs.cell 1
            have zf1 : (wr.setCell ⟨w.heap.size, 10, none⟩ (.slice A1 n0 c1)).frozen? ⟨w.heap.size + 1, 1, none⟩ = false := hRs.frozen 1
            have z2 : (wr.setCell ⟨w.heap.size, 10, none⟩ (.slice A1 n0 c1)).cell? ⟨w.heap.size + 1, 2, none⟩ = some (.bool false) := hRs.cell 2
            have zf2 : (wr.setCell ⟨w.heap.size, 10, none⟩ (.slice A1 n0 c1)).frozen? ⟨w.heap.size + 1, 2, none⟩ = false := hRs.frozen 2
            have z3 : (wr.setCell ⟨w.heap.size, 10, none⟩ (.slice A1 n0 c1)).cell? ⟨w.heap.size + 1, 3, none⟩ = some (.int .u8 0) := hRs.cell 3
            have zf3 : (wr.setCell ⟨w.heap.size, 10, none⟩ (.slice A1 n0 c1)).frozen? ⟨w.heap.size + 1, 3, none⟩ = false := hRs.frozen 3
            have z4 : (wr.setCell ⟨w.heap.size, 10, none⟩ (.slice A1 n0 c1)).cell? ⟨w.heap.size + 1, 4, none⟩ = some (.int .i64 0) := hRs.cell 4
            have zf4 : (wr.setCell ⟨w.heap.size, 10, none⟩ (.slice A1 n0 c1)).frozen? ⟨w.heap.size + 1, 4, none⟩ = false := hRs.frozen 4
            have z5 : (wr.setCell ⟨w.heap.size, 10, none⟩ (.slice A1 n0 c1)).cell? ⟨w.heap.size + 1, 5, none⟩ = some (.string ⟨#[]⟩) := hRs.cell 5
            have zf5 : (wr.setCell ⟨w.heap.size, 10, none⟩ (.slice A1 n0 c1)).frozen? ⟨w.heap.size + 1, 5, none⟩ = false := hRs.frozen 5
            have z6 : (wr.setCell ⟨w.heap.size, 10, none⟩ (.slice A1 n0 c1)).cell? ⟨w.heap.size + 1, 6, none⟩ = some (.string ⟨#[]⟩) := hRs.cell 6
            have zf6 : (wr.setCell ⟨w.heap.size, 10, none⟩ (.slice A1 n0 c1)).frozen? ⟨w.heap.size + 1, 6, none⟩ = false := hRs.frozen 6
            have z7 : (wr.setCell ⟨w.heap.size, 10, none⟩ (.slice A1 n0 c1)).cell? ⟨w.heap.size + 1, 7, none⟩ = some (.string ⟨#[]⟩) := hRs.cell 7
            have zf7 : (wr.setCell ⟨w.heap.size, 10, none⟩ (.slice A1 n0 c1)).frozen? ⟨w.heap.size + 1, 7, none⟩ = false := hRs.frozen 7
            have z8 : (wr.setCell ⟨w.heap.size, 10, none⟩ (.slice A1 n0 c1)).cell? ⟨w.heap.size + 1, 8, none⟩ = some (.int .i64 0) := hRs.cell 8
            have zf8 : (wr.setCell ⟨w.heap.size, 10, none⟩ (.slice A1 n0 c1)).frozen? ⟨w.heap.size + 1, 8, none⟩ = false := hRs.frozen 8
            have z9 : (wr.setCell ⟨w.heap.size, 10, none⟩ (.slice A1 n0 c1)).cell? ⟨w.heap.size + 1, 9, none⟩ = some (.int .i64 0) := hRs.cell 9
            have zf9 : (wr.setCell ⟨w.heap.size, 10, none⟩ (.slice A1 n0 c1)).frozen? ⟨w.heap.size + 1, 9, none⟩ = false := hRs.frozen 9
            have z10 : (wr.setCell ⟨w.heap.size, 10, none⟩ (.slice A1 n0 c1)).cell? ⟨w.heap.size + 1, 10, none⟩ = some (.slice none 0 0) := hRs.cell 10
            have zf10 : (wr.setCell ⟨w.heap.size, 10, none⟩ (.slice A1 n0 c1)).frozen? ⟨w.heap.size + 1, 10, none⟩ = false := hRs.frozen 10
            have hw1 : w.heap.size < wr.heap.size := by omega
            have hw2 : w.heap.size + 1 < wr.heap.size := by omega
            have HRS := Lib.hid (And.intro hRs (And.intro hXr hown))
            clear hXs hRs hXr hRr hown hc1 hcm
            go_wp2_with fail
            refine fold_fin (l2 := ts) HRS.out.1 (by simp) fun W' hfar hsz hbl => ?_
            have hfar2 : ∀ p : Addr, WT.heap.size ≤ p.block → W'.cell? p = wr.cell? p := fun p hp => by
              rw [hfar p (by omega)]
              exact World.cell?_setCell_other _ _ _ _ (fun e => by subst e; simp at hp; omega)
            have hsz2 : W'.heap.size = wr.heap.size := by rw [hsz]; simp [World.setCell]
            refine ⟨_, rfl, HF.out _ (.inr ⟨HNOT.out, rfl, ?_⟩), ?_, hbl w (by omega) (bset hbw (by simp) _)⟩
            · have := HO.out.2.1
              rw [List.take_of_length_le (by rw [HL.out]; exact Nat.le_refl _)] at this
              exact this
            · have hrq := readsQ_own HRS.out.2.2
              refine .mk _ A1 n0 c1 ts HOK.out HZ.out.1 HZ.out.2 ⟨hrq.1, fun h0 => ?_⟩ fun t ht => (HO.out.2.2 t ht).keep (fun b hbq => ⟨by omega, by omega⟩) fun p hp => hfar2 p hp.1
              obtain ⟨ad, hA, hqb, hcell⟩ := hrq.2 h0
              exact ⟨ad, hA, ⟨by omega, by omega⟩, fun j u hu => (hfar2 _ (by rw [block_of_add]; exact hqb.1)).trans (hcell j u hu)⟩
      | true =>
        obtain ⟨y, hy⟩ : ∃ y, o.getD zV = y := ⟨_, rfl⟩
        unfold retO at EE
        rw [hy] at EE
        have HOY := Lib.hid hy
        clear hy
        obtain ⟨yk, yi, ys⟩ := y
        simp only [Vl.agg] at EE
        cases o with
        | none =>
          simp only [Option.isSome_none] at EE
          obtain ⟨rfl, rfl, rfl⟩ : (0 : Int) = yk ∧ (0 : Int) = yi ∧ (⟨#[]⟩ : ByteArray) = ys := by
            have := HOY.out
            simp [zV] at this
            exact ⟨this.1, this.2.1, this.2.2⟩
          clear HOY
          go_enter Try.func16, Try.ntmps16
          go_wp2_with fail
          refine (CC.out _ hb0).mono ?_
          rintro e w1 ⟨rfl, hb1⟩
          have hX1 := blkOf hb1 (by simp only [alloc_size]; omega) hX0
          have hR1 := blkOf hb1 (by simp only [alloc_size]; omega) hR0
          have hbw1 := bto0 hb0 hb1
          have hz1 := hb1.size
          simp only [alloc_size] at hz1
          have x0 : w1.cell? ⟨w.heap.size, 0, none⟩ = some (.int .u8 k0) := hX1.cell 0
          have x1 : w1.cell? ⟨w.heap.size, 1, none⟩ = some (.string op0) := hX1.cell 1
          have x2 : w1.cell? ⟨w.heap.size, 2, none⟩ = some (.bool no0) := hX1.cell 2
          have x3 : w1.cell? ⟨w.heap.size, 3, none⟩ = some (.int .u8 vk0) := hX1.cell 3
          have x4 : w1.cell? ⟨w.heap.size, 4, none⟩ = some (.int .i64 vi0) := hX1.cell 4
          have x5 : w1.cell? ⟨w.heap.size, 5, none⟩ = some (.string vs0) := hX1.cell 5
          have x6 : w1.cell? ⟨w.heap.size, 6, none⟩ = some (.string of0) := hX1.cell 6
          have x7 : w1.cell? ⟨w.heap.size, 7, none⟩ = some (.string nm0) := hX1.cell 7
          have x8 : w1.cell? ⟨w.heap.size, 8, none⟩ = some (.int .i64 tb0) := hX1.cell 8
          have x9 : w1.cell? ⟨w.heap.size, 9, none⟩ = some (.int .i64 cl0) := hX1.cell 9
          have x10 : w1.cell? ⟨w.heap.size, 10, none⟩ = some (.slice A0 n0 c0) := hX1.cell 10
          go_wp2_with fail
          refine (EE.out _ hbw1).mono ?_
          rintro e w2 ⟨rfl, hb2⟩
          clear x0 x1 x2 x3 x4 x5 x6 x7 x8 x9 x10
          have hz2 := hb2.size
          have hXW : Blk (w2.alloc (.cells #[.int .u8 0, .int .i64 0, .string ⟨#[]⟩] 23)) w.heap.size 26 #[.int .u8 k0, .string op0, .bool no0, .int .u8 vk0, .int .i64 vi0, .string vs0, .string of0, .string nm0, .int .i64 tb0, .int .i64 cl0, .slice A0 n0 c0] := (blkOf hb2 hX1.lt hX1).alloc _
          have hRW : Blk (w2.alloc (.cells #[.int .u8 0, .int .i64 0, .string ⟨#[]⟩] 23)) (w.heap.size + 1) 26 #[.int .u8 0, .string ⟨#[]⟩, .bool false, .int .u8 0, .int .i64 0, .string ⟨#[]⟩, .string ⟨#[]⟩, .string ⟨#[]⟩, .int .i64 0, .int .i64 0, .slice none 0 0] := (blkOf hb2 hR1.lt hR1).alloc _
          have hbW : Below w.heap.size w (w2.alloc (.cells #[.int .u8 0, .int .i64 0, .string ⟨#[]⟩] 23)) := ball (bto0 hbw1 hb2) _
          have hzW : w.heap.size + 2 ≤ (w2.alloc (.cells #[.int .u8 0, .int .i64 0, .string ⟨#[]⟩] 23)).heap.size := by simp only [alloc_size]; omega
          clear hb0 hX0 hR0 hb1 hX1 hR1 hbw1 hb2
          have hnot : ¬ toV (f + 1) (Tm.mk ⟨k0, op0, no0, ⟨vk0, vi0, vs0⟩, of0, nm0, tb0, cl0⟩ A0 n0 c0 l0) := fun h => by (have := (HTV.out.1 h).2.2; cases this)
          have HNOT := Lib.hid hnot
          clear hnot HTV CC EE HV
          obtain ⟨WT, hWT⟩ : ∃ WT, WT = (w2.alloc (.cells #[.int .u8 0, .int .i64 0, .string ⟨#[]⟩] 23)) := ⟨_, rfl⟩
          have x10 : (w2.alloc (.cells #[.int .u8 0, .int .i64 0, .string ⟨#[]⟩] 23)).cell? ⟨w.heap.size, 10, none⟩ = some (.slice A0 n0 c0) := hXW.cell 10
          go_wp2_with fail
          clear x10
          try rw [← hWT]
          rw [← hWT] at hbW hXW hRW hzW
          clear hWT
          obtain ⟨i0, hi0, hz0, hs0, hy0⟩ := int_info8 Try.infoTm
          go_loopw [5, 26] (fun v i wr => ∃ (k : Nat) (ts : List Tm), k ≤ n0 ∧ i = .int .i64 k ∧ wr.ownsRow WT.heap.size 26 11 v k (vT ts) ∧ All2 (Fo f) (l0.take k) ts ∧ (∀ t ∈ ts, TmQ wr (fun b => WT.heap.size ≤ b ∧ b < wr.heap.size ∧ some b ≠ v.ownBlock) t) ∧ Below WT.heap.size WT wr) (fun _ i _ => n0 - (intOf i).toNat)
          case atStart => exact ⟨0, [], Nat.zero_le _, rfl, ⟨by simp [vT], .inl ⟨rfl, rfl⟩⟩, All2.nil, by simp, Below.refl _ _⟩
          case round =>
            obtain ⟨k, ts, hk, rfl, hown, hall, hq, hb⟩ := hrel
            have q0 : (0 : Int) ≤ (k : Int) := by omega
            have hbw := bto0 hbW hb
            have hzr := hb.size
            have HO := Lib.hid (And.intro hown (And.intro hall hq))
            clear hall hq
            by_cases hlt : k < n0
            · have q1 : (k : Int) < (n0 : Int) := by omega
              obtain ⟨ad, v1, rfl, hab, hv1, hat⟩ := (HR.out.below hbw).tm hlt
              have HC := Lib.hid fun (W : World) (hW : Below wr.heap.size wr W) => HI.out v1 W (List.mem_of_getElem? hv1) (bto0 hbw hW)
              have HV1 := Lib.hid hv1
              clear hv1
              obtain ⟨t1, ht1⟩ : ∃ t1, v1 = t1 := ⟨_, rfl⟩
              have HT1 := Lib.hid ht1
              clear ht1
              obtain ⟨⟨k1, op1, no1, ⟨vk1, vi1, vs1⟩, of1, nm1, tb1, cl1⟩, A1, n1, c1, l1⟩ := v1
              obtain ⟨y0, y1, y2, y3, y4, y5, y6, y7, y8, y9, y10⟩ := hat
              simp only [Tm.agg, TmH.agg, Tm.h, Tm.A, Tm.n, Tm.c] at HC y0 y1 y2 y3 y4 y5 y6 y7 y8 y9 y10
              go_wp2_with fail
              refine (HC.out _ (ball (Below.refl _ _) _)).mono ?_
              rintro e w1 ⟨t2, rfl, hfo, htq, hb1⟩
              have hbx : Below wr.heap.size wr w1 := bto0 (ball (Below.refl _ _) _) hb1
              have hown1 := own_below18 hown hbx
              have hz1 := hb1.size
              simp only [alloc_size] at hz1 htq
              have HFO := Lib.hid (And.intro hfo htq)
              clear hfo htq
              obtain ⟨⟨k2, op2, no2, ⟨vk2, vi2, vs2⟩, of2, nm2, tb2, cl2⟩, A2, n2, c2, l2⟩ := t2
              simp only [Tm.agg, TmH.agg, Tm.h, Tm.A, Tm.n, Tm.c]
              have hzb : WT.heap.size ≤ w1.heap.size := by omega
              go_wp2_with (at_builtin; refine wpList_pushR (news := [.int .u8 k2, .string op2, .bool no2, .int .u8 vk2, .int .i64 vi2, .string vs2, .string of2, .string nm2, .int .i64 tb2, .int .i64 cl2, .slice A2 n2 c2]) rfl (.tmp 30) (.tmp 33) 24 rfl WT.heap.size 26 i0 _ 11 136 Try.underlying24 hi0 hz0 hs0 hy0 rfl (by decide) u5 k _ rfl hown1 rfl w1.heap.size rfl rfl rfl (cells_oneT (Tm.mk ⟨k2, op2, no2, ⟨vk2, vi2, vs2⟩, of2, nm2, tb2, cl2⟩ A2 n2 c2 l2)) (by omega) (by omega) hzb ?_; intro v4 w4 hown4 hg4 hob4)
              go_roundw
              case rel =>
                have hz4 := hg4.size
                simp only [alloc_size] at hz4
                refine ⟨k + 1, ts ++ [(Tm.mk ⟨k2, op2, no2, ⟨vk2, vi2, vs2⟩, of2, nm2, tb2, cl2⟩ A2 n2 c2 l2)], by omega, by go_num, ?_, HO.out.2.1.snoc HV1.out HFO.out.1, ?_, ?_⟩
                · rw [vT_app, vT_one]; exact hown4
                · intro t ht
                  have hfar : ∀ p : Addr, p.block < w1.heap.size → some p.block ≠ u5.ownBlock → w4.cell? p = w1.cell? p := fun p hp hne => by
                    rw [World.cell?_of_block (hg4.block p.block (by simp only [alloc_size]; omega) hne)]
                    exact World.cell?_alloc_lt _ _ p hp
                  have hnew : ∀ b, b < w1.heap.size → some b ≠ u5.ownBlock → some b ≠ v4.ownBlock := fun b hbz hne => by
                    rcases hob4 with h | h
                    · rw [h]; exact hne
                    · rw [h]; intro e; injection e with e; omega
                  rcases List.mem_append.1 ht with ht | ht
                  · refine (HO.out.2.2 t ht).keep (fun b hbq => ⟨hbq.1, by omega, hnew b (by omega) hbq.2.2⟩) fun p hp => ?_
                    rw [hfar p (by omega) hp.2.2]
                    exact hbx.cell hp.2.1
                  · rw [List.mem_singleton] at ht
                    subst ht
                    have hne : ∀ b, wr.heap.size + 1 ≤ b → some b ≠ u5.ownBlock := fun b hbz e => by (have := (HO.out.1.lt b e.symm).2; omega)
                    refine HFO.out.2.keep (fun b hbq => ⟨by omega, by omega, hnew b hbq.2 (hne b hbq.1)⟩) fun p hp => hfar p hp.2 (hne _ hp.1)
                · exact (ball (bto0 hb hbx) _).grown hg4 (by simp only [alloc_size]; omega) fun g hgg => (hown1.lt g hgg).1
              case measure => simp [intOf]; omega
            · obtain rfl : n0 = k := by omega
              obtain ⟨A1, c1, rfl, hc1, hcm⟩ := own_cap hown
              have HZ := Lib.hid (And.intro hc1 hcm)
              have hXr := blkOf hb (by omega) hXW
              have hRr := blkOf hb (by omega) hRW
              have hXs : Blk (wr.setCell ⟨w.heap.size, 10, none⟩ (.slice A1 n0 c1)) w.heap.size 26 #[.int .u8 k0, .string op0, .bool no0, .int .u8 vk0, .int .i64 vi0, .string vs0, .string of0, .string nm0, .int .i64 tb0, .int .i64 cl0, .slice A1 n0 c1] := by
                have T := hXr.set_ 10 (.slice A1 n0 c1)
                simp only [List.setIfInBounds_toArray, List.set_cons_zero, List.set_cons_succ] at T
                exact T
              have hRs : Blk (wr.setCell ⟨w.heap.size, 10, none⟩ (.slice A1 n0 c1)) (w.heap.size + 1) 26 #[.int .u8 0, .string ⟨#[]⟩, .bool false, .int .u8 0, .int .i64 0, .string ⟨#[]⟩, .string ⟨#[]⟩, .string ⟨#[]⟩, .int .i64 0, .int .i64 0, .slice none 0 0] := hRr.far (by simp) _
              have x10 : wr.cell? ⟨w.heap.size, 10, none⟩ = some (.slice A0 n0 c0) := hXr.cell 10
              have xf : wr.frozen? ⟨w.heap.size, 10, none⟩ = false := hXr.frozen 10
              have y0 : (wr.setCell ⟨w.heap.size, 10, none⟩ (.slice A1 n0 c1)).cell? ⟨w.heap.size, 0, none⟩ = some (.int .u8 k0) := hXs.cell 0
              have y1 : (wr.setCell ⟨w.heap.size, 10, none⟩ (.slice A1 n0 c1)).cell? ⟨w.heap.size, 1, none⟩ = some (.string op0) := hXs.cell 1
              have y2 : (wr.setCell ⟨w.heap.size, 10, none⟩ (.slice A1 n0 c1)).cell? ⟨w.heap.size, 2, none⟩ = some (.bool no0) := hXs.cell 2
              have y3 : (wr.setCell ⟨w.heap.size, 10, none⟩ (.slice A1 n0 c1)).cell? ⟨w.heap.size, 3, none⟩ = some (.int .u8 vk0) := hXs.cell 3
              have y4 : (wr.setCell ⟨w.heap.size, 10, none⟩ (.slice A1 n0 c1)).cell? ⟨w.heap.size, 4, none⟩ = some (.int .i64 vi0) := hXs.cell 4
              have y5 : (wr.setCell ⟨w.heap.size, 10, none⟩ (.slice A1 n0 c1)).cell? ⟨w.heap.size, 5, none⟩ = some (.string vs0) := hXs.cell 5
              have y6 : (wr.setCell ⟨w.heap.size, 10, none⟩ (.slice A1 n0 c1)).cell? ⟨w.heap.size, 6, none⟩ = some (.string of0) := hXs.cell 6
              have y7 : (wr.setCell ⟨w.heap.size, 10, none⟩ (.slice A1 n0 c1)).cell? ⟨w.heap.size, 7, none⟩ = some (.string nm0) := hXs.cell 7
              have y8 : (wr.setCell ⟨w.heap.size, 10, none⟩ (.slice A1 n0 c1)).cell? ⟨w.heap.size, 8, none⟩ = some (.int .i64 tb0) := hXs.cell 8
              have y9 : (wr.setCell ⟨w.heap.size, 10, none⟩ (.slice A1 n0 c1)).cell? ⟨w.heap.size, 9, none⟩ = some (.int .i64 cl0) := hXs.cell 9
              have y10 : (wr.setCell ⟨w.heap.size, 10, none⟩ (.slice A1 n0 c1)).cell? ⟨w.heap.size, 10, none⟩ = some (.slice A1 n0 c1) := hXs.cell 10
              have z0 : (wr.setCell ⟨w.heap.size, 10, none⟩ (.slice A1 n0 c1)).cell? ⟨w.heap.size + 1, 0, none⟩ = some (.int .u8 0) := hRs.cell 0
              have zf0 : (wr.setCell ⟨w.heap.size, 10, none⟩ (.slice A1 n0 c1)).frozen? ⟨w.heap.size + 1, 0, none⟩ = false := hRs.frozen 0
              have z1 : (wr.setCell ⟨w.heap.size, 10, none⟩ (.slice A1 n0 c1)).cell? ⟨w.heap.size + 1, 1, none⟩ = some (.string ⟨#[]⟩) := hRs.cell 1
              have zf1 : (wr.setCell ⟨w.heap.size, 10, none⟩ (.slice A1 n0 c1)).frozen? ⟨w.heap.size + 1, 1, none⟩ = false := hRs.frozen 1
              have z2 : (wr.setCell ⟨w.heap.size, 10, none⟩ (.slice A1 n0 c1)).cell? ⟨w.heap.size + 1, 2, none⟩ = some (.bool false) := hRs.cell 2
              have zf2 : (wr.setCell ⟨w.heap.size, 10, none⟩ (.slice A1 n0 c1)).frozen? ⟨w.heap.size + 1, 2, none⟩ = false := hRs.frozen 2
              have z3 : (wr.setCell ⟨w.heap.size, 10, none⟩ (.slice A1 n0 c1)).cell? ⟨w.heap.size + 1, 3, none⟩ = some (.int .u8 0) := hRs.cell 3
              have zf3 : (wr.setCell ⟨w.heap.size, 10, none⟩ (.slice A1 n0 c1)).frozen? ⟨w.heap.size + 1, 3, none⟩ = false := hRs.frozen 3
              have z4 : (wr.setCell ⟨w.heap.size, 10, none⟩ (.slice A1 n0 c1)).cell? ⟨w.heap.size + 1, 4, none⟩ = some (.int .i64 0) := hRs.cell 4
              have zf4 : (wr.setCell ⟨w.heap.size, 10, none⟩ (.slice A1 n0 c1)).frozen? ⟨w.heap.size + 1, 4, none⟩ = false := hRs.frozen 4
              have z5 : (wr.setCell ⟨w.heap.size, 10, none⟩ (.slice A1 n0 c1)).cell? ⟨w.heap.size + 1, 5, none⟩ = some (.string ⟨#[]⟩) := hRs.cell 5
              have zf5 : (wr.setCell ⟨w.heap.size, 10, none⟩ (.slice A1 n0 c1)).frozen? ⟨w.heap.size + 1, 5, none⟩ = false := hRs.frozen 5
              have z6 : (wr.setCell ⟨w.heap.size, 10, none⟩ (.slice A1 n0 c1)).cell? ⟨w.heap.size + 1, 6, none⟩ = some (.string ⟨#[]⟩) := hRs.cell 6
              have zf6 : (wr.setCell ⟨w.heap.size, 10, none⟩ (.slice A1 n0 c1)).frozen? ⟨w.heap.size + 1, 6, none⟩ = false := hRs.frozen 6
              have z7 : (wr.setCell ⟨w.heap.size, 10, none⟩ (.slice A1 n0 c1)).cell? ⟨w.heap.size + 1, 7, none⟩ = some (.string ⟨#[]⟩) := hRs.cell 7
              have zf7 : (wr.setCell ⟨w.heap.size, 10, none⟩ (.slice A1 n0 c1)).frozen? ⟨w.heap.size + 1, 7, none⟩ = false := hRs.frozen 7
              have z8 : (wr.setCell ⟨w.heap.size, 10, none⟩ (.slice A1 n0 c1)).cell? ⟨w.heap.size + 1, 8, none⟩ = some (.int .i64 0) := hRs.cell 8
              have zf8 : (wr.setCell ⟨w.heap.size, 10, none⟩ (.slice A1 n0 c1)).frozen? ⟨w.heap.size + 1, 8, none⟩ = false := hRs.frozen 8
              have z9 : (wr.setCell ⟨w.heap.size, 10, none⟩ (.slice A1 n0 c1)).cell? ⟨w.heap.size + 1, 9, none⟩ = some (.int .i64 0) := hRs.cell 9
              have zf9 : (wr.setCell ⟨w.heap.size, 10, none⟩ (.slice A1 n0 c1)).frozen? ⟨w.heap.size + 1, 9, none⟩ = false := hRs.frozen 9
              have z10 : (wr.setCell ⟨w.heap.size, 10, none⟩ (.slice A1 n0 c1)).cell? ⟨w.heap.size + 1, 10, none⟩ = some (.slice none 0 0) := hRs.cell 10
              have zf10 : (wr.setCell ⟨w.heap.size, 10, none⟩ (.slice A1 n0 c1)).frozen? ⟨w.heap.size + 1, 10, none⟩ = false := hRs.frozen 10
              have hw1 : w.heap.size < wr.heap.size := by omega
              have hw2 : w.heap.size + 1 < wr.heap.size := by omega
              have HRS := Lib.hid (And.intro hRs (And.intro hXr hown))
              clear hXs hRs hXr hRr hown hc1 hcm
              go_wp2_with fail
              refine fold_fin (l2 := ts) HRS.out.1 (by simp) fun W' hfar hsz hbl => ?_
              have hfar2 : ∀ p : Addr, WT.heap.size ≤ p.block → W'.cell? p = wr.cell? p := fun p hp => by
                rw [hfar p (by omega)]
                exact World.cell?_setCell_other _ _ _ _ (fun e => by subst e; simp at hp; omega)
              have hsz2 : W'.heap.size = wr.heap.size := by rw [hsz]; simp [World.setCell]
              refine ⟨_, rfl, HF.out _ (.inr ⟨HNOT.out, rfl, ?_⟩), ?_, hbl w (by omega) (bset hbw (by simp) _)⟩
              · have := HO.out.2.1
                rw [List.take_of_length_le (by rw [HL.out]; exact Nat.le_refl _)] at this
                exact this
              · have hrq := readsQ_own HRS.out.2.2
                refine .mk _ A1 n0 c1 ts HOK.out HZ.out.1 HZ.out.2 ⟨hrq.1, fun h0 => ?_⟩ fun t ht => (HO.out.2.2 t ht).keep (fun b hbq => ⟨by omega, by omega⟩) fun p hp => hfar2 p hp.1
                obtain ⟨ad, hA, hqb, hcell⟩ := hrq.2 h0
                exact ⟨ad, hA, ⟨by omega, by omega⟩, fun j u hu => (hfar2 _ (by rw [block_of_add]; exact hqb.1)).trans (hcell j u hu)⟩
        | some y =>
          simp only [Option.isSome_some] at EE
          obtain rfl : y = ⟨yk, yi, ys⟩ := by have := HOY.out; simpa using this
          clear HOY
          go_enter Try.func16, Try.ntmps16
          go_wp2_with fail
          refine (CC.out _ hb0).mono ?_
          rintro e w1 ⟨rfl, hb1⟩
          have hX1 := blkOf hb1 (by simp only [alloc_size]; omega) hX0
          have hR1 := blkOf hb1 (by simp only [alloc_size]; omega) hR0
          have hbw1 := bto0 hb0 hb1
          have hz1 := hb1.size
          simp only [alloc_size] at hz1
          have x0 : w1.cell? ⟨w.heap.size, 0, none⟩ = some (.int .u8 k0) := hX1.cell 0
          have x1 : w1.cell? ⟨w.heap.size, 1, none⟩ = some (.string op0) := hX1.cell 1
          have x2 : w1.cell? ⟨w.heap.size, 2, none⟩ = some (.bool no0) := hX1.cell 2
          have x3 : w1.cell? ⟨w.heap.size, 3, none⟩ = some (.int .u8 vk0) := hX1.cell 3
          have x4 : w1.cell? ⟨w.heap.size, 4, none⟩ = some (.int .i64 vi0) := hX1.cell 4
          have x5 : w1.cell? ⟨w.heap.size, 5, none⟩ = some (.string vs0) := hX1.cell 5
          have x6 : w1.cell? ⟨w.heap.size, 6, none⟩ = some (.string of0) := hX1.cell 6
          have x7 : w1.cell? ⟨w.heap.size, 7, none⟩ = some (.string nm0) := hX1.cell 7
          have x8 : w1.cell? ⟨w.heap.size, 8, none⟩ = some (.int .i64 tb0) := hX1.cell 8
          have x9 : w1.cell? ⟨w.heap.size, 9, none⟩ = some (.int .i64 cl0) := hX1.cell 9
          have x10 : w1.cell? ⟨w.heap.size, 10, none⟩ = some (.slice A0 n0 c0) := hX1.cell 10
          go_wp2_with fail
          refine (EE.out _ hbw1).mono ?_
          rintro e w2 ⟨rfl, hb2⟩
          clear x0 x1 x2 x3 x4 x5 x6 x7 x8 x9 x10
          have hz2 := hb2.size
          have hRW : Blk w2 (w.heap.size + 1) 26 #[.int .u8 0, .string ⟨#[]⟩, .bool false, .int .u8 0, .int .i64 0, .string ⟨#[]⟩, .string ⟨#[]⟩, .string ⟨#[]⟩, .int .i64 0, .int .i64 0, .slice none 0 0] := blkOf hb2 hR1.lt hR1
          have hbW : Below w.heap.size w w2 := bto0 hbw1 hb2
          have z0 : w2.cell? ⟨w.heap.size + 1, 0, none⟩ = some (.int .u8 0) := hRW.cell 0
          have zf0 : w2.frozen? ⟨w.heap.size + 1, 0, none⟩ = false := hRW.frozen 0
          have z1 : w2.cell? ⟨w.heap.size + 1, 1, none⟩ = some (.string ⟨#[]⟩) := hRW.cell 1
          have zf1 : w2.frozen? ⟨w.heap.size + 1, 1, none⟩ = false := hRW.frozen 1
          have z2 : w2.cell? ⟨w.heap.size + 1, 2, none⟩ = some (.bool false) := hRW.cell 2
          have zf2 : w2.frozen? ⟨w.heap.size + 1, 2, none⟩ = false := hRW.frozen 2
          have z3 : w2.cell? ⟨w.heap.size + 1, 3, none⟩ = some (.int .u8 0) := hRW.cell 3
          have zf3 : w2.frozen? ⟨w.heap.size + 1, 3, none⟩ = false := hRW.frozen 3
          have z4 : w2.cell? ⟨w.heap.size + 1, 4, none⟩ = some (.int .i64 0) := hRW.cell 4
          have zf4 : w2.frozen? ⟨w.heap.size + 1, 4, none⟩ = false := hRW.frozen 4
          have z5 : w2.cell? ⟨w.heap.size + 1, 5, none⟩ = some (.string ⟨#[]⟩) := hRW.cell 5
          have zf5 : w2.frozen? ⟨w.heap.size + 1, 5, none⟩ = false := hRW.frozen 5
          have z6 : w2.cell? ⟨w.heap.size + 1, 6, none⟩ = some (.string ⟨#[]⟩) := hRW.cell 6
          have zf6 : w2.frozen? ⟨w.heap.size + 1, 6, none⟩ = false := hRW.frozen 6
          have z7 : w2.cell? ⟨w.heap.size + 1, 7, none⟩ = some (.string ⟨#[]⟩) := hRW.cell 7
          have zf7 : w2.frozen? ⟨w.heap.size + 1, 7, none⟩ = false := hRW.frozen 7
          have z8 : w2.cell? ⟨w.heap.size + 1, 8, none⟩ = some (.int .i64 0) := hRW.cell 8
          have zf8 : w2.frozen? ⟨w.heap.size + 1, 8, none⟩ = false := hRW.frozen 8
          have z9 : w2.cell? ⟨w.heap.size + 1, 9, none⟩ = some (.int .i64 0) := hRW.cell 9
          have zf9 : w2.frozen? ⟨w.heap.size + 1, 9, none⟩ = false := hRW.frozen 9
          have z10 : w2.cell? ⟨w.heap.size + 1, 10, none⟩ = some (.slice none 0 0) := hRW.cell 10
          have zf10 : w2.frozen? ⟨w.heap.size + 1, 10, none⟩ = false := hRW.frozen 10
          have hw2 : w.heap.size + 1 < w2.heap.size := by omega
          have HRW := Lib.hid hRW
          clear hRW hb0 hX0 hR0 hb1 hX1 hR1 hbw1 hb2
          go_wp2_with fail
          exact fold_end (R := w.heap.size + 1) (by (with_reducible refine Blk.alloc ?_ _); exact blk11 HRW.out) (by simp) ⟨litT ⟨yk, yi, ys⟩, rfl, HF.out _ (.inl ⟨HTV.out.2 ⟨h1, (by first | trivial | rfl), (by first | trivial | rfl)⟩, _, rfl, rfl⟩), litT_in (HV.out _ rfl).1 _ _, by with_reducible repeat (first | exact hbW | refine ball ?_ _ | refine bset ?_ (Nat.le_add_right _ _) _)⟩
end Go.Proofs.Ytilopgfpifhccaa
