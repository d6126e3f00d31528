/-
  Several texts in one: B20 B22 B23 B24 B25 B26 B27 B28 B36 B37 B30 B31.
-/
import Derived.Test.YtebobcbaloddaaaMubr
import Derived.Test.YtebobcbaloddaaaMuai
import Derived.Test.YtebobcbaloddaaaMubi
import Derived.Test.YtebobcbaloddaaaMuaz
import Derived.IntWalk
import Derived.Deep.DeepCutAuto
import Derived.BigQuiet
/-
  Trees: contract of the checker's page, by fuel.
-/
namespace Go.Proofs.Ytebobcbaloddaaa
section
set_option linter.unusedSimpArgs false
set_option linter.unusedVariables false
open Go.RowKit Go.Maps

theorem rdPg_bd {L : List UInt8} (hL : L.length = 512) {N : Nat} {es : List En} (h : rdPg L = some (.leaf N es)) : N < 4294967296 := by
  unfold rdPg at h
  split at h
  · split at h
    · injection h with h
      injection h with h1 h2
      rw [← h1]
      unfold hdN
      exact beVal_lt_of (n := 4) (by rw [List.length_take]; omega)
    · cases h
  · split at h
    · split at h
      · injection h with h; cases h
      · cases h
    · cases h
theorem ckKids_ok {n : Nat} {F : Nat → Bnd → Ck → Option Ck} {seps : List En} {b : Bnd} (HF : ∀ page b st s, CkOk n st → F page b st = some s → CkOk n s) : ∀ (l : List Nat) (i : Nat) (st s : Ck), CkOk n st → ckKids F seps b l i st = some s → CkOk n s
  | [], i, st, s, h, hs => by injection hs with hs; rw [← hs]; exact h
  | x :: r, i, st, s, h, hs => by
    unfold ckKids at hs
    cases hx : F x (bChild b seps i) st with
    | none => rw [hx] at hs; cases hs
    | some s1 =>
      rw [hx] at hs
      exact ckKids_ok HF r (i + 1) s1 s (HF x _ st s1 h hx) hs
theorem mark_ok {n page : Nat} {st : Ck} (h : CkOk n st) (hp : page < n) (hm : st.met[page]? ≠ some true) : CkOk n { st with met := st.met.set page true, pgs := st.pgs + 1 } := by
  have hf : st.met[page]? = some false := by
    obtain ⟨b, hb⟩ : ∃ b, st.met[page]? = some b := ⟨_, List.getElem?_eq_getElem (by rw [h.ml]; exact hp)⟩
    cases b
    · exact hb
    · exact absurd hb hm
  refine ⟨?_, by simp [h.ml], ?_, h.hi, h.nx⟩
  · simp only [trues_set _ _ hf, h.pg]
  · have := h.lv; simp only; omega
theorem ckP_ok {n : Nat} {ps : List (List UInt8)} (hps : ps.length = n) (hfull : Full ps) : ∀ (f page deep : Nat) (b : Bnd) (st s : Ck), deep ≤ 12 → CkOk n st → ckP ps f page deep b st = some s → CkOk n s
  | 0, _, _, _, _, _, _, _, h => by cases h
  | f + 1, page, deep, b, st, s, hd, hok, h => by
    unfold ckP at h
    cases hq : ps[page]? with
    | none => rw [hq] at h; cases h
    | some q =>
      rw [hq] at h
      simp only at h
      have hp : page < n := by rw [← hps]; exact lt_of_at hq
      by_cases hm : st.met[page]? = some true
      · rw [if_pos hm] at h; cases h
      · rw [if_neg hm] at h
        have hok1 := mark_ok hok hp hm
        cases hr : rdPg q with
        | none => rw [hr] at h; cases h
        | some pc =>
          rw [hr] at h
          cases pc with
          | leaf N es =>
            simp only at h
            unfold ckLeaf at h
            split at h
            · injection h with h
              subst h
              have hN := rdPg_bd (hfull q (List.mem_of_getElem? hq)) hr
              refine ⟨hok1.pg, hok1.ml, by have := hok.lv; simp only; omega, ?_, hN⟩
              simp only
              split
              · exact hd
              · exact hok.hi
            · cases h
          | inner c0 prs =>
            simp only at h
            split at h
            · cases h
            · rename_i hne
              exact ckKids_ok (fun page b st s h1 h2 => ckP_ok hps hfull f page (deep + 1) b st s (by omega) h1 h2) _ _ _ _ hok1 h
section
variable {w0 w : World} {lo gp gd gb gt n : Nat} {ps : List (List UInt8)} {T : List Bool} {gm size : Nat} {K0 : List Fr} {c gc gq m : Nat} {st : Ck} {v : Value}
set_option maxRecDepth 100000 in
set_option maxHeartbeats 8000000 in
theorem ckPage_step (f deep : Nat) (hd : deep ≤ 12) (hps : ps.length = n) (hfull : Full ps) (hm : m ≤ 800000)
    (HF : deep < 12 → ∀ (W : World) (st : Ck) (v : Value) (c page : Nat) (b : Bnd), CS w0 lo gp gd gb gt n ps T gm size K0 c gc gq st v W → CkOk n st → c ≤ m + st.pgs → page < 4294967296 →
      Calls Try.prog 28 #[.pointer (some ⟨gc, 0, none⟩), .int .u32 page, .int .i64 (deep + 1 : Nat), b.agg] W (RetCk w0 lo gp gd gb gt n ps T gm size K0 gc gq m W v (ckP ps f page (deep + 1) b st)))
    (h : CS w0 lo gp gd gb gt n ps T gm size K0 c gc gq st v w) (hok : CkOk n st) (hn : n ≤ 1000) (hc : c ≤ m + st.pgs) (page : Nat) (hp : page < 4294967296) (b : Bnd) :
    Calls Try.prog 28 #[.pointer (some ⟨gc, 0, none⟩), .int .u32 page, .int .i64 deep, b.agg] w (RetCk w0 lo gp gd gb gt n ps T gm size K0 gc gq m w v (ckP ps (f + 1) page deep b st)) := by
  have hb0 := ball (Below.refl w.heap.size w) (.cells b.arr 91)
  have X0 := Blk.new w 91 b.arr
  have h1 := h.below hb0
  have hpt := trues_le st.met
  rw [hok.ml, ← hok.pg] at hpt
  have G := Lib.hid (h1.get hn (by omega) page (by omega))
  have HE : Hid (ckP ps (f + 1) page deep b st = match ps[page]? with
    | none => none
    | some q =>
      if st.met[page]? = some true then none
      else match rdPg q with
        | none => none
        | some (.leaf N es) => ckLeaf page deep N es b { st with met := st.met.set page true, pgs := st.pgs + 1 }
        | some (.inner c0 prs) => if deep = 12 ∨ deep = st.hi then none else ckKids (fun c b' st' => ckP ps f c (deep + 1) b' st') (prs.map Prod.fst) b (c0 :: prs.map Prod.snd) 0 { st with met := st.met.set page true, pgs := st.pgs + 1 }) := Lib.hid (by rw [ckP]; rfl)
  obtain ⟨R, hR⟩ : ∃ R, ckP ps (f + 1) page deep b st = R := ⟨_, rfl⟩
  rw [hR] at HE ⊢
  clear hR
  have c0 : (w.alloc (.cells b.arr 91)).cell? ⟨gc, 0, none⟩ = some (.pointer (some ⟨gp, 0, none⟩)) := h1.cb.cell 0
  have hdI : (deep : Int) ≤ 12 := by omega
  have hdI0 : (0 : Int) ≤ (deep : Int) := by omega
  have hgc := h.cb.lt
  have H0 := Lib.hid (And.intro h1 (And.intro X0 (And.intro hb0 (And.intro hok hp))))
  have Hm := Lib.hid (And.intro hm (And.intro hn (And.intro hc (And.intro hpt hd))))
  have HFh := Lib.hid HF
  have k0 : w.cell? ⟨gc, 0, none⟩ = some (.pointer (some ⟨gp, 0, none⟩)) := h.cb.cell 0
  clear h h1 X0 hb0 hok hp HF hm hc hpt c0
  obtain ⟨⟨s1, q1, r1⟩, ⟨s2, q2, r2⟩, en⟩ := b
  unfold Bnd.agg
  unfold Bnd.arr at G H0
  simp only at G H0
  go_enter Try.func28, Try.ntmps28
  go_wp2_with fail
  refine G.out.mono ?_
  rintro e w1 ⟨u, r, rfl, gv, hC1, hE1⟩
  have hE01 := (Evo.of_below (gm := gm) (gc := gc) (gq := gq) (v := v) H0.out.2.2.1).trans hE1 (.inl rfl)
  clear G k0
  rcases gv with ⟨hpn, A, cA, q, hq, rfl, rfl, own1, hcA⟩ | ⟨hpn, rfl, rfl⟩
  · have hpI : (page : Int) < (n : Int) := by omega
    have hpI0 : (0 : Int) ≤ (page : Int) := by omega
    have g0 : w1.cell? ⟨gc, 0, none⟩ = some (.pointer (some ⟨gp, 0, none⟩)) := hC1.cb.cell 0
    have g1 : w1.cell? ⟨gc, 1, none⟩ = some (.slice (some ⟨gq, 0, none⟩) n n) := hC1.cb.cell 1
    obtain ⟨mb, hmb⟩ : ∃ mb, st.met[page]? = some mb := ⟨_, List.getElem?_eq_getElem (by rw [H0.out.2.2.2.1.ml]; exact hpn)⟩
    have gm0 : w1.cell? ⟨gq, page, none⟩ = some (.bool mb) := (hC1.qb.cell page).trans (tV_at hmb)
    cases mb
    · have hnm : st.met[page]? ≠ some true := by rw [hmb]; simp
      have hok1 := mark_ok H0.out.2.2.2.1 hpn hnm
      -- the mark
      have fq := hC1.qb.frozen page
      have lq := hC1.qb.lt
      have fc5 := hC1.cb.frozen 5
      have lc := hC1.cb.lt
      have hC2 := hC1.setq page
      have hE2 := hE01.trans (Evo.of_set (w := w1) (gm := gm) (gc := gc) (gq := gq) (v := v) (p := ⟨gq, page, none⟩) (.bool true) (.inr rfl)) (.inl rfl)
      have hqc : gq ≠ gc := by rintro rfl; exact hC1.qb.ne_ hC1.cb (by decide) rfl
      have hqu : ∀ g cs, Blk w1 g 5 cs → g ≠ gq := fun g cs hb => hb.ne_ hC1.qb (by decide)
      have hcu : ∀ g cs, Blk w1 g 5 cs → g ≠ gc := fun g cs hb => hb.ne_ hC1.cb (by decide)
      have own2 : Own (w1.setCell ⟨gq, page, none⟩ (.bool true)) _ (.slice A 512 cA) q := own1.stays fun g cs _ hb => Below.heap_setCell _ _ _ _ (hqu g cs hb)
      have x2 : w1.cell? ⟨gc, 5, none⟩ = some (.int .i64 (st.pgs : Int)) := hC1.cb.cell 5
      have hs : Hid ((ckArr gp gq n v { st with met := st.met.set page true }).setIfInBounds 5 (.int .i64 ((st.pgs : Int) + 1)) = ckArr gp gq n v { st with met := st.met.set page true, pgs := st.pgs + 1 }) := Lib.hid (by simp [ckArr])
      have hC3 := hC2.setc 5 (.int .i64 ((st.pgs : Int) + 1)) hs.out rfl rfl (Nat.le_refl _)
      have hE3 := hE2.trans (Evo.of_set (w := (w1.setCell ⟨gq, page, none⟩ (.bool true))) (gm := gm) (gc := gc) (gq := gq) (v := v) (p := ⟨gc, 5, none⟩) (.int .i64 ((st.pgs : Int) + 1)) (.inl rfl)) (.inl rfl)
      have own3 : Own ((w1.setCell ⟨gq, page, none⟩ (.bool true)).setCell ⟨gc, 5, none⟩ (.int .i64 ((st.pgs : Int) + 1))) _ (.slice A 512 cA) q := own2.stays fun g cs _ hb => Below.heap_setCell _ _ _ _ (by rintro rfl; exact hb.ne_ hC2.cb (by decide) rfl)
      have hX1 := hE1.blk H0.out.2.1 (by decide) (by decide) (H0.out.1.ne_m H0.out.2.1) (H0.out.1.ne_c H0.out.2.1 (by decide)) (H0.out.1.ne_q H0.out.2.1 (by decide)) (H0.out.1.ne_v H0.out.2.1 (by decide))
      have hX3 := (hX1.far (p := ⟨gq, page, none⟩) (hX1.ne_ hC1.qb (by decide)) (.bool true)).far (p := ⟨gc, 5, none⟩) (hX1.ne_ hC1.cb (by decide)) (.int .i64 ((st.pgs : Int) + 1))
      have hpgs : (st.pgs : Int) ≤ 1000 := by have := Hm.out; omega
      have hpgs0 : (0 : Int) ≤ (st.pgs : Int) := by omega
      have HQ := Lib.hid (And.intro hq (And.intro hmb (And.intro hpn (And.intro hnm hok1))))
      have H3 := Lib.hid (And.intro hC3 (And.intro hE3 (And.intro own3 hX3)))
      have hcA' := hcA
      clear hC1 hE1 hE01 own1 own2 hC2 hE2 hC3 hE3 own3 hX1 hX3 hq hmb hnm hok1 hqu hcu hpn
      go_wp2_with fail
      obtain ⟨w3, hw3⟩ : ∃ w3, ((w1.setCell ⟨gq, page, none⟩ (.bool true)).setCell ⟨gc, 5, none⟩ (.int .i64 ((st.pgs : Int) + 1))) = w3 := ⟨_, rfl⟩
      rw [hw3] at H3 ⊢
      clear hw3 fq lq fc5 lc g0 g1 gm0 x2 hqc
      have OP := Lib.hid (open_any (triF A 512 cA q w3 H3.out.2.2.1.reads.1 (by omega) hcA'))
      have HTF := Lib.hid (triF A 512 cA q w3 H3.out.2.2.1.reads.1 (by omega) hcA')
      obtain ⟨st1, hst1⟩ : ∃ st1, ({ st with met := st.met.set page true, pgs := st.pgs + 1 } : Ck) = st1 := ⟨_, rfl⟩
      have hpg1 : st1.pgs = st.pgs + 1 := by rw [← hst1]
      have hlv1 : st1.lv = st.lv ∧ st1.hi = st.hi ∧ st1.nx = st.nx := by rw [← hst1]; exact ⟨rfl, rfl, rfl⟩
      have HR0 : Hid (R = match rdPg q with
        | none => none
        | some (.leaf N es) => ckLeaf page deep N es ⟨⟨s1, q1, r1⟩, ⟨s2, q2, r2⟩, en⟩ st1
        | some (.inner c0 prs) => if deep = 12 ∨ deep = st1.hi then none else ckKids (fun c b' st' => ckP ps f c (deep + 1) b' st') (prs.map Prod.fst) ⟨⟨s1, q1, r1⟩, ⟨s2, q2, r2⟩, en⟩ (c0 :: prs.map Prod.snd) 0 st1) := by
        refine Lib.hid ?_
        rw [HE.out, HQ.out.1, hlv1.2.1]
        simp only
        rw [if_neg HQ.out.2.2.2.1, ← hst1]
      have H3' := Lib.hid (And.intro H3.out.1 (And.intro H3.out.2.1 (And.intro H3.out.2.2.2 HQ.out.2.2.2.2)))
      rw [hst1] at H3'
      have HP1 := Lib.hid (And.intro hpg1 hlv1)
      unfold TriF at HTF
      clear HE HQ H3 hst1 hs hpg1 hlv1
      generalize rdPg q = RQ at *
      rcases RQ with _ | ⟨N, es⟩ | ⟨c0, prs⟩
      · simp only at HR0
        go_wp2_with fail
        refine OP.out.mono ?_
        rintro e w4 ⟨rfl, hb4⟩
        unfold nd0
        have hb5 := ball hb4 (.cells #[.bool false, .int .u32 0, .slice none 0 0, .slice none 0 0] 111)
        have HH := Lib.hid (And.intro (H3'.out.1.below hb5) (H3'.out.2.1.trans (Evo.of_below (gm := gm) (gc := gc) (gq := gq) (v := v) hb5) (.inl rfl)))
        clear hb5
        clear hb4 OP
        go_wp2
        go_ret
        rw [HR0.out]
        have := Hm.out
        have := HP1.out
        exact ⟨st1, v, c + 1, HH.out.1, HH.out.2, .inl rfl, .inr ⟨rfl, ⟨2, by decide, rfl⟩, by omega⟩⟩
      · simp only at HR0 HTF
        go_wp2_with fail
        refine OP.out.mono ?_
        rintro e w4 ⟨A4, c4, rfl, hc4, o4, hb4⟩
        have HTF := Lib.hid HTF
        have hb5 := ball hb4 (.cells #[.bool true, .int .u32 (N : Int), .slice none 0 0, .slice A4 es.length c4] 111)
        have hC5 := H3'.out.1.below hb5
        have X4 := H3'.out.2.2.1.below hb4 H3'.out.2.2.1.lt
        have z0 : w4.cell? ⟨w.heap.size, 0, none⟩ = some (.string s1) := X4.cell 0
        have z1 : w4.cell? ⟨w.heap.size, 1, none⟩ = some (.int .u32 q1) := X4.cell 1
        have z2 : w4.cell? ⟨w.heap.size, 2, none⟩ = some (.int .u16 r1) := X4.cell 2
        have z3 : w4.cell? ⟨w.heap.size, 3, none⟩ = some (.string s2) := X4.cell 3
        have z4 : w4.cell? ⟨w.heap.size, 4, none⟩ = some (.int .u32 q2) := X4.cell 4
        have z5 : w4.cell? ⟨w.heap.size, 5, none⟩ = some (.int .u16 r2) := X4.cell 5
        have z6 : w4.cell? ⟨w.heap.size, 6, none⟩ = some (.bool en) := X4.cell 6
        have lz := X4.lt
        have hE5 := H3'.out.2.1.trans (Evo.of_below (gm := gm) (gc := gc) (gq := gq) (v := v) hb5) (.inl rfl)
        have hg3 : gc < w3.heap.size := H3'.out.1.cb.lt
        have hz3 := H3'.out.2.1.size
        have hz5 := hb5.size
        have hcc : c + 1 ≤ m + st1.pgs := by have := Hm.out; have := HP1.out; omega
        have hpn1 : st1.pgs ≤ n := by have h1 := H3'.out.2.2.2.pg; have h2 := trues_le st1.met; rw [H3'.out.2.2.2.ml] at h2; omega
        have hokk := H3'.out.2.2.2
        have o5 := own_below o4 (ball (Below.refl w4.heap.size w4) (.cells #[.bool true, .int .u32 (N : Int), .slice none 0 0, .slice A4 es.length c4] 111))
        have hAne : ∀ ad, A4 = some ad → ad.block ≠ gc := by
          rintro ad rfl
          have := own_hi o4 ad rfl
          omega
        have hes : es.length ≤ 63 := by have h1 := HTF.out.2.2.2.1; have h2 := sumE_eq es; omega
        have PG := Lib.hid (ckLeaf_any hC5 Hm.out.2.1 page deep N (by omega) H0.out.2.2.2.2 HTF.out.2.2.2.2.2.2 A4 c4 es (Reads.of_own o5) hAne hes ⟨⟨s1, q1, r1⟩, ⟨s2, q2, r2⟩, en⟩ (by have := hokk.lv; have := Hm.out; omega) (by have := hokk.hi; omega) hokk.nx hpn1 hcc)
        unfold Bnd.agg at PG
        clear o4 o5 hAne hes hc4
        have HH := Lib.hid (And.intro hC5 (And.intro hE5 (And.intro hz3 hz5)))
        clear hC5 X4 hE5 hz3 hz5 hb5 hcc hpn1 hokk OP
        go_wp2_with fail
        refine PG.out.mono ?_
        rintro e w6 ⟨st2, v2, c2, hC6, hE6, hv6, hres⟩
        have hE7 := HH.out.2.1.trans hE6 (.inl rfl)
        have hv7 : v2.ownBlock = v.ownBlock ∨ ∃ k, v2.ownBlock = some k ∧ w.heap.size ≤ k := by
          have h1 := HH.out.2.2.1; have h2 := HH.out.2.2.2
          rcases hv6 with e | ⟨k, e, hk⟩
          · exact .inl e
          · exact .inr ⟨k, e, by omega⟩
        have H7 := Lib.hid (And.intro hC6 (And.intro hE7 hv7))
        clear hC6 hE6 hE7 hv6 hv7 PG
        rcases hres with ⟨s, hs, rfl, rfl, hcs⟩ | ⟨hno, ⟨x0, hx0, rfl⟩, hcs⟩
        · have HF := Lib.hid (And.intro (HR0.out.trans hs) hcs)
          clear hs hcs
          go_wp2
          go_ret
          exact ⟨st2, v2, c2, H7.out.1, H7.out.2.1, H7.out.2.2, .inl ⟨st2, HF.out.1, rfl, rfl, HF.out.2⟩⟩
        · have HF := Lib.hid (And.intro (HR0.out.trans hno) (And.intro hx0 hcs))
          clear hno hcs hx0
          go_wp2
          go_ret
          exact ⟨st2, v2, c2, H7.out.1, H7.out.2.1, H7.out.2.2, .inr ⟨HF.out.1, ⟨x0, HF.out.2.1, rfl⟩, HF.out.2.2⟩⟩
      · simp only at HR0 HTF
        go_wp2_with fail
        refine OP.out.mono ?_
        rintro e w4 ⟨A4, c4, A5, c5, rfl, hc4, hc5, o4, o5, hb4⟩
        have HTF := Lib.hid HTF
        have hb5 := ball hb4 (.cells #[.bool false, .int .u32 0, .slice A4 (prs.length + 1) c4, .slice A5 prs.length c5] 111)
        have hC5 := H3'.out.1.below hb5
        have X4 := H3'.out.2.2.1.below hb4 H3'.out.2.2.1.lt
        have z0 : w4.cell? ⟨w.heap.size, 0, none⟩ = some (.string s1) := X4.cell 0
        have z1 : w4.cell? ⟨w.heap.size, 1, none⟩ = some (.int .u32 q1) := X4.cell 1
        have z2 : w4.cell? ⟨w.heap.size, 2, none⟩ = some (.int .u16 r1) := X4.cell 2
        have z3 : w4.cell? ⟨w.heap.size, 3, none⟩ = some (.string s2) := X4.cell 3
        have z4 : w4.cell? ⟨w.heap.size, 4, none⟩ = some (.int .u32 q2) := X4.cell 4
        have z5 : w4.cell? ⟨w.heap.size, 5, none⟩ = some (.int .u16 r2) := X4.cell 5
        have z6 : w4.cell? ⟨w.heap.size, 6, none⟩ = some (.bool en) := X4.cell 6
        have lz := X4.lt
        have hE5 := H3'.out.2.1.trans (Evo.of_below (gm := gm) (gc := gc) (gq := gq) (v := v) hb5) (.inl rfl)
        have hg3 : gc < w3.heap.size := H3'.out.1.cb.lt
        have hz3 := H3'.out.2.1.size
        have hz5 := hb5.size
        have hcc : c + 1 ≤ m + st1.pgs := by have := Hm.out; have := HP1.out; omega
        have hpn1 : st1.pgs ≤ n := by have h1 := H3'.out.2.2.2.pg; have h2 := trues_le st1.met; rw [H3'.out.2.2.2.ml] at h2; omega
        have hokk := H3'.out.2.2.2
        have hbn := ball (Below.refl w4.heap.size w4) (.cells #[.bool false, .int .u32 0, .slice A4 (prs.length + 1) c4, .slice A5 prs.length c5] 111)
        have o6 := own_below o4 hbn
        have o7 := own_below o5 hbn
        have hne : ∀ g, (Value.slice A5 prs.length c5).ownBlock = some g → v.ownBlock ≠ some g := by
          intro g hg e
          have h1 := (World.ownsRow.lt o5 g hg).1
          have h2 := (World.ownsRow.lt H3'.out.1.row g e).2
          omega
        have hk : prs.length ≤ 100 := by have h1 := HTF.out.2.2.2.1; have h2 := sumE_eq (prs.map Prod.fst); rw [List.length_map] at h2; omega
        have hkid : ∀ x ∈ c0 :: prs.map Prod.snd, x < 4294967296 := by
          intro x hx
          rcases List.mem_cons.1 hx with rfl | hx
          · exact HTF.out.2.2.2.2.2.2.1
          · obtain ⟨pr, hpr, rfl⟩ := List.mem_map.1 hx; exact (HTF.out.2.2.2.2.2.1 pr hpr).2
        have PG := Lib.hid (ckInner_any (fun c b' st' => ckP ps f c (deep + 1) b' st') deep (by have := Hm.out; omega) HFh.out (fun h12 page b st s h1 h2 => ckP_ok hps hfull f page (deep + 1) b st s (by omega) h1 h2) hC5 hokk Hm.out.2.1 hcc A4 prs.length c4 (c0 :: prs.map Prod.snd) A5 c5 (prs.map Prod.fst) _ _ o6 o7 hne hk hkid ⟨⟨s1, q1, r1⟩, ⟨s2, q2, r2⟩, en⟩)
        unfold Bnd.agg at PG
        clear o4 o5 o6 o7 hne hk hkid hc4 hc5
        have HH := Lib.hid (And.intro hC5 (And.intro hE5 (And.intro hz3 hz5)))
        clear hC5 X4 hE5 hz3 hz5 hb5 hcc hpn1 hokk OP
        go_wp2_with fail
        refine PG.out.mono ?_
        rintro e w6 ⟨st2, v2, c2, hC6, hE6, hv6, hres⟩
        have hE7 := HH.out.2.1.trans hE6 (.inl rfl)
        have hv7 : v2.ownBlock = v.ownBlock ∨ ∃ k, v2.ownBlock = some k ∧ w.heap.size ≤ k := by
          have h1 := HH.out.2.2.1; have h2 := HH.out.2.2.2
          rcases hv6 with e | ⟨k, e, hk⟩
          · exact .inl e
          · exact .inr ⟨k, e, by omega⟩
        have H7 := Lib.hid (And.intro hC6 (And.intro hE7 hv7))
        clear hC6 hE6 hE7 hv6 hv7 PG
        rcases hres with ⟨s, hs, rfl, rfl, hcs⟩ | ⟨hno, ⟨x0, hx0, rfl⟩, hcs⟩
        · have HF := Lib.hid (And.intro (HR0.out.trans hs) hcs)
          clear hs hcs
          go_wp2
          go_ret
          exact ⟨st2, v2, c2, H7.out.1, H7.out.2.1, H7.out.2.2, .inl ⟨st2, HF.out.1, rfl, rfl, HF.out.2⟩⟩
        · have HF := Lib.hid (And.intro (HR0.out.trans hno) (And.intro hx0 hcs))
          clear hno hcs hx0
          go_wp2
          go_ret
          exact ⟨st2, v2, c2, H7.out.1, H7.out.2.1, H7.out.2.2, .inr ⟨HF.out.1, ⟨x0, HF.out.2.1, rfl⟩, HF.out.2.2⟩⟩
    · have HR : Hid (R = none) := Lib.hid (by rw [HE.out, hq]; simp only; rw [if_pos hmb])
      have HH := Lib.hid (And.intro hC1 hE01)
      clear hC1 hE1 hE01 hpn own1 hq hmb
      go_wp2
      go_ret
      rw [HR.out]
      have := Hm.out
      exact ⟨st, v, c + 1, HH.out.1, HH.out.2, .inl rfl, .inr ⟨rfl, ⟨2, by decide, rfl⟩, by omega⟩⟩
  · have HR : Hid (R = none) := Lib.hid (by rw [HE.out, List.getElem?_eq_none (by omega)])
    have HH := Lib.hid (And.intro hC1 hE01)
    clear hC1 hE1 hE01 hpn
    go_wp2
    go_ret
    rw [HR.out]
    have := Hm.out
    exact ⟨st, v, c + 1, HH.out.1, HH.out.2, .inl rfl, .inr ⟨rfl, ⟨8, by decide, rfl⟩, by omega⟩⟩
/-- The checker's page. -/
theorem ckPage_any (hps : ps.length = n) (hfull : Full ps) (hm : m ≤ 800000) (hn : n ≤ 1000) : ∀ (f deep : Nat), deep ≤ 12 → 14 ≤ f + deep → ∀ (W : World) (st : Ck) (v : Value) (c page : Nat) (b : Bnd), CS w0 lo gp gd gb gt n ps T gm size K0 c gc gq st v W → CkOk n st → c ≤ m + st.pgs → page < 4294967296 →
    Calls Try.prog 28 #[.pointer (some ⟨gc, 0, none⟩), .int .u32 page, .int .i64 (deep : Nat), b.agg] W (RetCk w0 lo gp gd gb gt n ps T gm size K0 gc gq m W v (ckP ps f page deep b st))
  | 0, deep, hd, hf, _, _, _, _, _, _, _, _, _, _ => by omega
  | f + 1, deep, hd, hf, W, st, v, c, page, b, h, hok, hc, hp =>
    ckPage_step f deep hd hps hfull hm (fun hd2 W st v c page b h hok hc hp => ckPage_any hps hfull hm hn f (deep + 1) (by omega) (by omega) W st v c page b h hok hc hp) h hok hn hc page hp b
end
end
end Go.Proofs.Ytebobcbaloddaaa
/-
  Trees: what lies below a page of a right tree; looking at it (plain).
-/
namespace Go.Proofs.Ytebobcbaloddaaa
section
set_option linter.unusedSimpArgs false
set_option linter.unusedVariables false
open Go.RowKit Go.Maps

/-- What lies below a page: its number, entries, pages (in order), the first leaf, how many leaves. -/
structure Nd where
  p : Nat
  L : List En
  P : List Nat
  f : Nat
  k : Nat
/-- Separators between children: what stands below each is in order with them. -/
def SepOk (seps : List En) : Nat → List Nd → Prop
  | _, [] => True
  | i, d :: r => (∀ x ∈ d.L, (∀ s, 0 < i → seps[i - 1]? = some s → 0 ≤ cmpE x s) ∧ (∀ s, seps[i]? = some s → cmpE x s < 0)) ∧ SepOk seps (i + 1) r
/-- One behind the other: each leads to the next one's first leaf, the last one to nx. -/
def ChnN (S : Nd → Nat → Prop) : List Nd → Nat → Prop
  | [], _ => True
  | d :: r, nx => S d ((r.map Nd.f).headD nx) ∧ ChnN S r nx
/-- What lies below a page, of a height; the last leaf leads to nx. -/
def Sub (ps : List (List UInt8)) : Nat → Nd → Nat → Prop
  | 0, _, _ => False
  | 1, d, nx => ps[d.p]? = some (leafL nx d.L) ∧ nx < 4294967296 ∧ (∀ e ∈ d.L, e.ok) ∧ mayEn d.L = true ∧ sumE d.L ≤ 504 ∧ d.P = [d.p] ∧ d.f = d.p ∧ d.k = 1
  | h + 2, d, nx => ∃ (c : Nd) (ds : List Nd) (seps : List En), ChnN (Sub ps (h + 1)) (c :: ds) nx ∧ SepOk seps 0 (c :: ds) ∧ ds.length = seps.length ∧ seps.length ≠ 0 ∧ ps[d.p]? = some (innL c.p (seps.zip (ds.map Nd.p)) seps.length) ∧
      (∀ x ∈ (c :: ds).map Nd.p, x < 4294967296) ∧ (∀ e ∈ seps, e.ok) ∧ mayEn seps = true ∧ sumE seps + 4 * seps.length ≤ 500 ∧
      d.L = ((c :: ds).map Nd.L).flatten ∧ d.P = d.p :: ((c :: ds).map Nd.P).flatten ∧ d.f = c.f ∧ d.k = ((c :: ds).map Nd.k).sum
def mrk (m : List Bool) (P : List Nat) : List Bool := P.foldl (fun m p => m.set p true) m
theorem mrk_app (m : List Bool) (P Q : List Nat) : mrk m (P ++ Q) = mrk (mrk m P) Q := by unfold mrk; rw [List.foldl_append]
theorem mrk_cons (m : List Bool) (p : Nat) (Q : List Nat) : mrk m (p :: Q) = mrk (m.set p true) Q := rfl
theorem mrk_get : ∀ (P : List Nat) (m : List Bool) (p : Nat), p ∉ P → (mrk m P)[p]? = m[p]?
  | [], _, _, _ => rfl
  | q :: P, m, p, h => by
    simp only [List.mem_cons, not_or] at h
    rw [mrk_cons, mrk_get P _ p h.2, List.getElem?_set_ne (fun e => h.1 e.symm)]
def adv (st : Ck) (L : List En) (P : List Nat) (k hi nx : Nat) : Ck := { met := mrk st.met P, L := st.L ++ L, pgs := st.pgs + P.length, lv := st.lv + k, hi := hi, nx := nx }
def InB (b : Bnd) (L : List En) : Prop := ∀ y ∈ L, 0 ≤ cmpE y b.lo ∧ (b.ends = true → cmpE y b.hi < 0)
theorem bHas_of {b : Bnd} {L : List En} (h : InB b L) : bHas b L = true := by
  cases L with
  | nil => rfl
  | cons x r =>
    have h1 := h x (by simp)
    have h2 := h ((x :: r).getLast (by simp)) (List.getLast_mem _)
    unfold bHas
    simp only [Bool.and_eq_true, decide_eq_true_eq, Bool.or_eq_true, Bool.not_eq_true']
    refine ⟨h1.1, ?_⟩
    cases he : b.ends with
    | false => exact .inl rfl
    | true => exact .inr (h2.2 he)
theorem inB_child {b : Bnd} {seps : List En} {i : Nat} {L : List En} (h : InB b L) (hs : ∀ x ∈ L, (∀ s, 0 < i → seps[i - 1]? = some s → 0 ≤ cmpE x s) ∧ (∀ s, seps[i]? = some s → cmpE x s < 0)) : InB (bChild b seps i) L := by
  intro y hy
  obtain ⟨h1, h2⟩ := h y hy
  obtain ⟨s1, s2⟩ := hs y hy
  have hlo : 0 ≤ cmpE y (bLo b seps i) := by
    cases i with
    | zero => exact h1
    | succ j =>
      have e : bLo b seps (j + 1) = match seps[j]? with | some x => if 0 < cmpE x b.lo then x else b.lo | none => b.lo := rfl
      rw [e]
      cases hj : seps[j]? with
      | none => exact h1
      | some s =>
        simp only
        by_cases h0 : 0 < cmpE s b.lo
        · rw [if_pos h0]; exact s1 s (by omega) hj
        · rw [if_neg h0]; exact h1
  unfold bChild
  cases hi : seps[i]? with
  | none => exact ⟨hlo, h2⟩
  | some s =>
    simp only
    split
    · exact ⟨hlo, fun _ => s2 s hi⟩
    · exact ⟨hlo, h2⟩
theorem sub_k {ps : List (List UInt8)} : ∀ (h : Nat) (d : Nd) (nx : Nat), Sub ps h d nx → 1 ≤ d.k
  | 0, _, _, hs => hs.elim
  | 1, d, nx, hs => by rw [hs.2.2.2.2.2.2.2]; exact Nat.le_refl _
  | h + 2, d, nx, ⟨c, ds, seps, hc, _, _, _, _, _, _, _, _, _, _, _, hk⟩ => by
    have := sub_k (h + 1) c _ hc.1
    rw [hk, List.map_cons, List.sum_cons]; omega
/-- Children, one by one. -/
theorem kids_ck {F : Nat → Bnd → Ck → Option Ck} {S : Nd → Nat → Prop} {seps : List En} {b : Bnd} {hi : Nat}
    (HF : ∀ (d : Nd) (nx : Nat) (b : Bnd) (st : Ck), S d nx → (∀ p ∈ d.P, st.met[p]? = some false) → d.P.Nodup → (st.lv = 0 ∧ st.hi = 0 ∨ st.lv ≠ 0 ∧ st.hi = hi ∧ st.nx = d.f) → InB b d.L → F d.p b st = some (adv st d.L d.P d.k hi nx))
    (HK : ∀ d nx, S d nx → 1 ≤ d.k) :
    ∀ (ds : List Nd) (c : Nd) (i nx : Nat) (st : Ck), ChnN S (c :: ds) nx → SepOk seps i (c :: ds) → (∀ p ∈ ((c :: ds).map Nd.P).flatten, st.met[p]? = some false) → ((c :: ds).map Nd.P).flatten.Nodup → (st.lv = 0 ∧ st.hi = 0 ∨ st.lv ≠ 0 ∧ st.hi = hi ∧ st.nx = c.f) → InB b ((c :: ds).map Nd.L).flatten →
      ckKids F seps b ((c :: ds).map Nd.p) i st = some (adv st ((c :: ds).map Nd.L).flatten ((c :: ds).map Nd.P).flatten ((c :: ds).map Nd.k).sum hi nx)
  | [], c, i, nx, st, hc, hs, hm, hn, hst, hb => by
    simp only [List.map_cons, List.map_nil, List.flatten_cons, List.flatten_nil, List.append_nil, List.sum_cons, List.sum_nil, Nat.add_zero] at hm hn hb ⊢
    have := HF c nx (bChild b seps i) st hc.1 hm hn hst (inB_child hb hs.1)
    rw [ckKids, this]; rfl
  | d :: r, c, i, nx, st, hc, hs, hm, hn, hst, hb => by
    have e1 : ((c :: d :: r).map Nd.P).flatten = c.P ++ ((d :: r).map Nd.P).flatten := by simp
    have e2 : ((c :: d :: r).map Nd.L).flatten = c.L ++ ((d :: r).map Nd.L).flatten := by simp
    have e3 : ((c :: d :: r).map Nd.k).sum = c.k + ((d :: r).map Nd.k).sum := by simp
    rw [e1] at hm hn ⊢
    rw [e2] at hb ⊢
    rw [e3]
    rw [List.nodup_append] at hn
    have h1 := HF c d.f (bChild b seps i) st hc.1 (fun p hp => hm p (List.mem_append_left _ hp)) hn.1 hst (inB_child (fun y hy => hb y (List.mem_append_left _ hy)) hs.1)
    have hk := HK c _ hc.1
    rw [List.map_cons, ckKids, h1]
    simp only [Option.bind_some]
    have ih := kids_ck HF HK r d (i + 1) nx (adv st c.L c.P c.k hi d.f) hc.2 hs.2 (fun p hp => by
        have : p ∉ c.P := fun h => hn.2.2 p h p hp rfl
        show (mrk st.met c.P)[p]? = some false
        rw [mrk_get _ _ _ this]
        exact hm p (List.mem_append_right _ hp)) hn.2.1 (.inr ⟨by show st.lv + c.k ≠ 0; omega, rfl, rfl⟩) (fun y hy => hb y (List.mem_append_right _ hy))
    rw [ih]
    simp only [adv, mrk_app, List.append_assoc, List.length_append, Nat.add_assoc]
/-- Looking at what lies below a page of a right tree. -/
theorem sub_ck {ps : List (List UInt8)} : ∀ (h : Nat) (d : Nd) (nx : Nat), Sub ps h d nx → ∀ (f deep : Nat) (b : Bnd) (st : Ck), h ≤ f → deep + h ≤ 13 → 1 ≤ deep → (∀ p ∈ d.P, st.met[p]? = some false) → d.P.Nodup → (st.lv = 0 ∧ st.hi = 0 ∨ st.lv ≠ 0 ∧ st.hi = deep + h - 1 ∧ st.nx = d.f) → InB b d.L →
    ckP ps f d.p deep b st = some (adv st d.L d.P d.k (deep + h - 1) nx)
  | 0, _, _, hs => hs.elim
  | 1, d, nx, ⟨hp, hnx, hok, hm, hf, hP, hdf, hk⟩ => by
    intro f deep b st h1 h2 h3 hmet hnd hst hb
    obtain ⟨f', rfl⟩ : ∃ f', f = f' + 1 := ⟨f - 1, by omega⟩
    have hmp := hmet d.p (by rw [hP]; simp)
    rw [ckP, hp]
    simp only
    rw [if_neg (by rw [hmp]; simp), rdPg_leaf nx d.L hnx hok hm hf]
    simp only
    unfold ckLeaf
    have hc : (st.lv = 0 ∨ (deep = st.hi ∧ st.nx = d.p)) ∧ bHas b d.L = true := by
      refine ⟨?_, bHas_of hb⟩
      rcases hst with ⟨h, _⟩ | ⟨_, h, h'⟩
      · exact .inl h
      · exact .inr ⟨by omega, by rw [h', hdf]⟩
    rw [if_pos hc, hP, hk]
    simp only [adv, mrk, List.foldl_cons, List.foldl_nil, List.length_singleton]
    congr 1
    congr 1
    split
    · omega
    · rcases hst with ⟨h, _⟩ | ⟨_, h, _⟩
      · exact absurd h (by assumption)
      · exact h
  | h + 2, d, nx, ⟨c, ds, seps, hc, hs, hlen, hne, hp, hx, hok, hm, hf, hL, hP, hdf, hk⟩ => by
    intro f deep b st h1 h2 h3 hmet hnd hst hb
    obtain ⟨f', rfl⟩ : ∃ f', f = f' + 1 := ⟨f - 1, by omega⟩
    have hmp := hmet d.p (by rw [hP]; simp)
    have hz1 : (seps.zip (ds.map Nd.p)).map Prod.fst = seps := zip_fst (by simp; omega)
    have hz2 : (seps.zip (ds.map Nd.p)).map Prod.snd = ds.map Nd.p := zip_snd (by simp; omega)
    rw [ckP, hp]
    simp only
    rw [if_neg (by rw [hmp]; simp), rdPg_inner c.p (ds.map Nd.p) seps (by simp; omega) hne hx hok hm hf]
    simp only
    have hdeep : ¬ (deep = 12 ∨ deep = st.hi) := by
      rintro (e | e)
      · omega
      · rcases hst with ⟨_, h'⟩ | ⟨_, h', _⟩ <;> omega
    rw [if_neg hdeep, hz1, hz2]
    rw [hP, List.nodup_cons] at hnd
    have key := kids_ck (F := fun c b' st' => ckP ps f' c (deep + 1) b' st') (S := Sub ps (h + 1)) (seps := seps) (b := b) (hi := deep + (h + 2) - 1)
      (fun d nx b st hS hm hn hst hb => by
        have := sub_ck (h + 1) d nx hS f' (deep + 1) b st (by omega) (by omega) (by omega) hm hn (by
          rcases hst with h' | ⟨a, b', c'⟩
          · exact .inl h'
          · exact .inr ⟨a, by rw [b']; omega, c'⟩) hb
        rw [show deep + 1 + (h + 1) - 1 = deep + (h + 2) - 1 from by omega] at this
        exact this)
      (fun d nx hS => sub_k (h + 1) d nx hS) ds c 0 nx { st with met := st.met.set d.p true, pgs := st.pgs + 1 } hc hs
      (fun p hp => by
        have : d.p ≠ p := fun e => hnd.1 (by rw [e]; exact hp)
        show (st.met.set d.p true)[p]? = some false
        rw [List.getElem?_set_ne this]
        exact hmet p (by rw [hP]; exact List.mem_cons_of_mem _ hp)) hnd.2 (by rw [← hdf]; exact hst) (by rw [← hL]; exact hb)
    rw [List.map_cons] at key
    rw [key, hL, hP, hk]
    simp only [adv, mrk_cons, List.length_cons, List.map_cons]
    congr 1
    congr 1
    omega
end
end Go.Proofs.Ytebobcbaloddaaa
/-
  Trees: levels that are made have right pages (plain): words, and the leaves.
-/
namespace Go.Proofs.Ytebobcbaloddaaa
section
set_option linter.unusedSimpArgs false
set_option linter.unusedVariables false
open Go.RowKit Go.Maps

theorem ChnN.mono {S S' : Nd → Nat → Prop} : ∀ {ds : List Nd} {nx : Nat}, ChnN S ds nx → (∀ d ∈ ds, ∀ nx, S d nx → S' d nx) → ChnN S' ds nx
  | [], _, _, _ => trivial
  | d :: r, nx, h, hs => ⟨hs d (by simp) _ h.1, ChnN.mono h.2 fun d hd => hs d (by simp [hd])⟩
theorem ChnN.of {S : Nd → Nat → Prop} : ∀ {ds : List Nd} {nx : Nat}, (∀ (i : Nat) (d : Nd), ds[i]? = some d → S d ((ds[i + 1]?.map Nd.f).getD nx)) → ChnN S ds nx
  | [], _, _ => trivial
  | d :: r, nx, h => by
    refine ⟨?_, ChnN.of fun i d hd => by have := h (i + 1) d (by simpa using hd); simpa using this⟩
    have := h 0 d rfl
    cases r with
    | nil => simpa using this
    | cons e r => simpa using this
theorem ChnN.app {S : Nd → Nat → Prop} : ∀ {a b : List Nd} {nx : Nat}, ChnN S (a ++ b) nx → ChnN S a ((b.map Nd.f).headD nx) ∧ ChnN S b nx
  | [], b, nx, h => ⟨trivial, h⟩
  | d :: r, b, nx, h => by
    obtain ⟨h1, h2⟩ := ChnN.app (a := r) (b := b) h.2
    refine ⟨⟨?_, h1⟩, h2⟩
    have := h.1
    cases r with
    | nil => simpa using this
    | cons e r => simpa using this
theorem sub_frame {ps ps' : List (List UInt8)} : ∀ (h : Nat) (d : Nd) (nx : Nat), Sub ps h d nx → (∀ p ∈ d.P, ps'[p]? = ps[p]?) → Sub ps' h d nx
  | 0, _, _, hs, _ => hs.elim
  | 1, d, nx, hs, hp => ⟨(hp d.p (by rw [hs.2.2.2.2.2.1]; simp)).trans hs.1, hs.2⟩
  | h + 2, d, nx, ⟨c, ds, seps, hc, hs, hlen, hne, hp, hx, hok, hm, hf, hL, hP, hdf, hk⟩, he =>
    ⟨c, ds, seps, hc.mono fun d' hd' nx' h' => sub_frame (h + 1) d' nx' h' fun p hp' => he p (by
        rw [hP]
        refine List.mem_cons_of_mem _ (List.mem_flatten.2 ⟨d'.P, List.mem_map_of_mem hd', hp'⟩)), hs, hlen, hne, (he d.p (by rw [hP]; simp)).trans hp, hx, hok, hm, hf, hL, hP, hdf, hk⟩
/-- Pages written one by one, each once. -/
def wrK (pg : List Nat) (C : Nat → List UInt8) : Nat → List (List UInt8) → List (List UInt8)
  | 0, ps => ps
  | k + 1, ps => (wrK pg C k ps).set (pg.getD k 0) (C k)
theorem lfK_wr (l : List En) (gs : List (Nat × Nat)) (pg : List Nat) : ∀ (k : Nat) (ps : List (List UInt8)), lfK l gs pg k ps = wrK pg (fun i => leafL (pg.getD (i + 1) 0) (seg l (gs.getD i (0, 0)))) k ps
  | 0, _ => rfl
  | k + 1, ps => by rw [lfK, wrK, lfK_wr]
theorem inK_wr (l : List Kd) (gs : List (Nat × Nat)) (pg : List Nat) : ∀ (k : Nat) (ps : List (List UInt8)), inK l gs pg k ps = wrK pg (fun i => inPg (seg l (gs.getD i (0, 0)))) k ps
  | 0, _ => rfl
  | k + 1, ps => by rw [inK, wrK, inK_wr]
theorem wrK_len (pg : List Nat) (C : Nat → List UInt8) : ∀ (k : Nat) (ps : List (List UInt8)), (wrK pg C k ps).length = ps.length
  | 0, _ => rfl
  | k + 1, ps => by rw [wrK, List.length_set, wrK_len]
theorem wrK_far (pg : List Nat) (C : Nat → List UInt8) : ∀ (k : Nat) (ps : List (List UInt8)) (p : Nat), k ≤ pg.length → (p ∉ pg) → (wrK pg C k ps)[p]? = ps[p]?
  | 0, _, _, _, _ => rfl
  | k + 1, ps, p, hk, hp => by
    have hm : pg.getD k 0 ∈ pg := by rw [getD_of (List.getElem?_eq_getElem (by omega))]; exact List.getElem_mem _
    rw [wrK, List.getElem?_set_ne (fun e => hp (by rw [← e]; exact hm)), wrK_far pg C k ps p (by omega) hp]
theorem wrK_at (pg : List Nat) (C : Nat → List UInt8) (hn : pg.Nodup) : ∀ (k : Nat) (ps : List (List UInt8)) (j : Nat), k ≤ pg.length → j < k → (∀ p ∈ pg, p < ps.length) → (wrK pg C k ps)[pg.getD j 0]? = some (C j)
  | 0, _, _, _, hj, _ => by omega
  | k + 1, ps, j, hk, hj, hp => by
    have ek : pg.getD k 0 = pg[k]'(by omega) := getD_of (List.getElem?_eq_getElem (by omega))
    rw [wrK]
    by_cases hjk : j = k
    · subst hjk
      rw [List.getElem?_set_self (by rw [wrK_len, ek]; exact hp _ (List.getElem_mem _))]
    · have ej : pg.getD j 0 = pg[j]'(by omega) := getD_of (List.getElem?_eq_getElem (by omega))
      have hne : pg.getD k 0 ≠ pg.getD j 0 := by
        rw [ek, ej]
        intro e
        exact hjk ((List.getElem_inj hn).1 e).symm
      rw [List.getElem?_set_ne hne]
      exact wrK_at pg C hn k ps j (by omega) (by omega) hp
/-- A level whose pages are right: what lies below each. -/
structure LvS (ps : List (List UInt8)) (h : Nat) (l : List En) (lv : List Kd) (ds : List Nd) : Prop where
  fst : ds.map Nd.p = lv.map Prod.fst
  chn : ChnN (Sub ps h) ds 0
  hd : lv.length = 1 ∨ ∀ (i : Nat) (d : Nd) (c : Kd), ds[i]? = some d → lv[i]? = some c → d.L.head? = some c.2
  L : (ds.map Nd.L).flatten = l
  nodup : ((ds.map Nd.P).flatten).Nodup
/-- The leaves. -/
theorem lf_sub {l : List En} {ps : List (List UInt8)} {T : List Bool} {lv : List Kd} (hm : mayEn l = true) (hok : ∀ e ∈ l, e.ok) (hT : T.length = ps.length) (hb : ps.length ≤ 10000) (h : (lfP l ps T).2.2 = some lv) :
    ∃ ds, LvS (lfP l ps T).1 1 l lv ds ∧ (∀ p ∈ (ds.map Nd.P).flatten, T[p]? = some false ∧ (lfP l ps T).2.1[p]? = some true) := by
  unfold lfP at h ⊢
  have I := tkI T (ptL fE l).length
  split at h
  · rename_i hbk
    injection h with h
    subst h
    rw [if_pos hbk]
    have hpl := I.full hbk
    have GR := grE_ok hm
    have hcov : ((ptL fE l).map (seg l)).flatten = l := by
      by_cases hl : l = []
      · subst hl; simp [ptL_nil, seg]
      · obtain ⟨h1, _, _⟩ := ptL_ok (ptF_E (may_small hm)) szE_mono hl
        rw [h1.flat l (Nat.le_refl _), seg_all]
    have hg1 : l = [] → (ptL fE l).length = 1 := by rintro rfl; rw [ptL_nil]; rfl
    generalize ptL fE l = gs at *
    generalize tkP gs.length T = st at *
    obtain ⟨pg, T1, bk⟩ := st
    simp only at *
    have hpp : ∀ p ∈ pg, p < ps.length := fun p hp => by
      obtain ⟨i, hi⟩ := List.getElem?_of_mem hp
      have := (I.at_ i p hi).2.2; omega
    have hgetp : ∀ i, i < gs.length → pg[i]? = some (pg.getD i 0) := fun i hi => by
      rw [getD_of (List.getElem?_eq_getElem (show i < pg.length by omega))]; exact List.getElem?_eq_getElem (by omega)
    let nd : Nat → Nd := fun i => ⟨pg.getD i 0, seg l (gs.getD i (0, 0)), [pg.getD i 0], pg.getD i 0, 1⟩
    refine ⟨(List.range gs.length).map nd, ⟨?_, ?_, ?_, ?_, ?_⟩, ?_⟩
    · unfold lfLv; rw [List.map_map, List.map_map]; rfl
    · refine ChnN.of fun i d hd => ?_
      rw [List.getElem?_map] at hd
      obtain ⟨j, hj, rfl⟩ := Option.map_eq_some_iff.1 hd
      have hi : i < gs.length := by have := lt_of_at hj; simpa using this
      rw [List.getElem?_range hi] at hj
      injection hj with hj
      subst hj
      have hnx : ((((List.range gs.length).map nd)[i + 1]?.map Nd.f).getD 0) = pg.getD (i + 1) 0 := by
        rw [List.getElem?_map]
        by_cases h1 : i + 1 < gs.length
        · rw [List.getElem?_range h1]; rfl
        · rw [List.getElem?_eq_none (by simp; omega), getD_no (by omega)]; rfl
      rw [hnx]
      have G := GR (gs.getD i (0, 0)) (by rw [getD_of (List.getElem?_eq_getElem hi)]; exact List.getElem_mem _)
      refine ⟨?_, ?_, fun e he => hok e (G.mem e he), G.may, G.sum, rfl, rfl, rfl⟩
      · show (lfK l gs pg gs.length ps)[pg.getD i 0]? = _
        rw [lfK_wr]
        exact wrK_at pg _ I.nodup gs.length ps i (by omega) hi hpp
      · by_cases h1 : i + 1 < gs.length
        · have := hpp (pg.getD (i + 1) 0) (by rw [getD_of (List.getElem?_eq_getElem (show i + 1 < pg.length by omega))]; exact List.getElem_mem _)
          omega
        · rw [getD_no (by omega)]; omega
    · by_cases hl : l = []
      · left; rw [lfLv_len]; exact hg1 hl
      · right
        intro i d c hd hc
        rw [List.getElem?_map] at hd
        obtain ⟨j, hj, rfl⟩ := Option.map_eq_some_iff.1 hd
        have hi : i < gs.length := by have := lt_of_at hj; simpa using this
        rw [List.getElem?_range hi] at hj
        injection hj with hj
        subst hj
        unfold lfLv at hc
        rw [List.getElem?_map, List.getElem?_range hi] at hc
        injection hc with hc
        subst hc
        have G := GR (gs.getD i (0, 0)) (by rw [getD_of (List.getElem?_eq_getElem hi)]; exact List.getElem_mem _)
        show (seg l (gs.getD i (0, 0))).head? = some (((seg l (gs.getD i (0, 0))).head?).getD enZ)
        have hlen := seg_len (l := l) (g := gs.getD i (0, 0)) G.le.2
        have := G.pos hl
        cases hs : seg l (gs.getD i (0, 0)) with
        | nil => rw [hs, List.length_nil] at hlen; omega
        | cons x r => rfl
    · rw [List.map_map]
      have : (List.range gs.length).map (Nd.L ∘ nd) = gs.map (seg l) := by
        rw [← range_getD gs (0, 0) (seg l)]; rfl
      rw [this, hcov]
    · have : ((List.range gs.length).map nd).map Nd.P = pg.map fun p => [p] := by
        rw [← range_getD pg 0 (fun p => [p]), hpl, List.map_map]; rfl
      rw [this]
      have e : (pg.map fun p => [p]).flatten = pg := by
        rw [← List.flatMap_def]; simp
      rw [e]; exact I.nodup
    · intro p hp
      have : ((List.range gs.length).map nd).map Nd.P = pg.map fun p => [p] := by
        rw [← range_getD pg 0 (fun p => [p]), hpl, List.map_map]; rfl
      rw [this] at hp
      have e : (pg.map fun p => [p]).flatten = pg := by
        rw [← List.flatMap_def]; simp
      rw [e] at hp
      obtain ⟨i, hi⟩ := List.getElem?_of_mem hp
      have := I.at_ i p hi
      exact ⟨this.1, this.2.1⟩
  · cases h
end
end Go.Proofs.Ytebobcbaloddaaa
/-
  Trees: levels that are made have right pages (plain): inner levels.
-/
namespace Go.Proofs.Ytebobcbaloddaaa
section
set_option linter.unusedSimpArgs false
set_option linter.unusedVariables false
open Go.RowKit Go.Maps

theorem cmpE_self (x : En) : cmpE x x = 0 := by have := cmpE_swap x x; omega
theorem sepOk_of {seps : List En} : ∀ (ds : List Nd) (i : Nat), (∀ (j : Nat) (d : Nd), ds[j]? = some d → 0 < i + j → d.L.head? = seps[i + j - 1]?) → riseP ((ds.map Nd.L).flatten) → i + ds.length = seps.length + 1 → SepOk seps i ds
  | [], _, _, _, _ => trivial
  | d :: r, i, hh, hr, hl => by
    rw [List.map_cons, List.flatten_cons] at hr
    have hr' := List.pairwise_append.1 hr
    refine ⟨fun x hx => ⟨fun s hi hs => ?_, fun s hs => ?_⟩, sepOk_of r (i + 1) (fun j e he hp => by have := hh (j + 1) e (by simpa using he) (by omega); rw [this]; congr 1; omega) hr'.2.1 (by rw [List.length_cons] at hl; omega)⟩
    · have h1 := hh 0 d rfl (by omega)
      rw [Nat.add_zero, hs] at h1
      cases hL : d.L with
      | nil => rw [hL] at hx; cases hx
      | cons y t =>
        rw [hL] at h1 hx hr'
        have e : y = s := by simpa using h1
        subst e
        rcases List.mem_cons.1 hx with rfl | hx
        · rw [cmpE_self]; exact Int.le_refl 0
        · have := (List.pairwise_cons.1 hr'.1).1 x hx
          have := cmpE_swap y x
          omega
    · cases r with
      | nil =>
        have := lt_of_at hs
        simp at hl; omega
      | cons e r =>
        have h1 := hh 1 e rfl (by omega)
        rw [show i + 1 - 1 = i from by omega, hs] at h1
        refine hr'.2.2 x hx s ?_
        rw [List.map_cons, List.flatten_cons]
        exact List.mem_append_left _ (List.mem_of_mem_head? h1)
theorem sub_flat {α : Type} {X Y : List (List α)} (h : X.Sublist Y) : X.flatten.Sublist Y.flatten := by
  induction h with
  | slnil => exact List.Sublist.slnil
  | cons a _ ih => rw [List.flatten_cons]; exact ih.trans (List.sublist_append_right _ _)
  | cons_cons a _ ih => rw [List.flatten_cons, List.flatten_cons]; exact ih.append_left _
theorem flat2 {α β : Type} (f : α → List β) : ∀ X : List (List α), (X.map fun s => (s.map f).flatten).flatten = ((X.flatten).map f).flatten
  | [] => rfl
  | s :: X => by simp [flat2 f X]
theorem perm_flat {α β : Type} (a : α → β) (B : α → List β) : ∀ l : List α, ((l.map fun i => a i :: B i).flatten).Perm (l.map a ++ (l.map B).flatten)
  | [] => List.Perm.refl _
  | x :: l => by
    rw [List.map_cons, List.map_cons, List.map_cons, List.flatten_cons, List.flatten_cons]
    show (a x :: (B x ++ _)).Perm (a x :: (l.map a ++ (B x ++ (l.map B).flatten)))
    refine List.Perm.cons _ ?_
    refine ((perm_flat a B l).append_left (B x)).trans ?_
    rw [← List.append_assoc, ← List.append_assoc]
    exact List.perm_append_comm.append_right _
theorem Chn.next : ∀ {a c : Nat} {gs : List (Nat × Nat)}, Chn a gs c → ∀ (i : Nat) (g : Nat × Nat), gs[i]? = some g → (∀ g', gs[i + 1]? = some g' → g'.1 = g.2) ∧ (gs[i + 1]? = none → g.2 = c)
  | _, _, [], _, i, g, h => by simp at h
  | a, c, g0 :: gs, ⟨h1, h2, h3⟩, 0, g, h => by
    simp only [List.getElem?_cons_zero, Option.some.injEq] at h
    subst h
    cases gs with
    | nil => exact ⟨fun g' h' => by simp at h', fun _ => h3⟩
    | cons g1 gs => exact ⟨fun g' h' => by simp at h'; subst h'; exact h3.1, fun h' => by simp at h'⟩
  | a, c, g0 :: gs, ⟨h1, h2, h3⟩, i + 1, g, h => by
    have := Chn.next h3 i g (by simpa using h)
    simpa using this
theorem seg_map {α β : Type} (f : α → β) (l : List α) (g : Nat × Nat) : (seg l g).map f = seg (l.map f) g := by unfold seg; rw [List.map_drop, List.map_take]
/-- A group's own chain. -/
theorem chn_seg {S : Nd → Nat → Prop} {ds : List Nd} {nx : Nat} (h : ChnN S ds nx) (g : Nat × Nat) (hg : g.1 ≤ g.2) : ChnN S (seg ds g) (((ds.drop g.2).map Nd.f).headD nx) := by
  have e : ds = ds.take g.1 ++ (seg ds g ++ ds.drop g.2) := by
    unfold seg
    rw [← List.append_assoc]
    have : ds.take g.1 ++ (ds.take g.2).drop g.1 = ds.take g.2 := by
      conv => rhs; rw [← List.take_append_drop g.1 (ds.take g.2)]
      rw [List.take_take, Nat.min_eq_left hg]
    rw [this, List.take_append_drop]
  rw [e] at h
  exact (ChnN.app (ChnN.app h).2).1
theorem headD_drop {α : Type} (f : α → Nat) (l : List α) (a b d : Nat) (h : a < b) : ((l.drop a).map f).headD d = ((seg l (a, b)).map f).headD d := by
  unfold seg
  by_cases hl : a < l.length
  · have h1 : l.drop a = l[a] :: l.drop (a + 1) := List.drop_eq_getElem_cons hl
    have h2 : a < (l.take b).length := by rw [List.length_take]; omega
    have h3 : (l.take b).drop a = (l.take b)[a] :: (l.take b).drop (a + 1) := List.drop_eq_getElem_cons h2
    rw [h1, h3]
    simp [hl]
  · rw [List.drop_eq_nil_of_le (by omega), List.drop_eq_nil_of_le (by rw [List.length_take]; omega)]
/-- An inner level. -/
theorem in_sub {n h : Nat} {l : List En} {lv : List Kd} {ds : List Nd} {ps : List (List UInt8)} {T : List Bool} {lv' : List Kd} (S : LvS ps (h + 1) l lv ds) (hr : riseP l) (hO : LvOk n lv) (h2 : 2 ≤ lv.length) (hn : n = ps.length) (hT : T.length = ps.length) (hb : ps.length ≤ 10000)
    (hmk : ∀ p ∈ (ds.map Nd.P).flatten, T[p]? = some true) (hi : (inP' lv ps T).2.2 = some lv') :
    ∃ ds', LvS (inP' lv ps T).1 (h + 2) l lv' ds' ∧ (∀ p ∈ (ds'.map Nd.P).flatten, (inP' lv ps T).2.1[p]? = some true ∧ (T[p]? = some false ∨ p ∈ (ds.map Nd.P).flatten)) := by
  unfold inP' at hi ⊢
  have I := tkI T (ptL fC lv).length
  have GR := grC_ok hO.may h2
  have hlne : lv ≠ [] := by rintro rfl; simp at h2
  have hsm : ∀ x ∈ lv, x.2.s.size ≤ 200 := fun x hx => may_small hO.may x.2 (List.mem_map_of_mem hx)
  obtain ⟨hch, _, _⟩ := ptL_ok (ptF_C hsm) szC_mono hlne
  split at hi
  · rename_i hbk
    injection hi with hi
    subst hi
    rw [if_pos hbk]
    have hpl := I.full hbk
    have hdl : ds.length = lv.length := by have := congrArg List.length S.fst; simpa using this
    have hcov : ((ptL fC lv).map (seg ds)).flatten = ds := by rw [hch.flat ds (by omega), ← hdl, seg_all]
    generalize ptL fC lv = gs at *
    generalize tkP gs.length T = st at *
    obtain ⟨pg, T1, bk⟩ := st
    simp only at *
    have hpp : ∀ p ∈ pg, p < ps.length := fun p hp => by
      obtain ⟨i, hi⟩ := List.getElem?_of_mem hp
      have := (I.at_ i p hi).2.2; omega
    have hfree : ∀ p ∈ pg, T[p]? = some false ∧ T1[p]? = some true := fun p hp => by
      obtain ⟨i, hi⟩ := List.getElem?_of_mem hp
      exact ⟨(I.at_ i p hi).1, (I.at_ i p hi).2.1⟩
    have hold : ∀ p ∈ (ds.map Nd.P).flatten, p ∉ pg := fun p hp hpg => by
      have h1 := hmk p hp
      rw [(hfree p hpg).1] at h1
      cases h1
    have hhd : ∀ (i : Nat) (d : Nd) (c : Kd), ds[i]? = some d → lv[i]? = some c → d.L.head? = some c.2 := by
      rcases S.hd with e | e
      · omega
      · exact e
    let nd : Nat → Nd := fun i => ⟨pg.getD i 0, ((seg ds (gs.getD i (0, 0))).map Nd.L).flatten, pg.getD i 0 :: ((seg ds (gs.getD i (0, 0))).map Nd.P).flatten, ((seg ds (gs.getD i (0, 0))).map Nd.f).headD 0, ((seg ds (gs.getD i (0, 0))).map Nd.k).sum⟩
    have hP : ((List.range gs.length).map nd).map Nd.P = (List.range gs.length).map fun i => pg.getD i 0 :: ((seg ds (gs.getD i (0, 0))).map Nd.P).flatten := by rw [List.map_map]; rfl
    have hpg : (List.range gs.length).map (fun i => pg.getD i 0) = pg := by
      have := range_getD pg 0 id
      rw [hpl] at this
      simpa using this
    have hBs : ((List.range gs.length).map fun i => ((seg ds (gs.getD i (0, 0))).map Nd.P).flatten).flatten = (ds.map Nd.P).flatten := by
      rw [range_getD gs (0, 0) fun g => ((seg ds g).map Nd.P).flatten]
      have := flat2 Nd.P (gs.map (seg ds))
      rw [List.map_map, hcov] at this
      exact this
    have hperm := perm_flat (fun i => pg.getD i 0) (fun i => ((seg ds (gs.getD i (0, 0))).map Nd.P).flatten) (List.range gs.length)
    rw [hpg, hBs] at hperm
    refine ⟨(List.range gs.length).map nd, ⟨?_, ?_, ?_, ?_, ?_⟩, ?_⟩
    · unfold inLv; rw [List.map_map, List.map_map]; rfl
    · refine ChnN.of fun i d hd => ?_
      rw [List.getElem?_map] at hd
      obtain ⟨j, hj, rfl⟩ := Option.map_eq_some_iff.1 hd
      have hig : i < gs.length := by have := lt_of_at hj; simpa using this
      rw [List.getElem?_range hig] at hj
      injection hj with hj
      subst hj
      obtain ⟨g, hg⟩ : ∃ g, gs[i]? = some g := ⟨_, List.getElem?_eq_getElem hig⟩
      have hgD := getD_of (d := (0, 0)) hg
      obtain ⟨c0, zr, G⟩ := GR g (List.mem_of_getElem? hg)
      have hgm := hch.mem g (List.mem_of_getElem? hg)
      have hnx : ((((List.range gs.length).map nd)[i + 1]?.map Nd.f).getD 0) = ((ds.drop g.2).map Nd.f).headD 0 := by
        rw [List.getElem?_map]
        by_cases h1 : i + 1 < gs.length
        · obtain ⟨g', hg'⟩ : ∃ g', gs[i + 1]? = some g' := ⟨_, List.getElem?_eq_getElem h1⟩
          have e1 := (hch.next i g hg).1 g' hg'
          have hgm' := hch.mem g' (List.mem_of_getElem? hg')
          rw [List.getElem?_range h1]
          show ((seg ds (gs.getD (i + 1) (0, 0))).map Nd.f).headD 0 = _
          rw [getD_of hg', ← e1, headD_drop Nd.f ds g'.1 g'.2 0 hgm'.2.1]
        · have e1 := (hch.next i g hg).2 (List.getElem?_eq_none (by omega))
          rw [List.getElem?_eq_none (by simp; omega), List.drop_eq_nil_of_le (by omega)]; rfl
      rw [hnx]
      have hseg : (seg ds g).map Nd.p = (c0 :: zr).map Prod.fst := by rw [seg_map, S.fst, ← seg_map, G.eq]
      have hlenS : (seg ds g).length = zr.length + 1 := by have := congrArg List.length hseg; simpa using this
      cases hsd : seg ds g with
      | nil => rw [hsd] at hlenS; simp at hlenS
      | cons c r =>
        rw [hsd] at hseg hlenS
        simp only [List.map_cons, List.cons.injEq] at hseg
        obtain ⟨hcp, hrp⟩ := hseg
        have hchs := chn_seg S.chn g G.le.1
        rw [hsd] at hchs
        have hmem : ∀ d' ∈ c :: r, d' ∈ ds := fun d' hd' => mem_seg (g := g) (by rw [hsd]; exact hd')
        have hat : ∀ (j : Nat) (d' : Nd) (k' : Kd), (c :: r)[j]? = some d' → (c0 :: zr)[j]? = some k' → d'.L.head? = some k'.2 := by
          intro j d' k' h1 h3
          have hj := lt_of_at h1
          have hsl := seg_len (l := ds) (g := g) (by omega)
          rw [hsd] at hsl
          rw [← hsd] at h1
          rw [← G.eq] at h3
          unfold seg at h1 h3
          rw [List.getElem?_drop] at h1 h3
          have hlt1 : g.1 + j < g.2 := by omega
          rw [List.getElem?_take_of_lt hlt1] at h1 h3
          exact hhd _ _ _ h1 h3
        refine ⟨c, r, zr.map Prod.snd, ?_, ?_, ?_, ?_, ?_, ?_, ?_, G.may, ?_, ?_, ?_, ?_, ?_⟩
        · refine hchs.mono fun d' hd' nx' hs' => sub_frame (h + 1) d' nx' hs' fun p hp => ?_
          have hpd : p ∈ (ds.map Nd.P).flatten := List.mem_flatten.2 ⟨d'.P, List.mem_map_of_mem (hmem d' hd'), hp⟩
          show (inK lv gs pg gs.length ps)[p]? = _
          rw [inK_wr]
          exact wrK_far pg _ gs.length ps p (by omega) (hold p hpd)
        · refine sepOk_of (c :: r) 0 (fun j d' hd' hp => ?_) ?_ (by rw [List.length_map, Nat.zero_add]; simpa using hlenS)
          · obtain ⟨k', hk'⟩ : ∃ k', (c0 :: zr)[j]? = some k' := ⟨_, List.getElem?_eq_getElem (by have := lt_of_at hd'; simp at this hlenS ⊢; omega)⟩
            rw [hat j d' k' hd' hk']
            obtain ⟨j', rfl⟩ : ∃ j', j = j' + 1 := ⟨j - 1, by omega⟩
            rw [show 0 + (j' + 1) - 1 = j' from by omega, List.getElem?_map]
            rw [List.getElem?_cons_succ] at hk'
            rw [hk']; rfl
          · have hsub : ((c :: r).map Nd.L).flatten.Sublist l := by
              rw [← S.L, ← hsd]
              exact sub_flat ((seg_sub ds g).map Nd.L)
            exact List.Pairwise.sublist hsub hr
        · rw [List.length_map]; simpa using hlenS
        · rw [List.length_map]; exact fun e => G.ne (List.eq_nil_of_length_eq_zero e)
        · show (inK lv gs pg gs.length ps)[pg.getD i 0]? = _
          rw [inK_wr, wrK_at pg _ I.nodup gs.length ps i (by omega) hig hpp, hgD, G.eq]
          show some (innL c0.1 (zr.map fun c => (c.2, c.1)) zr.length) = _
          rw [hcp, hrp, zip_kd, List.length_map]
        · intro x hx
          have : x ∈ lv.map Prod.fst := by
            rw [List.map_cons, hcp, hrp] at hx
            have : x ∈ (c0 :: zr).map Prod.fst := hx
            obtain ⟨y, hy, rfl⟩ := List.mem_map.1 this
            exact List.mem_map_of_mem (G.mem y hy)
          obtain ⟨y, hy, rfl⟩ := List.mem_map.1 this
          have := (hO.ok y hy).2
          omega
        · intro e he
          obtain ⟨y, hy, rfl⟩ := List.mem_map.1 he
          exact (hO.ok y (G.mem y (List.mem_cons_of_mem _ hy))).1
        · rw [List.length_map]; exact G.sum
        · show ((seg ds (gs.getD i (0, 0))).map Nd.L).flatten = _
          rw [hgD, hsd]
        · show pg.getD i 0 :: ((seg ds (gs.getD i (0, 0))).map Nd.P).flatten = pg.getD i 0 :: _
          rw [hgD, hsd]
        · show ((seg ds (gs.getD i (0, 0))).map Nd.f).headD 0 = _
          rw [hgD, hsd]; rfl
        · show ((seg ds (gs.getD i (0, 0))).map Nd.k).sum = _
          rw [hgD, hsd]
    · right
      intro i d c hd hc
      rw [List.getElem?_map] at hd
      obtain ⟨j, hj, rfl⟩ := Option.map_eq_some_iff.1 hd
      have hig : i < gs.length := by have := lt_of_at hj; simpa using this
      rw [List.getElem?_range hig] at hj
      injection hj with hj
      subst hj
      unfold inLv at hc
      rw [List.getElem?_map, List.getElem?_range hig] at hc
      injection hc with hc
      subst hc
      obtain ⟨g, hg⟩ : ∃ g, gs[i]? = some g := ⟨_, List.getElem?_eq_getElem hig⟩
      have hgD := getD_of (d := (0, 0)) hg
      obtain ⟨c0, zr, G⟩ := GR g (List.mem_of_getElem? hg)
      have hgm := hch.mem g (List.mem_of_getElem? hg)
      show (((seg ds (gs.getD i (0, 0))).map Nd.L).flatten).head? = some ((((seg lv (gs.getD i (0, 0))).head?).map Prod.snd).getD enZ)
      rw [hgD, G.eq]
      obtain ⟨d0, hd0⟩ : ∃ d0, ds[g.1]? = some d0 := ⟨_, List.getElem?_eq_getElem (by omega)⟩
      obtain ⟨k0, hk0⟩ : ∃ k0, lv[g.1]? = some k0 := ⟨_, List.getElem?_eq_getElem (by omega)⟩
      have e1 : (seg ds g).head? = some d0 := by
        unfold seg
        rw [List.head?_drop, List.getElem?_take_of_lt hgm.2.1, hd0]
      have e2 : (seg lv g).head? = some k0 := by
        unfold seg
        rw [List.head?_drop, List.getElem?_take_of_lt hgm.2.1, hk0]
      rw [G.eq] at e2
      have e3 : c0 = k0 := by simpa using e2
      have e4 := hhd g.1 d0 k0 hd0 hk0
      cases hsd : seg ds g with
      | nil => rw [hsd] at e1; cases e1
      | cons c r =>
        rw [hsd] at e1
        have e5 : c = d0 := by simpa using e1
        subst e5; subst e3
        rw [List.map_cons, List.flatten_cons]
        cases hL : c.L with
        | nil => rw [hL] at e4; cases e4
        | cons y t => rw [hL] at e4; simpa using e4
    · rw [List.map_map]
      have e : (List.range gs.length).map (Nd.L ∘ nd) = gs.map fun g => ((seg ds g).map Nd.L).flatten := by
        rw [← range_getD gs (0, 0) fun g => ((seg ds g).map Nd.L).flatten]; rfl
      have := flat2 Nd.L (gs.map (seg ds))
      rw [List.map_map, hcov, S.L] at this
      rw [e]; exact this
    · rw [hP]
      refine hperm.nodup_iff.2 ?_
      rw [List.nodup_append]
      exact ⟨I.nodup, S.nodup, fun a ha b hb' e => hold b hb' (e ▸ ha)⟩
    · intro p hp
      rw [hP] at hp
      rcases List.mem_append.1 (hperm.mem_iff.1 hp) with h1 | h1
      · exact ⟨(hfree p h1).2, .inl (hfree p h1).1⟩
      · exact ⟨I.up p (hmk p h1), .inr h1⟩
  · cases hi
end
end Go.Proofs.Ytebobcbaloddaaa
/-
  Trees: what building comes to is a right tree (plain).
-/
namespace Go.Proofs.Ytebobcbaloddaaa
section
set_option linter.unusedSimpArgs false
set_option linter.unusedVariables false
open Go.RowKit Go.Maps

theorem freeN_mark : ∀ (T : List Bool) (i : Nat), T[i]? = some false → freeN (T.set i true) + 1 = freeN T
  | [], i, h => by simp at h
  | b :: t, 0, h => by
    simp at h
    subst h
    simp [freeN]
  | b :: t, i + 1, h => by
    have h1 := freeN_mark t i (by simpa using h)
    unfold freeN at h1 ⊢
    cases b <;> simp [List.filter_cons] at h1 ⊢ <;> omega
theorem freeN_full {T : List Bool} (h : ∀ j : Nat, j < T.length → T[j]? = some true) : freeN T = 0 := by
  unfold freeN
  rw [List.length_eq_zero_iff, List.filter_eq_nil_iff]
  intro b hb
  obtain ⟨j, hj⟩ := List.getElem?_of_mem hb
  have := h j (lt_of_at hj)
  rw [hj] at this
  injection this with this
  rw [this]; simp
/-- How many are free behind. -/
theorem tk_free (T : List Bool) : ∀ k, if (tkP k T).2.2 then freeN (tkP k T).2.1 + k = freeN T else freeN T < k
  | 0 => by simp [tkP]
  | k + 1 => by
    have ih := tk_free T k
    unfold tkP
    by_cases ho : (tkP k T).2.2 = true
    · rw [if_pos ho] at ih ⊢
      cases hf : freeI (tkP k T).2.1 with
      | some i =>
        obtain ⟨f1, _, _⟩ := freeI_some hf
        have := freeN_mark _ i f1
        show if true = true then freeN ((tkP k T).2.1.set i true) + (k + 1) = freeN T else _
        rw [if_pos rfl]; omega
      | none =>
        have := freeN_full (freeI_none hf)
        show if false = true then _ else freeN T < k + 1
        rw [if_neg (by decide)]; omega
    · rw [if_neg ho] at ih
      rw [if_neg ho, if_neg ho]; omega
/-- What a level keeps. -/
theorem inP_keep (lv : List Kd) (ps : List (List UInt8)) (T : List Bool) : (inP' lv ps T).1.length = ps.length ∧ (inP' lv ps T).2.1.length = T.length ∧ ∀ p : Nat, T[p]? = some true → (inP' lv ps T).1[p]? = ps[p]? ∧ (inP' lv ps T).2.1[p]? = some true := by
  have I := tkI T (ptL fC lv).length
  unfold inP'
  split
  · rename_i hbk
    refine ⟨?_, I.len, fun p hp => ⟨?_, I.up p hp⟩⟩
    · show (inK _ _ _ _ _).length = _
      rw [inK_wr, wrK_len]
    · show (inK _ _ _ _ _)[p]? = _
      rw [inK_wr]
      refine wrK_far _ _ _ _ _ (by rw [I.full hbk]; exact Nat.le_refl _) fun hm => ?_
      obtain ⟨i, hi⟩ := List.getElem?_of_mem hm
      have := (I.at_ i p hi).1
      rw [hp] at this; cases this
  · exact ⟨rfl, I.len, fun p hp => ⟨rfl, I.up p hp⟩⟩
theorem lfP_keep (l : List En) (ps : List (List UInt8)) (T : List Bool) : (lfP l ps T).1.length = ps.length ∧ (lfP l ps T).2.1.length = T.length ∧ ∀ p : Nat, T[p]? = some true → (lfP l ps T).1[p]? = ps[p]? ∧ (lfP l ps T).2.1[p]? = some true := by
  have I := tkI T (ptL fE l).length
  unfold lfP
  split
  · rename_i hbk
    refine ⟨?_, I.len, fun p hp => ⟨?_, I.up p hp⟩⟩
    · show (lfK _ _ _ _ _).length = _
      rw [lfK_wr, wrK_len]
    · show (lfK _ _ _ _ _)[p]? = _
      rw [lfK_wr]
      refine wrK_far _ _ _ _ _ (by rw [I.full hbk]; exact Nat.le_refl _) fun hm => ?_
      obtain ⟨i, hi⟩ := List.getElem?_of_mem hm
      have := (I.at_ i p hi).1
      rw [hp] at this; cases this
  · exact ⟨rfl, I.len, fun p hp => ⟨rfl, I.up p hp⟩⟩
theorem inP_free (lv : List Kd) (ps : List (List UInt8)) (T : List Bool) : match (inP' lv ps T).2.2 with | some lv' => freeN (inP' lv ps T).2.1 + lv'.length = freeN T | none => freeN T < (ptL fC lv).length := by
  have := tk_free T (ptL fC lv).length
  unfold inP'
  by_cases hbk : (tkP (ptL fC lv).length T).2.2 = true
  · rw [if_pos hbk] at this ⊢
    simp only [inLv_len]; exact this
  · rw [if_neg hbk] at this ⊢
    exact this
theorem lfP_free (l : List En) (ps : List (List UInt8)) (T : List Bool) : match (lfP l ps T).2.2 with | some lv' => freeN (lfP l ps T).2.1 + lv'.length = freeN T | none => freeN T < (ptL fE l).length := by
  have := tk_free T (ptL fE l).length
  unfold lfP
  by_cases hbk : (tkP (ptL fE l).length T).2.2 = true
  · rw [if_pos hbk] at this ⊢
    simp only [lfLv_len]; exact this
  · rw [if_neg hbk] at this ⊢
    exact this
/-- What was built: pages that were taken stand; a root leads to a right tree; else too few were free. -/
structure BdOk (ps : List (List UInt8)) (T : List Bool) (old : List Nat) (c : Nat) (l : List En) (R : Bd) : Prop where
  len : R.1.length = ps.length
  lent : R.2.1.length = T.length
  keep : ∀ p : Nat, p ∉ old → T[p]? = some true → R.1[p]? = ps[p]? ∧ R.2.1[p]? = some true
  ok : ∀ root, R.2.2 = some root → ∃ h d, 1 ≤ h ∧ h ≤ 12 ∧ Sub R.1 h d 0 ∧ d.p = root ∧ d.L = l ∧ d.P.Nodup ∧ ∀ p ∈ d.P, R.2.1[p]? = some true ∧ (T[p]? = some false ∨ p ∈ old)
  no : R.2.2 = none → freeN T < c
theorem up_ok {n : Nat} {l : List En} (hr : riseP l) : ∀ (f h : Nat) (lv : List Kd) (ds : List Nd) (ps : List (List UInt8)) (T : List Bool), LvS ps (h + 1) l lv ds → LvOk n lv → n = ps.length → T.length = ps.length → ps.length ≤ 10000 → (∀ p ∈ (ds.map Nd.P).flatten, T[p]? = some true) → lv.length ≤ f → lv.length * 2 ^ h ≤ 4095 →
    BdOk ps T ((ds.map Nd.P).flatten) lv.length l (upP f (ps, T, some lv))
  | 0, h, lv, ds, ps, T, S, O, hn, hT, hb, hm, hf, hh => by have := O.pos; omega
  | f + 1, h, lv, ds, ps, T, S, O, hn, hT, hb, hm, hf, hh => by
    have hp1 := O.pos
    have h12 : h < 12 := by
      by_cases hc : h < 12
      · exact hc
      · have h1 : 2 ^ 12 ≤ 2 ^ h := Nat.pow_le_pow_right (by omega) (by omega)
        have h2 : 1 * 2 ^ h ≤ lv.length * 2 ^ h := Nat.mul_le_mul_right _ hp1
        have h3 : (2 : Nat) ^ 12 = 4096 := by decide
        omega
    unfold upP
    by_cases h1 : lv.length ≤ 1
    · rw [if_pos h1]
      have hdl : ds.length = lv.length := by have := congrArg List.length S.fst; simpa using this
      obtain ⟨c, rfl⟩ : ∃ c, lv = [c] := by
        match lv, hp1, h1 with
        | [c], _, _ => exact ⟨c, rfl⟩
      obtain ⟨d, rfl⟩ : ∃ d, ds = [d] := by
        match ds, hdl with
        | [d], _ => exact ⟨d, rfl⟩
      have e1 := S.fst
      have e2 := S.L
      have e3 := S.nodup
      simp only [List.map_cons, List.map_nil, List.flatten_cons, List.flatten_nil, List.append_nil, List.cons.injEq, and_true] at e1 e2 e3 hm
      refine ⟨rfl, rfl, fun p _ hp => ⟨rfl, hp⟩, fun root hroot => ?_, fun hno => by cases hno⟩
      simp only [List.head?_cons, Option.map_some, Option.getD_some, Option.some.injEq] at hroot
      refine ⟨h + 1, d, by omega, by omega, S.chn.1, by rw [e1, hroot], e2, e3, fun p hp => ⟨hm p hp, .inr (by simpa using hp)⟩⟩
    · rw [if_neg h1]
      have hK := inP_keep lv ps T
      have hF := inP_free lv ps T
      have hgs := gs_half O.may (by omega)
      have hstep := fun lv' => in_sub (lv' := lv') (n := n) (lv := lv) (ds := ds) (ps := ps) (T := T) S hr O (by omega) hn hT hb hm
      have hok := fun lv' => inOk (n := n) (l := lv) O (by omega) (ps := ps) (T := T) (by omega) (lv := lv')
      generalize inP' lv ps T = R at *
      obtain ⟨ps', T', r⟩ := R
      simp only at *
      cases r with
      | none =>
        have e : upP f (ps', T', none) = (ps', T', none) := by cases f <;> rfl
        rw [e]
        exact ⟨hK.1, hK.2.1, fun p _ hp => hK.2.2 p hp, fun root hroot => (by cases hroot), fun _ => by simp only at hF; omega⟩
      | some lv' =>
        simp only at hF
        obtain ⟨ds', S', hP'⟩ := hstep lv' rfl
        obtain ⟨O', hl'⟩ := hok lv' rfl
        have hpw : lv'.length * 2 ^ (h + 1) ≤ 4095 := by
          rw [Nat.pow_succ]
          have h3 : 2 * lv'.length * 2 ^ h ≤ lv.length * 2 ^ h := Nat.mul_le_mul_right _ (by omega)
          have h4 : lv'.length * (2 ^ h * 2) = 2 * lv'.length * 2 ^ h := by rw [← Nat.mul_assoc, Nat.mul_comm, ← Nat.mul_assoc]
          omega
        have ih := up_ok hr f (h + 1) lv' ds' ps' T' S' O' (by omega) (by omega) (by omega) (fun p hp => (hP' p hp).1) (by omega) hpw
        refine ⟨by rw [ih.len]; exact hK.1, by rw [ih.lent]; exact hK.2.1, fun p hp hT1 => ?_, fun root hroot => ?_, fun hno => ?_⟩
        · have hk := hK.2.2 p hT1
          have hp' : p ∉ (ds'.map Nd.P).flatten := fun hm' => by
            rcases (hP' p hm').2 with h2 | h2
            · rw [hT1] at h2; cases h2
            · exact hp h2
          have := ih.keep p hp' hk.2
          exact ⟨this.1.trans hk.1, this.2⟩
        · obtain ⟨h', d, a1, a2, a3, a4, a5, a6, a7⟩ := ih.ok root hroot
          refine ⟨h', d, a1, a2, a3, a4, a5, a6, fun p hp => ⟨(a7 p hp).1, ?_⟩⟩
          rcases (a7 p hp).2 with h2 | h2
          · left
            cases hTp : T[p]? with
            | none =>
              have := lt_of_at h2
              rw [List.getElem?_eq_none_iff] at hTp; omega
            | some b =>
              cases b with
              | false => rfl
              | true => rw [(hK.2.2 p hTp).2] at h2; cases h2
          · exact (hP' p h2).2
        · have := ih.no hno
          omega
/-- What building comes to. -/
theorem bd_ok {l : List En} {ps : List (List UInt8)} {T : List Bool} (hm : mayEn l = true) (hok : ∀ e ∈ l, e.ok) (hT : T.length = ps.length) (hb : ps.length ≤ 4095) : BdOk ps T [] (2 * l.length + 2) l (bdP l ps T) := by
  have hr : riseP l := (rise_iff l).1 (by rw [may_both, Bool.and_eq_true] at hm; exact hm.2)
  unfold bdP
  have hK := lfP_keep l ps T
  have hF := lfP_free l ps T
  have hgs := gs_le hm
  have hstep := fun lv => lf_sub (lv := lv) hm hok hT (by omega)
  have hok' := fun lv => lfOk (ps := ps) (T := T) (lv := lv) hm hok
  generalize lfP l ps T = R at *
  obtain ⟨ps', T', r⟩ := R
  simp only at *
  cases r with
  | none =>
    have e : upP (l.length + 2) (ps', T', none) = (ps', T', none) := rfl
    rw [e]
    exact ⟨hK.1, hK.2.1, fun p _ hp => hK.2.2 p hp, fun root hroot => (by cases hroot), fun _ => by simp only at hF; omega⟩
  | some lv =>
    simp only at hF
    obtain ⟨ds, S, hP⟩ := hstep lv rfl
    obtain ⟨O, hl⟩ := hok' lv rfl
    have hfr : freeN T ≤ T.length := by unfold freeN; exact List.length_filter_le _ _
    have ih := up_ok hr (l.length + 2) 0 lv ds ps' T' S O (by omega) (by omega) (by omega) (fun p hp => (hP p hp).2) (by omega) (by omega)
    refine ⟨by rw [ih.len]; exact hK.1, by rw [ih.lent]; exact hK.2.1, fun p hp hT1 => ?_, fun root hroot => ?_, fun hno => ?_⟩
    · have hk := hK.2.2 p hT1
      have hp' : p ∉ (ds.map Nd.P).flatten := fun hm' => by
        have := (hP p hm').1
        rw [hT1] at this; cases this
      have := ih.keep p hp' hk.2
      exact ⟨this.1.trans hk.1, this.2⟩
    · obtain ⟨h', d, a1, a2, a3, a4, a5, a6, a7⟩ := ih.ok root hroot
      refine ⟨h', d, a1, a2, a3, a4, a5, a6, fun p hp => ⟨(a7 p hp).1, ?_⟩⟩
      rcases (a7 p hp).2 with h2 | h2
      · left
        cases hTp : T[p]? with
        | none =>
          have := lt_of_at h2
          rw [List.getElem?_eq_none_iff] at hTp; omega
        | some b =>
          cases b with
          | false => rfl
          | true => rw [(hK.2.2 p hTp).2] at h2; cases h2
      · exact .inl (hP p h2).1
    · have := ih.no hno
      omega
theorem cmpE_z (y : En) (h : y.ok) : 0 ≤ cmpE y enZ := by
  obtain ⟨h1, h2, h3⟩ := h
  have e1 : 0 ≤ cmpI y.p 0 := by unfold cmpI; repeat (first | omega | split)
  have e2 : 0 ≤ cmpI y.q 0 := by unfold cmpI; repeat (first | omega | split)
  have e3 : 0 ≤ cb y.s.data.toList [] := by cases y.s.data.toList <;> simp [cb, Lib.compareBytes]
  unfold cmpE
  rw [orL3]
  show 0 ≤ if cb y.s.data.toList [] = 0 then (if cmpI y.p 0 = 0 then cmpI y.q 0 else cmpI y.p 0) else cb y.s.data.toList []
  split
  · split
    · exact e2
    · exact e1
  · exact e3
/-- A right tree is passed. -/
theorem sub_chk {ps : List (List UInt8)} {h : Nat} {d : Nd} {l : List En} (hs : Sub ps h d 0) (h1 : 1 ≤ h) (h2 : h ≤ 12) (hL : d.L = l) (hn : d.P.Nodup) (hok : ∀ e ∈ l, e.ok) (hp : ∀ p ∈ d.P, p < ps.length) : chkP ps d.p = some (adv (ck0 ps.length) l d.P d.k h 0) := by
  unfold chkP
  have := sub_ck h d 0 hs 13 1 bnd0 (ck0 ps.length) (by omega) (by omega) (by omega) (fun p hp' => by
    show (List.replicate ps.length false)[p]? = some false
    rw [List.getElem?_replicate, if_pos (hp p hp')]) hn (.inl ⟨rfl, rfl⟩) (fun y hy => ⟨cmpE_z y (hok y (by rw [← hL]; exact hy)), fun he => by cases he⟩)
  rw [this, hL, show 1 + h - 1 = h from by omega]
  rfl
end
end Go.Proofs.Ytebobcbaloddaaa
/-
  The reference's trees: has, wrong.
-/
namespace Go.Proofs.Ytebobcbaloddaaa
section
set_option linter.unusedSimpArgs false
set_option linter.unusedVariables false
open Go.RowKit Go.Maps

theorem take_notin {l : List Nat} {k x p : Nat} (hx : l[k]? = some x) (h1 : p ∉ l.take k) (h2 : x ≠ p) : p ∉ l.take (k + 1) := by
  have : l.take (k + 1) = l.take k ++ [x] := by rw [List.take_add_one, hx]; rfl
  rw [this]
  simp only [List.mem_append, List.mem_singleton, not_or]
  exact ⟨h1, fun e => h2 e.symm⟩
set_option maxRecDepth 100000 in
theorem rhas_any11 (A : Option Addr) (n c : Nat) (l : List Nat) (p : Nat) (w : World) (hr : Reads w w.heap.size 1 A n (vN l)) (hn : n ≤ 1000000) :
    Calls Try.prog 61 #[.slice A n c, .int .u32 (p : Int)] w (RetB w (.bool (decide (p ∈ l)))) := by
  have hnI : (n : Int) ≤ 1000000 := by omega
  have hl : l.length = n := by have := hr.1; rw [vN_len] at this; omega
  have Hl := Lib.hid hl; clear hl
  go_enter Try.func61, Try.ntmps61
  go_wp2
  go_loopw [8] (fun v wr => ∃ k : Nat, v = .int .i64 k ∧ k ≤ n ∧ p ∉ l.take k ∧ Below w.heap.size w wr) (fun v _ => n - (intOf v).toNat)
  case atStart => exact ⟨0, rfl, by omega, by simp, Below.refl _ _⟩
  case round =>
    obtain ⟨k, rfl, hk, hz, hb⟩ := hrel
    have g1 : (0 : Int) ≤ (k : Int) := by omega
    have Hz := Lib.hid hz; clear hz
    by_cases hki : k < n
    · have g2 : (k : Int) < (n : Int) := by omega
      obtain ⟨ad, x, rfl, _, hx, d1⟩ := (hr.below hb).num hki
      have Hx := Lib.hid hx; clear hx
      by_cases hx0 : x = p
      · have e1 : ((x : Int) == (p : Int)) = true := by subst hx0; simp
        have Hm := Lib.hid (show p ∈ l by rw [← hx0]; exact List.mem_of_getElem? Hx.out)
        clear hx0
        go_wp2
        go_ret
        exact ⟨ret_bool (by simp [Hm.out]), hb⟩
      · have e1 : ((x : Int) == (p : Int)) = false := by simp; omega
        have Hx0 := Lib.hid hx0; clear hx0
        go_wp2
        go_roundw
        case rel => exact ⟨k + 1, by go_num, by omega, take_notin Hx.out Hz.out Hx0.out, hb⟩
        case measure => simp [intOf]; omega
    · obtain rfl : n = k := by omega
      have e1 : l.take n = l := List.take_of_length_le (by rw [Hl.out]; exact Nat.le_refl _)
      have h2 := Hz.out
      rw [e1] at h2
      have H2 := Lib.hid h2; clear h2 e1
      go_wp2
      go_ret
      exact ⟨ret_bool (by simp [H2.out]), hb⟩
/-- A slice, as the reference's T holds it. -/
structure S11 where
  A : Option Addr
  n : Nat
  c : Nat
@[reducible] def S11.v (s : S11) : Value := .slice s.A s.n s.c
/-- The reference's T, as a value. -/
@[reducible] def tV11 (l f x p : S11) (hi : Nat) (wr : Bool) : Value := .agg #[l.v, f.v, x.v, p.v, .int .i64 (hi : Int), .bool wr]
@[reducible] def tArr11 (l f x p : S11) (hi : Nat) (wr : Bool) : Array Value := #[l.v, f.v, x.v, p.v, .int .i64 (hi : Int), .bool wr]
theorem t_end {W : World} {R : Nat} {tm : Array Value} {Q : Ending → World → Prop} {l f x p : S11} {hi : Nat} {b : Bool} (hR : Blk W R 71 (tArr11 l f x p hi b))
    (h2 : tm[2]? = some (.pointer (some ⟨R, 0, none⟩))) (h : Q (.returned (tV11 l f x p hi b)) W) :
    bodyPost Try.prog Try.f41 Q Exit.ret { tmps := tm, defers := [] } W := by
  have q0 : W.cell? ⟨R, 0, none⟩ = _ := hR.cell 0
  have q1 : W.cell? ⟨R, 1, none⟩ = _ := hR.cell 1
  have q2 : W.cell? ⟨R, 2, none⟩ = _ := hR.cell 2
  have q3 : W.cell? ⟨R, 3, none⟩ = _ := hR.cell 3
  have q4 : W.cell? ⟨R, 4, none⟩ = _ := hR.cell 4
  have q5 : W.cell? ⟨R, 5, none⟩ = _ := hR.cell 5
  exact bodyPost_ret (v := tV11 l f x p hi b) (by simp [results, Try.results41, go_sem, h2, q0, q1, q2, q3, q4, q5]) rfl h
set_option maxRecDepth 100000 in
theorem rwrong_any11 (l f x p : S11) (hi : Nat) (b : Bool) (w : World) :
    Calls Try.prog 41 #[tV11 l f x p hi b] w (RetB w (tV11 l f x p hi true)) := by
  obtain ⟨A0, n0, c0⟩ := l
  obtain ⟨A1, n1, c1⟩ := f
  obtain ⟨A2, n2, c2⟩ := x
  obtain ⟨A3, n3, c3⟩ := p
  go_enter Try.func41, Try.ntmps41
  go_wp2
  have hB : Blk ((w.alloc (.cells #[.slice A0 n0 c0, .slice A1 n1 c1, .slice A2 n2 c2, .slice A3 n3 c3, .int .i64 (hi : Int), .bool true] 71)).alloc (.cells #[.slice A0 n0 c0, .slice A1 n1 c1, .slice A2 n2 c2, .slice A3 n3 c3, .int .i64 (hi : Int), .bool true] 71)) (w.heap.size + 1) 71 #[.slice A0 n0 c0, .slice A1 n1 c1, .slice A2 n2 c2, .slice A3 n3 c3, .int .i64 (hi : Int), .bool true] :=
    Blk.newAt (by simp)
  exact t_end (l := ⟨A0, n0, c0⟩) (f := ⟨A1, n1, c1⟩) (x := ⟨A2, n2, c2⟩) (p := ⟨A3, n3, c3⟩) (hi := hi) (b := true) hB rfl ⟨rfl, ball (ball (Below.refl _ _) _) _⟩
end
end Go.Proofs.Ytebobcbaloddaaa
/-
  The law's rows: Has.
-/
namespace Go.Proofs.Ytebobcbaloddaaa
section
set_option linter.unusedSimpArgs false
set_option linter.unusedVariables false
open Go.RowKit Go.Maps

theorem take_notin' {α : Type} {l : List α} {k : Nat} {x p : α} (hx : l[k]? = some x) (h1 : p ∉ l.take k) (h2 : x ≠ p) : p ∉ l.take (k + 1) := by
  have : l.take (k + 1) = l.take k ++ [x] := by rw [List.take_add_one, hx]; rfl
  rw [this]
  simp only [List.mem_append, List.mem_singleton, not_or]
  exact ⟨h1, fun e => h2 e.symm⟩
theorem bytes_same {a b : ByteArray} (h : (a.toList == b.toList) = true) : a = b := by
  have h1 : a.toList = b.toList := eq_of_beq h
  rw [ByteArray.toList_eq, ByteArray.toList_eq] at h1
  obtain ⟨⟨la⟩⟩ := a
  obtain ⟨⟨lb⟩⟩ := b
  simp only at h1
  rw [h1]
set_option maxRecDepth 100000 in
set_option maxHeartbeats 1000000 in
theorem hasE_any (A : Option Addr) (n c : Nat) (l : List En) (x : En) (w : World) (hr : Reads w w.heap.size 3 A n (vE l)) (hn : n ≤ 1000000) :
    Calls Try.prog 14 #[.slice A n c, x.agg] w fun e w' => (∃ b : Bool, e = .returned (.bool b) ∧ (b = true ↔ x ∈ l)) ∧ Below w.heap.size w w' := by
  have hnI : (n : Int) ≤ 1000000 := by omega
  have hl : l.length = n := by have := hr.1; rw [vE_len] at this; omega
  have Hl := Lib.hid hl; clear hl
  obtain ⟨s, p, q⟩ := x
  have hX : Blk (w.alloc (.cells #[.string s, .int .u32 p, .int .u16 q] 38)) w.heap.size 38 #[.string s, .int .u32 p, .int .u16 q] := Blk.new _ _ _
  have hb0 : Below w.heap.size w (w.alloc (.cells #[.string s, .int .u32 p, .int .u16 q] 38)) := ball (Below.refl _ _) _
  go_enter Try.func14, Try.ntmps14
  go_wp2
  generalize (w.alloc (.cells #[.string s, .int .u32 p, .int .u16 q] 38)) = w1 at *
  go_loopw [8] (fun v wr => ∃ k : Nat, v = .int .i64 k ∧ k ≤ n ∧ (⟨s, p, q⟩ : En) ∉ l.take k ∧ Below w1.heap.size w1 wr) (fun v _ => n - (intOf v).toNat)
  case atStart => exact ⟨0, rfl, by omega, by simp, Below.refl _ _⟩
  case round =>
    obtain ⟨k, rfl, hk, hz, hb⟩ := hrel
    have g1 : (0 : Int) ≤ (k : Int) := by omega
    have Hz := Lib.hid hz; clear hz
    have hbw := bto0 hb0 hb
    have HB := Lib.hid hbw
    have Hw := Lib.hid hb
    have X1 := hX.below hb hX.lt
    have x0 : wr.cell? ⟨w.heap.size, 0, none⟩ = some (.string s) := X1.cell 0
    have x1 : wr.cell? ⟨w.heap.size, 1, none⟩ = some (.int .u32 p) := X1.cell 1
    have x2 : wr.cell? ⟨w.heap.size, 2, none⟩ = some (.int .u16 q) := X1.cell 2
    by_cases hki : k < n
    · have g2 : (k : Int) < (n : Int) := by omega
      obtain ⟨ad, v, rfl, _, hx, d0, d1, d2⟩ := (hr.below hbw).ent hki
      have Hx := Lib.hid hx
      clear hx hbw hb X1 hr hX hb0
      obtain ⟨vk, vi, vs⟩ := v
      simp only at d0 d1 d2
      by_cases he : (⟨vk, vi, vs⟩ : En) = ⟨s, p, q⟩
      · have Hm := Lib.hid (show (⟨s, p, q⟩ : En) ∈ l by rw [← he]; exact List.mem_of_getElem? Hx.out)
        injection he with e1 e2 e3
        subst e1; subst e2; subst e3
        clear Hx
        go_wp2
        go_quiet (fail)
        go_wp2
        go_ret
        exact ⟨⟨true, rfl, by simp [Hm.out]⟩, bdr HB.out _⟩
      · have He := Lib.hid he
        obtain ⟨b1, e1, c1⟩ : ∃ b : Bool, (vk.toList == s.toList) = b ∧ (b = true → vk = s) := ⟨_, rfl, bytes_same⟩
        obtain ⟨b2, e2, c2⟩ : ∃ b : Bool, (vi == p) = b ∧ (b = true → vi = p) := ⟨_, rfl, fun h => by simpa using h⟩
        obtain ⟨b3, e3, c3⟩ : ∃ b : Bool, (vs == q) = b ∧ (b = true → vs = q) := ⟨_, rfl, fun h => by simpa using h⟩
        have hno : (b1 && b2 && b3) = false := by
          cases hq : (b1 && b2 && b3) with
          | false => rfl
          | true =>
            simp only [Bool.and_eq_true] at hq
            exact absurd (by rw [c1 hq.1.1, c2 hq.1.2, c3 hq.2]) he
        clear he c1 c2 c3
        cases b1 <;> cases b2 <;> cases b3
        all_goals first
          | (exfalso; revert hno; decide)
          | (clear hno
             go_wp2
             go_quiet (fail)
             go_wp2
             go_roundw
             case rel => exact ⟨k + 1, by go_num, by omega, take_notin' Hx.out Hz.out He.out, bdr Hw.out _⟩
             case measure => simp [intOf]; omega)
    · obtain rfl : n = k := by omega
      have e1 : l.take n = l := List.take_of_length_le (by rw [Hl.out]; exact Nat.le_refl _)
      have h2 := Hz.out
      rw [e1] at h2
      have H2 := Lib.hid h2; clear h2 e1
      go_wp2
      go_ret
      exact ⟨⟨false, rfl, by simp [H2.out]⟩, HB.out⟩
end
end Go.Proofs.Ytebobcbaloddaaa
/-
  The law's rows: With, Sorted (plain).
-/
namespace Go.Proofs.Ytebobcbaloddaaa
section
set_option linter.unusedSimpArgs false
set_option linter.unusedVariables false
open Go.RowKit Go.Maps

theorem cmpE_zero {a b : En} (h : cmpE a b = 0) : a = b := by
  unfold cmpE at h
  rw [orL3] at h
  split at h
  · rename_i h1
    split at h
    · rename_i h2
      have e1 := cb_zero h1
      have e2 := (cmpI_zero _ _).1 h2
      have e3 := (cmpI_zero _ _).1 h
      obtain ⟨⟨⟨sa⟩⟩, pa, qa⟩ := a
      obtain ⟨⟨⟨sb⟩⟩, pb, qb⟩ := b
      simp only at e1 e2 e3
      rw [e1, e2, e3]
    · rename_i h2; exact absurd h h2
  · rename_i h1; exact absurd h h1
/-- With, as the reference has it. -/
def withP : List En → En → List En
  | [], x => [x]
  | y :: r, x => if lessE x y then x :: y :: r else y :: withP r x
theorem with_mem {x z : En} : ∀ {l : List En}, z ∈ withP l x ↔ z = x ∨ z ∈ l
  | [] => by simp [withP]
  | y :: r => by
    unfold withP
    split
    · simp
    · rw [List.mem_cons, with_mem, List.mem_cons]
      constructor
      · rintro (h | h | h)
        · exact .inr (.inl h)
        · exact .inl h
        · exact .inr (.inr h)
      · rintro (h | h | h)
        · exact .inr (.inl h)
        · exact .inl h
        · exact .inr (.inr h)
theorem with_len {x : En} : ∀ l : List En, (withP l x).length = l.length + 1
  | [] => rfl
  | y :: r => by
    unfold withP
    split
    · rfl
    · rw [List.length_cons, with_len, List.length_cons]
theorem with_rise {x : En} : ∀ {l : List En}, riseP l → x ∉ l → riseP (withP l x)
  | [], _, _ => List.pairwise_singleton _ _
  | y :: r, h, hx => by
    have h1 := List.pairwise_cons.1 h
    rw [List.mem_cons, not_or] at hx
    unfold withP
    split
    · rename_i hl
      rw [lessE_cmp, decide_eq_true_eq] at hl
      refine List.pairwise_cons.2 ⟨fun z hz => ?_, h⟩
      rcases List.mem_cons.1 hz with rfl | hz
      · exact hl
      · exact cmpE_lt_trans hl (h1.1 z hz)
    · rename_i hl
      rw [lessE_cmp, decide_eq_true_eq] at hl
      have h0 : cmpE x y ≠ 0 := fun e => hx.1 (cmpE_zero e)
      have h2 : cmpE y x < 0 := by have := cmpE_swap x y; omega
      refine List.pairwise_cons.2 ⟨fun z hz => ?_, with_rise h1.2 hx.2⟩
      rcases with_mem.1 hz with rfl | hz
      · exact h2
      · exact h1.1 z hz
instance : DecidableEq En := fun a b => if h : cmpE a b = 0 then .isTrue (cmpE_zero h) else .isFalse fun e => h (by rw [e]; exact cmpE_self b)
/-- One step of the law's Sorted. -/
def stepP (out : List En) (x : En) : List En := if x.s.size ≤ 200 ∧ x ∉ out then withP out x else out
/-- The law's Sorted: of the first 400. -/
def sortP (l : List En) : List En := (l.take 400).foldl stepP []
structure SrtOk (n : Nat) (l out : List En) : Prop where
  rise : riseP out
  small : ∀ x ∈ out, x.s.size ≤ 200
  mem : ∀ x ∈ out, x ∈ l
  len : out.length ≤ n
theorem step_ok {n : Nat} {l out : List En} {x : En} (h : SrtOk n l out) (hx : x ∈ l) : SrtOk (n + 1) l (stepP out x) := by
  unfold stepP
  split
  · rename_i hc
    refine ⟨with_rise h.rise hc.2, fun z hz => ?_, fun z hz => ?_, by rw [with_len]; have := h.len; omega⟩
    · rcases with_mem.1 hz with rfl | hz
      · exact hc.1
      · exact h.small z hz
    · rcases with_mem.1 hz with rfl | hz
      · exact hx
      · exact h.mem z hz
  · exact ⟨h.rise, h.small, h.mem, by have := h.len; omega⟩
theorem fold_ok {l : List En} : ∀ (t : List En) (n : Nat) (out : List En), SrtOk n l out → (∀ x ∈ t, x ∈ l) → SrtOk (n + t.length) l (t.foldl stepP out)
  | [], _, _, h, _ => h
  | x :: t, n, out, h, ht => by
    have := fold_ok t (n + 1) (stepP out x) (step_ok h (ht x (by simp))) fun z hz => ht z (by simp [hz])
    rw [List.foldl_cons, List.length_cons, show n + (t.length + 1) = n + 1 + t.length from by omega]
    exact this
theorem sort_ok (l : List En) : SrtOk 400 l (sortP l) := by
  have := fold_ok (l := l) (l.take 400) 0 [] ⟨List.Pairwise.nil, fun x hx => (by cases hx), fun x hx => (by cases hx), Nat.le_refl _⟩ fun x hx => List.mem_of_mem_take hx
  exact ⟨this.rise, this.small, this.mem, Nat.le_trans this.len (by rw [List.length_take]; omega)⟩
theorem sort_may (l : List En) : mayEn (sortP l) = true := by
  have h := sort_ok l
  rw [may_both, Bool.and_eq_true]
  refine ⟨?_, (rise_iff _).2 h.rise⟩
  unfold smallB
  simp only [List.all_eq_true, decide_eq_true_eq]
  exact h.small
end
end Go.Proofs.Ytebobcbaloddaaa
/-
  The law's rows: contracts of With and Sorted.
-/
namespace Go.Proofs.Ytebobcbaloddaaa
section
set_option linter.unusedSimpArgs false
set_option linter.unusedVariables false
open Go.RowKit Go.Maps

/-- What stands beside the row that grows. -/
theorem own_kept36 {w w' : World} {g n : Nat} {v : Value} {xs : List Value} {o : Obj} {cs : Array Value} (h : w.ownsRow (g + 1) 38 3 v n xs) (hb : Blk w g 38 cs) (hz : g + 1 ≤ w.heap.size) (hg : (w.alloc o).grownBy w' v.ownBlock) : Blk w' g 38 cs ∧ g + 1 ≤ w'.heap.size := by
  refine ⟨(hb.alloc o).grown hg fun e => ?_, ?_⟩
  · have := (World.ownsRow.lt h g e.symm).1; omega
  · have := hg.size
    simp at this
    omega
/-- A row of entries of the call's own. -/
def RetEs (w : World) (l : List En) (e : Ending) (w' : World) : Prop := ∃ A c, e = .returned (.slice A l.length c) ∧ w'.ownsRow w.heap.size 38 3 (.slice A l.length c) l.length (vE l) ∧ Below w.heap.size w w'
theorem vE_snoc36 (l : List En) (x : En) : vE (l ++ [x]) = vE l ++ En.cells x := by simp [vE, List.flatMap_append]
theorem withP_no {l : List En} {x y : En} {i : Nat} (hy : l[i]? = some y) (h : lessE x y = false) : withP (l.drop i) x = y :: withP (l.drop (i + 1)) x := by
  have hi := lt_of_at hy
  rw [List.drop_eq_getElem_cons hi, withP]
  have : l[i] = y := by rw [List.getElem?_eq_getElem hi] at hy; injection hy
  rw [this, if_neg (by rw [h]; simp)]
theorem withP_yes {l : List En} {x y : En} {i : Nat} (hy : l[i]? = some y) (h : lessE x y = true) : withP (l.drop i) x = x :: y :: l.drop (i + 1) := by
  have hi := lt_of_at hy
  rw [List.drop_eq_getElem_cons hi, withP]
  have : l[i] = y := by rw [List.getElem?_eq_getElem hi] at hy; injection hy
  rw [this, if_pos h]
theorem drop_at36 {l : List En} {y : En} {i : Nat} (hy : l[i]? = some y) : l.drop i = y :: l.drop (i + 1) := by
  have hi := lt_of_at hy
  rw [List.drop_eq_getElem_cons hi]
  have : l[i] = y := by rw [List.getElem?_eq_getElem hi] at hy; injection hy
  rw [this]
set_option maxRecDepth 100000 in
set_option maxHeartbeats 8000000 in
theorem with_any (A : Option Addr) (n c : Nat) (l : List En) (x : En) (w : World) (hr : Reads w w.heap.size 3 A n (vE l)) (hn : n ≤ 1000000) :
    Calls Try.prog 15 #[.slice A n c, x.agg] w (RetEs w (withP l x)) := by
  have hl : l.length = n := by have := hr.1; rw [vE_len] at this; omega
  obtain ⟨i0, hi0, hz0, hs0, hy0⟩ := int_info8 Try.infoE
  obtain ⟨R, hR⟩ : ∃ R, withP l x = R := ⟨_, rfl⟩
  have hRl : R.length = n + 1 := by rw [← hR, with_len, hl]
  rw [hR]
  have HR := Lib.hid hR
  have hx' : ∃ x', x' = x := ⟨_, rfl⟩
  obtain ⟨xx, hxx⟩ := hx'
  rw [← hxx] at HR
  have Hxx := Lib.hid hxx
  clear hR hxx
  obtain ⟨xs, xp, xq⟩ := x
  have hbX := ball (ball (Below.refl w.heap.size w) (.cells #[.string xs, .int .u32 xp, .int .u16 xq] 38)) (.cells #[] 38)
  have X0 := (Blk.new w 38 #[.string xs, .int .u32 xp, .int .u16 xq]).alloc (.cells #[] 38)
  have O0 : ((w.alloc (.cells #[.string xs, .int .u32 xp, .int .u16 xq] 38)).alloc (.cells #[] 38)).ownsRow (w.heap.size + 1) 38 3 (.slice (some ⟨w.heap.size + 1, 0, none⟩) 0 0) 0 [] := by
    have h := own_empty (w.alloc (.cells #[.string xs, .int .u32 xp, .int .u16 xq] 38)) 38 3 (g := w.heap.size + 1) (by simp)
    exact World.ownsRow.mono h (by simp)
  have hz : w.heap.size + 1 ≤ ((w.alloc (.cells #[.string xs, .int .u32 xp, .int .u16 xq] 38)).alloc (.cells #[] 38)).heap.size := by simp
  have H0 := Lib.hid (And.intro hbX (And.intro X0 (And.intro O0 hz)))
  have HR0 := Lib.hid hr
  have HL := Lib.hid (And.intro hl hRl)
  clear hbX X0 O0 hz hr hl hRl
  go_enter Try.func15, Try.ntmps15
  go_wp2_with fail
  go_loopw [5, 6, 11] (fun v5 v6 v11 wr => ∃ (i : Nat) (O : List En) (d : Bool), v11 = .int .i64 (i : Int) ∧ i ≤ n ∧ v6 = .bool d ∧ wr.ownsRow (w.heap.size + 1) 38 3 v5 O.length (vE O) ∧ Below w.heap.size w wr ∧ Blk wr w.heap.size 38 #[.string xs, .int .u32 xp, .int .u16 xq] ∧ w.heap.size + 1 ≤ wr.heap.size ∧ O ++ (if d then l.drop i else withP (l.drop i) xx) = R) (fun _ _ v11 _ => n - (intOf v11).toNat)
  case atStart => exact ⟨0, [], false, rfl, Nat.zero_le _, rfl, H0.out.2.2.1, H0.out.1, H0.out.2.1, H0.out.2.2.2, by rw [← HR.out]; rfl⟩
  case round =>
    obtain ⟨i, O, d, rfl, hin, rfl, hO, hb, hX, hzr, hp⟩ := hrel
    have i0' : (0 : Int) ≤ (i : Int) := by omega
    have hOl : O.length ≤ n + 1 := by
      have h1 := congrArg List.length hp
      rw [List.length_append, HL.out.2] at h1
      omega
    obtain ⟨Ao, co, rfl, hco⟩ := own_form hO
    by_cases hlt : i < n
    · have i1 : (i : Int) < (n : Int) := by omega
      obtain ⟨y, hy⟩ : ∃ y, l[i]? = some y := ⟨_, List.getElem?_eq_getElem (by rw [HL.out.1]; exact hlt)⟩
      obtain ⟨ad, rfl, hab, _, HYY⟩ := ent_of (w := w) HR0.out hy
      obtain ⟨ly, hly⟩ : ∃ b, lessE xx y = b := ⟨_, rfl⟩
      have HP := Lib.hid (And.intro hp (And.intro hy hly))
      have C1 := Lib.hid fun W => lessE_any xx y W
      rw [hly, Hxx.out] at C1
      have HY' : Hid (∀ W, Below w.heap.size w W → W.cell? (ad.add (i * 3)) = some (.string y.s) ∧ W.cell? ⟨(ad.add (i * 3)).block, (ad.add (i * 3)).off + 1, none⟩ = some (.int .u32 y.p) ∧ W.cell? ⟨(ad.add (i * 3)).block, (ad.add (i * 3)).off + 2, none⟩ = some (.int .u16 y.q)) := Lib.hid HYY
      have hyy' : ∃ y', y' = y := ⟨_, rfl⟩
      obtain ⟨yy, hyy⟩ := hyy'
      rw [← hyy] at HP
      have Hyy := Lib.hid hyy
      clear hp hy hly HYY hyy
      obtain ⟨ys, yp, yq⟩ := y
      simp only at HY'
      unfold En.agg at C1
      simp only at C1
      have HH := Lib.hid (And.intro hO (And.intro hb (And.intro hX hzr)))
      have hS : Hid (∀ W, Below wr.heap.size wr W → W.cell? ⟨w.heap.size, 0, none⟩ = some (.string xs) ∧ W.cell? ⟨w.heap.size, 1, none⟩ = some (.int .u32 xp) ∧ W.cell? ⟨w.heap.size, 2, none⟩ = some (.int .u16 xq) ∧ W.cell? (ad.add (i * 3)) = some (.string ys) ∧ W.cell? ⟨(ad.add (i * 3)).block, (ad.add (i * 3)).off + 1, none⟩ = some (.int .u32 yp) ∧ W.cell? ⟨(ad.add (i * 3)).block, (ad.add (i * 3)).off + 2, none⟩ = some (.int .u16 yq) ∧ Below wr.heap.size wr W) := Lib.hid fun W hW => ⟨(HH.out.2.2.1.below hW HH.out.2.2.1.lt).cell 0, (HH.out.2.2.1.below hW HH.out.2.2.1.lt).cell 1, (HH.out.2.2.1.below hW HH.out.2.2.1.lt).cell 2, (HY'.out W (HH.out.2.1.trans (hW.mono (by have := HH.out.2.2.2; omega)))).1, (HY'.out W (HH.out.2.1.trans (hW.mono (by have := HH.out.2.2.2; omega)))).2.1, (HY'.out W (HH.out.2.1.trans (hW.mono (by have := HH.out.2.2.2; omega)))).2.2, hW⟩
      clear hO hb hX
      go_upto_region 6 with fail
      cases d
      · cases ly
        ·
          refine wp_region_held_drew (S := (fun W => W.cell? ⟨w.heap.size, 0, none⟩ = some (.string xs) ∧ W.cell? ⟨w.heap.size, 1, none⟩ = some (.int .u32 xp) ∧ W.cell? ⟨w.heap.size, 2, none⟩ = some (.int .u16 xq) ∧ W.cell? (ad.add (i * 3)) = some (.string ys) ∧ W.cell? ⟨(ad.add (i * 3)).block, (ad.add (i * 3)).off + 1, none⟩ = some (.int .u32 yp) ∧ W.cell? ⟨(ad.add (i * 3)).block, (ad.add (i * 3)).off + 2, none⟩ = some (.int .u16 yq) ∧ Below wr.heap.size wr W)) (by kernel_rfl) (by exact hS.out _ (Below.drew (Below.refl _ _))) (fun hHeld => ?_)
          try dsimp only at hHeld
          refine wpAnyH_take (i := 0) (v := ?_) rfl (by kernel_rfl) (by kernel_rfl) (by kernel_rfl) (fun _ _ _ h => h) (Or.inl ⟨rfl, ?_⟩) hHeld ?_
          rotate_left
          focus (intro wx hSw; (try dsimp only at hSw); (try go_split_ands); go_simp; (try with_reducible rfl))
          try simp only [Act.put, List.getElem_toArray, List.getElem_cons_succ, List.getElem_cons_zero, List.setIfInBounds_toArray, List.set_cons_zero, List.set_cons_succ]
          refine wpAnyH_take (i := 1) (v := ?_) rfl (by kernel_rfl) (by kernel_rfl) (by kernel_rfl) (fun _ _ _ h => h) (Or.inl ⟨rfl, ?_⟩) hHeld ?_
          rotate_left
          focus (intro wx hSw; (try dsimp only at hSw); (try go_split_ands); go_simp; (try with_reducible rfl))
          try simp only [Act.put, List.getElem_toArray, List.getElem_cons_succ, List.getElem_cons_zero, List.setIfInBounds_toArray, List.set_cons_zero, List.set_cons_succ]
          refine wpAnyH_take (i := 2) (v := ?_) rfl (by kernel_rfl) (by kernel_rfl) (by kernel_rfl) (fun _ _ _ h => h) (Or.inl ⟨rfl, ?_⟩) hHeld ?_
          rotate_left
          focus (intro wx hSw; (try dsimp only at hSw); (try go_split_ands); go_simp; (try with_reducible rfl))
          try simp only [Act.put, List.getElem_toArray, List.getElem_cons_succ, List.getElem_cons_zero, List.setIfInBounds_toArray, List.set_cons_zero, List.set_cons_succ]
          refine wpAnyH_take (i := 3) (v := ?_) rfl (by kernel_rfl) (by kernel_rfl) (by kernel_rfl) (fun _ _ _ h => h) (Or.inl ⟨rfl, ?_⟩) hHeld ?_
          rotate_left
          focus (intro wx hSw; (try dsimp only at hSw); (try go_split_ands); go_simp; (try with_reducible rfl))
          try simp only [Act.put, List.getElem_toArray, List.getElem_cons_succ, List.getElem_cons_zero, List.setIfInBounds_toArray, List.set_cons_zero, List.set_cons_succ]
          refine wpAnyH_take (i := 4) (v := ?_) rfl (by kernel_rfl) (by kernel_rfl) (by kernel_rfl) (fun _ _ _ h => h) (Or.inl ⟨rfl, ?_⟩) hHeld ?_
          rotate_left
          focus (intro wx hSw; (try dsimp only at hSw); (try go_split_ands); go_simp; (try with_reducible rfl))
          try simp only [Act.put, List.getElem_toArray, List.getElem_cons_succ, List.getElem_cons_zero, List.setIfInBounds_toArray, List.set_cons_zero, List.set_cons_succ]
          refine wpAnyH_take (i := 5) (v := ?_) rfl (by kernel_rfl) (by kernel_rfl) (by kernel_rfl) (fun _ _ _ h => h) (Or.inl ⟨rfl, ?_⟩) hHeld ?_
          rotate_left
          focus (intro wx hSw; (try dsimp only at hSw); (try go_split_ands); go_simp; (try with_reducible rfl))
          try simp only [Act.put, List.getElem_toArray, List.getElem_cons_succ, List.getElem_cons_zero, List.setIfInBounds_toArray, List.set_cons_zero, List.set_cons_succ]
          refine wpAnyH_take (i := 6) (v := ?_) rfl (by kernel_rfl) (by kernel_rfl) (by kernel_rfl) (fun _ _ _ h => h) (Or.inl ⟨rfl, ?_⟩) hHeld ?_
          rotate_left
          focus (intro wx hSw; (try dsimp only at hSw); (try go_split_ands); go_simp; (try with_reducible rfl))
          try simp only [Act.put, List.getElem_toArray, List.getElem_cons_succ, List.getElem_cons_zero, List.setIfInBounds_toArray, List.set_cons_zero, List.set_cons_succ]
          refine wpAnyH_take (i := 7) (v := ?_) rfl (by kernel_rfl) (by kernel_rfl) (by kernel_rfl) (fun _ _ _ h => h) (Or.inl ⟨rfl, ?_⟩) hHeld ?_
          rotate_left
          focus (intro wx hSw; (try dsimp only at hSw); (try go_split_ands); go_simp; (try with_reducible rfl))
          try simp only [Act.put, List.getElem_toArray, List.getElem_cons_succ, List.getElem_cons_zero, List.setIfInBounds_toArray, List.set_cons_zero, List.set_cons_succ]
          refine wpAnyH_ready (rs := [8]) (by kernel_rfl) (by simp) (AllReadyH.cons rfl (fun K hK => ?_) AllReadyH.nil)
          go_simp
          (with_reducible refine (C1.out _).mono ?_); rintro e w1 ⟨rfl, hb1⟩
          go_wp2_with fail
          refine hK.out _ _ ?_ (fun hHeld => ?_)
          · ((try dsimp only); (try dsimp only at hHeld); (first | exact hS.out _ (by (with_reducible repeat (first | exact Below.refl _ _ | exact hb1 | refine bto0 ?_ hb1 | refine bdr ?_ _ | refine Below.drew ?_ | refine ball ?_ _))) | assumption))
          clear hK K
          try dsimp only at hHeld
          try simp only [Act.put, List.getElem_toArray, List.getElem_cons_succ, List.getElem_cons_zero, List.setIfInBounds_toArray, List.set_cons_zero, List.set_cons_succ]
          refine wpAnyH_take (i := 9) (v := ?_) rfl (by kernel_rfl) (by kernel_rfl) (by kernel_rfl) (fun _ _ _ h => h) (Or.inl ⟨rfl, ?_⟩) hHeld ?_
          rotate_left
          focus (intro wx hSw; (try dsimp only at hSw); (try go_split_ands); go_simp; (try with_reducible rfl))
          try simp only [Act.put, List.getElem_toArray, List.getElem_cons_succ, List.getElem_cons_zero, List.setIfInBounds_toArray, List.set_cons_zero, List.set_cons_succ]
          refine wpAnyH_done (by kernel_rfl) ?_ _
          obtain ⟨y0, y1, y2, y3, y4, y5, hbW⟩ := hS.out (w1) (show Below wr.heap.size wr (w1) from by (with_reducible repeat (first | exact Below.refl _ _ | exact hb1 | refine bto0 ?_ hb1 | refine bdr ?_ _ | refine Below.drew ?_ | refine ball ?_ _)))
          have HW := Lib.hid (And.intro (own_below HH.out.1 hbW) (HH.out.2.1.trans (hbW.mono (by omega))))
          have hzw : w.heap.size + 1 ≤ (w1).heap.size := Nat.le_trans hzr hbW.size
          have hXw := Lib.hid (HH.out.2.2.1.below hbW HH.out.2.2.1.lt)
          clear hbW
          go_wp2_with (at_builtin; refine wpList_pushR (news := En.cells ⟨ys, yp, yq⟩) rfl (.tmp 28) (.tmp 33) 22 rfl (w.heap.size + 1) 38 i0 _ 3 24 Try.underlying22 hi0 hz0 hs0 hy0 rfl (by decide) _ O.length (vE O) rfl HW.out.1 rfl _ rfl (by simp) rfl (by intro u hu; simp only [En.cells, List.mem_cons, List.not_mem_nil, or_false] at hu; rcases hu with rfl | rfl | rfl <;> rfl) (by omega) (by omega) hzw ?_; intro v6 w6 ho6 hg6 hv6; have H6 := Lib.hid (And.intro ho6 (And.intro (below_grown HW.out.1 (by omega) hzw hg6 HW.out.2) (own_kept36 HW.out.1 hXw.out hzw hg6))); clear ho6 hg6)
          go_roundw
          case rel => exact ⟨i + 1, O ++ [yy], false, by go_num, by omega, rfl, by rw [List.length_append, List.length_singleton, vE_snoc36, Hyy.out]; exact H6.out.1, H6.out.2.1, H6.out.2.2.1, H6.out.2.2.2, by rw [← HP.out.1, withP_no HP.out.2.1 HP.out.2.2]; simp⟩
          case measure => simp [intOf]; omega
        ·
          refine wp_region_held_drew (S := (fun W => W.cell? ⟨w.heap.size, 0, none⟩ = some (.string xs) ∧ W.cell? ⟨w.heap.size, 1, none⟩ = some (.int .u32 xp) ∧ W.cell? ⟨w.heap.size, 2, none⟩ = some (.int .u16 xq) ∧ W.cell? (ad.add (i * 3)) = some (.string ys) ∧ W.cell? ⟨(ad.add (i * 3)).block, (ad.add (i * 3)).off + 1, none⟩ = some (.int .u32 yp) ∧ W.cell? ⟨(ad.add (i * 3)).block, (ad.add (i * 3)).off + 2, none⟩ = some (.int .u16 yq) ∧ Below wr.heap.size wr W)) (by kernel_rfl) (by exact hS.out _ (Below.drew (Below.refl _ _))) (fun hHeld => ?_)
          try dsimp only at hHeld
          refine wpAnyH_take (i := 0) (v := ?_) rfl (by kernel_rfl) (by kernel_rfl) (by kernel_rfl) (fun _ _ _ h => h) (Or.inl ⟨rfl, ?_⟩) hHeld ?_
          rotate_left
          focus (intro wx hSw; (try dsimp only at hSw); (try go_split_ands); go_simp; (try with_reducible rfl))
          try simp only [Act.put, List.getElem_toArray, List.getElem_cons_succ, List.getElem_cons_zero, List.setIfInBounds_toArray, List.set_cons_zero, List.set_cons_succ]
          refine wpAnyH_take (i := 1) (v := ?_) rfl (by kernel_rfl) (by kernel_rfl) (by kernel_rfl) (fun _ _ _ h => h) (Or.inl ⟨rfl, ?_⟩) hHeld ?_
          rotate_left
          focus (intro wx hSw; (try dsimp only at hSw); (try go_split_ands); go_simp; (try with_reducible rfl))
          try simp only [Act.put, List.getElem_toArray, List.getElem_cons_succ, List.getElem_cons_zero, List.setIfInBounds_toArray, List.set_cons_zero, List.set_cons_succ]
          refine wpAnyH_take (i := 2) (v := ?_) rfl (by kernel_rfl) (by kernel_rfl) (by kernel_rfl) (fun _ _ _ h => h) (Or.inl ⟨rfl, ?_⟩) hHeld ?_
          rotate_left
          focus (intro wx hSw; (try dsimp only at hSw); (try go_split_ands); go_simp; (try with_reducible rfl))
          try simp only [Act.put, List.getElem_toArray, List.getElem_cons_succ, List.getElem_cons_zero, List.setIfInBounds_toArray, List.set_cons_zero, List.set_cons_succ]
          refine wpAnyH_take (i := 3) (v := ?_) rfl (by kernel_rfl) (by kernel_rfl) (by kernel_rfl) (fun _ _ _ h => h) (Or.inl ⟨rfl, ?_⟩) hHeld ?_
          rotate_left
          focus (intro wx hSw; (try dsimp only at hSw); (try go_split_ands); go_simp; (try with_reducible rfl))
          try simp only [Act.put, List.getElem_toArray, List.getElem_cons_succ, List.getElem_cons_zero, List.setIfInBounds_toArray, List.set_cons_zero, List.set_cons_succ]
          refine wpAnyH_take (i := 4) (v := ?_) rfl (by kernel_rfl) (by kernel_rfl) (by kernel_rfl) (fun _ _ _ h => h) (Or.inl ⟨rfl, ?_⟩) hHeld ?_
          rotate_left
          focus (intro wx hSw; (try dsimp only at hSw); (try go_split_ands); go_simp; (try with_reducible rfl))
          try simp only [Act.put, List.getElem_toArray, List.getElem_cons_succ, List.getElem_cons_zero, List.setIfInBounds_toArray, List.set_cons_zero, List.set_cons_succ]
          refine wpAnyH_take (i := 5) (v := ?_) rfl (by kernel_rfl) (by kernel_rfl) (by kernel_rfl) (fun _ _ _ h => h) (Or.inl ⟨rfl, ?_⟩) hHeld ?_
          rotate_left
          focus (intro wx hSw; (try dsimp only at hSw); (try go_split_ands); go_simp; (try with_reducible rfl))
          try simp only [Act.put, List.getElem_toArray, List.getElem_cons_succ, List.getElem_cons_zero, List.setIfInBounds_toArray, List.set_cons_zero, List.set_cons_succ]
          refine wpAnyH_take (i := 6) (v := ?_) rfl (by kernel_rfl) (by kernel_rfl) (by kernel_rfl) (fun _ _ _ h => h) (Or.inl ⟨rfl, ?_⟩) hHeld ?_
          rotate_left
          focus (intro wx hSw; (try dsimp only at hSw); (try go_split_ands); go_simp; (try with_reducible rfl))
          try simp only [Act.put, List.getElem_toArray, List.getElem_cons_succ, List.getElem_cons_zero, List.setIfInBounds_toArray, List.set_cons_zero, List.set_cons_succ]
          refine wpAnyH_take (i := 7) (v := ?_) rfl (by kernel_rfl) (by kernel_rfl) (by kernel_rfl) (fun _ _ _ h => h) (Or.inl ⟨rfl, ?_⟩) hHeld ?_
          rotate_left
          focus (intro wx hSw; (try dsimp only at hSw); (try go_split_ands); go_simp; (try with_reducible rfl))
          try simp only [Act.put, List.getElem_toArray, List.getElem_cons_succ, List.getElem_cons_zero, List.setIfInBounds_toArray, List.set_cons_zero, List.set_cons_succ]
          refine wpAnyH_ready (rs := [8]) (by kernel_rfl) (by simp) (AllReadyH.cons rfl (fun K hK => ?_) AllReadyH.nil)
          go_simp
          (with_reducible refine (C1.out _).mono ?_); rintro e w1 ⟨rfl, hb1⟩
          go_wp2_with fail
          refine hK.out _ _ ?_ (fun hHeld => ?_)
          · ((try dsimp only); (try dsimp only at hHeld); (first | exact hS.out _ (by (with_reducible repeat (first | exact Below.refl _ _ | exact hb1 | refine bto0 ?_ hb1 | refine bdr ?_ _ | refine Below.drew ?_ | refine ball ?_ _))) | assumption))
          clear hK K
          try dsimp only at hHeld
          try simp only [Act.put, List.getElem_toArray, List.getElem_cons_succ, List.getElem_cons_zero, List.setIfInBounds_toArray, List.set_cons_zero, List.set_cons_succ]
          refine wpAnyH_take (i := 9) (v := ?_) rfl (by kernel_rfl) (by kernel_rfl) (by kernel_rfl) (fun _ _ _ h => h) (Or.inl ⟨rfl, ?_⟩) hHeld ?_
          rotate_left
          focus (intro wx hSw; (try dsimp only at hSw); (try go_split_ands); go_simp; (try with_reducible rfl))
          try simp only [Act.put, List.getElem_toArray, List.getElem_cons_succ, List.getElem_cons_zero, List.setIfInBounds_toArray, List.set_cons_zero, List.set_cons_succ]
          refine wpAnyH_done (by kernel_rfl) ?_ _
          obtain ⟨y0, y1, y2, y3, y4, y5, hbW⟩ := hS.out (w1) (show Below wr.heap.size wr (w1) from by (with_reducible repeat (first | exact Below.refl _ _ | exact hb1 | refine bto0 ?_ hb1 | refine bdr ?_ _ | refine Below.drew ?_ | refine ball ?_ _)))
          have HW := Lib.hid (And.intro (own_below HH.out.1 hbW) (HH.out.2.1.trans (hbW.mono (by omega))))
          have hzw : w.heap.size + 1 ≤ (w1).heap.size := Nat.le_trans hzr hbW.size
          have hXw := Lib.hid (HH.out.2.2.1.below hbW HH.out.2.2.1.lt)
          clear hbW
          go_wp2_with (first | (at_builtin; refine wpList_pushR (news := En.cells ⟨xs, xp, xq⟩) rfl (.tmp 24) (.tmp 26) 22 rfl (w.heap.size + 1) 38 i0 _ 3 24 Try.underlying22 hi0 hz0 hs0 hy0 rfl (by decide) _ O.length (vE O) rfl HW.out.1 rfl _ rfl (by simp) rfl (by intro u hu; simp only [En.cells, List.mem_cons, List.not_mem_nil, or_false] at hu; rcases hu with rfl | rfl | rfl <;> rfl) (by omega) (by omega) hzw ?_; intro v6 w6 ho6 hg6 hv6; obtain ⟨A6, c6, rfl, hc6⟩ := own_form ho6; have hbk := below_grown HW.out.1 (by omega) hzw hg6 HW.out.2; have hzz := own_kept36 HW.out.1 hXw.out hzw hg6; obtain ⟨y3, y4, y5⟩ := HY'.out _ hbk; have hz6 := hzz.2; have H6 := Lib.hid (And.intro ho6 (And.intro hbk hzz.1)); clear ho6 hg6 hbk hzz) | (at_builtin; refine wpList_pushR (news := En.cells ⟨ys, yp, yq⟩) rfl (.tmp 28) (.tmp 33) 22 rfl (w.heap.size + 1) 38 i0 _ 3 24 Try.underlying22 hi0 hz0 hs0 hy0 rfl (by decide) _ (O.length + 1) (vE O ++ En.cells ⟨xs, xp, xq⟩) rfl H6.out.1 rfl _ rfl (by simp) rfl (by intro u hu; simp only [En.cells, List.mem_cons, List.not_mem_nil, or_false] at hu; rcases hu with rfl | rfl | rfl <;> rfl) (by omega) (by omega) hz6 ?_; intro v7 w7 ho7 hg7 hv7; have H7 := Lib.hid (And.intro ho7 (And.intro (below_grown H6.out.1 (by omega) hz6 hg7 H6.out.2.1) (own_kept36 H6.out.1 H6.out.2.2 hz6 hg7))); clear ho7 hg7))
          go_roundw
          case rel => exact ⟨i + 1, O ++ [xx] ++ [yy], true, by go_num, by omega, rfl, by rw [List.length_append, List.length_append, List.length_singleton, List.length_singleton, vE_snoc36, vE_snoc36, Hyy.out, Hxx.out]; exact H7.out.1, H7.out.2.1, H7.out.2.2.1, H7.out.2.2.2, by rw [← HP.out.1]; simp [withP_yes HP.out.2.1 HP.out.2.2]⟩
          case measure => simp [intOf]; omega
      · clear C1
        refine wp_region_held_drew (S := (fun W => W.cell? ⟨w.heap.size, 0, none⟩ = some (.string xs) ∧ W.cell? ⟨w.heap.size, 1, none⟩ = some (.int .u32 xp) ∧ W.cell? ⟨w.heap.size, 2, none⟩ = some (.int .u16 xq) ∧ W.cell? (ad.add (i * 3)) = some (.string ys) ∧ W.cell? ⟨(ad.add (i * 3)).block, (ad.add (i * 3)).off + 1, none⟩ = some (.int .u32 yp) ∧ W.cell? ⟨(ad.add (i * 3)).block, (ad.add (i * 3)).off + 2, none⟩ = some (.int .u16 yq) ∧ Below wr.heap.size wr W)) (by kernel_rfl) (by exact hS.out _ (Below.drew (Below.refl _ _))) (fun hHeld => ?_)
        try dsimp only at hHeld
        refine wpAnyH_take (i := 0) (v := ?_) rfl (by kernel_rfl) (by kernel_rfl) (by kernel_rfl) (fun _ _ _ h => h) (Or.inl ⟨rfl, ?_⟩) hHeld ?_
        rotate_left
        focus (intro wx hSw; (try dsimp only at hSw); (try go_split_ands); go_simp; (try with_reducible rfl))
        try simp only [Act.put, List.getElem_toArray, List.getElem_cons_succ, List.getElem_cons_zero, List.setIfInBounds_toArray, List.set_cons_zero, List.set_cons_succ]
        refine wpAnyH_take (i := 1) (v := ?_) rfl (by kernel_rfl) (by kernel_rfl) (by kernel_rfl) (fun _ _ _ h => h) (Or.inl ⟨rfl, ?_⟩) hHeld ?_
        rotate_left
        focus (intro wx hSw; (try dsimp only at hSw); (try go_split_ands); go_simp; (try with_reducible rfl))
        try simp only [Act.put, List.getElem_toArray, List.getElem_cons_succ, List.getElem_cons_zero, List.setIfInBounds_toArray, List.set_cons_zero, List.set_cons_succ]
        refine wpAnyH_take (i := 2) (v := ?_) rfl (by kernel_rfl) (by kernel_rfl) (by kernel_rfl) (fun _ _ _ h => h) (Or.inl ⟨rfl, ?_⟩) hHeld ?_
        rotate_left
        focus (intro wx hSw; (try dsimp only at hSw); (try go_split_ands); go_simp; (try with_reducible rfl))
        try simp only [Act.put, List.getElem_toArray, List.getElem_cons_succ, List.getElem_cons_zero, List.setIfInBounds_toArray, List.set_cons_zero, List.set_cons_succ]
        refine wpAnyH_take (i := 3) (v := undef) rfl (by kernel_rfl) (by kernel_rfl) (by kernel_rfl) (fun _ _ _ h => h) (Or.inr ⟨rfl, rfl⟩) hHeld ?_
        try simp only [Act.put, List.getElem_toArray, List.getElem_cons_succ, List.getElem_cons_zero, List.setIfInBounds_toArray, List.set_cons_zero, List.set_cons_succ]
        refine wpAnyH_take (i := 4) (v := undef) rfl (by kernel_rfl) (by kernel_rfl) (by kernel_rfl) (fun _ _ _ h => h) (Or.inr ⟨rfl, rfl⟩) hHeld ?_
        try simp only [Act.put, List.getElem_toArray, List.getElem_cons_succ, List.getElem_cons_zero, List.setIfInBounds_toArray, List.set_cons_zero, List.set_cons_succ]
        refine wpAnyH_take (i := 5) (v := undef) rfl (by kernel_rfl) (by kernel_rfl) (by kernel_rfl) (fun _ _ _ h => h) (Or.inr ⟨rfl, rfl⟩) hHeld ?_
        try simp only [Act.put, List.getElem_toArray, List.getElem_cons_succ, List.getElem_cons_zero, List.setIfInBounds_toArray, List.set_cons_zero, List.set_cons_succ]
        refine wpAnyH_take (i := 6) (v := undef) rfl (by kernel_rfl) (by kernel_rfl) (by kernel_rfl) (fun _ _ _ h => h) (Or.inr ⟨rfl, rfl⟩) hHeld ?_
        try simp only [Act.put, List.getElem_toArray, List.getElem_cons_succ, List.getElem_cons_zero, List.setIfInBounds_toArray, List.set_cons_zero, List.set_cons_succ]
        refine wpAnyH_take (i := 7) (v := undef) rfl (by kernel_rfl) (by kernel_rfl) (by kernel_rfl) (fun _ _ _ h => h) (Or.inr ⟨rfl, rfl⟩) hHeld ?_
        try simp only [Act.put, List.getElem_toArray, List.getElem_cons_succ, List.getElem_cons_zero, List.setIfInBounds_toArray, List.set_cons_zero, List.set_cons_succ]
        refine wpAnyH_take (i := 8) (v := undef) rfl (by kernel_rfl) (by kernel_rfl) (by kernel_rfl) (fun _ _ _ h => h) (Or.inr ⟨rfl, rfl⟩) hHeld ?_
        try simp only [Act.put, List.getElem_toArray, List.getElem_cons_succ, List.getElem_cons_zero, List.setIfInBounds_toArray, List.set_cons_zero, List.set_cons_succ]
        refine wpAnyH_take (i := 9) (v := ?_) rfl (by kernel_rfl) (by kernel_rfl) (by kernel_rfl) (fun _ _ _ h => h) (Or.inl ⟨rfl, ?_⟩) hHeld ?_
        rotate_left
        focus (intro wx hSw; (try dsimp only at hSw); (try go_split_ands); go_simp; (try with_reducible rfl))
        try simp only [Act.put, List.getElem_toArray, List.getElem_cons_succ, List.getElem_cons_zero, List.setIfInBounds_toArray, List.set_cons_zero, List.set_cons_succ]
        refine wpAnyH_done (by kernel_rfl) ?_ _
        obtain ⟨y0, y1, y2, y3, y4, y5, hbW⟩ := hS.out (wr.drew) (show Below wr.heap.size wr (wr.drew) from by exact Below.drew (Below.refl _ _))
        have HW := Lib.hid (And.intro (own_below HH.out.1 hbW) (HH.out.2.1.trans (hbW.mono (by omega))))
        have hzw : w.heap.size + 1 ≤ (wr.drew).heap.size := Nat.le_trans hzr hbW.size
        have hXw := Lib.hid (HH.out.2.2.1.below hbW HH.out.2.2.1.lt)
        clear hbW
        go_wp2_with (at_builtin; refine wpList_pushR (news := En.cells ⟨ys, yp, yq⟩) rfl (.tmp 28) (.tmp 33) 22 rfl (w.heap.size + 1) 38 i0 _ 3 24 Try.underlying22 hi0 hz0 hs0 hy0 rfl (by decide) _ O.length (vE O) rfl HW.out.1 rfl _ rfl (by simp) rfl (by intro u hu; simp only [En.cells, List.mem_cons, List.not_mem_nil, or_false] at hu; rcases hu with rfl | rfl | rfl <;> rfl) (by omega) (by omega) hzw ?_; intro v6 w6 ho6 hg6 hv6; have H6 := Lib.hid (And.intro ho6 (And.intro (below_grown HW.out.1 (by omega) hzw hg6 HW.out.2) (own_kept36 HW.out.1 hXw.out hzw hg6))); clear ho6 hg6)
        go_roundw
        case rel => exact ⟨i + 1, O ++ [yy], true, by go_num, by omega, rfl, by rw [List.length_append, List.length_singleton, vE_snoc36, Hyy.out]; exact H6.out.1, H6.out.2.1, H6.out.2.2.1, H6.out.2.2.2, by rw [← HP.out.1]; simp [drop_at36 HP.out.2.1]⟩
        case measure => simp [intOf]; omega
    · have hin' : i = n := by omega
      have i1 : (n : Int) ≤ (i : Int) := by omega
      have hdn : l.drop i = [] := List.drop_eq_nil_of_le (by rw [HL.out.1]; omega)
      rw [hdn] at hp
      have y0 : wr.cell? ⟨w.heap.size, 0, none⟩ = some (.string xs) := hX.cell 0
      have y1 : wr.cell? ⟨w.heap.size, 1, none⟩ = some (.int .u32 xp) := hX.cell 1
      have y2 : wr.cell? ⟨w.heap.size, 2, none⟩ = some (.int .u16 xq) := hX.cell 2
      have HH := Lib.hid (And.intro hO (And.intro hb hp))
      clear hO hb hX hp hdn hin'
      cases d
      · go_wp2_with (at_builtin; refine wpList_pushR (news := En.cells ⟨xs, xp, xq⟩) rfl (.tmp 38) (.tmp 40) 22 rfl (w.heap.size + 1) 38 i0 _ 3 24 Try.underlying22 hi0 hz0 hs0 hy0 rfl (by decide) _ O.length (vE O) rfl HH.out.1 rfl _ rfl (by simp) rfl (by intro u hu; simp only [En.cells, List.mem_cons, List.not_mem_nil, or_false] at hu; rcases hu with rfl | rfl | rfl <;> rfl) (by omega) (by omega) hzr ?_; intro v6 w6 ho6 hg6 hv6; obtain ⟨A6, c6, rfl, hc6⟩ := own_form ho6; have H6 := Lib.hid (And.intro ho6 (below_grown HH.out.1 (by omega) hzr hg6 HH.out.2.1)); clear ho6 hg6)
        go_ret
        have hp := HH.out.2.2
        simp only [Bool.false_eq_true, if_false, withP] at hp
        rw [← hp]
        unfold RetEs
        rw [List.length_append, List.length_singleton, vE_snoc36, Hxx.out]
        exact ⟨A6, c6, rfl, World.ownsRow.mono H6.out.1 (by omega), H6.out.2⟩
      · go_wp2_with fail
        go_ret
        have hp := HH.out.2.2
        simp only [if_true, List.append_nil] at hp
        rw [← hp]
        unfold RetEs
        exact ⟨Ao, co, rfl, World.ownsRow.mono HH.out.1 (by omega), HH.out.2.1⟩
end
end Go.Proofs.Ytebobcbaloddaaa
/-
  The law's rows: contract of Sorted.
-/
namespace Go.Proofs.Ytebobcbaloddaaa
section
set_option linter.unusedSimpArgs false
set_option linter.unusedVariables false
open Go.RowKit Go.Maps

theorem take_in {l : List En} {i : Nat} {x : En} (hx : l[i]? = some x) (hi : i < 400) : (l.take 400).take (i + 1) = (l.take 400).take i ++ [x] := by
  rw [List.take_add_one, List.getElem?_take, if_pos hi, hx]; rfl
theorem take_out {l : List En} {i : Nat} (hi : 400 ≤ i) : (l.take 400).take (i + 1) = (l.take 400).take i := by
  have h : (l.take 400).length ≤ i := by rw [List.length_take]; omega
  rw [List.take_of_length_le (i := i + 1) (by omega), List.take_of_length_le h]
def sortN (l : List En) (i : Nat) : List En := ((l.take 400).take i).foldl stepP []
theorem sortN_len (l : List En) (i : Nat) : (sortN l i).length ≤ 400 := by
  have := (fold_ok (l := l) ((l.take 400).take i) 0 [] ⟨List.Pairwise.nil, fun x hx => (by cases hx), fun x hx => (by cases hx), Nat.le_refl _⟩ fun x hx => List.mem_of_mem_take (List.mem_of_mem_take hx)).len
  rw [List.length_take, List.length_take] at this
  unfold sortN
  omega
theorem sortN_in {l : List En} {i : Nat} {x : En} (hx : l[i]? = some x) (hi : i < 400) : sortN l (i + 1) = stepP (sortN l i) x := by
  unfold sortN; rw [take_in hx hi, List.foldl_append]; rfl
theorem sortN_out {l : List En} {i : Nat} (hi : 400 ≤ i) : sortN l (i + 1) = sortN l i := by unfold sortN; rw [take_out hi]
theorem sortN_end (l : List En) : sortN l l.length = sortP l := by
  unfold sortN sortP
  rw [List.take_of_length_le (l := l.take 400) (by rw [List.length_take]; omega)]
set_option maxRecDepth 100000 in
set_option maxHeartbeats 8000000 in
theorem sorted_any (A : Option Addr) (n c : Nat) (l : List En) (w : World) (hr : Reads w w.heap.size 3 A n (vE l)) (hn : n ≤ 1000000) :
    Calls Try.prog 6 #[.slice A n c] w (RetEs w (sortP l)) := by
  have hl : l.length = n := by have := hr.1; rw [vE_len] at this; omega
  have hbX := ball (Below.refl w.heap.size w) (.cells #[] 38)
  have O0 : (w.alloc (.cells #[] 38)).ownsRow w.heap.size 38 3 (.slice (some ⟨w.heap.size, 0, none⟩) 0 0) 0 [] := own_empty w 38 3 rfl
  have H0 := Lib.hid (And.intro hbX O0)
  have HR0 := Lib.hid hr
  have HL := Lib.hid hl
  clear hbX O0 hr hl
  go_enter Try.func6, Try.ntmps6
  go_wp2_with fail
  go_loopw [3, 9] (fun v3 v9 wr => ∃ (i : Nat), v9 = .int .i64 (i : Int) ∧ i ≤ n ∧ wr.ownsRow w.heap.size 38 3 v3 (sortN l i).length (vE (sortN l i)) ∧ Below w.heap.size w wr) (fun _ v9 _ => n - (intOf v9).toNat)
  case atStart => exact ⟨0, rfl, Nat.zero_le _, by unfold sortN; rw [List.take_zero]; exact H0.out.2, H0.out.1⟩
  case round =>
    obtain ⟨i, rfl, hin, hO, hb⟩ := hrel
    have i0' : (0 : Int) ≤ (i : Int) := by omega
    obtain ⟨Ao, co, rfl, hco⟩ := own_form hO
    have hlen := sortN_len l i
    by_cases hlt : i < n
    · have i1 : (i : Int) < (n : Int) := by omega
      obtain ⟨x, hx⟩ : ∃ x, l[i]? = some x := ⟨_, List.getElem?_eq_getElem (by rw [HL.out]; exact hlt)⟩
      obtain ⟨ad, rfl, hab, _, HXX⟩ := ent_of (w := w) HR0.out hx
      have hyy' : ∃ y', y' = x := ⟨_, rfl⟩
      obtain ⟨xx, hxx⟩ := hyy'
      have hS1 : Hid (i < 400 → sortN l (i + 1) = stepP (sortN l i) xx) := Lib.hid fun h => by rw [hxx]; exact sortN_in hx h
      have hS2 : Hid (400 ≤ i → sortN l (i + 1) = sortN l i) := Lib.hid fun h => sortN_out h
      obtain ⟨O, hOO⟩ : ∃ O, sortN l i = O := ⟨_, rfl⟩
      rw [hOO] at hO hlen hS1 hS2 hco ⊢
      obtain ⟨u0, u1, u2⟩ := HXX wr hb
      have hz := hb.size
      have HXX := Lib.hid hxx
      clear hOO hx hxx
      obtain ⟨xs, xp, xq⟩ := x
      have HO := Lib.hid (And.intro hO hb)
      clear hO hb
      have OX := HO.out.1.alloc (.cells #[.string xs, .int .u32 xp, .int .u16 xq] 38)
      have BX := ball HO.out.2 (.cells #[.string xs, .int .u32 xp, .int .u16 xq] 38)
      have XX := Blk.new wr 38 #[.string xs, .int .u32 xp, .int .u16 xq]
      have HB := Lib.hid (And.intro OX (And.intro BX XX))
      clear OX BX XX
      simp only at u0 u1 u2
      by_cases h4 : 400 ≤ i
      · have i4 : (400 : Int) ≤ (i : Int) := by omega
        have hs := Lib.hid (hS2.out h4)
        clear hS1 hS2 h4
        go_wp2_with fail
        go_roundw
        case rel => exact ⟨i + 1, by go_num, by omega, by rw [hs.out]; exact HB.out.1, HB.out.2.1⟩
        case measure => simp [intOf]; omega
      · have i4 : (i : Int) < 400 := by omega
        have hs := Lib.hid (hS1.out (by omega))
        by_cases hsz : xs.size ≤ 200
        · have zI : (xs.size : Int) ≤ 200 := by omega
          have HS := Lib.hid hsz
          clear hS1 hS2 h4 hsz
          have HAS := Lib.hid (hasE_any Ao O.length co O ⟨xs, xp, xq⟩ (wr.alloc (.cells #[.string xs, .int .u32 xp, .int .u16 xq] 38)) (Reads.of_own HB.out.1) (by omega))
          have WI := Lib.hid fun W hr => with_any Ao O.length co O ⟨xs, xp, xq⟩ W hr (by omega)
          go_wp2_with fail
          refine HAS.out.mono ?_
          rintro e w1 ⟨⟨b, rfl, hbx⟩, hb1⟩
          have HBX := Lib.hid hbx
          have O1 := own_below HB.out.1 hb1
          have X1 := HB.out.2.2.below hb1 HB.out.2.2.lt
          have B1 := HB.out.2.1.trans (hb1.mono (HB.out.2.1.size))
          have k0 : w1.cell? ⟨wr.heap.size, 0, none⟩ = some (.string xs) := X1.cell 0
          have k1 : w1.cell? ⟨wr.heap.size, 1, none⟩ = some (.int .u32 xp) := X1.cell 1
          have k2 : w1.cell? ⟨wr.heap.size, 2, none⟩ = some (.int .u16 xq) := X1.cell 2
          have H1 := Lib.hid (And.intro O1 B1)
          clear hbx hb1 O1 X1 B1
          cases b
          · have WJ := Lib.hid (WI.out w1 (Reads.of_own H1.out.1))
            go_wp2_with fail
            refine WJ.out.mono ?_
            rintro e w2 ⟨A2, c2, rfl, o2, hb2⟩
            have hst : sortN l (i + 1) = withP O ⟨xs, xp, xq⟩ := by
              rw [hs.out]
              unfold stepP
              rw [HXX.out, if_pos ⟨HS.out, fun h => by have := HBX.out.2 h; cases this⟩]
            have H2 := Lib.hid (And.intro (World.ownsRow.mono o2 H1.out.2.size) (And.intro (H1.out.2.trans (hb2.mono H1.out.2.size)) hst))
            clear o2 hb2 hst
            go_wp2_with fail
            go_roundw
            case rel => exact ⟨i + 1, by go_num, by omega, by rw [H2.out.2.2]; exact H2.out.1, H2.out.2.1⟩
            case measure => simp [intOf]; omega
          · have hst : sortN l (i + 1) = O := by
              rw [hs.out]
              unfold stepP
              rw [HXX.out, if_neg fun h => h.2 (HBX.out.1 rfl)]
            have H2 := Lib.hid hst
            clear hst
            go_wp2_with fail
            go_roundw
            case rel => exact ⟨i + 1, by go_num, by omega, by rw [H2.out]; exact H1.out.1, H1.out.2⟩
            case measure => simp [intOf]; omega
        · have zI : (200 : Int) < (xs.size : Int) := by omega
          have hst : sortN l (i + 1) = O := by
            rw [hs.out]
            unfold stepP
            rw [HXX.out, if_neg fun h => hsz h.1]
          have H2 := Lib.hid hst
          clear hS1 hS2 h4 hsz hst
          go_wp2_with fail
          go_roundw
          case rel => exact ⟨i + 1, by go_num, by omega, by rw [H2.out]; exact HB.out.1, HB.out.2.1⟩
          case measure => simp [intOf]; omega
    · have i1 : (n : Int) ≤ (i : Int) := by omega
      have hin' : i = l.length := by rw [HL.out]; omega
      have hE : sortN l i = sortP l := by rw [hin']; exact sortN_end l
      rw [hE] at hO ⊢
      have HO := Lib.hid (And.intro hO hb)
      clear hO hb hE hin' hlen hco
      go_wp2_with fail
      go_ret
      exact ⟨Ao, co, rfl, HO.out.1, HO.out.2⟩
end
end Go.Proofs.Ytebobcbaloddaaa
/-
  What the reference's below comes to (plain); a right tree is right there, too.
-/
namespace Go.Proofs.Ytebobcbaloddaaa
section
set_option linter.unusedSimpArgs false
set_option linter.unusedVariables false
open Go.RowKit Go.Maps

/-- The reference's T: entries, leaves, where they lead, pages, depth. -/
structure RS where
  L : List En
  F : List Nat
  X : List Nat
  P : List Nat
  hi : Nat
/-- Is an entry below child i out of its separators? -/
def offE (seps : List En) (i : Nat) (x : En) : Bool :=
  (decide (0 < i) && (match seps[i - 1]? with | some s => lessE x s | none => false)) || (match seps[i]? with | some s => !lessE x s | none => false)
def rbKids (G : Nat → RS → Option RS) (seps : List En) : List Nat → Nat → RS → Option RS
  | [], _, st => some st
  | c :: r, i, st => (G c st).bind fun st' => if (st'.L.drop st.L.length).any (offE seps i) then none else rbKids G seps r (i + 1) st'
def rbP (ps : List (List UInt8)) : Nat → Nat → Nat → RS → Option RS
  | 0, _, _, _ => none
  | f + 1, page, deep, st =>
    if 12 < deep ∨ page ∈ st.P then none
    else match ps[page]? with
      | none => none
      | some q => match rdPg q with
        | none => none
        | some (.leaf N es) => if st.F ≠ [] ∧ st.hi ≠ deep then none else some ⟨st.L ++ es, st.F ++ [page], st.X ++ [N], st.P ++ [page], deep⟩
        | some (.inner c0 prs) => rbKids (fun c st' => rbP ps f c (deep + 1) st') (prs.map Prod.fst) (c0 :: prs.map Prod.snd) 0 { st with P := st.P ++ [page] }
def radv (st : RS) (L : List En) (F P : List Nat) (nx hi : Nat) : RS := ⟨st.L ++ L, st.F ++ F, st.X ++ (F.tail ++ [nx]), st.P ++ P, hi⟩
theorem off_no {seps : List En} {i : Nat} {x : En} (h : (∀ s, 0 < i → seps[i - 1]? = some s → 0 ≤ cmpE x s) ∧ (∀ s, seps[i]? = some s → cmpE x s < 0)) : offE seps i x = false := by
  unfold offE
  rw [Bool.or_eq_false_iff]
  constructor
  · cases hs : seps[i - 1]? with
    | none => simp
    | some s =>
      simp only [Bool.and_eq_false_iff, decide_eq_false_iff_not]
      by_cases h0 : 0 < i
      · right
        have := h.1 s h0 hs
        rw [lessE_cmp, decide_eq_false_iff_not]; omega
      · exact .inl h0
  · cases hs : seps[i]? with
    | none => rfl
    | some s =>
      have := h.2 s hs
      simp only [lessE_cmp]
      simp; omega
/-- The leaves below, for whatever was there before. -/
def Rb (G : Nat → RS → Option RS) (hi : Nat) (d : Nd) (nx : Nat) (F : List Nat) : Prop :=
  ∀ st : RS, (∀ p ∈ d.P, p ∉ st.P) → (st.F = [] ∨ st.hi = hi) → G d.p st = some (radv st d.L F d.P nx hi)
theorem kids_rb {G : Nat → RS → Option RS} {hi : Nat} {seps : List En} :
    ∀ (ds : List Nd) (c : Nd) (i nx : Nat), ChnN (fun d nx => ∃ F : List Nat, F.length = d.k ∧ F.head? = some d.f ∧ Rb G hi d nx F) (c :: ds) nx → SepOk seps i (c :: ds) → ((c :: ds).map Nd.P).flatten.Nodup →
      ∃ F' : List Nat, F'.length = ((c :: ds).map Nd.k).sum ∧ F'.head? = some c.f ∧ ∀ st : RS, (∀ p ∈ ((c :: ds).map Nd.P).flatten, p ∉ st.P) → (st.F = [] ∨ st.hi = hi) →
        rbKids G seps ((c :: ds).map Nd.p) i st = some (radv st ((c :: ds).map Nd.L).flatten F' ((c :: ds).map Nd.P).flatten nx hi)
  | [], c, i, nx, hc, hs, hn => by
    obtain ⟨F1, h1, h2, h3⟩ := hc.1
    refine ⟨F1, by simp [h1], h2, fun st hP hF => ?_⟩
    simp only [List.map_cons, List.map_nil, List.flatten_cons, List.flatten_nil, List.append_nil] at hP ⊢
    have e := h3 st hP hF
    simp only [List.map_nil, List.headD_nil] at e
    rw [rbKids, e]
    show (if ((st.L ++ c.L).drop st.L.length).any (offE seps i) then none else some _) = _
    rw [List.drop_left, if_neg]
    simp only [Bool.not_eq_true, List.any_eq_false]
    intro x hx
    simp [off_no (hs.1 x hx)]
  | d :: r, c, i, nx, hc, hs, hn => by
    obtain ⟨F1, h1, h2, h3⟩ := hc.1
    have e1 : ((c :: d :: r).map Nd.P).flatten = c.P ++ ((d :: r).map Nd.P).flatten := by simp
    have e2 : ((c :: d :: r).map Nd.L).flatten = c.L ++ ((d :: r).map Nd.L).flatten := by simp
    have e3 : ((c :: d :: r).map Nd.k).sum = c.k + ((d :: r).map Nd.k).sum := by simp
    rw [e1] at hn ⊢
    rw [e2, e3]
    rw [List.nodup_append] at hn
    obtain ⟨F2, g1, g2, g3⟩ := kids_rb r d (i + 1) nx hc.2 hs.2 hn.2.1
    obtain ⟨a1, t1, rfl⟩ : ∃ a t, F1 = a :: t := by
      cases F1 with
      | nil => cases h2
      | cons a t => exact ⟨a, t, rfl⟩
    obtain ⟨a2, t2, rfl⟩ : ∃ a t, F2 = a :: t := by
      cases F2 with
      | nil => cases g2
      | cons a t => exact ⟨a, t, rfl⟩
    simp only [List.head?_cons, Option.some.injEq] at h2 g2
    refine ⟨(a1 :: t1) ++ (a2 :: t2), by rw [List.length_append, h1, g1], by simp [h2], fun st hP hF => ?_⟩
    have e := h3 st (fun p hp => hP p (List.mem_append_left _ hp)) hF
    simp only [List.map_cons, List.headD_cons] at e
    rw [List.map_cons, rbKids, e]
    show (if ((st.L ++ c.L).drop st.L.length).any (offE seps i) then none else _) = _
    rw [List.drop_left, if_neg]
    · rw [g3 (radv st c.L (a1 :: t1) c.P d.f hi) (fun p hp hq => by
        rcases List.mem_append.1 hq with h | h
        · exact hP p (List.mem_append_right _ hp) h
        · exact hn.2.2 p h p hp rfl) (.inr rfl)]
      simp [radv, g2]
    · simp only [Bool.not_eq_true, List.any_eq_false]
      intro x hx
      simp [off_no (hs.1 x hx)]
/-- A right tree, as the reference goes through it. -/
theorem sub_rb {ps : List (List UInt8)} : ∀ (h : Nat) (d : Nd) (nx : Nat), Sub ps h d nx → ∀ (f deep : Nat), h ≤ f → deep + h ≤ 13 → 1 ≤ deep → d.P.Nodup →
    ∃ F : List Nat, F.length = d.k ∧ F.head? = some d.f ∧ Rb (fun p st => rbP ps f p deep st) (deep + h - 1) d nx F
  | 0, _, _, hs => hs.elim
  | 1, d, nx, ⟨hp, hnx, hok, hm, hf, hP, hdf, hk⟩ => by
    intro f deep h1 h2 h3 hn
    obtain ⟨f', rfl⟩ : ∃ f', f = f' + 1 := ⟨f - 1, by omega⟩
    refine ⟨[d.p], by rw [hk]; rfl, by rw [hdf]; rfl, fun st hst hF => ?_⟩
    have h0 := hst d.p (by rw [hP]; simp)
    show rbP ps (f' + 1) d.p deep st = _
    rw [rbP, if_neg (by rintro (h | h); omega; exact h0 h), hp]
    simp only
    rw [rdPg_leaf nx d.L hnx hok hm hf]
    simp only
    rw [if_neg (by rintro ⟨a, b⟩; rcases hF with h | h; exact a h; omega), hP]
    simp [radv]
  | h + 2, d, nx, ⟨c, ds, seps, hc, hs, hlen, hne, hp, hx, hok, hm, hf, hL, hP, hdf, hk⟩ => by
    intro f deep h1 h2 h3 hn
    obtain ⟨f', rfl⟩ : ∃ f', f = f' + 1 := ⟨f - 1, by omega⟩
    have hz1 : (seps.zip (ds.map Nd.p)).map Prod.fst = seps := zip_fst (by simp; omega)
    have hz2 : (seps.zip (ds.map Nd.p)).map Prod.snd = ds.map Nd.p := zip_snd (by simp; omega)
    rw [hP, List.nodup_cons] at hn
    have hnd : ∀ d' ∈ c :: ds, d'.P.Nodup := fun d' hd' => by
      have h4 := sub_flat (List.singleton_sublist.2 (List.mem_map_of_mem (f := Nd.P) hd'))
      rw [List.flatten_cons, List.flatten_nil, List.append_nil] at h4
      exact List.Pairwise.sublist h4 hn.2
    obtain ⟨F, k1, k2, k3⟩ := kids_rb (G := fun p st => rbP ps f' p (deep + 1) st) (hi := deep + (h + 2) - 1) (seps := seps) ds c 0 nx (hc.mono fun d' hd' nx' hs' => by
      have := sub_rb (h + 1) d' nx' hs' f' (deep + 1) (by omega) (by omega) (by omega) (hnd d' hd')
      rw [show deep + 1 + (h + 1) - 1 = deep + (h + 2) - 1 from by omega] at this
      exact this) hs hn.2
    refine ⟨F, by rw [hk]; exact k1, by rw [hdf]; exact k2, fun st hst hF => ?_⟩
    have h0 := hst d.p (by rw [hP]; simp)
    show rbP ps (f' + 1) d.p deep st = _
    rw [rbP, if_neg (by rintro (h | h); omega; exact h0 h), hp]
    simp only
    rw [rdPg_inner c.p (ds.map Nd.p) seps (by simp; omega) hne hx hok hm hf]
    simp only
    rw [hz1, hz2]
    have := k3 { st with P := st.P ++ [d.p] } (fun p hp hq => by
      rcases List.mem_append.1 hq with h | h
      · exact hst p (by rw [hP]; exact List.mem_cons_of_mem _ hp) h
      · rw [List.mem_singleton] at h
        exact hn.1 (by rw [← h]; exact hp)) hF
    rw [List.map_cons] at this
    rw [this, hL, hP]
    simp [radv]
end
end Go.Proofs.Ytebobcbaloddaaa
/-
  The reference's T in memory: four rows of one's own; what stays while they grow.
-/
namespace Go.Proofs.Ytebobcbaloddaaa
section
set_option linter.unusedSimpArgs false
set_option linter.unusedVariables false
open Go.RowKit Go.Maps

/-- All stays but blocks of some kind. -/
structure EvT (O : Nat → Prop) (w w' : World) : Prop where
  os : w'.os = w.os
  tape : w'.tape = w.tape
  output : w'.output = w.output
  size : w.heap.size ≤ w'.heap.size
  block : ∀ k, k < w.heap.size → ¬ O k → w'.heap[k]? = w.heap[k]?
section
variable {w w' w'' : World} {O O' : Nat → Prop}
theorem EvT.refl (O : Nat → Prop) (w : World) : EvT O w w := ⟨rfl, rfl, rfl, Nat.le_refl _, fun _ _ _ => rfl⟩
theorem EvT.trans (h : EvT O w w') (k : EvT O' w' w'') (hn : ∀ g, O' g → O g ∨ w.heap.size ≤ g) : EvT O w w'' :=
  ⟨k.os.trans h.os, k.tape.trans h.tape, k.output.trans h.output, Nat.le_trans h.size k.size, fun g hg ho => (k.block g (Nat.lt_of_lt_of_le hg h.size) fun e => (hn g e).elim ho (by omega)).trans (h.block g hg ho)⟩
theorem EvT.of_below (h : Below w.heap.size w w') : EvT O w w' := ⟨h.os, h.tape, h.output, h.size, fun k hk _ => h.block k hk⟩
theorem EvT.of_grown {row : Option Nat} (h : w.grownBy w' row) (hr : ∀ g, row = some g → O g ∨ w.heap.size ≤ g) : EvT O w w' :=
  ⟨h.os, h.tape, h.output, h.size, fun k hk ho => h.block k hk fun e => (hr k e.symm).elim ho (by omega)⟩
theorem EvT.mono (h : EvT O w w') (hn : ∀ g, O g → O' g ∨ w.heap.size ≤ g) : EvT O' w w' :=
  ⟨h.os, h.tape, h.output, h.size, fun k hk ho => h.block k hk fun e => (hn k e).elim ho (by omega)⟩
theorem EvT.of_set {p : Addr} (hp : w.heap.size ≤ p.block ∨ O p.block) (u : Value) : EvT O w (w.setCell p u) :=
  ⟨rfl, rfl, rfl, by simp [World.setCell], fun k hk ho => Below.heap_setCell _ _ _ _ fun e => hp.elim (by omega) fun h => ho (by rw [e]; exact h)⟩
theorem EvT.below {B : Nat} {a : World} (h : EvT O w w') (hb : Below B a w) (hB : B ≤ w.heap.size) (hn : ∀ g, O g → B ≤ g) : Below B a w' :=
  hb.trans ⟨h.os, h.tape, h.output, h.size, fun k hk => h.block k (by omega) fun e => by have := hn k e; omega⟩
theorem EvT.blk (h : EvT O w w') {g : Nat} {t : TypeId} {cs : Array Value} (hb : Blk w g t cs) (hn : ¬ O g) : Blk w' g t cs := (h.block g hb.lt hn).trans hb
theorem EvT.own (h : EvT O w w') {base size n : Nat} {e : TypeId} {v : Value} {xs : List Value} (ho : w.ownsRow base e size v n xs) (hn : ∀ g, v.ownBlock = some g → ¬ O g) : w'.ownsRow base e size v n xs :=
  ownR_stays ho fun g cs hu hb => h.block g hb.lt (hn g hu)
theorem EvT.reads (h : EvT O w w') {B size n : Nat} {A : Option Addr} {xs : List Value} (hr : Reads w B size A n xs) (hB : B ≤ w.heap.size) (hn : ∀ ad, A = some ad → ¬ O ad.block) : Reads w' B size A n xs :=
  hr.same_ fun ad e hb => h.block _ (by omega) (hn ad e)
end
/-- A slice's block. -/
def S11.own (s : S11) (g : Nat) : Prop := s.v.ownBlock = some g
/-- The four slices of a T. -/
structure Q4 where
  l : S11
  f : S11
  x : S11
  p : S11
def Q4.own (q : Q4) (g : Nat) : Prop := q.l.own g ∨ q.f.own g ∨ q.x.own g ∨ q.p.own g
@[reducible] def Q4.v (q : Q4) (hi : Nat) (wr : Bool) : Value := tV11 q.l q.f q.x q.p hi wr
@[reducible] def Q4.arr (q : Q4) (hi : Nat) (wr : Bool) : Array Value := tArr11 q.l q.f q.x q.p hi wr
/-- A T's rows. -/
structure TS (w : World) (base : Nat) (q : Q4) (st : RS) : Prop where
  l : w.ownsRow base 38 3 q.l.v q.l.n (vE st.L)
  f : w.ownsRow base 31 1 q.f.v q.f.n (vN st.F)
  x : w.ownsRow base 31 1 q.x.v q.x.n (vN st.X)
  p : w.ownsRow base 31 1 q.p.v q.p.n (vN st.P)
  fx : ∀ g, q.f.own g → ¬ q.x.own g
  fp : ∀ g, q.f.own g → ¬ q.p.own g
  xp : ∀ g, q.x.own g → ¬ q.p.own g
def S110 : S11 := ⟨none, 0, 0⟩
def Q40 : Q4 := ⟨S110, S110, S110, S110⟩
def rs0 : RS := ⟨[], [], [], [], 0⟩
theorem S110.own_ (g : Nat) : ¬ S110.own g := fun h => by cases h
theorem Q40.own_ (g : Nat) : ¬ Q40.own g := by rintro (h | h | h | h) <;> exact S110.own_ g h
theorem TS.nil (w : World) (base : Nat) : TS w base Q40 rs0 :=
  ⟨World.ownsRow_nil w base _ _, World.ownsRow_nil w base _ _, World.ownsRow_nil w base _ _, World.ownsRow_nil w base _ _, fun g h => absurd h (S110.own_ g), fun g h => absurd h (S110.own_ g), fun g h => absurd h (S110.own_ g)⟩
section
variable {w w' w1 : World} {base : Nat} {q : Q4} {st : RS} {O : Nat → Prop}
theorem TS.lt (h : TS w base q st) {g : Nat} (hg : q.own g) : base ≤ g ∧ g < w.heap.size := by
  rcases hg with h1 | h1 | h1 | h1
  · exact World.ownsRow.lt h.l g h1
  · exact World.ownsRow.lt h.f g h1
  · exact World.ownsRow.lt h.x g h1
  · exact World.ownsRow.lt h.p g h1
theorem TS.ne_ (h : TS w base q st) {g : Nat} {t : TypeId} {cs : Array Value} (hb : Blk w g t cs) (h1 : 38 ≠ t) (h2 : 31 ≠ t) : ¬ q.own g := by
  rintro (e | e | e | e)
  · exact own_blk_ne h.l hb h1 e
  · exact own_blk_ne h.f hb h2 e
  · exact own_blk_ne h.x hb h2 e
  · exact own_blk_ne h.p hb h2 e
/-- A row of numbers that is not l. -/
theorem TS.lnum (h : TS w base q st) : (∀ g, q.f.own g → ¬ q.l.own g) ∧ (∀ g, q.x.own g → ¬ q.l.own g) ∧ (∀ g, q.p.own g → ¬ q.l.own g) := by
  have k : ∀ {n : Nat} {v : Value} {xs : List Value} (ho : w.ownsRow base 31 1 v n xs) (g : Nat), v.ownBlock = some g → ¬ q.l.own g := fun ho g e e2 => by
    obtain ⟨cs, hb⟩ := own_blk17 ho e
    exact own_blk_ne h.l hb (by decide) e2
  exact ⟨fun g => k h.f g, fun g => k h.x g, fun g => k h.p g⟩
theorem TS.stays (h : TS w base q st) (hv : EvT O w w') (hn : ∀ g, q.own g → ¬ O g) : TS w' base q st :=
  ⟨hv.own h.l fun g e => hn g (.inl e), hv.own h.f fun g e => hn g (.inr (.inl e)), hv.own h.x fun g e => hn g (.inr (.inr (.inl e))), hv.own h.p fun g e => hn g (.inr (.inr (.inr e))), h.fx, h.fp, h.xp⟩
theorem TS.below (h : TS w base q st) (hb : Below w.heap.size w w') : TS w' base q st :=
  h.stays (O := fun _ => False) (EvT.of_below hb) fun _ _ => id
theorem TS.far (h : TS w base q st) {g : Nat} {t : TypeId} {cs : Array Value} (hb : Blk w g t cs) (h1 : 38 ≠ t) (h2 : 31 ≠ t) (i : Nat) (u : Value) : TS (w.setCell ⟨g, i, none⟩ u) base q st :=
  h.stays (O := fun k => k = g) (EvT.of_set (O := fun k => k = g) (p := ⟨g, i, none⟩) (.inr rfl) u) fun k hk e => h.ne_ hb h1 h2 (by rw [← e]; exact hk)
theorem TS.hi_ (h : TS w base q st) (k : Nat) : TS w base q { st with hi := k } := ⟨h.l, h.f, h.x, h.p, h.fx, h.fp, h.xp⟩
/-- The rows' lengths. -/
theorem TS.lens (h : TS w base q st) : q.l.n = st.L.length ∧ q.f.n = st.F.length ∧ q.x.n = st.X.length ∧ q.p.n = st.P.length := by
  have a := h.l.1; have b := h.f.1; have c := h.x.1; have d := h.p.1
  rw [vE_len] at a
  rw [vN_len] at b c d
  omega
/-- What may have grown, of a row. -/
def Nx (w : World) (s s' : S11) : Prop := ∀ g, s'.own g → s.own g ∨ w.heap.size ≤ g
def NxT (w : World) (q q' : Q4) : Prop := ∀ g, q'.own g → q.own g ∨ w.heap.size ≤ g
theorem NxT.refl (w : World) (q : Q4) : NxT w q q := fun _ h => .inl h
theorem NxT.trans {q' q'' : Q4} (h : NxT w q q') (k : NxT w' q' q'') (hz : w.heap.size ≤ w'.heap.size) : NxT w q q'' := fun g hg => (k g hg).elim (fun e => h g e) fun e => .inr (by omega)
section
variable {w0 : World} {A : Option Addr} {n c : Nat}
theorem TS.pushL (h : TS w base q st) {es : List En} (hw : Below w.heap.size w w0) (hg : w0.grownBy w' q.l.v.ownBlock) (ho : w'.ownsRow base 38 3 (.slice A n c) n (vE (st.L ++ es))) (hv : (Value.slice A n c).ownBlock = q.l.v.ownBlock ∨ ∃ g, (Value.slice A n c).ownBlock = some g ∧ w.heap.size ≤ g) :
    TS w' base { q with l := ⟨A, n, c⟩ } { st with L := st.L ++ es } ∧ EvT q.own w w' ∧ NxT w q { q with l := ⟨A, n, c⟩ } := by
  have e1 : EvT q.l.own w w' := (EvT.of_below hw).trans (EvT.of_grown (O := q.l.own) hg fun g e => .inl e) fun g e => .inl e
  obtain ⟨k1, k2, k3⟩ := h.lnum
  refine ⟨⟨ho, e1.own h.f k1, e1.own h.x k2, e1.own h.p k3, h.fx, h.fp, h.xp⟩, e1.mono fun g e => .inl (.inl e), ?_⟩
  rintro g (e | e | e | e)
  · rcases hv with hv | ⟨g', hv, hl⟩
    · exact .inl (.inl (hv.symm.trans e))
    · have : some g' = some g := hv.symm.trans e
      injection this with this; exact .inr (by omega)
  · exact .inl (.inr (.inl e))
  · exact .inl (.inr (.inr (.inl e)))
  · exact .inl (.inr (.inr (.inr e)))
theorem TS.pushF (h : TS w base q st) {es : List Nat} (hw : Below w.heap.size w w0) (hg : w0.grownBy w' q.f.v.ownBlock) (ho : w'.ownsRow base 31 1 (.slice A n c) n (vN (st.F ++ es))) (hv : (Value.slice A n c).ownBlock = q.f.v.ownBlock ∨ ∃ g, (Value.slice A n c).ownBlock = some g ∧ w.heap.size ≤ g) :
    TS w' base { q with f := ⟨A, n, c⟩ } { st with F := st.F ++ es } ∧ EvT q.own w w' ∧ NxT w q { q with f := ⟨A, n, c⟩ } := by
  have e1 : EvT q.f.own w w' := (EvT.of_below hw).trans (EvT.of_grown (O := q.f.own) hg fun g e => .inl e) fun g e => .inl e
  obtain ⟨k1, k2, k3⟩ := h.lnum
  have hnew : ∀ g, (Value.slice A n c).ownBlock = some g → q.f.own g ∨ w.heap.size ≤ g := fun g e => by
    rcases hv with hv | ⟨g', hv, hl⟩
    · exact .inl (hv.symm.trans e)
    · have : some g' = some g := hv.symm.trans e
      injection this with this; exact .inr (by omega)
  refine ⟨⟨e1.own h.l fun g e e2 => k1 g e2 e, ho, e1.own h.x fun g e e2 => h.fx g e2 e, e1.own h.p fun g e e2 => h.fp g e2 e, fun g e e2 => ?_, fun g e e2 => ?_, h.xp⟩, e1.mono fun g e => .inl (.inr (.inl e)), ?_⟩
  · rcases hnew g e with k | k
    · exact h.fx g k e2
    · have := (World.ownsRow.lt h.x g e2).2; omega
  · rcases hnew g e with k | k
    · exact h.fp g k e2
    · have := (World.ownsRow.lt h.p g e2).2; omega
  rintro g (e | e | e | e)
  · exact .inl (.inl e)
  · exact (hnew g e).imp (fun k => .inr (.inl k)) id
  · exact .inl (.inr (.inr (.inl e)))
  · exact .inl (.inr (.inr (.inr e)))
theorem TS.pushX (h : TS w base q st) {es : List Nat} (hw : Below w.heap.size w w0) (hg : w0.grownBy w' q.x.v.ownBlock) (ho : w'.ownsRow base 31 1 (.slice A n c) n (vN (st.X ++ es))) (hv : (Value.slice A n c).ownBlock = q.x.v.ownBlock ∨ ∃ g, (Value.slice A n c).ownBlock = some g ∧ w.heap.size ≤ g) :
    TS w' base { q with x := ⟨A, n, c⟩ } { st with X := st.X ++ es } ∧ EvT q.own w w' ∧ NxT w q { q with x := ⟨A, n, c⟩ } := by
  have e1 : EvT q.x.own w w' := (EvT.of_below hw).trans (EvT.of_grown (O := q.x.own) hg fun g e => .inl e) fun g e => .inl e
  obtain ⟨k1, k2, k3⟩ := h.lnum
  have hnew : ∀ g, (Value.slice A n c).ownBlock = some g → q.x.own g ∨ w.heap.size ≤ g := fun g e => by
    rcases hv with hv | ⟨g', hv, hl⟩
    · exact .inl (hv.symm.trans e)
    · have : some g' = some g := hv.symm.trans e
      injection this with this; exact .inr (by omega)
  refine ⟨⟨e1.own h.l fun g e e2 => k2 g e2 e, e1.own h.f fun g e e2 => h.fx g e e2, ho, e1.own h.p fun g e e2 => h.xp g e2 e, fun g e e2 => ?_, h.fp, fun g e e2 => ?_⟩, e1.mono fun g e => .inl (.inr (.inr (.inl e))), ?_⟩
  · rcases hnew g e2 with k | k
    · exact h.fx g e k
    · have := (World.ownsRow.lt h.f g e).2; omega
  · rcases hnew g e with k | k
    · exact h.xp g k e2
    · have := (World.ownsRow.lt h.p g e2).2; omega
  rintro g (e | e | e | e)
  · exact .inl (.inl e)
  · exact .inl (.inr (.inl e))
  · exact (hnew g e).imp (fun k => .inr (.inr (.inl k))) id
  · exact .inl (.inr (.inr (.inr e)))
theorem TS.pushP (h : TS w base q st) {es : List Nat} (hw : Below w.heap.size w w0) (hg : w0.grownBy w' q.p.v.ownBlock) (ho : w'.ownsRow base 31 1 (.slice A n c) n (vN (st.P ++ es))) (hv : (Value.slice A n c).ownBlock = q.p.v.ownBlock ∨ ∃ g, (Value.slice A n c).ownBlock = some g ∧ w.heap.size ≤ g) :
    TS w' base { q with p := ⟨A, n, c⟩ } { st with P := st.P ++ es } ∧ EvT q.own w w' ∧ NxT w q { q with p := ⟨A, n, c⟩ } := by
  have e1 : EvT q.p.own w w' := (EvT.of_below hw).trans (EvT.of_grown (O := q.p.own) hg fun g e => .inl e) fun g e => .inl e
  obtain ⟨k1, k2, k3⟩ := h.lnum
  have hnew : ∀ g, (Value.slice A n c).ownBlock = some g → q.p.own g ∨ w.heap.size ≤ g := fun g e => by
    rcases hv with hv | ⟨g', hv, hl⟩
    · exact .inl (hv.symm.trans e)
    · have : some g' = some g := hv.symm.trans e
      injection this with this; exact .inr (by omega)
  refine ⟨⟨e1.own h.l fun g e e2 => k3 g e2 e, e1.own h.f fun g e e2 => h.fp g e e2, e1.own h.x fun g e e2 => h.xp g e e2, ho, h.fx, fun g e e2 => ?_, fun g e e2 => ?_⟩, e1.mono fun g e => .inl (.inr (.inr (.inr e))), ?_⟩
  · rcases hnew g e2 with k | k
    · exact h.fp g e k
    · have := (World.ownsRow.lt h.f g e).2; omega
  · rcases hnew g e2 with k | k
    · exact h.xp g e k
    · have := (World.ownsRow.lt h.x g e).2; omega
  rintro g (e | e | e | e)
  · exact .inl (.inl e)
  · exact .inl (.inr (.inl e))
  · exact .inl (.inr (.inr (.inl e)))
  · exact (hnew g e).imp (fun k => .inr (.inr (.inr k))) id
end
end
/-- What below gives, of a right tree. -/
def RetT (base : Nat) (q : Q4) (w : World) (st' : RS) (e : Ending) (w' : World) : Prop :=
  ∃ q' : Q4, e = .returned (q'.v st'.hi false) ∧ TS w' base q' st' ∧ EvT q.own w w' ∧ NxT w q q'
/-- Six stores of one T. -/
theorem set6 {W : World} {R : Nat} {t : TypeId} {a b c d e f a' b' c' d' e' f' : Value} (h : Blk W R t #[a, b, c, d, e, f]) : Blk ((((((W.setCell ⟨R, 0, none⟩ a').setCell ⟨R, 1, none⟩ b').setCell ⟨R, 2, none⟩ c').setCell ⟨R, 3, none⟩ d').setCell ⟨R, 4, none⟩ e').setCell ⟨R, 5, none⟩ f') R t #[a', b', c', d', e', f'] := by
  have := (((((h.set_ 0 a').set_ 1 b').set_ 2 c').set_ 3 d').set_ 4 e').set_ 5 f'
  simpa using this
end
end Go.Proofs.Ytebobcbaloddaaa
