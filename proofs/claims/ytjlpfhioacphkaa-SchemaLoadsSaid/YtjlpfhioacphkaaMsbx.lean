/-
  Several texts in one: L5 L6.
-/
import Derived.Test.YtjlpfhioacphkaaMsbv
import Derived.Test.YtjlpfhioacphkaaMsbn
/-
  Books on a disk: the program's Load.
-/
namespace Go.Proofs.Ytjlpfhioacphkaa
section
set_option linter.unusedSimpArgs false
set_option linter.unusedVariables false
open Go.RowKit Go.Maps

/-- What Load answers. -/
def RetLd (w : World) (lo gp gm n : Nat) (ps : List (List UInt8)) (K : List Fr) (e : Ending) (w' : World) : Prop :=
  Turn w w' lo gp gm K ∧
  ∃ (A1 : Option Addr) (n1 c1 : Nat) (l : List Tb) (A2 : Option Addr) (n2 c2 : Nat) (r : List Ix) (A3 : Option Addr) (k3 c3 : Nat) (e0 : Int),
    e = .returned (.tuple #[.agg #[.slice A1 n1 c1, .slice A2 n2 c2], .slice A3 k3 c3, .int .i64 e0]) ∧ BkIn w' A1 n1 c1 l A2 n2 c2 r ∧
    ((e0 = 0 ∧ ∃ L bs, chP ps n 0 = some L ∧ (∀ x ∈ L, shOk (pgK ps x) = true) ∧ bs = L.flatMap (fun x => shB (pgK ps x)) ∧ chR ps n 0 [] = some bs ∧ gBook bs = some (pbk l r, []) ∧ MayB (pbk l r) ∧ k3 = L.length ∧ Reads w' w'.heap.size 1 A3 k3 (pnV L)) ∨
     (e0 ≠ 0 ∧ l = [] ∧ r = [] ∧ k3 = 0 ∧ ∀ bs, chR ps n 0 [] = some bs → ¬ ∃ b, gBook bs = some (b, []) ∧ MayB b))
theorem ld_end {W : World} {R : Nat} {tm : Array Value} {Q : Ending → World → Prop} {A1 : Option Addr} {n1 c1 : Nat} {A2 : Option Addr} {n2 c2 : Nat} {v : Value} {e0 : Int} (hR : Blk W R 25 #[.slice A1 n1 c1, .slice A2 n2 c2])
    (h2 : tm[2]? = some (.pointer (some ⟨R, 0, none⟩))) (h3 : tm[3]? = some v) (h4 : tm[4]? = some (.int .i64 e0)) (h : Q (.returned (.tuple #[.agg #[.slice A1 n1 c1, .slice A2 n2 c2], v, .int .i64 e0])) W) :
    bodyPost Try.prog Try.f11 Q Exit.ret { tmps := tm, defers := [] } W := by
  have q0 : W.cell? ⟨R, 0, none⟩ = _ := hR.cell 0
  have q1 : W.cell? ⟨R, 1, none⟩ = _ := hR.cell 1
  exact bodyPost_ret (v := .tuple #[.agg #[.slice A1 n1 c1, .slice A2 n2 c2], v, .int .i64 e0]) (by simp [results, Try.results11, go_sem, h2, h3, h4, q0, q1]) rfl h
theorem Reads.sht {w : World} {B : Nat} {A : Option Addr} {n k : Nat} {ps : List (List UInt8)} {l : List ShIt} (hr : Reads w B 4 A n (shV ps l)) (hk : k < n) :
    ∃ ad x, A = some ad ∧ ad.block < B ∧ l[k]? = some x ∧ w.cell? (ad.add (k * 4)) = some (.int .u8 4) ∧ w.cell? ⟨(ad.add (k * 4)).block, (ad.add (k * 4)).off + 1, none⟩ = some (.int .u16 (hdC (pgK ps x.p) : Int)) ∧ w.cell? ⟨(ad.add (k * 4)).block, (ad.add (k * 4)).off + 2, none⟩ = some (.int .u32 (hdN (pgK ps x.p) : Int)) ∧ w.cell? ⟨(ad.add (k * 4)).block, (ad.add (k * 4)).off + 3, none⟩ = some (.slice (some ⟨x.a, 8, none⟩) 504 (x.c - 8)) := by
  have hl : l.length = n := by have := hr.1; rw [shV_len] at this; omega
  obtain ⟨ad, hA, hb, hc⟩ := hr.2 (by omega)
  have hv : l[k]? = some (l[k]'(by omega)) := List.getElem?_eq_getElem (by omega)
  have at_ : ∀ j, j < 4 → (shV ps l)[k * 4 + j]? = (shC ps (l[k]'(by omega)))[j]? := fun j hj => flat_at _ 4 l k _ j (by simp [shC]) hv hj
  refine ⟨ad, l[k]'(by omega), hA, hb, hv, ?_, ?_, ?_, ?_⟩
  · have := hc (k * 4 + 0) _ (by rw [at_ 0 (by omega)]; rfl)
    simpa using this
  · rw [field_add _ _ _ (by omega)]
    exact hc (k * 4 + 1) _ (by rw [at_ 1 (by omega)]; rfl)
  · rw [field_add _ _ _ (by omega)]
    exact hc (k * 4 + 2) _ (by rw [at_ 2 (by omega)]; rfl)
  · rw [field_add _ _ _ (by omega)]
    exact hc (k * 4 + 3) _ (by rw [at_ 3 (by omega)]; rfl)
theorem reads_cut8 {w : World} {B a : Nat} {q : List UInt8} (h : Reads w B 1 (some ⟨a, 0, none⟩) 512 (bL q)) : Reads w B 1 (some ⟨a, 8, none⟩) 504 (bL (q.drop 8)) := by
  refine ⟨by have := h.1; simp [bL] at this ⊢; omega, fun _ => ?_⟩
  obtain ⟨ad, e, hb, hc⟩ := h.2 (by omega)
  injection e with e
  subst e
  refine ⟨_, rfl, hb, fun j u hj => ?_⟩
  have hj2 : (bL q)[8 + j]? = some u := by
    rw [← hj]
    simp [bL]
  have := hc (8 + j) u hj2
  have e : (⟨a, 8, none⟩ : Addr).add j = (⟨a, 0, none⟩ : Addr).add (8 + j) := by rw [add_head]; simp [Addr.add]
  rw [e]
  exact this
theorem cell_ne {w : World} {R : Nat} {t : TypeId} {u : Value} {p : Addr} {cs : Array Value} (hR : Blk w R t cs) (h : w.cell? p = some u) (hn : ∀ v ∈ cs.toList, v ≠ u) : p.block ≠ R := by
  rintro rfl
  unfold World.cell? at h
  rw [show w.heap[p.block]? = _ from hR] at h
  simp only at h
  split at h
  · cases h
  · exact hn u (by obtain ⟨hi, e⟩ := Array.getElem?_eq_some_iff.1 h; rw [← e]; simp) rfl
theorem ne_first {w : World} {B sz n R : Nat} {A : Option Addr} {xs : List Value} {t : TypeId} {cs : Array Value} (h : Reads w B sz A n xs) (hsz : 0 < sz) (hR : Blk w R t cs) (hcs : ∀ v ∈ cs.toList, ∃ a b c, v = .slice a b c) (hx : ∀ u, xs[0]? = some u → ∀ a b c, u ≠ .slice a b c) (hn : 0 < n) : ∀ ad, A = some ad → ad.block ≠ R := by
  rintro ad rfl
  obtain ⟨ad', e, _, hc⟩ := h.2 hn
  injection e with e
  subst e
  have hl : 0 < xs.length := by rw [h.1]; exact Nat.mul_pos hn hsz
  have hu : xs[0]? = some (xs[0]'hl) := List.getElem?_eq_getElem hl
  have := cell_ne hR (hc 0 _ hu) (fun v hv e => by obtain ⟨a, b, c, e'⟩ := hcs v hv; exact hx _ hu a b c (e.symm.trans e'))
  rwa [block_of_add] at this
theorem fst_tb (l : List Tb) : ∀ u, (vTb l)[0]? = some u → ∀ a b c, u ≠ .slice a b c := by
  intro u h a b c e
  subst e
  cases l <;> simp [vTb, Tb.cells] at h
theorem fst_ix (l : List Ix) : ∀ u, (vIx l)[0]? = some u → ∀ a b c, u ≠ .slice a b c := by
  intro u h a b c e
  subst e
  cases l <;> simp [vIx, Ix.cells] at h
theorem fst_cl (l : List Cl) : ∀ u, (vC l)[0]? = some u → ∀ a b c, u ≠ .slice a b c := by
  intro u h a b c e
  subst e
  cases l <;> simp [vC, Cl.cells] at h
theorem fst_in (l : List Int) : ∀ u, (vI64 l)[0]? = some u → ∀ a b c, u ≠ .slice a b c := by
  intro u h a b c e
  subst e
  cases l <;> simp [vI64] at h
/-- A book lies apart from a block of slices. -/
theorem BkIn.beside {w : World} {A B : Option Addr} {n c m d : Nat} {l : List Tb} {r : List Ix} (h : BkIn w A n c l B m d r) {R : Nat} {t : TypeId} {cs : Array Value} (hR : Blk w R t cs) (hcs : ∀ v ∈ cs.toList, ∃ a b c, v = .slice a b c) (j : Nat) (v : Value) : BkIn (w.setCell ⟨R, j, none⟩ v) A n c l B m d r := by
  have hs : w.heap.size ≤ (w.setCell ⟨R, j, none⟩ v).heap.size := by simp [World.setCell]
  have hh : ∀ ad : Addr, ad.block ≠ R → (w.setCell ⟨R, j, none⟩ v).heap[ad.block]? = w.heap[ad.block]? := fun ad ha => Below.heap_setCell _ _ _ _ ha
  refine ⟨reads_stay h.hr hs fun hn ad ha => hh ad (ne_first h.hr (by decide) hR hcs (fst_tb l) hn ad ha), fun t ht => (h.hl t ht).stay hs fun hn ad ha => hh ad (ne_first (h.hl t ht).1.2.2.1 (by decide) hR hcs (fst_cl _) hn ad ha), reads_stay h.hx hs fun hn ad ha => hh ad (ne_first h.hx (by decide) hR hcs (fst_ix r) hn ad ha), fun x hx' => (h.hix x hx').stay hs (fun hn ad ha => hh ad (ne_first (h.hix x hx').2.1 (by decide) hR hcs (fst_in _) hn ad ha)) (fun hn ad ha => hh ad (ne_first (h.hix x hx').2.2.1 (by decide) hR hcs (fst_in _) hn ad ha)), h.hn, h.hm⟩
section
variable {w : World} {lo gp gd gb gt n : Nat} {ps : List (List UInt8)} {T : List Bool} {gm size : Nat} {K : List Fr} {D : DataW Unit}
set_option maxRecDepth 100000 in
set_option maxHeartbeats 8000000 in
theorem load12_any (h : PS w lo gp gd gb gt n ps T gm size K D 0 0) (hlo : lo ≤ w.heap.size) (hn : n ≤ 1000) :
    Calls Try.prog 11 #[.pointer (some ⟨gp, 0, none⟩)] w (RetLd w lo gp gm n ps K) := by
  have hb0 := ball (Below.refl w.heap.size w) (.cells #[.slice none 0 0, .slice none 0 0] 25)
  have h0 := h.below hb0
  have CH := Lib.hid (chain_any h0 (Nat.le_trans hlo hb0.size) hn)
  have hX := Blk.new w 25 #[.slice none 0 0, .slice none 0 0]
  have H := Lib.hid (And.intro h0 (And.intro hX (And.intro hb0 hlo)))
  clear h h0 hb0 hX hlo
  go_enter Try.func11, Try.ntmps11
  go_wp2_with fail
  refine CH.out.mono ?_
  rintro e w1 ⟨tn, hc⟩
  have hX1 := H.out.1.turn_blk tn H.out.2.1 (by decide) (by decide)
  have tn1 : Turn w w1 lo gp gm K := (Turn.of_below H.out.2.2.1 H.out.2.2.2).trans tn fun j f hj => .inl ⟨j, hj⟩
  have hz1 := hX1.lt
  have r0 : w1.cell? ⟨w.heap.size, 0, none⟩ = some (.slice none 0 0) := hX1.cell 0
  have r1 : w1.cell? ⟨w.heap.size, 1, none⟩ = some (.slice none 0 0) := hX1.cell 1
  have f0 := hX1.frozen 0
  have f1 := hX1.frozen 1
  have H1 := Lib.hid (And.intro hX1 tn1)
  clear tn hX1 tn1 CH
  rcases hc with ⟨hno, E, hE, rfl⟩ | ⟨acc, A, c, A2, c2, hyes, rfl, hpg, hsh, hok⟩
  · have HN := Lib.hid (And.intro hno hE)
    have hE2 : (E != 0) = true := by simpa using hE
    clear hno hE
    go_wp2
    refine ld_end (v := .slice none 0 0) (e0 := E) ((H1.out.1.set_ 0 (.slice none 0 0)).set_ 1 (.slice none 0 0)) (by simp) (by simp) (by simp) ?_
    exact ⟨H1.out.2.base (((Below.refl w.heap.size w1).setCell (Nat.le_refl _) _).setCell (Nat.le_refl _) _) H.out.2.2.2, none, 0, 0, [], none, 0, 0, [], none, 0, 0, E, rfl, bk_nil12 _, .inr ⟨HN.out.2, rfl, rfl, rfl, fun bs hbs => by rw [chR_of_none _ _ _ HN.out.1] at hbs; cases hbs⟩⟩
  · obtain ⟨k, hk⟩ : ∃ k, acc.length = k := ⟨_, rfl⟩
    have HK := Lib.hid hk
    rw [hk] at hpg hsh ⊢
    have hkb : k ≤ 1000 := by
      have h := (chP_at _ _ _ hyes).2.1
      rw [List.length_map, hk] at h
      omega
    have HC := Lib.hid (And.intro hyes (And.intro hpg (And.intro hsh hok)))
    clear hyes hpg hsh hok hk
    go_wp2
    go_loopw [8, 24] (fun u8 u24 wr => ∃ (i : Nat) (A8 : Option Addr) (c8 m8 : Nat) (bs : List UInt8), u24 = .int .i64 i ∧ i ≤ k ∧ u8 = .slice A8 m8 c8 ∧ m8 = bs.length ∧ m8 ≤ i * 504 ∧ m8 ≤ c8 ∧ Below w1.heap.size w1 wr ∧ Own wr w1.heap.size (.slice A8 m8 c8) bs ∧ bs = (acc.take i).flatMap (fun x => shB (pgK ps x.p)) ∧ ∀ x ∈ acc.take i, shOk (pgK ps x.p) = true) (fun _ u24 _ => k - (intOf u24).toNat)
    case atStart => exact ⟨0, none, 0, 0, [], rfl, by omega, rfl, rfl, by omega, Nat.le_refl _, Below.refl _ _, ⟨rfl, .inl ⟨rfl, rfl⟩⟩, rfl, fun x hx => by simp at hx⟩
    case round =>
      obtain ⟨wo, rfl⟩ : ∃ wo : World, wo = wr := ⟨_, rfl⟩
      obtain ⟨i, A8, c8, m8, bs, rfl, hi, rfl, hm8, hm9, hmc, hb, hown, hbs, hall⟩ := hrel
      have i0 : (0 : Int) ≤ (i : Int) := by omega
      have hzo := hb.size
      by_cases hlt : i < k
      · have i1 : (i : Int) < (k : Int) := by omega
        obtain ⟨ad, x, rfl, had, hx, p0, p1, p2, p3⟩ := ((Reads.of_own HC.out.2.2.1).below hb).sht hlt
        have hxo := HC.out.2.2.2 x (List.mem_of_getElem? hx)
        have hq8 := reads_cut8 (hxo.1.below hb).reads.1
        have hcc : 504 ≤ x.c - 8 := by have := hxo.2.1; omega
        obtain ⟨cc, hcce⟩ : ∃ cc, x.c - 8 = cc := ⟨_, rfl⟩
        obtain ⟨q, hqe⟩ : ∃ q, pgK ps x.p = q := ⟨_, rfl⟩
        rw [hcce] at hcc p3
        rw [hqe] at p1 p2 hq8
        have HS0 := Lib.hid (fun W hW => may_sheet (some ⟨x.a, 8, none⟩) cc q W ((hq8.below (w' := W) hW).more hW.size) hcc)
        obtain ⟨C, hC⟩ : ∃ C, hdC q = C := ⟨_, rfl⟩
        obtain ⟨N, hN⟩ : ∃ N, hdN q = N := ⟨_, rfl⟩
        rw [hC, hN] at HS0
        rw [hC] at p1
        rw [hN] at p2
        obtain ⟨S, hS⟩ : ∃ S, shOk q = S := ⟨_, rfl⟩
        rw [hS] at HS0
        have HXs := Blk.new wo 93 #[.int .u8 4, .int .u16 (C : Int), .int .u32 (N : Int), .slice (some ⟨x.a, 8, none⟩) 504 cc]
        have hbS := ball (Below.refl wo.heap.size wo) (.cells #[.int .u8 4, .int .u16 (C : Int), .int .u32 (N : Int), .slice (some ⟨x.a, 8, none⟩) 504 cc] 93)
        have y0 : (wo.alloc (.cells #[.int .u8 4, .int .u16 (C : Int), .int .u32 (N : Int), .slice (some ⟨x.a, 8, none⟩) 504 cc] 93)).cell? ⟨wo.heap.size, 0, none⟩ = some (.int .u8 4) := HXs.cell 0
        have y1 : (wo.alloc (.cells #[.int .u8 4, .int .u16 (C : Int), .int .u32 (N : Int), .slice (some ⟨x.a, 8, none⟩) 504 cc] 93)).cell? ⟨wo.heap.size, 1, none⟩ = some (.int .u16 (C : Int)) := HXs.cell 1
        have y2 : (wo.alloc (.cells #[.int .u8 4, .int .u16 (C : Int), .int .u32 (N : Int), .slice (some ⟨x.a, 8, none⟩) 504 cc] 93)).cell? ⟨wo.heap.size, 2, none⟩ = some (.int .u32 (N : Int)) := HXs.cell 2
        have y3 : (wo.alloc (.cells #[.int .u8 4, .int .u16 (C : Int), .int .u32 (N : Int), .slice (some ⟨x.a, 8, none⟩) 504 cc] 93)).cell? ⟨wo.heap.size, 3, none⟩ = some (.slice (some ⟨x.a, 8, none⟩) 504 cc) := HXs.cell 3
        have HB := Lib.hid (And.intro hb (And.intro hown (And.intro hbs (And.intro hall (And.intro hx (And.intro hqe (And.intro hC (And.intro hS (And.intro hbS (And.intro HXs hq8))))))))))
        have hxt : acc.take (i + 1) = acc.take i ++ [x] := by rw [List.take_add_one, hx]; rfl
        have HXT := Lib.hid hxt
        have hbl : bs.length ≤ 504000 := by omega
        have HBL := Lib.hid (And.intro hbl hm8)
        clear hbl hm8
        clear hb hown hbs hall hx hqe hS hbS HXs hq8 hxo hxt
        go_wp2_with fail
        refine (HS0.out _ HB.out.2.2.2.2.2.2.2.2.1).mono ?_
        rintro e w2 ⟨rfl, hb2⟩
        have b2w := bto0 HB.out.2.2.2.2.2.2.2.2.1 hb2
        have b12 := bto0 HB.out.1 b2w
        have X2 := H1.out.1.below b12 H1.out.1.lt
        have H2 := Lib.hid (And.intro b2w (And.intro b12 X2))
        have hz2 := b2w.size
        cases S with
        | false =>
          have z0 : w2.cell? ⟨w.heap.size, 0, none⟩ = some (.slice none 0 0) := X2.cell 0
          have z1 : w2.cell? ⟨w.heap.size, 1, none⟩ = some (.slice none 0 0) := X2.cell 1
          have g0 := X2.frozen 0
          have g1 := X2.frozen 1
          clear b2w b12 X2 hb2 HS0
          go_wp2
          refine ld_end (v := .slice none 0 0) (e0 := 2) ((H2.out.2.2.set_ 0 (.slice none 0 0)).set_ 1 (.slice none 0 0)) (by simp) (by simp) (by simp) ?_
          refine ⟨H1.out.2.base (((H2.out.2.1.mono (Nat.le_of_lt hz1)).setCell (Nat.le_refl _) _).setCell (Nat.le_refl _) _) H.out.2.2.2, none, 0, 0, [], none, 0, 0, [], none, 0, 0, 2, rfl, bk_nil12 _, .inr ⟨by decide, rfl, rfl, rfl, fun bs' hbs' => ?_⟩⟩
          rw [chR_of_bad _ _ _ _ HC.out.1 ⟨x.p, List.mem_map.2 ⟨x, List.mem_of_getElem? HB.out.2.2.2.2.1, rfl⟩, by rw [HB.out.2.2.2.2.2.1]; exact HB.out.2.2.2.2.2.2.2.1⟩] at hbs'
          cases hbs'
        | true =>
          have hz2' : w1.heap.size ≤ w2.heap.size := b12.size
          have hC504 : C ≤ 504 := by
            have h := HB.out.2.2.2.2.2.2.2.1
            unfold shOk at h
            rw [HB.out.2.2.2.2.2.2.1] at h
            simp only [Bool.and_eq_true, decide_eq_true_eq] at h
            exact h.1
          obtain ⟨A', cu, rd⟩ := cutb_hi (A := some ⟨x.a, 8, none⟩) (n := 504) (c := cc) .u16 C (C : Int) rfl hC504 hcc
          have own2 := HB.out.2.1.below b2w
          have rd2 := rd _ _ _ (HB.out.2.2.2.2.2.2.2.2.2.2.below b2w)
          have Xs := HB.out.2.2.2.2.2.2.2.2.2.1.below hb2 HB.out.2.2.2.2.2.2.2.2.2.1.lt
          have y20 : w2.cell? ⟨wo.heap.size, 0, none⟩ = some (.int .u8 4) := Xs.cell 0
          have y21 : w2.cell? ⟨wo.heap.size, 1, none⟩ = some (.int .u16 (C : Int)) := Xs.cell 1
          have y22 : w2.cell? ⟨wo.heap.size, 2, none⟩ = some (.int .u32 (N : Int)) := Xs.cell 2
          have y23 : w2.cell? ⟨wo.heap.size, 3, none⟩ = some (.slice (some ⟨x.a, 8, none⟩) 504 cc) := Xs.cell 3
          have hlB : (bs ++ (q.drop 8).take C).length = m8 + C := by rw [List.length_append, rd2.bytes_len, HBL.out.2]
          have hlC : bs.length + ((q.drop 8).take C).length ≤ 1000000000 := by rw [rd2.bytes_len]; have := HBL.out.1; omega
          have HLB := Lib.hid (And.intro hlB hlC)
          clear hlB hlC
          have HO := Lib.hid (And.intro own2 rd2)
          clear b2w b12 X2 hb2 HS0 own2 rd2 rd Xs
          go_wp2_with (at_builtin; refine wpList_appR rfl (.tmp 32) (.tmp 38) rfl w1.heap.size (.slice A8 m8 c8) bs ((q.drop 8).take C) A' C cc wo.heap.size (by first | rfl | (simp [Act.eval, Act.put]; done)) HO.out.1 (by first | rfl | (simp [Act.eval, Act.put]; done)) HO.out.2 HLB.out.2 hz2' ?_; intro v9 w9 own9 kp9; obtain ⟨A9, c9, rfl, hc9⟩ := own_form own9; rw [HLB.out.1] at hc9 own9 ⊢; have H9 := Lib.hid (And.intro own9 kp9); clear own9 kp9)
          refine ⟨⟨i + 1, A9, c9, m8 + C, bs ++ (q.drop 8).take C, by go_num, by omega, rfl, HLB.out.1.symm, by omega, hc9, H9.out.2.below _ _ (Nat.le_refl _) H2.out.2.1, H9.out.1, ?_, ?_⟩, by simp [intOf]; omega⟩
          · rw [HXT.out, List.flatMap_append, ← HB.out.2.2.1]
            simp [shB, HB.out.2.2.2.2.2.1, HB.out.2.2.2.2.2.2.1]
          · intro y hy
            rw [HXT.out] at hy
            rcases List.mem_append.1 hy with h | h
            · exact HB.out.2.2.2.1 y h
            · rw [List.mem_singleton] at h
              subst h
              rw [HB.out.2.2.2.2.2.1]
              exact HB.out.2.2.2.2.2.2.2.1
      · obtain rfl : k = i := by omega
        have htk : acc.take k = acc := List.take_of_length_le (by rw [HK.out]; exact Nat.le_refl _)
        rw [htk] at hbs hall
        have hcr : chR ps n 0 [] = some bs := by
          rw [chR_of_ok _ _ _ _ HC.out.1 (fun y hy => by obtain ⟨x, hx, rfl⟩ := List.mem_map.1 hy; exact hall x hx), hbs, List.flatMap_map]
          rfl
        have GT := Lib.hid (get_any12 A8 m8 c8 bs wo hown.reads.1 hmc)
        clear hlt hi hm9 hzo i0 hmc hm8 hkb
        have HB := Lib.hid (And.intro hb (And.intro hcr (And.intro hbs hall)))
        clear hb hown hcr hbs hall htk
        go_wp2_with fail
        refine GT.out.mono ?_
        rintro e w2 ⟨B1, n1, d1, l, B2, n2, d2, r, e0, rfl, hk2, hb2, hor⟩
        have b12 := bto0 HB.out.1 hb2
        have X2 := (H1.out.1.below b12 H1.out.1.lt).alloc (.cells #[.slice B1 n1 d1, .slice B2 n2 d2] 25)
        have hba2 := ball (Below.refl w2.heap.size w2) (.cells #[.slice B1 n1 d1, .slice B2 n2 d2] 25)
        have Y2 := Blk.new w2 25 #[.slice B1 n1 d1, .slice B2 n2 d2]
        have hk3 := hk2.below hba2
        have b13 := ball b12 (.cells #[.slice B1 n1 d1, .slice B2 n2 d2] 25)
        have hz2 := hb2.size
        have hzw2 : w1.heap.size ≤ w2.heap.size := b12.size
        have H2 := Lib.hid (And.intro hk3 (And.intro b13 X2))
        rcases hor with ⟨rfl, hg, hmay⟩ | ⟨rfl, rfl, rfl, hno⟩
        · have HG := Lib.hid (And.intro hg hmay)
          obtain ⟨W3, hW3⟩ : ∃ W3, w2.alloc (.cells #[.slice B1 n1 d1, .slice B2 n2 d2] 25) = W3 := ⟨_, rfl⟩
          rw [hW3] at H2 Y2 X2
          have z0 : W3.cell? ⟨w.heap.size, 0, none⟩ = some (.slice none 0 0) := X2.cell 0
          have z1 : W3.cell? ⟨w.heap.size, 1, none⟩ = some (.slice none 0 0) := X2.cell 1
          have g0 := X2.frozen 0
          have g1 := X2.frozen 1
          have y0 : W3.cell? ⟨w2.heap.size, 0, none⟩ = some (.slice B1 n1 d1) := Y2.cell 0
          have y1 : W3.cell? ⟨w2.heap.size, 1, none⟩ = some (.slice B2 n2 d2) := Y2.cell 1
          clear hg hmay hk2 hb2 hba2 hk3 b12 b13 X2 Y2 GT
          go_wp2
          refine ld_end (v := .slice A k c) (e0 := 0) ((H2.out.2.2.set_ 0 (.slice B1 n1 d1)).set_ 1 (.slice B2 n2 d2)) (by simp) (by simp) (by simp) ?_
          have bk1 := H2.out.1.beside H2.out.2.2 (by intro v hv; simp at hv; rcases hv with rfl | rfl <;> exact ⟨_, _, _, rfl⟩) 0 (.slice B1 n1 d1)
          have bk2 := bk1.beside (H2.out.2.2.set_ 0 (.slice B1 n1 d1)) (by intro v hv; simp at hv; rcases hv with rfl | rfl <;> exact ⟨_, _, _, rfl⟩) 1 (.slice B2 n2 d2)
          have bel : Below w1.heap.size w1 W3 := H2.out.2.1
          refine ⟨H1.out.2.base (((bel.mono (Nat.le_of_lt hz1)).setCell (Nat.le_refl _) _).setCell (Nat.le_refl _) _) H.out.2.2.2, B1, n1, d1, l, B2, n2, d2, r, A, k, c, 0, rfl, bk2, .inl ⟨rfl, acc.map ShIt.p, bs, HC.out.1, ?_, ?_, HB.out.2.1, HG.out.1, HG.out.2, by rw [List.length_map, HK.out], ?_⟩⟩
          · intro y hy
            obtain ⟨x, hx, rfl⟩ := List.mem_map.1 hy
            exact HB.out.2.2.2 x hx
          · rw [HB.out.2.2.1, List.flatMap_map]
          · have ho : W3.ownsRow (w.heap.size + 1) 53 1 (.slice A k c) k (pnV (acc.map ShIt.p)) := by
              have h := own_kept_below HC.out.2.1 bel
              simpa using h
            exact Reads.of_own (own_far2 (own_far2 ho w.heap.size (by omega) 0 _) w.heap.size (by omega) 1 _)
        · have HNO := Lib.hid hno
          obtain ⟨W3, hW3⟩ : ∃ W3, w2.alloc (.cells #[.slice B1 n1 d1, .slice B2 n2 d2] 25) = W3 := ⟨_, rfl⟩
          rw [hW3] at H2 Y2 X2
          have z0 : W3.cell? ⟨w.heap.size, 0, none⟩ = some (.slice none 0 0) := X2.cell 0
          have z1 : W3.cell? ⟨w.heap.size, 1, none⟩ = some (.slice none 0 0) := X2.cell 1
          have g0 := X2.frozen 0
          have g1 := X2.frozen 1
          clear hno hk2 hb2 hba2 hk3 b12 b13 X2 Y2 GT
          go_wp2
          refine ld_end (v := .slice none 0 0) (e0 := 2) ((H2.out.2.2.set_ 0 (.slice none 0 0)).set_ 1 (.slice none 0 0)) (by simp) (by simp) (by simp) ?_
          have bel : Below w1.heap.size w1 W3 := H2.out.2.1
          refine ⟨H1.out.2.base (((bel.mono (Nat.le_of_lt hz1)).setCell (Nat.le_refl _) _).setCell (Nat.le_refl _) _) H.out.2.2.2, none, 0, 0, [], none, 0, 0, [], none, 0, 0, 2, rfl, bk_nil12 _, .inr ⟨by decide, rfl, rfl, rfl, fun bs' hbs' => ?_⟩⟩
          rw [HB.out.2.1] at hbs'
          obtain rfl := Option.some.inj hbs'
          exact HNO.out
end
end
end Go.Proofs.Ytjlpfhioacphkaa
/-
  Books on a disk: the reference's Load.
-/
namespace Go.Proofs.Ytjlpfhioacphkaa
section
set_option linter.unusedSimpArgs false
set_option linter.unusedVariables false
open Go.RowKit Go.Maps

/-- What the reference's Load answers. -/
def RetRL (w : World) (ps : List (List UInt8)) (n : Nat) (e : Ending) (w' : World) : Prop :=
  ∃ (B1 : Option Addr) (n1 d1 : Nat) (l : List Tb) (B2 : Option Addr) (n2 d2 : Nat) (r : List Ix) (v : Value) (ok : Bool), e = .returned (.tuple #[.agg #[.slice B1 n1 d1, .slice B2 n2 d2], v, .bool ok]) ∧ BkIn w' B1 n1 d1 l B2 n2 d2 r ∧ Below w.heap.size w w' ∧
    ((ok = true ∧ ∃ bs, chR ps n 0 [] = some bs ∧ gBook bs = some (pbk l r, []) ∧ MayB (pbk l r)) ∨ (ok = false ∧ l = [] ∧ r = [] ∧ ∀ bs, chR ps n 0 [] = some bs → ¬ ∃ b, gBook bs = some (b, []) ∧ MayB b))
theorem rl_end {W : World} {R : Nat} {tm : Array Value} {Q : Ending → World → Prop} {A1 : Option Addr} {n1 c1 : Nat} {A2 : Option Addr} {n2 c2 : Nat} {v : Value} {ok : Bool} (hR : Blk W R 25 #[.slice A1 n1 c1, .slice A2 n2 c2])
    (h2 : tm[2]? = some (.pointer (some ⟨R, 0, none⟩))) (h3 : tm[3]? = some v) (h4 : tm[4]? = some (.bool ok)) (h : Q (.returned (.tuple #[.agg #[.slice A1 n1 c1, .slice A2 n2 c2], v, .bool ok])) W) :
    bodyPost Try.prog Try.f13 Q Exit.ret { tmps := tm, defers := [] } W := by
  have q0 : W.cell? ⟨R, 0, none⟩ = _ := hR.cell 0
  have q1 : W.cell? ⟨R, 1, none⟩ = _ := hR.cell 1
  exact bodyPost_ret (v := .tuple #[.agg #[.slice A1 n1 c1, .slice A2 n2 c2], v, .bool ok]) (by simp [results, Try.results13, go_sem, h2, h3, h4, q0, q1]) rfl h
/-- An answer that is none. -/
theorem RetRL.no {w w' : World} {ps : List (List UInt8)} {n : Nat} {v : Value} (hb : Below w.heap.size w w') (h : chR ps n 0 [] = none) : RetRL w ps n (.returned (.tuple #[.agg #[.slice none 0 0, .slice none 0 0], v, .bool false])) w' :=
  ⟨none, 0, 0, [], none, 0, 0, [], v, false, rfl, bk_nil12 _, hb, .inr ⟨rfl, rfl, rfl, fun bs hbs => by rw [h] at hbs; cases hbs⟩⟩
set_option maxRecDepth 100000 in
set_option maxHeartbeats 16000000 in
theorem rload12_any {w : World} {n : Nat} (A : Option Addr) (c : Nat) (A2 : Option Addr) (c2 : Nat) (ps : List (List UInt8)) (hr : Reads w w.heap.size 1 A n (sL ps)) (hps : ps.length = n) (hf : Full ps) (hn : n ≤ 1000) :
    Calls Try.prog 13 #[.agg #[.slice A n c, .slice A2 n c2]] w (RetRL w ps n) := by
  obtain ⟨i0, hi0, hz0, hs0, hy0⟩ := int_info8 Try.infoPg
  obtain ⟨R, hR⟩ : ∃ R, chR ps n 0 [] = R := ⟨_, rfl⟩
  have HP := Lib.hid (And.intro hr (And.intro hps hf))
  have hnI : (n : Int) ≤ 1000 := by omega
  have HR := Lib.hid hR
  have hb0 := ball (ball (ball (Below.refl w.heap.size w) (.cells #[.slice A n c, .slice A2 n c2] 47)) (.cells #[.slice none 0 0, .slice none 0 0] 25)) (.cells #[] 53)
  have hX0 := ((Blk.new w 47 #[.slice A n c, .slice A2 n c2]).alloc (.cells #[.slice none 0 0, .slice none 0 0] 25)).alloc (.cells #[] 53)
  have hB0 : Blk (((w.alloc (.cells #[.slice A n c, .slice A2 n c2] 47)).alloc (.cells #[.slice none 0 0, .slice none 0 0] 25)).alloc (.cells #[] 53)) (w.heap.size + 1) 25 #[.slice none 0 0, .slice none 0 0] := (Blk.newAt (by simp)).alloc (.cells #[] 53)
  have H0 := Lib.hid (And.intro hb0 (And.intro hX0 hB0))
  clear hb0 hX0 hB0 hr hps hf hR
  go_enter Try.func13, Try.ntmps13
  go_wp2
  go_loopw [5, 6, 7, 8] (fun u5 u6 u7 u8 wr => ∃ (f p k : Nat) (s : List UInt8) (A6 : Option Addr) (c6 : Nat) (P : List Nat), u5 = .string (str s) ∧ u6 = .slice A6 k c6 ∧ u7 = .int .u32 p ∧ u8 = .int .i64 k ∧ f + k = n ∧ p ≤ 4294967295 ∧ s.length ≤ k * 504 ∧ Below w.heap.size w wr ∧ Blk wr w.heap.size 47 #[.slice A n c, .slice A2 n c2] ∧ Blk wr (w.heap.size + 1) 25 #[.slice none 0 0, .slice none 0 0] ∧ wr.ownsRow (w.heap.size + 1 + 1) 53 1 (.slice A6 k c6) k (pnV P) ∧ chR ps f p s = R) (fun _ _ _ u8 _ => n + 1 - (intOf u8).toNat)
  case atStart =>
    refine ⟨n, 0, 0, [], _, 0, [], rfl, rfl, rfl, rfl, by omega, by omega, by simp, H0.out.1, H0.out.2.1, H0.out.2.2, ?_, HR.out⟩
    have h := own_empty ((w.alloc (.cells #[.slice A n c, .slice A2 n c2] 47)).alloc (.cells #[.slice none 0 0, .slice none 0 0] 25)) 53 1 (g := w.heap.size + 1 + 1) (by simp)
    simpa [pnV] using h
  case round =>
    obtain ⟨wo, rfl⟩ : ∃ wo : World, wo = wr := ⟨_, rfl⟩
    obtain ⟨f, p, k, s, A6, c6, P, rfl, rfl, rfl, rfl, hfk, hp, hsl, hb, hX, hB, hown, hout⟩ := hrel
    have k0 : (0 : Int) ≤ (k : Int) := by omega
    have x0 : wo.cell? ⟨w.heap.size, 0, none⟩ = some (.slice A n c) := hX.cell 0
    have x1 : wo.cell? ⟨w.heap.size, 1, none⟩ = some (.slice A2 n c2) := hX.cell 1
    have b0 : wo.cell? ⟨w.heap.size + 1, 0, none⟩ = some (.slice none 0 0) := hB.cell 0
    have b1 : wo.cell? ⟨w.heap.size + 1, 1, none⟩ = some (.slice none 0 0) := hB.cell 1
    have f0 := hB.frozen 0
    have f1 := hB.frozen 1
    have hzo := hB.lt
    by_cases hf0 : f = 0
    · subst hf0
      have hRe : R = none := by rw [← hout]; rfl
      have e1 : decide ((k : Int) < (n : Int)) = false := by simp; omega
      have HB := Lib.hid (And.intro hb (And.intro hB hRe))
      clear hout hX hB hown hb hRe hsl
      go_wp2
      exact rl_end (v := .slice A6 k c6) (ok := false) ((HB.out.2.1.set_ 0 (.slice none 0 0)).set_ 1 (.slice none 0 0)) (by simp) (by simp) (by simp) (RetRL.no ((HB.out.1.setCell (by simp) _).setCell (by simp) _) (by rw [HR.out]; exact HB.out.2.2))
    obtain ⟨f, rfl⟩ : ∃ g, f = g + 1 := ⟨f - 1, by omega⟩
    have k1 : (k : Int) < (n : Int) := by omega
    have g0 : (0 : Int) ≤ (p : Int) := by omega
    have g3 : (p : Int) ≤ 4294967295 := by omega
    by_cases h1 : n ≤ p
    · have g9 : (n : Int) ≤ (p : Int) := by omega
      have hRe : R = none := by rw [← hout, chR_none (List.getElem?_eq_none (by rw [HP.out.2.1]; exact h1))]
      have HB := Lib.hid (And.intro hb (And.intro hB hRe))
      clear hout hX hB hown hb hRe hsl h1
      go_wp2
      exact rl_end (v := .slice A6 k c6) (ok := false) ((HB.out.2.1.set_ 0 (.slice none 0 0)).set_ 1 (.slice none 0 0)) (by simp) (by simp) (by simp) (RetRL.no ((HB.out.1.setCell (by simp) _).setCell (by simp) _) (by rw [HR.out]; exact HB.out.2.2))
    have g1 : (p : Int) < (n : Int) := by omega
    obtain ⟨ad, q, rfl, hadb, hq, hcell⟩ := (HP.out.1.below hb).text (k := p) (by omega)
    have hql : q.length = 512 := HP.out.2.2 q (List.mem_of_getElem? hq)
    have RG := Lib.hid fun W => rhget_any q (by omega) W
    have HB := Lib.hid (And.intro hb (And.intro hX (And.intro hB (And.intro hown (And.intro hout (And.intro hq (And.intro hql (And.intro hcell hsl))))))))
    clear hout hX hB hown hb hq hql hsl h1
    go_wp2_with fail
    refine (RG.out _).mono ?_
    rintro e w2 ⟨rfl, hb2⟩
    have B2 := HB.out.2.2.1.below hb2 HB.out.2.2.1.lt
    have X2 := HB.out.2.1.below hb2 HB.out.2.1.lt
    have b02 := bto0 HB.out.1 hb2
    have z0 : w2.cell? ⟨w.heap.size + 1, 0, none⟩ = some (.slice none 0 0) := B2.cell 0
    have z1 : w2.cell? ⟨w.heap.size + 1, 1, none⟩ = some (.slice none 0 0) := B2.cell 1
    have e0 := B2.frozen 0
    have e1 := B2.frozen 1
    have y0 : w2.cell? ⟨w.heap.size, 0, none⟩ = some (.slice (some ad) n c) := X2.cell 0
    have y1 : w2.cell? ⟨w.heap.size, 1, none⟩ = some (.slice A2 n c2) := X2.cell 1
    have hz2 := hb2.size
    have hzb := B2.lt
    have H2 := Lib.hid (And.intro b02 B2)
    have HW2 := Lib.hid (And.intro hb2 X2)
    have hq := HB.out.2.2.2.2.2.1
    have hout := HB.out.2.2.2.2.1
    clear B2 X2 b02 hb2 RG hcell
    rcases hok : hdOk q with _ | _
    · have hv : hdV q = .agg #[.int .u8 0, .int .u16 0, .int .u32 0] := by unfold hdV; rw [hok]; rfl
      have hRe : R = none := by rw [← hout, chR_no hq (by unfold bkHd; rw [hok]; rfl)]
      have HRe := Lib.hid hRe
      rw [hv]
      clear hv hok hRe hq hout
      go_wp2
      exact rl_end (v := .slice A6 k c6) (ok := false) (((H2.out.2.set_ 0 (.slice none 0 0)).set_ 1 (.slice none 0 0)).alloc _) (by simp) (by simp) (by simp) (RetRL.no (ball ((H2.out.1.setCell (by simp) _).setCell (by simp) _) _) (by rw [HR.out]; exact HRe.out))
    have hv : hdV q = .agg #[.int .u8 (hdK q : Int), .int .u16 (hdC q : Int), .int .u32 (hdN q : Int)] := by unfold hdV; rw [hok, if_pos rfl]
    obtain ⟨KK, hKK⟩ : ∃ KK, hdK q = KK := ⟨_, rfl⟩
    obtain ⟨C, hC⟩ : ∃ C, hdC q = C := ⟨_, rfl⟩
    obtain ⟨N, hN⟩ : ∃ N, hdN q = N := ⟨_, rfl⟩
    rw [hKK, hC, hN] at hv
    rw [hv]
    have hbk : bkHd q = decide (KK = 4) := by unfold bkHd; rw [hok, Bool.true_and, hKK]
    have hsh : shOk q = (decide (C ≤ 504) && ((decide (N = 0) || decide (504 ≤ C)) && allNil (q.drop (8 + C)))) := by unfold shOk allNil; rw [hC, hN]
    by_cases hk4 : KK = 4
    rotate_left
    · have hRe : R = none := by rw [← hout, chR_no hq (by rw [hbk, decide_eq_false hk4]; rfl)]
      have HRe := Lib.hid hRe
      have e4 : ((KK : Int) != 4) = true := by simp; omega
      clear hv hok hRe hq hout hk4 hbk hsh hKK hC hN
      go_wp2
      exact rl_end (v := .slice A6 k c6) (ok := false) (((H2.out.2.set_ 0 (.slice none 0 0)).set_ 1 (.slice none 0 0)).alloc _) (by simp) (by simp) (by simp) (RetRL.no (ball ((H2.out.1.setCell (by simp) _).setCell (by simp) _) _) (by rw [HR.out]; exact HRe.out))
    have e4 : ((KK : Int) != 4) = false := by simp; omega
    by_cases h5 : 504 < C
    · have hRe : R = none := by rw [← hout, chR_no hq (by rw [hsh, decide_eq_false (by omega), Bool.false_and, Bool.and_false])]
      have HRe := Lib.hid hRe
      have e5 : (504 : Int) < (C : Int) := by omega
      clear hv hok hRe hq hout hk4 hbk hsh hKK hC hN h5
      go_wp2
      exact rl_end (v := .slice A6 k c6) (ok := false) (((H2.out.2.set_ 0 (.slice none 0 0)).set_ 1 (.slice none 0 0)).alloc _) (by simp) (by simp) (by simp) (RetRL.no (ball ((H2.out.1.setCell (by simp) _).setCell (by simp) _) _) (by rw [HR.out]; exact HRe.out))
    have e5 : (C : Int) ≤ 504 := by omega
    by_cases h6 : N ≠ 0 ∧ C < 504
    · have hRe : R = none := by rw [← hout, chR_no hq (by rw [hsh, decide_eq_false h6.1, decide_eq_false (by omega : ¬ 504 ≤ C)]; simp)]
      have HRe := Lib.hid hRe
      have e6 : ((N : Int) != 0) = true := by simp; exact h6.1
      have e7 : (C : Int) < 504 := by omega
      clear hv hok hRe hq hout hk4 hbk hsh hKK hC hN h5 h6 e5
      go_wp2
      exact rl_end (v := .slice A6 k c6) (ok := false) (((H2.out.2.set_ 0 (.slice none 0 0)).set_ 1 (.slice none 0 0)).alloc _) (by simp) (by simp) (by simp) (RetRL.no (ball ((H2.out.1.setCell (by simp) _).setCell (by simp) _) _) (by rw [HR.out]; exact HRe.out))
    have hCq : C ≤ 504 := by omega
    have hxx : N = 0 ∨ 504 ≤ C := by omega
    have HQ := Lib.hid (And.intro hq (And.intro hout (And.intro hbk (And.intro hsh (And.intro hxx (And.intro hk4 (And.intro hC hN)))))))
    have HA : Hid (∀ o, Blk (w2.alloc o) w.heap.size 47 #[.slice (some ad) n c, .slice A2 n c2]) := Lib.hid fun o => HW2.out.2.alloc o
    have hcW : Hid (∀ W, Below w.heap.size w W → W.cell? (ad.add p) = some (.string (str q))) := Lib.hid fun W hW => (hW.cell (by rw [block_of_add]; exact hadb)).trans ((HB.out.1.cell (by rw [block_of_add]; exact hadb)).symm.trans HB.out.2.2.2.2.2.2.2.1)
    subst hk4
    have hql2 : q.length = 512 := HB.out.2.2.2.2.2.2.1
    have own3 := (own_kept_below HB.out.2.2.2.1 HW2.out.1).alloc (.cells #[.int .u8 4, .int .u16 (C : Int), .int .u32 (N : Int)] 55)
    have hH3 := Blk.new w2 55 #[.int .u8 4, .int .u16 (C : Int), .int .u32 (N : Int)]
    have hb3 := ball H2.out.1 (.cells #[.int .u8 4, .int .u16 (C : Int), .int .u32 (N : Int)] 55)
    have hB3 := H2.out.2.alloc (.cells #[.int .u8 4, .int .u16 (C : Int), .int .u32 (N : Int)] 55)
    have hX3 := HW2.out.2.alloc (.cells #[.int .u8 4, .int .u16 (C : Int), .int .u32 (N : Int)] 55)
    obtain ⟨W3, hW3⟩ : ∃ W3, w2.alloc (.cells #[.int .u8 4, .int .u16 (C : Int), .int .u32 (N : Int)] 55) = W3 := ⟨_, rfl⟩
    rw [hW3] at own3 hH3 hb3 hB3 hX3
    have H3 := Lib.hid (And.intro own3 (And.intro hH3 (And.intro hb3 (And.intro hB3 hX3))))
    have c3 := hcW.out _ hb3
    have d0 : W3.cell? ⟨w.heap.size, 0, none⟩ = some (.slice (some ad) n c) := hX3.cell 0
    have d1 : W3.cell? ⟨w.heap.size, 1, none⟩ = some (.slice A2 n c2) := hX3.cell 1
    have h30 : W3.cell? ⟨w2.heap.size, 0, none⟩ = some (.int .u8 4) := hH3.cell 0
    have h31 : W3.cell? ⟨w2.heap.size, 1, none⟩ = some (.int .u16 (C : Int)) := hH3.cell 1
    have h32 : W3.cell? ⟨w2.heap.size, 2, none⟩ = some (.int .u32 (N : Int)) := hH3.cell 2
    have b30 : W3.cell? ⟨w.heap.size + 1, 0, none⟩ = some (.slice none 0 0) := hB3.cell 0
    have b31 : W3.cell? ⟨w.heap.size + 1, 1, none⟩ = some (.slice none 0 0) := hB3.cell 1
    have f30 := hB3.frozen 0
    have f31 := hB3.frozen 1
    have hs3 : w.heap.size + 1 < W3.heap.size := hB3.lt
    have hs2 : w.heap.size < W3.heap.size := hX3.lt
    have hs4 : w2.heap.size < W3.heap.size := hH3.lt
    have hqs : (str q).size = 512 := by rw [str_size, hql2]
    have c0 : (0 : Int) ≤ (C : Int) := by omega
    have HN4 : Hid (N ≤ 4294967295) := Lib.hid (by have := hdN_lt4 q; rw [hN] at this; omega)
    clear HA hv hok hq hout hbk hsh hKK hC hN h5 h6 e4 own3 hH3 hb3 hB3 hX3 hzo k0 hz2 hzb z0 z1 e0 e1 f0 f1 y0 y1 x0 x1 b0 b1
    by_cases h7 : N = 0
    · have e7 : ((N : Int) != 0) = false := by simp; omega
      have e8 : ((N : Int) == 0) = true := by simp; omega
      have h70 : Hid (N = 0) := Lib.hid h7
      clear h7
      go_wp2_with fail
      clear hW3
      go_loopw [11] (fun u11 wr => ∃ i : Nat, u11 = .int .i64 i ∧ 8 + C ≤ i ∧ i ≤ 512 ∧ W3 = wr ∧ allNil ((q.drop (8 + C)).take (i - (8 + C))) = true) (fun u11 _ => 512 - (intOf u11).toNat)
      case atStart => exact ⟨8 + C, by go_num, Nat.le_refl _, by omega, by first | trivial | rfl, by simp [allNil]⟩
      case round =>
        obtain ⟨i, rfl, hi1, hi2, rfl, hz⟩ := hrel
        have i0 : (0 : Int) ≤ (i : Int) := by omega
        have HZ := Lib.hid hz
        clear hz
        by_cases hlt : i < 512
        · have i1 : (i : Int) < 512 := by omega
          obtain ⟨x, hx⟩ : ∃ x, q[i]? = some x := ⟨_, List.getElem?_eq_getElem (by rw [hql2]; exact hlt)⟩
          have ix : ∀ W, (Instr.index 9 (.string (str q)) (.int .i64 (i : Int))).run Try.prog W = .ok (.int .u8 (x.toNat : Int)) W := by
            intro W
            have hz : i < (str q).size := by rw [hqs]; omega
            have h := run_index_string (P := Try.prog) (w := W) 9 (str q) .i64 (i : Int) Try.underlying9
            rw [dif_pos ⟨by omega, by omega⟩] at h
            rw [h]
            have := str_at q i hz
            rw [hx] at this
            injection this with this
            rw [this]
            rfl
          have hxd : (q.drop (8 + C))[i - (8 + C)]? = some x := by rw [List.getElem?_drop, show 8 + C + (i - (8 + C)) = i from by omega]; exact hx
          have HX := Lib.hid hxd
          have Hql := Lib.hid hql2
          clear hx hxd hql2 hqs
          by_cases hx0 : x = 0
          · have e9 : ((x.toNat : Int) != 0) = false := by subst hx0; rfl
            have Hx0 := Lib.hid hx0
            clear hx0
            go_wp2_with fail
            exact ⟨⟨i + 1, by go_num, by omega, by omega, by first | trivial | rfl, by rw [show i + 1 - (8 + C) = i - (8 + C) + 1 from by omega, allNil_take HX.out, HZ.out, Hx0.out]; rfl⟩, by simp [intOf]; omega⟩
          · have e9 : ((x.toNat : Int) != 0) = true := by
              have : ¬ x.toNat = 0 := fun e => hx0 (UInt8.toNat_inj.1 e)
              simp; omega
            have hRe : R = none := by rw [← HQ.out.2.1, chR_no HQ.out.1 (by rw [HQ.out.2.2.2.1, allNil_no HX.out hx0]; simp)]
            have HRe := Lib.hid hRe
            clear hx0 hRe
            go_wp2_with fail
            exact rl_end (v := .slice A6 k c6) (ok := false) ((H3.out.2.2.2.1.set_ 0 (.slice none 0 0)).set_ 1 (.slice none 0 0)) (by simp) (by simp) (by simp) (RetRL.no ((H3.out.2.2.1.setCell (by simp) _).setCell (by simp) _) (by rw [HR.out]; exact HRe.out))
        · obtain rfl : 512 = i := by omega
          have hall : allNil (q.drop (8 + C)) = true := by
            have h := HZ.out
            rwa [List.take_of_length_le (by rw [List.length_drop, hql2]; omega)] at h
          have hsk : (bkHd q && shOk q) = true := by
            rw [HQ.out.2.2.1, HQ.out.2.2.2.1, hall]
            rcases HQ.out.2.2.2.2.1 with h | h
            · simp [h, hCq]
            · simp [h, hCq]
          have hcut : ∀ W, (Instr.slice 9 (.string (str q)) (some (.int .i64 8)) (some (.int .i64 (8 + (C : Int)))) none).run Try.prog W = .ok (.string (str (shB q))) W := cut_mid (P := Try.prog) Try.underlying9 q (shB q) .i64 .i64 8 (8 + (C : Int)) (by omega) (by omega) (by rw [hql2]; omega) (by unfold shB; rw [HQ.out.2.2.2.2.2.2.1, show (8 : Int).toNat = 8 from rfl, show (8 + (C : Int)).toNat - 8 = C from by omega])
          have hBl : (shB q).length ≤ 504 := by unfold shB; rw [List.length_take, HQ.out.2.2.2.2.2.2.1]; omega
          have hsl := HB.out.2.2.2.2.2.2.2.2
          have HSK := Lib.hid (And.intro hsk (And.intro hBl hsl))
          obtain ⟨r, hr⟩ : ∃ r, shB q = r := ⟨_, rfl⟩
          rw [hr] at hcut hBl
          have hz9 : ¬ (9223372036854775807 < (str s).size + (str r).size) := by rw [str_size, str_size]; omega
          have Hr := Lib.hid hr
          clear hr hall hsk hBl hsl hql2 hqs hlt hi1 hi2 i0 HZ
          go_wp2_with fail
          go_quiet (fail)
          rw [str_append]
          have own4 : (W3.drewN nq).ownsRow (w.heap.size + 1 + 1) 53 1 (.slice A6 k c6) k (pnV P) := H3.out.1
          have X4 : Hid (Blk (W3.drewN nq) w2.heap.size 55 #[.int .u8 4, .int .u16 (C : Int), .int .u32 (N : Int)] ∧ Below w.heap.size w (W3.drewN nq) ∧ Blk (W3.drewN nq) (w.heap.size + 1) 25 #[.slice none 0 0, .slice none 0 0] ∧ Blk (W3.drewN nq) w.heap.size 47 #[.slice (some ad) n c, .slice A2 n c2]) := Lib.hid ⟨H3.out.2.1, bdr H3.out.2.2.1 _, H3.out.2.2.2.1, H3.out.2.2.2.2⟩
          have hs5 : w.heap.size + 1 + 1 ≤ (W3.drewN nq).heap.size := hs3
          obtain ⟨W4, hW4⟩ : ∃ W4, W3.drewN nq = W4 := ⟨_, rfl⟩
          rw [hW4] at own4 X4 hs5 ⊢
          have HO4 := Lib.hid own4
          clear own4 hW4 c3 d0 d1 h30 h31 h32 b30 b31 f30 f31 hs2 hs4 hcut hz9
          go_wp2_with (at_builtin; refine wpList_pushR (news := [.int .u32 (p : Int)]) rfl (.tmp 93) (.tmp 95) 41 rfl (w.heap.size + 1 + 1) 53 i0 _ 1 4 Try.underlying41 hi0 hz0 hs0 hy0 rfl (by decide) (.slice A6 k c6) k _ (by first | rfl | (simp [Act.eval, Act.put]; done)) HO4.out rfl _ (by first | rfl | (simp [Act.eval, Act.put]; done)) (by first | rfl | simp) rfl (by intro u hu; rw [List.mem_singleton] at hu; subst hu; rfl) (by omega) (by omega) (by omega) ?_; intro v9 w9 own9 kp9 ob9; obtain ⟨A9, c9, rfl, hc9⟩ := own_form own9; have X9 := blk_grown HO4.out X4.out.1 (by decide) kp9; have B9 := blk_grown HO4.out X4.out.2.2.1 (by decide) kp9; have D9 := blk_grown HO4.out X4.out.2.2.2 (by decide) kp9; have b9 := below_grown HO4.out (by omega : w.heap.size ≤ w.heap.size + 1 + 1) hs5 kp9 X4.out.2.1; have hz9 := X9.lt; have r2 : w9.cell? ⟨w2.heap.size, 2, none⟩ = some (.int .u32 (N : Int)) := X9.cell 2; have f2 := X9.frozen 2; have hs9 : w.heap.size + 1 < w9.heap.size := B9.lt; rw [← pnV_snoc] at own9; have H9 := Lib.hid (And.intro own9 (And.intro b9 (And.intro B9 D9))); clear own9 kp9 ob9 X9 B9 D9 b9)
          have hR9 : R = some (s ++ r) := by rw [← HQ.out.2.1, chR_end HQ.out.1 HSK.out.1 (by rw [HQ.out.2.2.2.2.2.2.2]; exact h70.out), Hr.out]
          have HR9 := Lib.hid hR9
          have hlen9 : (s ++ r).length ≤ maxLen := by
            have h1 := HSK.out.2.1
            rw [Hr.out] at h1
            have h2 := HSK.out.2.2
            rw [List.length_append]
            unfold maxLen
            omega
          have GB := Lib.hid (rgetB_any (s ++ r) w9 hlen9)
          clear hR9 hlen9 h70
          go_wp2_with fail
          refine GB.out.mono ?_
          rintro e w10 ⟨B1, n1, d1, l, B2, n2, d2, rr, ok, rfl, hk2, hb2, hor⟩
          have b12 := bto0 H9.out.2.1 hb2
          have X2 := (H9.out.2.2.1.below hb2 H9.out.2.2.1.lt).alloc (.cells #[.slice B1 n1 d1, .slice B2 n2 d2] 25)
          have Y2 := Blk.new w10 25 #[.slice B1 n1 d1, .slice B2 n2 d2]
          have hk3 := hk2.below (ball (Below.refl w10.heap.size w10) (.cells #[.slice B1 n1 d1, .slice B2 n2 d2] 25))
          have b13 := ball b12 (.cells #[.slice B1 n1 d1, .slice B2 n2 d2] 25)
          have hz2 := hb2.size
          obtain ⟨W11, hW11⟩ : ∃ W11, w10.alloc (.cells #[.slice B1 n1 d1, .slice B2 n2 d2] 25) = W11 := ⟨_, rfl⟩
          rw [hW11] at hk3 X2 Y2 b13
          have H2x := Lib.hid (And.intro hk3 (And.intro b13 X2))
          have HG := Lib.hid hor
          have z0 : W11.cell? ⟨w.heap.size + 1, 0, none⟩ = some (.slice none 0 0) := X2.cell 0
          have z1 : W11.cell? ⟨w.heap.size + 1, 1, none⟩ = some (.slice none 0 0) := X2.cell 1
          have g0 := X2.frozen 0
          have g1 := X2.frozen 1
          have y0 : W11.cell? ⟨w10.heap.size, 0, none⟩ = some (.slice B1 n1 d1) := Y2.cell 0
          have y1 : W11.cell? ⟨w10.heap.size, 1, none⟩ = some (.slice B2 n2 d2) := Y2.cell 1
          clear hor hk2 hb2 hk3 b12 b13 X2 Y2 GB
          go_wp2
          refine rl_end (v := .slice A9 (k + 1) c9) (ok := ok) ((H2x.out.2.2.set_ 0 (.slice B1 n1 d1)).set_ 1 (.slice B2 n2 d2)) (by simp) (by simp) (by simp) ?_
          have bk1 := H2x.out.1.beside H2x.out.2.2 (by intro v hv; simp at hv; rcases hv with rfl | rfl <;> exact ⟨_, _, _, rfl⟩) 0 (.slice B1 n1 d1)
          have bk2 := bk1.beside (H2x.out.2.2.set_ 0 (.slice B1 n1 d1)) (by intro v hv; simp at hv; rcases hv with rfl | rfl <;> exact ⟨_, _, _, rfl⟩) 1 (.slice B2 n2 d2)
          refine ⟨B1, n1, d1, l, B2, n2, d2, rr, _, ok, rfl, bk2, (H2x.out.2.1.setCell (by simp) _).setCell (by simp) _, ?_⟩
          rcases HG.out with ⟨rfl, hg, hm⟩ | ⟨rfl, rfl, rfl, hno⟩
          · exact .inl ⟨rfl, s ++ r, by rw [HR.out]; exact HR9.out, hg, hm⟩
          · refine .inr ⟨rfl, rfl, rfl, fun bs hbs => ?_⟩
            rw [HR.out, HR9.out] at hbs
            obtain rfl := Option.some.inj hbs
            exact hno
    · have e7 : ((N : Int) != 0) = true := by simp; omega
      have e8 : ((N : Int) == 0) = false := by simp; omega
      have h8 : 504 ≤ C := by omega
      have e6 : (504 : Int) ≤ (C : Int) := by omega
      have h70 : Hid (N ≠ 0) := Lib.hid h7
      clear h7 h8
      go_wp2_with fail
      clear hW3
      go_loopw [11] (fun u11 wr => ∃ i : Nat, u11 = .int .i64 i ∧ 8 + C ≤ i ∧ i ≤ 512 ∧ W3 = wr ∧ allNil ((q.drop (8 + C)).take (i - (8 + C))) = true) (fun u11 _ => 512 - (intOf u11).toNat)
      case atStart => exact ⟨8 + C, by go_num, Nat.le_refl _, by omega, by first | trivial | rfl, by simp [allNil]⟩
      case round =>
        obtain ⟨i, rfl, hi1, hi2, rfl, hz⟩ := hrel
        have i0 : (0 : Int) ≤ (i : Int) := by omega
        have HZ := Lib.hid hz
        clear hz
        by_cases hlt : i < 512
        · exfalso
          omega
        · obtain rfl : 512 = i := by omega
          have hall : allNil (q.drop (8 + C)) = true := by
            have h := HZ.out
            rwa [List.take_of_length_le (by rw [List.length_drop, hql2]; omega)] at h
          have hsk : (bkHd q && shOk q) = true := by
            rw [HQ.out.2.2.1, HQ.out.2.2.2.1, hall]
            rcases HQ.out.2.2.2.2.1 with h | h
            · simp [h, hCq]
            · simp [h, hCq]
          have hcut : ∀ W, (Instr.slice 9 (.string (str q)) (some (.int .i64 8)) (some (.int .i64 (8 + (C : Int)))) none).run Try.prog W = .ok (.string (str (shB q))) W := cut_mid (P := Try.prog) Try.underlying9 q (shB q) .i64 .i64 8 (8 + (C : Int)) (by omega) (by omega) (by rw [hql2]; omega) (by unfold shB; rw [HQ.out.2.2.2.2.2.2.1, show (8 : Int).toNat = 8 from rfl, show (8 + (C : Int)).toNat - 8 = C from by omega])
          have hBl : (shB q).length ≤ 504 := by unfold shB; rw [List.length_take, HQ.out.2.2.2.2.2.2.1]; omega
          have hsl := HB.out.2.2.2.2.2.2.2.2
          have HSK := Lib.hid (And.intro hsk (And.intro hBl hsl))
          obtain ⟨r, hr⟩ : ∃ r, shB q = r := ⟨_, rfl⟩
          rw [hr] at hcut hBl
          have hz9 : ¬ (9223372036854775807 < (str s).size + (str r).size) := by rw [str_size, str_size]; omega
          have Hr := Lib.hid hr
          clear hr hall hsk hBl hsl hql2 hqs hlt hi1 hi2 i0 HZ
          go_wp2_with fail
          go_quiet (fail)
          rw [str_append]
          have own4 : (W3.drewN nq).ownsRow (w.heap.size + 1 + 1) 53 1 (.slice A6 k c6) k (pnV P) := H3.out.1
          have X4 : Hid (Blk (W3.drewN nq) w2.heap.size 55 #[.int .u8 4, .int .u16 (C : Int), .int .u32 (N : Int)] ∧ Below w.heap.size w (W3.drewN nq) ∧ Blk (W3.drewN nq) (w.heap.size + 1) 25 #[.slice none 0 0, .slice none 0 0] ∧ Blk (W3.drewN nq) w.heap.size 47 #[.slice (some ad) n c, .slice A2 n c2]) := Lib.hid ⟨H3.out.2.1, bdr H3.out.2.2.1 _, H3.out.2.2.2.1, H3.out.2.2.2.2⟩
          have hs5 : w.heap.size + 1 + 1 ≤ (W3.drewN nq).heap.size := hs3
          obtain ⟨W4, hW4⟩ : ∃ W4, W3.drewN nq = W4 := ⟨_, rfl⟩
          rw [hW4] at own4 X4 hs5 ⊢
          have HO4 := Lib.hid own4
          clear own4 hW4 c3 d0 d1 h30 h31 h32 b30 b31 f30 f31 hs2 hs4 hcut hz9
          go_wp2_with (at_builtin; refine wpList_pushR (news := [.int .u32 (p : Int)]) rfl (.tmp 93) (.tmp 95) 41 rfl (w.heap.size + 1 + 1) 53 i0 _ 1 4 Try.underlying41 hi0 hz0 hs0 hy0 rfl (by decide) (.slice A6 k c6) k _ (by first | rfl | (simp [Act.eval, Act.put]; done)) HO4.out rfl _ (by first | rfl | (simp [Act.eval, Act.put]; done)) (by first | rfl | simp) rfl (by intro u hu; rw [List.mem_singleton] at hu; subst hu; rfl) (by omega) (by omega) (by omega) ?_; intro v9 w9 own9 kp9 ob9; obtain ⟨A9, c9, rfl, hc9⟩ := own_form own9; have X9 := blk_grown HO4.out X4.out.1 (by decide) kp9; have B9 := blk_grown HO4.out X4.out.2.2.1 (by decide) kp9; have D9 := blk_grown HO4.out X4.out.2.2.2 (by decide) kp9; have b9 := below_grown HO4.out (by omega : w.heap.size ≤ w.heap.size + 1 + 1) hs5 kp9 X4.out.2.1; have hz9 := X9.lt; have r2 : w9.cell? ⟨w2.heap.size, 2, none⟩ = some (.int .u32 (N : Int)) := X9.cell 2; have f2 := X9.frozen 2; have hs9 : w.heap.size + 1 < w9.heap.size := B9.lt; rw [← pnV_snoc] at own9; have H9 := Lib.hid (And.intro own9 (And.intro b9 (And.intro B9 D9))); clear own9 kp9 ob9 X9 B9 D9 b9)
          have hR9 : chR ps f N (s ++ r) = R := by rw [← HQ.out.2.1, chR_next HQ.out.1 HSK.out.1 (by rw [HQ.out.2.2.2.2.2.2.2]; exact h70.out), HQ.out.2.2.2.2.2.2.2, Hr.out]
          have HR9 := Lib.hid hR9
          have hlen9 : (s ++ r).length ≤ (k + 1) * 504 := by
            have h1 := HSK.out.2.1
            rw [Hr.out] at h1
            have h2 := HSK.out.2.2
            rw [List.length_append]
            omega
          have HL9 := Lib.hid hlen9
          have hN4 := HN4.out
          clear hR9 hlen9 h70
          go_wp2
          exact ⟨⟨f, N, k + 1, s ++ r, A9, c9, P ++ [p], rfl, rfl, rfl, by go_num, by omega, by omega, HL9.out, H9.out.2.1, H9.out.2.2.2, H9.out.2.2.1, H9.out.1, HR9.out⟩, by simp [intOf]; omega⟩
end
end Go.Proofs.Ytjlpfhioacphkaa
