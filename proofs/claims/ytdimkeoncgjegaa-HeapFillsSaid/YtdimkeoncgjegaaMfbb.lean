/-
  Several texts in one: Hg.
-/
import Derived.Test.YtdimkeoncgjegaaMfat
import Derived.Test.YtdimkeoncgjegaaMfao
import Derived.Test.YtdimkeoncgjegaaMfak
import Derived.BigQuiet
/-
  Heap: the law HeapRaw.
-/
namespace Go.Proofs.Ytdimkeoncgjegaa
section
set_option linter.unusedSimpArgs false
set_option linter.unusedVariables false
open Go.RowKit Go.Maps

theorem Reads.rit {w : World} {B : Nat} {A : Option Addr} {n k : Nat} {l : List It} (hr : Reads w B 3 A n (iV l)) (hk : k < n) :
    ∃ ad v, A = some ad ∧ ad.block < B ∧ l[k]? = some v ∧ w.cell? (ad.add (k * 3)) = some (.int .u32 v.p) ∧ w.cell? ⟨(ad.add (k * 3)).block, (ad.add (k * 3)).off + 1, none⟩ = some (.int .u16 v.s) ∧ w.cell? ⟨(ad.add (k * 3)).block, (ad.add (k * 3)).off + 2, none⟩ = some (.string (str v.r)) := by
  have hl : l.length = n := by have := hr.1; rw [iV_len] at this; omega
  obtain ⟨ad, hA, hb, hc⟩ := hr.2 (by omega)
  have hv : l[k]? = some (l[k]'(by omega)) := List.getElem?_eq_getElem (by omega)
  have at_ : ∀ j, j < 3 → (iV l)[k * 3 + j]? = ([Value.int .u32 (l[k]'(by omega)).p, .int .u16 (l[k]'(by omega)).s, .string (str (l[k]'(by omega)).r)] : List Value)[j]? := fun j hj => flat_at _ 3 l k _ j (by simp) hv hj
  refine ⟨ad, l[k]'(by omega), hA, hb, hv, ?_, ?_, ?_⟩
  · have := hc (k * 3 + 0) _ (by rw [at_ 0 (by omega)]; rfl)
    simpa using this
  · rw [field_add _ _ _ (by omega)]
    exact hc (k * 3 + 1) _ (by rw [at_ 1 (by omega)]; rfl)
  · rw [field_add _ _ _ (by omega)]
    exact hc (k * 3 + 2) _ (by rw [at_ 2 (by omega)]; rfl)
theorem Reads.pit {w : World} {B : Nat} {A : Option Addr} {n k : Nat} {l : List PIt} (hr : Reads w B 3 A n (pV l)) (hk : k < n) :
    ∃ ad v, A = some ad ∧ ad.block < B ∧ l[k]? = some v ∧ w.cell? (ad.add (k * 3)) = some (.int .u32 v.it.p) ∧ w.cell? ⟨(ad.add (k * 3)).block, (ad.add (k * 3)).off + 1, none⟩ = some (.int .u16 v.it.s) ∧ w.cell? ⟨(ad.add (k * 3)).block, (ad.add (k * 3)).off + 2, none⟩ = some (.slice (some ⟨v.a, 0, none⟩) v.it.r.length v.c) := by
  have hl : l.length = n := by have := hr.1; rw [pV_len] at this; omega
  obtain ⟨ad, hA, hb, hc⟩ := hr.2 (by omega)
  have hv : l[k]? = some (l[k]'(by omega)) := List.getElem?_eq_getElem (by omega)
  have at_ : ∀ j, j < 3 → (pV l)[k * 3 + j]? = ([Value.int .u32 (l[k]'(by omega)).it.p, .int .u16 (l[k]'(by omega)).it.s, .slice (some ⟨(l[k]'(by omega)).a, 0, none⟩) (l[k]'(by omega)).it.r.length (l[k]'(by omega)).c] : List Value)[j]? := fun j hj => flat_at _ 3 l k _ j (by simp) hv hj
  refine ⟨ad, l[k]'(by omega), hA, hb, hv, ?_, ?_, ?_⟩
  · have := hc (k * 3 + 0) _ (by rw [at_ 0 (by omega)]; rfl)
    simpa using this
  · rw [field_add _ _ _ (by omega)]
    exact hc (k * 3 + 1) _ (by rw [at_ 1 (by omega)]; rfl)
  · rw [field_add _ _ _ (by omega)]
    exact hc (k * 3 + 2) _ (by rw [at_ 2 (by omega)]; rfl)
set_option maxRecDepth 100000 in
set_option maxHeartbeats 16000000 in
theorem lawRaw_in (A : Option Addr) (m c : Nat) (L : List UInt8) (Al : Option Addr) (ml cl : Nat) (ls : List Int) (p0 ap as_ : Nat) (w : World) (hr : Reads w w.heap.size 1 A m (bL L)) (hmc : m ≤ c) (hm1 : 512 ≤ m) (hm2 : m ≤ 5120)
    (hrl : Reads w w.heap.size 1 Al ml (ls.map (Value.int .u32))) (hlw : ∀ x ∈ ls, 0 ≤ x ∧ x ≤ 4294967295) (hml : ml ≤ 10) (hp0 : p0 ≤ 4294967295) (hap : ap ≤ 4294967295) (has : as_ ≤ 65535) :
    Calls Try.prog 5 #[.slice A m c, .slice Al ml cl, .int .u32 p0, .agg #[.int .u32 ap, .int .u16 as_]] w (RetB w (.bool true)) := by
  have F := Lib.hid hfixed_any
  have e1 : decide ((5120 : Int) < (m : Int)) = false := by simp; omega
  have e2 : decide ((m : Int) < 512) = false := by simp; omega
  have e3 : decide ((10 : Int) < (ml : Int)) = false := by simp; omega
  obtain ⟨n, hn⟩ : ∃ n, m / 512 = n := ⟨_, rfl⟩
  have hn1 : 1 ≤ n := by omega
  have hn2 : n ≤ 10 := by omega
  have hnm : n * 512 ≤ m := by omega
  have hq : (m : Int) / 512 = (n : Int) := by omega
  have hl := hr.bytes_len
  obtain ⟨A', hA', hA2⟩ := cutb_hi .i64 (n * 512) ((n : Int) * 512) (by omega) hnm hmc (A := A) (n := m) (c := c)
  have hb0 := ball (ball (Below.refl w.heap.size w) (.cells #[.int .u32 ap, .int .u16 as_] 50)) (.cells #[] 5)
  have hrc := hA2 _ _ L (hr.below hb0)
  have hOw : Own ((w.alloc (.cells #[.int .u32 ap, .int .u16 as_] 50)).alloc (.cells #[] 5)) w.heap.size (.slice (some ⟨w.heap.size + 1, 0, none⟩) 0 0) [] := (Own.empty (w.alloc (.cells #[.int .u32 ap, .int .u16 as_] 50)) (g := w.heap.size + 1) (by simp)).less (by simp)
  have HR := Lib.hid (And.intro hr (And.intro hl hrl))
  have HO := Lib.hid (And.intro hOw (And.intro hrc hb0))
  have hR0 := (Blk.new w 50 #[.int .u32 ap, .int .u16 as_]).alloc (.cells #[] 5)
  have HRid := Lib.hid hR0
  clear hr hl hrl hOw hrc hb0 hA2 hR0
  obtain ⟨Z, hZ⟩ : ∃ Z, List.replicate 512 (0 : UInt8) = Z := ⟨_, rfl⟩
  have hZl : Z.length = 512 := by rw [← hZ, List.length_replicate]
  have mk0 : ∀ W, (Instr.makeSlice 59 (.int .i64 512) (.int .i64 512)).run Try.prog W = .ok (.slice (some ⟨W.heap.size, 0, none⟩) 512 512) (W.alloc (.cells (bV Z) 5)) := by
    obtain ⟨i0, hi0, hz0, hs0, hy0⟩ := int_info8 Try.infoU8
    intro W
    have h := run_make (P := Try.prog) W 59 5 i0 (.int .u8 0) Try.underlying59 hi0 hz0 .i64 .i64 512 512 (by omega) (by omega) (by rw [hy0]; omega) (by omega)
    rw [hs0] at h
    have e0 : madeCells #[.int .u8 0] 512 = bV Z := by
      rw [← hZ, ← fillA_rep 0 512]
      rw [fillA_zero (0 : Int) 512]
      apply Array.ext
      · simp [fillA]
      · intro j h1 h2
        simp [fillA]
    rw [← e0]
    exact h
  have HI : Hid ((Try.prog.info? 5).map (·.size) = some 1) := by
    obtain ⟨i0, hi0, _, hs0, _⟩ := int_info8 Try.infoB
    unfold Hid
    rw [hi0, Option.map_some, hs0]
  have HZ := Lib.hid hZl
  clear hZ hZl
  go_enter Try.func5, Try.ntmps5
  go_wp2_with (at_builtin; refine wpList_appR rfl (.tmp 43) (.tmp 49) rfl w.heap.size _ [] (L.take (n * 512)) A' (n * 512) c w.heap.size (by first | rfl | (simp [Act.eval, Act.put]; done)) HO.out.1 (by first | rfl | (simp [Act.eval, Act.put]; done)) HO.out.2.1 (by simp; omega) (by simp; omega) ?_; intro v9 w9 own9 kp9)
  rw [List.nil_append] at own9
  have hL0 : (L.take (n * 512)).length = n * 512 := by rw [List.length_take, HR.out.2.1]; omega
  obtain ⟨L0, hL0e⟩ : ∃ L0, L.take (n * 512) = L0 := ⟨_, rfl⟩
  rw [hL0e] at own9 hL0
  obtain ⟨A9, c9, rfl, hc9⟩ := own_form own9
  have hb9 := kp9.below _ _ (Nat.le_refl _) HO.out.2.2
  have hRid9 := kp9.blk _ _ _ (by decide) HRid.out
  have hlo0 := hL0
  rw [hL0] at own9 hc9 ⊢
  obtain ⟨g, tl, rfl, hgw, hblk, htl, hcm⟩ := own9.open_ (by omega)
  have hg9 := hblk.lt
  have hzR := hRid9.lt
  have hgR : w.heap.size < g := by have := hblk.ne_ hRid9 (by decide); omega
  have H9 := Lib.hid (And.intro hb9 (And.intro hRid9 hblk))
  have HT := Lib.hid (And.intro htl hcm)
  clear own9 kp9 hb9 hRid9 hblk htl hcm hL0e
  go_loopw [53] (fun u53 wr => ∃ (k : Nat) (L1 : List UInt8), u53 = .int .i64 k ∧ k ≤ ml ∧ L1.length = n * 512 ∧ Blk wr g 5 (bT L1 tl) ∧ Below g w9 wr) (fun u53 _ => ml - (intOf u53).toNat)
  case atStart => exact ⟨0, L0, rfl, by omega, hL0, H9.out.2.2, Below.refl _ _⟩
  case round =>
    obtain ⟨wo, rfl⟩ : ∃ wo : World, wo = wr := ⟨_, rfl⟩
    obtain ⟨k, L1, rfl, hk, hL1, hblk, hb⟩ := hrel
    have k0 : (0 : Int) ≤ (k : Int) := by omega
    by_cases hlt : k < ml
    · have k1 : (k : Int) < (ml : Int) := by omega
      obtain ⟨ad, u, rfl, had, hu, hcell⟩ := ((HR.out.2.2.below H9.out.1).below (hb.mono hgw)).at_ hlt
      rw [List.getElem?_map] at hu
      obtain ⟨x, hx, rfl⟩ := Option.map_eq_some_iff.1 hu
      have hxw := hlw x (List.mem_of_getElem? hx)
      have x0 := hxw.1
      have x1 := hxw.2
      have hzo := hblk.lt
      have HB := Lib.hid (And.intro hblk hb)
      obtain ⟨q, hq5⟩ : ∃ q : Nat, 512 * k = q := ⟨_, rfl⟩
      have hqI : 512 * (k : Int) = (q : Int) := by omega
      have HQ := Lib.hid hq5
      clear hblk hb hu hx hxw hq5
      go_wp2
      · have hkn : q + 512 ≤ n * 512 := by omega
        have CR := cut_row g (n * 512) c9 q .i64 (q : Int) rfl (by omega) (by omega)
        have hqW : IntKind.i64.wrap (q : Int) = (q : Int) := by rw [IntKind.wrap_i64]; omega
        have hq0 : (0 : Int) ≤ (q : Int) := by omega
        have hq1 : (q : Int) ≤ (n : Int) * 512 := by omega
        have hq9 : ¬ c9 = q := by omega
        have hBa := HB.out.1.alloc (.cells (bV Z) 5)
        have hZb := Blk.new wo 5 (bV Z)
        have HC := Lib.hid (And.intro hBa (And.intro hZb (HB.out.2.alloc (by omega) (.cells (bV Z) 5))))
        have HSRC : Hid (0 < 512 → ∃ ad, some (⟨wo.heap.size, 0, none⟩ : Addr) = some ad ∧ ∀ j v, (bL Z)[j]? = some v → (wo.alloc (.cells (bV Z) 5)).cell? (ad.add j) = some v) := by
          intro _
          refine ⟨_, rfl, fun j v hj => ?_⟩
          rw [add_head, hZb.cell j]
          simpa [bV] using hj
        clear hBa hZb
        go_region_law (refine step_copy_splice rfl _ _ 59 59 rfl 5 Try.underlying59 HI.out (some ⟨g, q, none⟩) (some ⟨wo.heap.size, 0, none⟩) (n * 512 - q) (c9 - q) 512 512 rfl rfl g q (bL L1 ++ tl) 5 HC.out.1 (bL Z) (by rw [bL_len, HZ.out]; show 512 = min 512 (n * 512 - q); omega) (fun hq => ⟨rfl, HSRC.out (by omega)⟩) (by rw [bL_len, HZ.out, List.length_append, bL_len, hL1]; omega) (bL_one Z) g w9 HC.out.2.2.drew (Nat.le_refl _) ?_; intro w2 hg2 hb2)
        all_goals
          have hls : (splice L1 q Z).length = n * 512 := by rw [length_splice L1 q Z (by rw [HZ.out]; omega)]; exact hL1
          have hB3 : Blk w2 g 5 (bT (splice L1 q Z) tl) := by
            have h := hg2.out
            rw [splice_bT L1 Z tl q (by rw [HZ.out]; omega)] at h
            exact h
          obtain ⟨L2, hL2⟩ : ∃ L2, splice L1 q Z = L2 := ⟨_, rfl⟩
          rw [hL2] at hls hB3
          obtain ⟨b0, h0⟩ := bT_at L2 tl q (by omega)
          obtain ⟨b7, h7⟩ := bT_at L2 tl (q + 7) (by omega)
          have y0 : w2.cell? ⟨g, q, none⟩ = some (.int .u8 (b0.toNat : Int)) := (hB3.cell q).trans h0
          have y7 : w2.cell? ⟨g, q + 7, none⟩ = some (.int .u8 (b7.toNat : Int)) := (hB3.cell (q + 7)).trans h7
          have f0 := hB3.frozen q
          have f7 := hB3.frozen (q + 7)
          have H3 := Lib.hid (And.intro hB3 hb2)
          clear hg2 hB3 hb2 h0 h7 hL2
          go_wp2
          have hx8 : x % 256 = ((UInt8.ofNat x.toNat).toNat : Int) := by rw [u8_nat]; omega
          have e7 := (H3.out.1.set_ q (.int .u8 ((1 : UInt8).toNat : Int))).set_ (q + 7) (.int .u8 ((UInt8.ofNat x.toNat).toNat : Int))
          rw [bT_set _ _ _ _ (by omega), bT_set _ _ _ _ (by rw [List.length_set]; omega), ← hx8] at e7
          exact ⟨⟨k + 1, (L2.set q 1).set (q + 7) (UInt8.ofNat x.toNat), rfl, by omega, by rw [List.length_set, List.length_set]; exact hls, e7, (H3.out.2.setCell (Nat.le_refl _) _).setCell (Nat.le_refl _) _⟩, by simp [intOf]; omega⟩
      · exact ⟨⟨k + 1, L1, rfl, by omega, hL1, HB.out.1, HB.out.2⟩, by simp [intOf]; omega⟩
      · exact ⟨⟨k + 1, L1, rfl, by omega, hL1, HB.out.1, HB.out.2⟩, by simp [intOf]; omega⟩
    · obtain rfl : k = ml := by omega
      have hl10 : L1.length = L0.length := by omega
      have hOwn := Own.shut (base := g) (n := n * 512) hblk (by rw [List.length_append, bL_len, hl10]; have := HT.out.1; rw [List.length_append, bL_len] at this; exact this) HT.out.2 (Nat.le_refl _) hL1.symm
      have hbw := H9.out.1.trans (hb.mono hgw)
      have hRd := H9.out.2.1.below hb hgR
      have LD := Lib.hid (dload_ok _ n c9 _ L1 wo hOwn.reads.1 (Nat.le_refl _) hn1 (by omega))
      have RLD := Lib.hid fun W => rload_ok L1 n hn1 (by omega) hL1 W
      have HB := Lib.hid (And.intro hOwn (And.intro hbw hRd))
      clear hblk hb hOwn hbw hRd HR
      go_wp2_with fail
      refine LD.out.mono ?_
      rintro e w1 ⟨gd, gb, gt, rfl, dp1, hg1, hg2, hg3, hb1⟩
      have own1 := HB.out.1.below hb1
      have cv := own1.reads.1.cnv (c := c9)
      have H1 := Lib.hid (And.intro dp1 (And.intro own1 (And.intro (bto0 HB.out.2.1 hb1) (HB.out.2.2.below hb1 HB.out.2.2.lt))))
      clear dp1 own1 hb1
      go_wp2_with fail
      refine (RLD.out _).mono ?_
      rintro e w2 ⟨A2, c2, A3, c3, rfl, hr2, hr3, hc2, hc3, _, _, hb2⟩
      have hbD := ball hb2 (.cells #[.slice A2 n c2, .slice A3 n c3] 32)
      have lts := H1.out.1.lts
      have dp3 := H1.out.1.below hbD lts.1 lts.2.1 lts.2.2
      have hD3 := Blk.new w2 32 #[.slice A2 n c2, .slice A3 n c3]
      have PN := Lib.hid (pnew_any (size := 2) dp3 (by omega) (by omega))
      rw [show ((2 : Nat) : Int) = 2 from rfl] at PN
      have H2 := Lib.hid (And.intro dp3 (And.intro hD3 (And.intro (bto0 H1.out.2.2.1 hbD) (And.intro (H1.out.2.2.2.below hbD H1.out.2.2.2.lt) (And.intro ((hr2.alloc (Nat.le_refl _) (.cells #[.slice A2 n c2, .slice A3 n c3] 32)).more (by simp : w2.heap.size ≤ (w2.alloc (.cells #[.slice A2 n c2, .slice A3 n c3] 32)).heap.size)) hc2)))))
      clear hb2 hbD lts dp3 hD3 hr2 hr3 hc2 hc3 cv
      go_wp2_with fail
      refine PN.out.mono ?_
      rintro e w3 ⟨gp, gm, D, rfl, pa, hb3, hgp, hgm⟩
      obtain ⟨ps, hps⟩ : ∃ ps, pagesOf L1 n = ps := ⟨_, rfl⟩
      obtain ⟨T, hT⟩ : ∃ T, marksOf L1 n = T := ⟨_, rfl⟩
      rw [hps, hT] at pa
      have hful : Full ps := pa.dk.full
      have hpl : ps.length = n := pa.dk.hp
      obtain ⟨R, hRe⟩ : ∃ R, outH ps n p0 [] 0 = R := ⟨_, rfl⟩
      have HRe := Lib.hid hRe
      have SC := Lib.hid (scan_any (m := 0) pa (Nat.le_refl _) (Nat.le_refl _) hb3.size (by omega) (by omega) p0 hp0)
      have H3 := Lib.hid (And.intro hb3 (And.intro H2.out.2.1 (And.intro H2.out.2.2.2.1 (And.intro (by rw [← hps]; exact H2.out.2.2.2.2.1 : Reads _ _ 1 A2 n (sL ps)) (And.intro hful hpl)))))
      rw [hRe] at SC
      clear hb3 pa hps hT hful hpl PN hRe
      go_wp2_with fail
      refine SC.out.mono ?_
      rintro e w4 ⟨acc, A4, c4, K4, D4, rd4, ht4, rfl, hR4, hlen4, hrd4, lok4, pa4, hrd, hht, hk4, tn4⟩
      obtain ⟨l, kk, E⟩ := R
      obtain rfl : l = acc.map PIt.it := hR4
      have hb4 : Below _ (w2.alloc (.cells #[.slice A2 n c2, .slice A3 n c3] 32)) w4 := tn4.below _ _ (Nat.le_refl _) H3.out.1
      have RS := Lib.hid (rscan_any A2 c2 A3 c3 ps ((H3.out.2.2.2.1.below hb4).more hb4.size) H3.out.2.2.2.2.2 H3.out.2.2.2.2.1 (by omega) p0 hp0)
      rw [HRe.out] at RS
      have hD4 := H3.out.2.1.below hb4 H3.out.2.1.lt
      have hRid4 := H3.out.2.2.1.below hb4 H3.out.2.2.1.lt
      have d0 : w4.cell? ⟨w2.heap.size, 0, none⟩ = some (.slice A2 n c2) := hD4.cell 0
      have d1 : w4.cell? ⟨w2.heap.size, 1, none⟩ = some (.slice A3 n c3) := hD4.cell 1
      have H4 := Lib.hid (And.intro hrd4 (And.intro lok4 (And.intro pa4 (And.intro (And.intro hrd hht) (And.intro (bto0 H2.out.2.2.1 hb4) (And.intro hD4 (And.intro hRid4 ((H3.out.2.2.2.1.below hb4).more hb4.size))))))))
      have hlo4 := hb4.size
      have HB4 := Lib.hid hb4
      have hz4 := hD4.lt
      clear hrd4 lok4 pa4 hk4 tn4 hb4 hD4 hRid4 SC hrd hht
      go_wp2_with fail
      refine RS.out.mono ?_
      rintro e w5 ⟨A5, c5, rfl, hr5, hb5⟩
      have hL : (acc.map PIt.it).length = acc.length := List.length_map _
      have HL := Lib.hid hL
      have hrd5 := (H4.out.1.below hb5).more hb5.size
      rw [hL] at hr5 hrd5 ⊢
      have H5 := Lib.hid (And.intro hr5 (And.intro hrd5 (And.intro hb5 (fun x hx => ⟨(H4.out.2.1 x hx).1.below hb5, (H4.out.2.1 x hx).2⟩ : LOk w5 _ acc))))
      have hz5 := hb5.size
      clear hr5 hrd5 hb5 RS hL d0 d1
      go_wp2
      go_loopw [144] (fun u wr => ∃ i : Nat, u = .int .i64 i ∧ i ≤ acc.length ∧ Below w5.heap.size w5 wr) (fun u _ => acc.length - (intOf u).toNat)
      case atStart => exact ⟨0, rfl, by omega, Below.refl _ _⟩
      case round =>
        obtain ⟨i, rfl, hi, hb⟩ := hrel
        have i0 : (0 : Int) ≤ (i : Int) := by omega
        by_cases hlt : i < acc.length
        · have i1 : (i : Int) < (acc.length : Int) := by omega
          obtain ⟨ad, x, rfl, had, hx, p1, p2, p3⟩ := (H5.out.2.1.below hb).pit hlt
          obtain ⟨ad2, y, rfl, had2, hy, r1, r2, r3⟩ := (H5.out.1.below hb).rit hlt
          rw [List.getElem?_map, hx] at hy
          injection hy with hy
          subst hy
          have cv := fun nq => ((((H5.out.2.2.2 x (List.mem_of_getElem? hx)).1.below hb).reads.1).drewN nq).cnv (c := x.c)
          have HB := Lib.hid hb
          clear hb
          go_wp2_with fail
          go_quiet (fail)
          have i2 : (i : Int) ≤ 9223372036854775806 := by rw [List.length_map] at hlen4; unfold maxLen at hlen4; omega
          go_wp2
          exact ⟨⟨i + 1, rfl, by omega, bdr HB.out _⟩, by simp [intOf]; omega⟩
        · obtain rfl : acc.length = i := by omega
          have hb45 := bto0 H5.out.2.2.1 hb
          have FT := Lib.hid (fetch_any (m := n) (H4.out.2.2.1.below hb45) (by have := H4.out.2.2.2.1.1; omega) (by have := H4.out.2.2.2.1.2; omega) (by have := hb45.size; omega) (by omega) (by omega) ap hap as_ has)
          have hRid5 := H4.out.2.2.2.2.2.2.1.below hb45 H4.out.2.2.2.2.2.2.1.lt
          have hD5 := H4.out.2.2.2.2.2.1.below hb45 H4.out.2.2.2.2.2.1.lt
          have q0 : wr.cell? ⟨w.heap.size, 0, none⟩ = some (.int .u32 ap) := hRid5.cell 0
          have q1 : wr.cell? ⟨w.heap.size, 1, none⟩ = some (.int .u16 as_) := hRid5.cell 1
          obtain ⟨⟨rb, re⟩, hRF⟩ : ∃ RF, fetchH ps ap as_ = RF := ⟨_, rfl⟩
          have HRF := Lib.hid hRF
          rw [hRF] at FT
          have H6 := Lib.hid (And.intro hRid5 (And.intro hD5 (And.intro (bto0 H4.out.2.2.2.2.1 hb45) (((H4.out.2.2.2.2.2.2.2).below hb45).more hb45.size))))
          have hz6 := hb45.size
          have HB45 := Lib.hid hb45
          clear hRid5 hD5 hb45 hRF hb
          go_wp2_with fail
          refine FT.out.mono ?_
          rintro e w7 ⟨A7, c7, K7, D7, rd7, ht7, rfl, hrd7, hc7, pa7, _, _, _, tn7⟩
          have b7 : Below _ (w2.alloc (.cells #[.slice A2 n c2, .slice A3 n c3] 32)) w7 := tn7.below _ _ (Nat.le_refl _) (HB4.out.trans (HB45.out.mono hlo4))
          have hD7 := H3.out.2.1.below b7 H3.out.2.1.lt
          have hRid7 := H3.out.2.2.1.below b7 H3.out.2.2.1.lt
          have RFc := Lib.hid (rfetch_any A2 c2 A3 c3 ps ((H3.out.2.2.2.1.below b7).more b7.size) H3.out.2.2.2.2.2 H3.out.2.2.2.2.1 (by omega) ap hap as_ has)
          rw [HRF.out] at RFc
          have d0 : w7.cell? ⟨w2.heap.size, 0, none⟩ = some (.slice A2 n c2) := hD7.cell 0
          have d1 : w7.cell? ⟨w2.heap.size, 1, none⟩ = some (.slice A3 n c3) := hD7.cell 1
          have s0 : w7.cell? ⟨w.heap.size, 0, none⟩ = some (.int .u32 ap) := hRid7.cell 0
          have s1 : w7.cell? ⟨w.heap.size, 1, none⟩ = some (.int .u16 as_) := hRid7.cell 1
          have H7 := Lib.hid (And.intro hrd7 (bto0 H2.out.2.2.1 b7))
          clear hrd7 pa7 tn7 b7 hD7 hRid7 q0 q1 FT
          go_wp2_with fail
          refine RFc.out.mono ?_
          rintro e w8 ⟨rfl, hb8⟩
          have HB8 := Lib.hid hb8
          clear hb8 d0 d1 s0 s1 RFc
          go_wp2_with fail
          refine (F.out _).mono ?_
          rintro e w9' ⟨rfl, hb9⟩
          have b79 := bto0 HB8.out hb9
          have cv := (H7.out.1.below b79).cnv (c := c7)
          have HE := Lib.hid (bto0 H7.out.2 b79)
          clear hb9 b79
          go_wp2
          go_ret
          exact ⟨rfl, HE.out⟩
set_option maxRecDepth 100000 in
theorem lawRaw_out (A : Option Addr) (m c : Nat) (Al : Option Addr) (ml cl : Nat) (p0 ap as_ : Int) (w : World) (h : 5120 < m ∨ m < 512 ∨ 10 < ml) (hm : m ≤ maxLen) (hml : ml ≤ maxLen) :
    Calls Try.prog 5 #[.slice A m c, .slice Al ml cl, .int .u32 p0, .agg #[.int .u32 ap, .int .u16 as_]] w (RetB w (.bool true)) := by
  have F := Lib.hid hfixed_any
  have hm' : m ≤ 9223372036854775807 := by unfold maxLen at hm; omega
  clear hm hml
  by_cases h1 : 5120 < m
  · have e1 : decide ((5120 : Int) < (m : Int)) = true := by simp; omega
    clear h
    go_enter Try.func5, Try.ntmps5
    go_wp2_with fail
    refine (F.out _).mono ?_
    rintro e w1 ⟨rfl, hb1⟩
    go_wp2
    go_ret
    exact ⟨rfl, bto0 (ball (Below.refl _ _) _) hb1⟩
  have e1 : decide ((5120 : Int) < (m : Int)) = false := by simp; omega
  by_cases h2 : m < 512
  · have e2 : decide ((m : Int) < 512) = true := by simp; omega
    clear h
    go_enter Try.func5, Try.ntmps5
    go_wp2_with fail
    refine (F.out _).mono ?_
    rintro e w1 ⟨rfl, hb1⟩
    go_wp2
    go_ret
    exact ⟨rfl, bto0 (ball (Below.refl _ _) _) hb1⟩
  have e2 : decide ((m : Int) < 512) = false := by simp; omega
  have e3 : decide ((10 : Int) < (ml : Int)) = true := by simp; omega
  clear h
  go_enter Try.func5, Try.ntmps5
  go_wp2_with fail
  refine (F.out _).mono ?_
  rintro e w1 ⟨rfl, hb1⟩
  go_wp2
  go_ret
  exact ⟨rfl, bto0 (ball (Below.refl _ _) _) hb1⟩
theorem lawRaw_any (A : Option Addr) (m c : Nat) (l : List Int) (Al : Option Addr) (ml cl : Nat) (ls : List Int) (p0 ap as_ : Int) (w : World) (hr : Reads w w.heap.size 1 A m (l.map (Value.int .u8))) (hw : ∀ x ∈ l, (Lit.int .u8 x).wf = true) (hmc : m ≤ c) (hc : c ≤ maxLen)
    (hrl : Reads w w.heap.size 1 Al ml (ls.map (Value.int .u32))) (hlw : ∀ x ∈ ls, (Lit.int .u32 x).wf = true) (hml : ml ≤ maxLen) (hp0 : 0 ≤ p0 ∧ p0 ≤ 4294967295) (hap : 0 ≤ ap ∧ ap ≤ 4294967295) (has : 0 ≤ as_ ∧ as_ ≤ 65535) :
    Calls Try.prog 5 #[.slice A m c, .slice Al ml cl, .int .u32 p0, .agg #[.int .u32 ap, .int .u16 as_]] w (RetB w (.bool true)) := by
  obtain ⟨L, hL, _⟩ := ints_bytes l hw
  rw [hL] at hr
  by_cases h : 5120 < m ∨ m < 512 ∨ 10 < ml
  · exact lawRaw_out A m c Al ml cl p0 ap as_ w h (Nat.le_trans hmc hc) hml
  · obtain ⟨p0, rfl⟩ : ∃ n : Nat, p0 = n := ⟨p0.toNat, by omega⟩
    obtain ⟨ap, rfl⟩ : ∃ n : Nat, ap = n := ⟨ap.toNat, by omega⟩
    obtain ⟨as_, rfl⟩ : ∃ n : Nat, as_ = n := ⟨as_.toNat, by omega⟩
    exact lawRaw_in A m c L Al ml cl ls p0 ap as_ w hr hmc (by omega) (by omega) hrl (fun x hx => Go.bounds_u32 (hlw x hx)) (by omega) (by omega) (by omega) (by omega)
end
end Go.Proofs.Ytdimkeoncgjegaa
