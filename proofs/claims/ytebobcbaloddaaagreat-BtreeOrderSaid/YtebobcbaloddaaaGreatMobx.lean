/-
  B66 B67 B68 B69 B71 B79.
-/
import Derived.Test.YtebobcbaloddaaaGreatMobw
import Derived.Test.YtebobcbaloddaaaGreatMobv
import Derived.Test.YtebobcbaloddaaaGreatMobs
import Derived.Test.YtebobcbaloddaaaGreatMobt
import Derived.Deep.DeepCutAuto
import Derived.BigRegion
import Derived.BigQuiet
import Derived.Test.YtebobcbaloddaaaGreatMozz
namespace Go.Proofs.YtebobcbaloddaaaGreat
section
set_option linter.unusedSimpArgs false
set_option linter.unusedVariables false
open Go.RowKit Go.Maps
structure SetJ (w0 : World) (Bw Bc g gb gt n z a m : Nat) (ps : List (List UInt8)) (i : Nat) (ss : List Stp) (fs : List Fr11) (T : List Bool) (P Y : S11) (wr : List (Nat × List UInt8)) (cs : Array Value) (lf : Bool) (p N : Nat) (kids : List Nat) (l : List En) (k e : S11) (way root : Nat) (st : Stt) (W : World) : Prop where
 b : SetB w0 Bw Bc g gb gt n z a m ps i ss fs T P Y wr cs W
 c0 : cs[i * 6]? = some (.bool lf)
 c1 : cs[i * 6 + 1]? = some (.int .u32 (N : Int))
 c2 : cs[i * 6 + 2]? = some k.v
 c3 : cs[i * 6 + 3]? = some e.v
 c4 : cs[i * 6 + 4]? = some (.int .u32 (p : Int))
 cur : CurR W m lf k e kids l
 nk : ∀ b, k.own b → ¬ P.own b
 ok : CurOk lf N kids l
 so : StepsOk fs (curSt lf wr p N kids l T)
 eq : fs.foldl (fun s fr => frSt fr s) (curSt lf wr p N kids l T) = st
 wl : wr.length + 2 * i ≤ 30
 w5 : ∀ q ∈ wr, q.2.length = 512
 iw : i < way
 pn : p < 4294967296
 tp : topP p fs = root
theorem cell66 {W : World} {b j : Nat} {t : TypeId} {cs : Array Value} {v : Value} (h : Blk W b t cs) (hj : cs[j]? = some v) : W.cell? ⟨b, j, none⟩ = some v := (h.cell j).trans hj
theorem map_fst_snoc (wr : List (Nat × List UInt8)) (p : Nat) (L : List UInt8) : (wr ++ [(p, L)]).map Prod.fst = wr.map Prod.fst ++ [p] := by simp
theorem map_snd_snoc (wr : List (Nat × List UInt8)) (p : Nat) (L : List UInt8) : (wr ++ [(p, L)]).map Prod.snd = wr.map Prod.snd ++ [L] := by simp
set_option maxRecDepth 100000 in
set_option maxHeartbeats 8000000 in
theorem settle_any {w0 w : World} {Bw cw Bc g gb gt n z a m root way : Nat} {ps : List (List UInt8)} {i0 : Nat} {ss : List Stp} {fs : List Fr11} {T : List Bool} {P Y : S11} {cs : Array Value} {lf : Bool} {p N : Nat} {kids : List Nat} {l : List En} {k e : S11} {st : Stt}
 (h : SetJ w0 Bw Bc g gb gt n z a m ps i0 ss fs T P Y [] cs lf p N kids l k e way root st w) (hi0 : i0 + 1 = way) (hway : way ≤ 12) (hn : n ≤ 10000) (hroot : root < 4294967296) :
 Calls Tryz.prog 32 #[.pointer (some ⟨Bc, 0, none⟩), .slice (some ⟨Bw, 0, none⟩) way cw, .int .u32 (root : Int)] w (RetSet w0 Bc g gb gt n z ps way root st) := by
 have H0 := Lib.hid h
 have hiw : (way : Int) - 1 = (i0 : Int) := by omega
 clear h
 go_enter Tryz.func32, Tryz.ntmps32
 go_wp2_with fail
 go_loopw [2, 8] (fun v2 v8 wr_ => v2 = .int .u32 (root : Int) ∧ ∃ (i m : Nat) (ss : List Stp) (fs : List Fr11) (T : List Bool) (P Y : S11) (wr : List (Nat × List UInt8)) (cs : Array Value) (lf : Bool) (p N : Nat) (kids : List Nat) (l : List En) (k e : S11), v8 = .int .i64 (i : Int) ∧ SetJ w0 Bw Bc g gb gt n z a m ps i ss fs T P Y wr cs lf p N kids l k e way root st wr_) (fun _ v8 _ => (intOf v8).toNat)
 case atStart => exact ⟨rfl, i0, m, ss, fs, T, P, Y, [], cs, lf, p, N, kids, l, k, e, by go_num, H0.out⟩
 case round =>
  rename World => wo
  clear H0 hiw hi0
  obtain ⟨rfl, i, m, ss, fs, T, P, Y, wr, cs, lf, p, N, kids, l, k, e, rfl, J⟩ := hrel
  have iw := J.iw
  have q0 : (0 : Int) ≤ (i : Int) := by omega
  have q1 : (i : Int) < (way : Int) := by omega
  have q2 : (i : Int) ≤ 12 := by omega
  have u0 := cell66 J.b.blk J.c0
  have u3 := cell66 J.b.blk J.c3
  have hsz : sumE l ≤ 72000 := by
   have := J.ok.sz
   cases lf with
   | true => have this : sumE l ≤ 712 := this; omega
   | false => have this : sumE l + 4 * l.length ≤ 712 := this; omega
  have FT := Lib.hid (fits_any u0 u3 J.cur.part.re hsz)
  have HJ := Lib.hid J
  clear J u0 u3 hsz
  by_cases hf : fitP lf l = true
  · rw [hf] at FT
    have Hf := Lib.hid hf
    clear hf
    go_wp2_with fail
    refine FT.out.mono ?_
    rintro e1 w1 ⟨rfl, hb1⟩
    have JB := HJ.out.b.below hb1
    have JC := HJ.out.cur.stays (EvT.of_below (O := fun _ => False) hb1) (fun _ _ e => e) (fun _ _ e => e)
    have u0 := cell66 JB.blk HJ.out.c0
    have u1 := cell66 JB.blk HJ.out.c1
    have u2 := cell66 JB.blk HJ.out.c2
    have u3 := cell66 JB.blk HJ.out.c3
    have u4 := cell66 JB.blk HJ.out.c4
    have PT := Lib.hid (show ∀ W, Below w1.heap.size w1 W → Calls Tryz.prog 65 #[.pointer (some ⟨Bc, 0, none⟩), .int .u32 (p : Int), .agg #[.bool lf, .int .u32 (N : Int), .slice k.A k.n k.c, .slice e.A e.n e.c]] W (RetPut W z Bc g P Y (wr.map Prod.fst ++ [p]) (wr.map Prod.snd ++ [pgB lf N kids l])) from fun W hb => put_any (JB.below hb).ch (by rw [List.length_map]; have := HJ.out.wl; omega) (by rw [List.length_map]; have := HJ.out.wl; omega) (JB.below hb).zW p HJ.out.ok.N (JC.part.stays (EvT.of_below (O := fun _ => False) hb) (fun _ _ e => e) (fun _ _ e => e)) HJ.out.ok.ok HJ.out.ok.may Hf.out HJ.out.ok.kid)
    have HB := Lib.hid (And.intro JB JC)
    clear JB JC
    go_wp2_with fail
    have PW := Lib.hid (PT.out w1.drew (Below.drew (Below.refl _ _)))
    go_region_with (refine PW.out.mono ?_; rintro e2 w2 ⟨P2, Y2, rfl, ch2, ev2, ne2⟩; have H2 := Lib.hid (And.intro ch2 (And.intro ev2 ne2)); clear ch2 ev2 ne2)
    all_goals (
     go_wp2_with fail
     go_ret2
     have he := HJ.out.eq
     rw [curSt, if_pos Hf.out, st_done] at he
     rw [← he]
     have hev := (EvT.of_below (O := ChO Bc P Y) (Below.drew (Below.refl _ _))).trans H2.out.2.1 (fun b e => .inl e)
     have ch2 := H2.out.1
     rw [← map_fst_snoc wr p (pgB lf N kids l), ← map_snd_snoc wr p (pgB lf N kids l)] at ch2
     have JB2 := HB.out.1.put hev ch2
     refine ⟨JB2.dp, JB2.lf, rfl, ⟨P2, Y2, JB2.ch⟩, fun q hq => ?_, ?_⟩
     · rcases List.mem_append.1 hq with hq | hq
       · exact HJ.out.w5 q hq
       · rw [List.mem_singleton] at hq
         rw [hq]
         exact pgB_len Hf.out fun e => (HJ.out.ok.kid e).1
     · rw [List.length_append, List.length_singleton]
       have := HJ.out.wl
       omega)
  · have Hf := Lib.hid hf
    have hf' : fitP lf l = false := by simpa using hf
    rw [hf'] at FT
    clear hf hf'
    go_wp2_with fail
    refine FT.out.mono ?_
    rintro e1 w1 ⟨rfl, hb1⟩
    have JB := HJ.out.b.below hb1
    have JC := HJ.out.cur.stays (EvT.of_below (O := fun _ => False) hb1) (fun _ _ e => e) (fun _ _ e => e)
    have SP := Lib.hid (split_any (o := i * 6) JB.blk HJ.out.c0 HJ.out.c1 HJ.out.c2 HJ.out.c3 JC HJ.out.ok Hf.out (by decide) (by decide))
    have HB := Lib.hid (And.intro JB JC)
    clear JB JC
    go_wp2_with fail
    refine SP.out.mono ?_
    rintro e2 w2 ⟨x, sk, se, rk, re, rN, cs1, rfl, hrN, hrl, hx, hB1, hcs1, hce, d2, d3, ev2, pl, pr, oe1, oe2, ok1, ok2⟩
    have B2 := HB.out.1.way ev2 hB1 (fun j hj => hce j (by omega))
    have c0' : cs1[i * 6]? = some (.bool lf) := (hce _ (.inl (by omega))).trans HJ.out.c0
    have c1' : cs1[i * 6 + 1]? = some (.int .u32 (N : Int)) := (hce _ (.inl (by omega))).trans HJ.out.c1
    have c4' : cs1[i * 6 + 4]? = some (.int .u32 (p : Int)) := (hce _ (.inr (by omega))).trans HJ.out.c4
    have oE : ∀ g', e.own g' → m ≤ g' ∧ g' < w2.heap.size ∧ ∃ cs, Blk w2 g' 37 cs := fun g' hg' => by
     have ho := ev2.own HB.out.2.re (fun b hb e3 => own_blk_ne HB.out.2.re (e3 ▸ HB.out.1.blk) (by decide) hb)
     have := World.ownsRow.lt ho g' hg'
     exact ⟨this.1, this.2, own_blk17 ho hg'⟩
    have oK : ∀ g', k.own g' → m ≤ g' ∧ g' < w2.heap.size ∧ ∃ cs, Blk w2 g' 30 cs := fun g' hg' => by
     by_cases hlf : lf = true
     · rw [HB.out.2.rz hlf] at hg'; exact (S110.own_ _ hg').elim
     · have hlf : lf = false := by simpa using hlf
       have ho := ev2.own (HB.out.2.rk hlf) (fun b hb e3 => own_blk_ne (HB.out.2.rk hlf) (e3 ▸ HB.out.1.blk) (by decide) hb)
       have := World.ownsRow.lt ho g' hg'
       exact ⟨this.1, this.2, own_blk17 ho hg'⟩
    obtain ⟨xs, xp, xq⟩ := x
    have H2 := Lib.hid (And.intro B2 (And.intro pl (And.intro pr (And.intro c0' (And.intro c1' (And.intro d2 (And.intro d3 c4')))))))
    have HO := Lib.hid (And.intro oE (And.intro oK (And.intro oe1 (And.intro oe2 (And.intro ok1 ok2)))))
    have HX := Lib.hid (And.intro hx (And.intro hrN hrl))
    clear B2 pl pr c0' c1' d2 d3 c4' oE oK oe1 oe2 ok1 ok2 hx hrl hB1 ev2 hce hrN
    simp only [En.agg]
    go_upto_region 8 with fail
    have hb3 := ball (ball (Below.refl w2.heap.size w2) (.cells #[.string xs, .int .u32 xp, .int .u16 xq] 37)) (.cells #[.bool lf, .int .u32 (rN : Int), rk.v, re.v] 75)
    have X10 := (Blk.new w2 37 #[.string xs, .int .u32 xp, .int .u16 xq]).alloc (.cells #[.bool lf, .int .u32 (rN : Int), rk.v, re.v] 75)
    have X11 := Blk.new (w2.alloc (.cells #[.string xs, .int .u32 xp, .int .u16 xq] 37)) 75 #[.bool lf, .int .u32 (rN : Int), rk.v, re.v]
    rw [alloc_size] at X11
    obtain ⟨W3, hW3⟩ : ∃ W3, (w2.alloc (.cells #[.string xs, .int .u32 xp, .int .u16 xq] 37)).alloc (.cells #[.bool lf, .int .u32 (rN : Int), rk.v, re.v] 75) = W3 := ⟨_, rfl⟩
    rw [hW3] at hb3 X10 X11 ⊢
    clear hW3
    have B3 := H2.out.1.below hb3
    have pl3 := H2.out.2.1.stays (EvT.of_below (O := fun _ => False) hb3) (fun _ _ e => e) (fun _ _ e => e)
    have pr3 := H2.out.2.2.1.stays (EvT.of_below (O := fun _ => False) hb3) (fun _ _ e => e) (fun _ _ e => e)
    have v0 : W3.cell? ⟨Bc, 0, none⟩ = some (.pointer (some ⟨g, 0, none⟩)) := B3.ch.blk.cell 0
    have TK := Lib.hid (takeF B3.dp (by omega))
    have hz2 := H2.out.1.zW
    have hz3 := hb3.size
    have HC := Lib.hid (And.intro B3 (And.intro pl3 (And.intro pr3 (And.intro X10 X11))))
    clear B3 pl3 pr3 X10 X11 hb3
    unfold RetTkF at TK
    cases hfr : freeI T with
    | none =>
      rw [hfr] at TK
      simp only at TK
      go_wp2_with fail
      refine TK.out.mono ?_
      rintro e3 w3 ⟨rfl, rfl⟩
      go_wp2_with fail
      go_ret2
      have he := HJ.out.eq
      rw [curSt, if_neg Hf.out, hfr] at he
      simp only at he
      rw [st_no] at he
      rw [← he]
      exact ⟨HC.out.1.dp, HC.out.1.lf, rfl⟩
    | some q =>
      rw [hfr] at TK
      simp only at TK
      have Hfr := Lib.hid hfr
      clear hfr
      go_wp2_with fail
      refine TK.out.mono ?_
      rintro e3 w4 ⟨rfl, dp4, lf4, ev4, hq⟩
      have B4 := HC.out.1.take lf4 ev4 dp4
      have hgm : gt < m := by have := HC.out.1.am; have := HC.out.1.dk; omega
      have hgz : gt < w2.heap.size := by have := HC.out.1.mz; omega
      have pl4 := HC.out.2.1.stays ev4 (fun ad h e => by have := (HO.out.1 _ (HO.out.2.2.1 ad h)).1; omega) (fun ad h e => by have := (HO.out.2.1 _ (HO.out.2.2.2.2.1 ad h)).1; omega)
      have pr4 := HC.out.2.2.1.stays ev4 (fun ad h e => by have := (HO.out.1 _ (HO.out.2.2.2.1 ad h)).1; omega) (fun ad h e => by have := (HO.out.2.1 _ (HO.out.2.2.2.2.2 ad h)).1; omega)
      have X10 := ev4.blk HC.out.2.2.2.1 (fun e => by omega)
      have X11 := ev4.blk HC.out.2.2.2.2 (fun e => by omega)
      have hz4 := ev4.size
      have u0 := cell66 B4.blk H2.out.2.2.2.1
      have u1 := cell66 B4.blk H2.out.2.2.2.2.1
      have f1 := B4.blk.frozen (i * 6 + 1)
      have m1 := B4.blk.lt
      have hq32 : q < 4294967296 := by omega
      have HD := Lib.hid (And.intro B4 (And.intro pl4 (And.intro pr4 (And.intro X10 X11))))
      clear B4 pl4 pr4 X10 X11 ev4 dp4 lf4 TK v0
      go_upto_if 63 with fail
      go_cut [] (fun wx => ∃ (N2 : Nat) (cs2 : Array Value), (lf = true → N2 = q) ∧ N2 < 4294967296 ∧ Blk wx Bw 77 cs2 ∧ (∀ j, j ≠ i * 6 + 1 → cs2[j]? = cs1[j]?) ∧ cs2[i * 6 + 1]? = some (.int .u32 (N2 : Int)) ∧ EvT (fun b => b = Bw) w4 wx)
      case first =>
       have HB4 := Lib.hid HD.out.1.blk
       have HC1 := Lib.hid H2.out.2.2.2.2.1
       have hN := Lib.hid HJ.out.ok.N
       clear HD H2 HX HO HC HB HJ FT SP Hfr Hf
       cases lf with
       | true =>
         go_wp2_with fail
         go_meet
         refine ⟨q, cs1.setIfInBounds (i * 6 + 1) (.int .u32 (q : Int)), fun _ => rfl, hq32, HB4.out.set_ _ _, fun j hj => Array.getElem?_setIfInBounds_ne (by omega), ?_, (EvT.refl (fun b => b = Bw) w4).store (p := ⟨Bw, i * 6 + 1, none⟩) (.inr rfl) _⟩
         have := (Array.getElem?_eq_some_iff.1 HC1.out).1
         rw [Array.getElem?_setIfInBounds_self_of_lt this]
       | false =>
         go_wp2_with fail
         go_meet
         exact ⟨N, cs1, fun e => (by cases e), hN.out, HB4.out, fun _ _ => rfl, HC1.out, EvT.refl _ _⟩
      case rest =>
       obtain ⟨N2, cs2, hN2, hN3, hB5, hc2, hc21, ev5⟩ := hcut
       rename World => w5
       have B5 := HD.out.1.way ev5 hB5 (fun j hj => hc2 j (by omega))
       have neB : ∀ g' t' cs', Blk w2 g' t' cs' → t' ≠ 77 → g' ≠ Bw := fun g' t' cs' hb ht => Blk.ne_ hb H2.out.1.blk ht
       have neE : ∀ g', e.own g' → g' ≠ Bw := fun g' h => by obtain ⟨_, _, cs', hb⟩ := HO.out.1 g' h; exact neB _ _ _ hb (by decide)
       have neK : ∀ g', k.own g' → g' ≠ Bw := fun g' h => by obtain ⟨_, _, cs', hb⟩ := HO.out.2.1 g' h; exact neB _ _ _ hb (by decide)
       have pl5 := HD.out.2.1.stays ev5 (fun ad h => neE _ (HO.out.2.2.1 ad h)) (fun ad h => neK _ (HO.out.2.2.2.2.1 ad h))
       have pr5 := HD.out.2.2.1.stays ev5 (fun ad h => neE _ (HO.out.2.2.2.1 ad h)) (fun ad h => neK _ (HO.out.2.2.2.2.2 ad h))
       have hbz : Bw < w2.heap.size := by have := H2.out.1.bw; omega
       have X10 := ev5.blk HD.out.2.2.2.1 (fun e => by omega)
       have X11 := ev5.blk HD.out.2.2.2.2 (fun e => by omega)
       have hz5 := ev5.size
       have x0 := cell66 B5.blk ((hc2 _ (by omega)).trans H2.out.2.2.2.1)
       have x1 := cell66 B5.blk hc21
       have x2 := cell66 B5.blk ((hc2 _ (by omega)).trans H2.out.2.2.2.2.2.1)
       have x3 := cell66 B5.blk ((hc2 _ (by omega)).trans H2.out.2.2.2.2.2.2.1)
       have x4 := cell66 B5.blk ((hc2 _ (by omega)).trans H2.out.2.2.2.2.2.2.2)
       have chE : ∀ g', e.own g' → ¬ (ChO Bc P Y g' ∨ w5.heap.size ≤ g') := fun g' h hh => by
        have := (HO.out.1 g' h).2.1
        rcases hh with hh | hh
        · obtain ⟨cs', hb⟩ := own_blk17 HJ.out.cur.re h
          exact HJ.out.b.ch.ne hb (by decide) (by decide) (by decide) hh
        · omega
       have chK : ∀ g', k.own g' → ¬ (ChO Bc P Y g' ∨ w5.heap.size ≤ g') := fun g' h hh => by
        have := (HO.out.2.1 g' h).2.1
        rcases hh with (hh | hh | hh) | hh
        · obtain ⟨cs', hb⟩ := (HO.out.2.1 g' h).2.2
          subst hh
          exact absurd (hb.ty H2.out.1.ch.blk) (by decide)
        · exact HJ.out.nk g' h hh
        · obtain ⟨cs', hb⟩ := (HO.out.2.1 g' h).2.2
          obtain ⟨ys, k1, _⟩ := H2.out.1.ch.by_
          exact own_blk_ne k1 hb (by decide) hh
        · omega
       have hS : Hid (∀ W, EvT (fun b => ChO Bc P Y b ∨ w5.heap.size ≤ b) w5 W → W.cell? ⟨Bw, i * 6, none⟩ = some (.bool lf) ∧ W.cell? ⟨Bw, i * 6 + 1, none⟩ = some (.int .u32 (N2 : Int)) ∧ W.cell? ⟨Bw, i * 6 + 2, none⟩ = some sk.v ∧ W.cell? ⟨Bw, i * 6 + 3, none⟩ = some se.v ∧ W.cell? ⟨Bw, i * 6 + 4, none⟩ = some (.int .u32 (p : Int)) ∧ W.cell? ⟨w2.heap.size + 1, 0, none⟩ = some (.bool lf) ∧ W.cell? ⟨w2.heap.size + 1, 1, none⟩ = some (.int .u32 (rN : Int)) ∧ W.cell? ⟨w2.heap.size + 1, 2, none⟩ = some rk.v ∧ W.cell? ⟨w2.heap.size + 1, 3, none⟩ = some re.v) := Lib.hid fun W hW => by
        have Y1 := hW.blk B5.blk (fun h => by
         rcases h with h | h
         · exact B5.ch.ne B5.blk (by decide) (by decide) (by decide) h
         · omega)
        have Y2 := hW.blk X11 (fun h => by
         rcases h with h | h
         · exact B5.ch.ne X11 (by decide) (by decide) (by decide) h
         · have := X11.lt; omega)
        exact ⟨cell66 Y1 ((hc2 _ (by omega)).trans H2.out.2.2.2.1), cell66 Y1 hc21, cell66 Y1 ((hc2 _ (by omega)).trans H2.out.2.2.2.2.2.1), cell66 Y1 ((hc2 _ (by omega)).trans H2.out.2.2.2.2.2.2.1), cell66 Y1 ((hc2 _ (by omega)).trans H2.out.2.2.2.2.2.2.2), Y2.cell 0, Y2.cell 1, Y2.cell 2, Y2.cell 3⟩
       obtain ⟨lk1, lk2, lk3, lk4⟩ := HJ.out.ok.left Hf.out
       obtain ⟨rk1, rk2, rk3, rk4⟩ := HJ.out.ok.right Hf.out
       have hwl := HJ.out.wl
       have PT1 := Lib.hid (show ∀ W, Below w5.heap.size w5 W → Calls Tryz.prog 65 #[.pointer (some ⟨Bc, 0, none⟩), .int .u32 (p : Int), .agg #[.bool lf, .int .u32 (N2 : Int), sk.v, se.v]] W (RetPut W z Bc g P Y (wr.map Prod.fst ++ [p]) (wr.map Prod.snd ++ [pgB lf N2 (kids.take (cutW lf l + 1)) (l.take (cutW lf l))])) from fun W hb => put_any (B5.below hb).ch (by rw [List.length_map]; omega) (by rw [List.length_map]; omega) (B5.below hb).zW p hN3 (pl5.stays (EvT.of_below (O := fun _ => False) hb) (fun _ _ e => e) (fun _ _ e => e)) lk1 lk2 lk3 lk4)
       have PT2 := Lib.hid (show ∀ W P1 Y1, EvT (fun b => ChO Bc P Y b ∨ w5.heap.size ≤ b) w5 W → ChS W z Bc g P1 Y1 (wr.map Prod.fst ++ [p]) (wr.map Prod.snd ++ [pgB lf N2 (kids.take (cutW lf l + 1)) (l.take (cutW lf l))]) → Calls Tryz.prog 65 #[.pointer (some ⟨Bc, 0, none⟩), .int .u32 (q : Int), .agg #[.bool lf, .int .u32 (rN : Int), rk.v, re.v]] W (RetPut W z Bc g P1 Y1 ((wr.map Prod.fst ++ [p]) ++ [q]) ((wr.map Prod.snd ++ [pgB lf N2 (kids.take (cutW lf l + 1)) (l.take (cutW lf l))]) ++ [pgB lf rN (kids.drop (cutW lf l + 1)) (l.drop (cutW lf l + gap lf))])) from fun W P1 Y1 hW hc => put_any hc (by rw [List.length_append, List.length_map, List.length_singleton]; omega) (by rw [List.length_append, List.length_map, List.length_singleton]; omega) (by have := B5.zW; have := hW.size; omega) q HX.out.2.1 (pr5.stays hW (fun ad h => chE _ (HO.out.2.2.2.1 ad h)) (fun ad h => chK _ (HO.out.2.2.2.2.2 ad h))) rk1 rk2 rk3 rk4)
       have OR := Lib.hid fun (W : World) => or2_any W
       have HE := Lib.hid (And.intro B5 (And.intro X10 X11))
       have HF := Lib.hid hc2
       have E50 : Hid (EvT (fun b => ChO Bc P Y b ∨ w5.heap.size ≤ b) w5 w5.drew) := Lib.hid (EvT.of_below (Below.drew (Below.refl _ _)))
       clear B5 neB neE neK pl5 pr5 X10 X11 chE chK lk1 lk2 lk3 lk4 rk1 rk2 rk3 rk4 hB5 hc2 hc21 ev5 u0 u1 f1 HD HC FT SP
       go_upto_region 13 with fail
       refine wp_region_held_drew (S := (fun W => W.cell? ⟨Bw, i * 6, none⟩ = some (.bool lf) ∧ W.cell? ⟨Bw, i * 6 + 1, none⟩ = some (.int .u32 (N2 : Int)) ∧ W.cell? ⟨Bw, i * 6 + 2, none⟩ = some sk.v ∧ W.cell? ⟨Bw, i * 6 + 3, none⟩ = some se.v ∧ W.cell? ⟨Bw, i * 6 + 4, none⟩ = some (.int .u32 (p : Int)) ∧ W.cell? ⟨w2.heap.size + 1, 0, none⟩ = some (.bool lf) ∧ W.cell? ⟨w2.heap.size + 1, 1, none⟩ = some (.int .u32 (rN : Int)) ∧ W.cell? ⟨w2.heap.size + 1, 2, none⟩ = some rk.v ∧ W.cell? ⟨w2.heap.size + 1, 3, none⟩ = some re.v)) (by kernel_rfl) (by exact hS.out _ E50.out) (fun hHeld => ?_)
       try dsimp only at hHeld
       refine zt 0 ?_ rfl (by kernel_rfl) (fun _ _ _ h => h) ⟨rfl, ?_⟩ hHeld ?_
       rotate_left
       focus (intro wx hSw; (try dsimp only at hSw); (try go_split_ands); go_simp; (try with_reducible rfl))
       try simp only [Act.put, za1, za2, za3, za4, za5, za6]
       refine zt 1 ?_ rfl (by kernel_rfl) (fun _ _ _ h => h) ⟨rfl, ?_⟩ hHeld ?_
       rotate_left
       focus (intro wx hSw; (try dsimp only at hSw); (try go_split_ands); go_simp; (try with_reducible rfl))
       try simp only [Act.put, za1, za2, za3, za4, za5, za6]
       refine zt 2 ?_ rfl (by kernel_rfl) (fun _ _ _ h => h) ⟨rfl, ?_⟩ hHeld ?_
       rotate_left
       focus (intro wx hSw; (try dsimp only at hSw); (try go_split_ands); go_simp; (try with_reducible rfl))
       try simp only [Act.put, za1, za2, za3, za4, za5, za6]
       refine zt 3 ?_ rfl (by kernel_rfl) (fun _ _ _ h => h) ⟨rfl, ?_⟩ hHeld ?_
       rotate_left
       focus (intro wx hSw; (try dsimp only at hSw); (try go_split_ands); go_simp; (try with_reducible rfl))
       try simp only [Act.put, za1, za2, za3, za4, za5, za6]
       refine zt 4 ?_ rfl (by kernel_rfl) (fun _ _ _ h => h) ⟨rfl, ?_⟩ hHeld ?_
       rotate_left
       focus (intro wx hSw; (try dsimp only at hSw); (try go_split_ands); go_simp; (try with_reducible rfl))
       try simp only [Act.put, za1, za2, za3, za4, za5, za6]
       refine zt 5 ?_ rfl (by kernel_rfl) (fun _ _ _ h => h) ⟨rfl, ?_⟩ hHeld ?_
       rotate_left
       focus (intro wx hSw; (try dsimp only at hSw); (try go_split_ands); go_simp; (try with_reducible rfl))
       try simp only [Act.put, za1, za2, za3, za4, za5, za6]
       refine zt 6 ?_ rfl (by kernel_rfl) (fun _ _ _ h => h) ⟨rfl, ?_⟩ hHeld ?_
       rotate_left
       focus (intro wx hSw; (try dsimp only at hSw); (try go_split_ands); go_simp; (try with_reducible rfl))
       try simp only [Act.put, za1, za2, za3, za4, za5, za6]
       refine zt 7 ?_ rfl (by kernel_rfl) (fun _ _ _ h => h) ⟨rfl, ?_⟩ hHeld ?_
       rotate_left
       focus (intro wx hSw; (try dsimp only at hSw); (try go_split_ands); go_simp; (try with_reducible rfl))
       try simp only [Act.put, za1, za2, za3, za4, za5, za6]
       refine zt 8 ?_ rfl (by kernel_rfl) (fun _ _ _ h => h) ⟨rfl, ?_⟩ hHeld ?_
       rotate_left
       focus (intro wx hSw; (try dsimp only at hSw); (try go_split_ands); go_simp; (try with_reducible rfl))
       try simp only [Act.put, za1, za2, za3, za4, za5, za6]
       refine zt 10 ?_ rfl (by kernel_rfl) (fun _ _ _ h => h) ⟨rfl, ?_⟩ hHeld ?_
       rotate_left
       focus (intro wx hSw; (try dsimp only at hSw); (try go_split_ands); go_simp; (try with_reducible rfl))
       try simp only [Act.put, za1, za2, za3, za4, za5, za6]
       refine zt 11 ?_ rfl (by kernel_rfl) (fun _ _ _ h => h) ⟨rfl, ?_⟩ hHeld ?_
       rotate_left
       focus (intro wx hSw; (try dsimp only at hSw); (try go_split_ands); go_simp; (try with_reducible rfl))
       try simp only [Act.put, za1, za2, za3, za4, za5, za6]
       refine zt 12 ?_ rfl (by kernel_rfl) (fun _ _ _ h => h) ⟨rfl, ?_⟩ hHeld ?_
       rotate_left
       focus (intro wx hSw; (try dsimp only at hSw); (try go_split_ands); go_simp; (try with_reducible rfl))
       try simp only [Act.put, za1, za2, za3, za4, za5, za6]
       refine wpAnyH_ready (rs := [9]) (by kernel_rfl) (by simp) (AllReadyH.cons rfl (fun K hK => ?_) AllReadyH.nil)
       go_simp
       refine (PT1.out _ (Below.drew (Below.refl _ _))).mono ?_; rintro e6 w6 ⟨P1, Y1, rfl, ch6, ev6, ne6⟩; have E6 : Hid (EvT (fun b => ChO Bc P Y b ∨ w5.heap.size ≤ b) w5 w6) := Lib.hid (E50.out.trans ev6 (fun b e => .inl (.inl e))); have H6 := Lib.hid (And.intro ch6 ne6); clear ch6 ev6 ne6
       go_wp2_with fail
       refine hK.out _ _ ?_ (fun hHeld => ?_)
       · ((try dsimp only); (try dsimp only at hHeld); (first | exact hS.out _ E8.out | exact hS.out _ E7.out | exact hS.out _ E6.out))
       clear hK K
       try dsimp only at hHeld
       try simp only [Act.put, za1, za2, za3, za4, za5, za6]
       refine wpAnyH_ready (rs := [13]) (by kernel_rfl) (by simp) (AllReadyH.cons rfl (fun K hK => ?_) AllReadyH.nil)
       go_simp
       refine (PT2.out _ P1 Y1 E6.out H6.out.1).mono ?_; rintro e7 w7 ⟨P2, Y2, rfl, ch7, ev7, ne7⟩; have E7 : Hid (EvT (fun b => ChO Bc P Y b ∨ w5.heap.size ≤ b) w5 w7) := Lib.hid (E6.out.trans ev7 (fun b e => .inl ((H6.out.2 b e).imp id (fun k => by have := E50.out.size; omega)))); have E8 : Hid (EvT (fun b => ChO Bc P Y b ∨ w5.heap.size ≤ b) w5 (w7.alloc (.cells #[.int .i64 0, .int .i64 0] 27))) := Lib.hid (E7.out.trans (O' := fun _ => False) (EvT.of_below (ball (Below.refl _ _) _)) (fun b e => e.elim)); have H7 := Lib.hid (And.intro ch7 (show ∀ b, ChO Bc P2 Y2 b → ChO Bc P Y b ∨ w5.heap.size ≤ b from fun b e => (ne7 b e).elim (fun k => H6.out.2 b k) (fun k => .inr (by have := E6.out.size; omega)))); clear ch7 ev7 ne7
       go_wp2_with fail
       refine hK.out _ _ ?_ (fun hHeld => ?_)
       · ((try dsimp only); (try dsimp only at hHeld); (first | exact hS.out _ E8.out | exact hS.out _ E7.out | exact hS.out _ E6.out))
       clear hK K
       try dsimp only at hHeld
       try simp only [Act.put, za1, za2, za3, za4, za5, za6]
       refine wpAnyH_ready (rs := [14]) (by kernel_rfl) (by simp) (AllReadyH.cons rfl (fun K hK => ?_) AllReadyH.nil)
       go_simp
       refine hK.out _ _ ?_ (fun hHeld => ?_)
       · ((try dsimp only); (try dsimp only at hHeld); (first | exact hS.out _ E8.out | exact hS.out _ E7.out | exact hS.out _ E6.out))
       clear hK K
       try dsimp only at hHeld
       try simp only [Act.put, za1, za2, za3, za4, za5, za6]
       refine wpAnyH_ready (rs := [15]) (by kernel_rfl) (by simp) (AllReadyH.cons rfl (fun K hK => ?_) AllReadyH.nil)
       go_simp
       refine (OR.out w7).mono ?_; rintro e8 w8 ⟨rfl, rfl⟩
       go_wp2_with fail
       refine hK.out _ _ ?_ (fun hHeld => ?_)
       · ((try dsimp only); (try dsimp only at hHeld); (first | exact hS.out _ E8.out | exact hS.out _ E7.out | exact hS.out _ E6.out))
       clear hK K
       try dsimp only at hHeld
       try simp only [Act.put, za1, za2, za3, za4, za5, za6]
       refine zt 16 ?_ rfl (by kernel_rfl) (fun _ _ _ h => h) ⟨rfl, ?_⟩ hHeld ?_
       rotate_left
       focus (intro wx hSw; (try dsimp only at hSw); (try go_split_ands); go_simp; (try with_reducible rfl))
       try simp only [Act.put, za1, za2, za3, za4, za5, za6]
       refine wpAnyH_done (by kernel_rfl) ?_ _
       have hx := HX.out.1
       have hpg1 := pgB_eq hN2 (kids.take (cutW lf l + 1)) (l.take (cutW lf l))
       have hpg2 := pgB_eq HX.out.2.2 (kids.drop (cutW lf l + 1)) (l.drop (cutW lf l + gap lf))
       have hw5' : ∀ qq ∈ wr ++ [(p, pgB lf q (kids.take (cutW lf l + 1)) (l.take (cutW lf l))), (q, pgB lf N (kids.drop (cutW lf l + 1)) (l.drop (cutW lf l + gap lf)))], qq.2.length = 512 := fun qq hqq => by
        have L := HJ.out.ok.left Hf.out
        have R := HJ.out.ok.right Hf.out
        rcases List.mem_append.1 hqq with h | h
        · exact HJ.out.w5 qq h
        · simp only [List.mem_cons, List.not_mem_nil, or_false] at h
          rcases h with rfl | rfl
          · exact pgB_len L.2.2.1 fun e => (L.2.2.2 e).1
          · exact pgB_len R.2.2.1 fun e => (R.2.2.2 e).1
       have hso := HJ.out.so
       have he := HJ.out.eq
       have hcu : curSt lf wr p N kids l T = .up (wr ++ [(p, pgB lf q (kids.take (cutW lf l + 1)) (l.take (cutW lf l))), (q, pgB lf N (kids.drop (cutW lf l + 1)) (l.drop (cutW lf l + gap lf)))]) (T.set q true) ⟨xs, xp, xq⟩ q := by rw [curSt, if_neg Hf.out, Hfr.out, ← hx]
       rw [hcu] at hso he
       have ch8 := H7.out.1.stays (EvT.of_below (O := fun _ => False) (ball (Below.refl w7.heap.size w7) (.cells #[.int .i64 0, .int .i64 0] 27))) (fun _ e => e.elim) (by have := E7.out.size; have := HE.out.1.zW; omega)
       rw [hpg1, hpg2, show (wr.map Prod.fst ++ [p]) ++ [q] = (wr ++ [(p, pgB lf q (kids.take (cutW lf l + 1)) (l.take (cutW lf l))), (q, pgB lf N (kids.drop (cutW lf l + 1)) (l.drop (cutW lf l + gap lf)))]).map Prod.fst from by simp, show (wr.map Prod.snd ++ [pgB lf q (kids.take (cutW lf l + 1)) (l.take (cutW lf l))]) ++ [pgB lf N (kids.drop (cutW lf l + 1)) (l.drop (cutW lf l + gap lf))] = (wr ++ [(p, pgB lf q (kids.take (cutW lf l + 1)) (l.take (cutW lf l))), (q, pgB lf N (kids.drop (cutW lf l + 1)) (l.drop (cutW lf l + gap lf)))]).map Prod.snd from by simp] at ch8
       have B8 := HE.out.1.put (E8.out.mono (fun b e => e)) ch8
       have X10 := E8.out.blk HE.out.2.1 (fun h => by
        rcases h with h | h
        · exact HE.out.1.ch.ne HE.out.2.1 (by decide) (by decide) (by decide) h
        · have := HE.out.2.1.lt; omega)
       have hwl2 : (wr ++ [(p, pgB lf q (kids.take (cutW lf l + 1)) (l.take (cutW lf l))), (q, pgB lf N (kids.drop (cutW lf l + 1)) (l.drop (cutW lf l + gap lf)))]).length + 2 * i ≤ 32 := by rw [List.length_append]; simp only [List.length_cons, List.length_nil]; omega
       have hz8 := E8.out.size
       have hxok := HJ.out.ok.sep Hf.out
       rw [hx] at hxok
       have htp := HJ.out.tp
       have hpn := HJ.out.pn
       have hc4 : cs2[i * 6 + 4]? = some (.int .u32 (p : Int)) := (HF.out _ (by omega)).trans H2.out.2.2.2.2.2.2.2
       clear hpg1 hpg2 hcu hx ch8 E50 E6 E7 E8 H6 H7 OR PT1 PT2 hS HE x0 x1 x2 x3 x4
       obtain ⟨wr2, hwr2⟩ : ∃ x, wr ++ [(p, pgB lf q (kids.take (cutW lf l + 1)) (l.take (cutW lf l))), (q, pgB lf N (kids.drop (cutW lf l + 1)) (l.drop (cutW lf l + gap lf)))] = x := ⟨_, rfl⟩
       obtain ⟨w8, hw8⟩ : ∃ x, w7.alloc (.cells #[.int .i64 0, .int .i64 0] 27) = x := ⟨_, rfl⟩
       rw [hwr2] at hw5' hso he B8 hwl2
       rw [hw8] at B8 X10 hz8 ⊢
       clear hwr2 hw8
       have HG := Lib.hid (And.intro B8 (And.intro X10 (And.intro hw5' (And.intro hso (And.intro he (And.intro hwl2 (And.intro hxok (And.intro htp (And.intro hpn hc4)))))))))
       have hbw8 := B8.blk.lt
       clear B8 X10 hw5' hso he hwl2 hxok htp hpn hc4 HF
       by_cases hi : i = 0
       ·
        have hid0 : decide ((0 : Int) < (i : Int)) = false := by simp; omega
        have hid1 : decide (0 < i) = false := by simp; omega
        have Hi := Lib.hid hi
        clear hi
        have hfs : fs = [] := by
         have h1 := HG.out.1.wy.len
         have h2 := HG.out.1.ssl
         rw [Hi.out] at h2
         cases fs with
         | nil => rfl
         | cons a r => rw [List.length_cons] at h1; omega
        have he := HG.out.2.2.2.2.1
        rw [hfs] at he
        have he : .up wr2 (T.set q true) ⟨xs, xp, xq⟩ q = st := he
        have htp := HG.out.2.2.2.2.2.2.2.1
        rw [hfs] at htp
        have htp : p = root := htp
        subst he
        subst htp
        have v0 : w8.cell? ⟨Bc, 0, none⟩ = some (.pointer (some ⟨g, 0, none⟩)) := HG.out.1.ch.blk.cell 0
        have hlc := HG.out.1.ch.blk.lt
        by_cases h12 : way = 12
        · have hw12 : ((way : Int) == 12) = true := by simp; omega
          have H12 := Lib.hid h12
          clear h12
          go_wp2_with fail
          go_ret2
          unfold RetSet
          rw [setR_up12 H12.out]
          exact ⟨HG.out.1.dp, HG.out.1.lf, rfl⟩
        · have hw12 : ((way : Int) == 12) = false := by simp; omega
          have H12 := Lib.hid h12
          clear h12
          have TK := Lib.hid (takeF HG.out.1.dp (by omega))
          unfold RetTkF at TK
          cases hfr2 : freeI (T.set q true) with
          | none =>
            rw [hfr2] at TK
            simp only at TK
            have Hfr2 := Lib.hid hfr2
            clear hfr2
            go_wp2_with fail
            refine TK.out.mono ?_
            rintro e9 w9 ⟨rfl, rfl⟩
            go_wp2_with fail
            go_ret2
            unfold RetSet
            rw [setR_upN H12.out Hfr2.out]
            exact ⟨HG.out.1.dp, HG.out.1.lf, rfl⟩
          | some r =>
            rw [hfr2] at TK
            simp only at TK
            have Hfr2 := Lib.hid hfr2
            clear hfr2
            go_wp2_with fail
            refine TK.out.mono ?_
            rintro e9 w9 ⟨rfl, dp9, lf9, ev9, hr⟩
            have B9 := HG.out.1.take lf9 ev9 dp9
            have X19 := ev9.blk HG.out.2.1 (fun e => by have := HG.out.1.dk; have := HG.out.1.am; have := HG.out.1.mz; omega)
            have hz9 := ev9.size
            have hr32 : r < 4294967296 := by omega
            have PTR := Lib.hid (show ∀ W kb eb, Below w9.heap.size w9 W → Blk W kb 30 #[.int .u32 (p : Int), .int .u32 (q : Int)] → Blk W eb 37 #[.string xs, .int .u32 xp, .int .u16 xq] → Calls Tryz.prog 65 #[.pointer (some ⟨Bc, 0, none⟩), .int .u32 (r : Int), .agg #[.bool false, .int .u32 0, .slice (some ⟨kb, 0, none⟩) 2 2, .slice (some ⟨eb, 0, none⟩) 1 1]] W (RetPut W z Bc g P2 Y2 (wr2.map Prod.fst ++ [r]) (wr2.map Prod.snd ++ [kidL [p, q] [⟨xs, xp, xq⟩]])) from fun W kb eb hb hk he => put_root (B9.below hb).ch (by rw [List.length_map]; have := HG.out.2.2.2.2.2.1; omega) (by rw [List.length_map]; have := HG.out.2.2.2.2.2.1; omega) (B9.below hb).zW r hk he HG.out.2.2.2.2.2.2.1.1 HG.out.2.2.2.2.2.2.1.2 HG.out.2.2.2.2.2.2.2.2.1 hq32)
            have y4 := cell66 B9.blk HG.out.2.2.2.2.2.2.2.2.2
            have KS := Lib.hid (show ∀ W, Below w9.heap.size w9 W → W.cell? ⟨Bw, i * 6 + 4, none⟩ = some (.int .u32 (p : Int)) ∧ W.cell? ⟨w2.heap.size, 0, none⟩ = some (.string xs) ∧ W.cell? ⟨w2.heap.size, 1, none⟩ = some (.int .u32 xp) ∧ W.cell? ⟨w2.heap.size, 2, none⟩ = some (.int .u16 xq) from fun W hb => by
             have b1 := B9.blk.below hb B9.blk.lt
             have b2 := X19.below hb X19.lt
             exact ⟨cell66 b1 HG.out.2.2.2.2.2.2.2.2.2, b2.cell 0, b2.cell 1, b2.cell 2⟩)
            have HP9 := Lib.hid (And.intro B9 X19)
            clear B9 X19 ev9 dp9 lf9 TK v0 y4
            go_upto_region 25 with fail
            refine wp_region_held_drew (S := (fun W => W.cell? ⟨Bw, i * 6 + 4, none⟩ = some (.int .u32 (p : Int)) ∧ W.cell? ⟨w2.heap.size, 0, none⟩ = some (.string xs) ∧ W.cell? ⟨w2.heap.size, 1, none⟩ = some (.int .u32 xp) ∧ W.cell? ⟨w2.heap.size, 2, none⟩ = some (.int .u16 xq))) (by kernel_rfl) (by exact KS.out _ (Below.drew (Below.refl _ _))) (fun hHeld => ?_)
            try dsimp only at hHeld
            refine zt 0 ?_ rfl (by kernel_rfl) (fun _ _ _ h => h) ⟨rfl, ?_⟩ hHeld ?_
            rotate_left
            focus (intro wx hSw; (try dsimp only at hSw); (try go_split_ands); go_simp; (try with_reducible rfl))
            try simp only [Act.put, za1, za2, za3, za4, za5, za6]
            refine zt 1 ?_ rfl (by kernel_rfl) (fun _ _ _ h => h) ⟨rfl, ?_⟩ hHeld ?_
            rotate_left
            focus (intro wx hSw; (try dsimp only at hSw); (try go_split_ands); go_simp; (try with_reducible rfl))
            try simp only [Act.put, za1, za2, za3, za4, za5, za6]
            refine zt 2 ?_ rfl (by kernel_rfl) (fun _ _ _ h => h) ⟨rfl, ?_⟩ hHeld ?_
            rotate_left
            focus (intro wx hSw; (try dsimp only at hSw); (try go_split_ands); go_simp; (try with_reducible rfl))
            try simp only [Act.put, za1, za2, za3, za4, za5, za6]
            refine zt 3 ?_ rfl (by kernel_rfl) (fun _ _ _ h => h) ⟨rfl, ?_⟩ hHeld ?_
            rotate_left
            focus (intro wx hSw; (try dsimp only at hSw); (try go_split_ands); go_simp; (try with_reducible rfl))
            try simp only [Act.put, za1, za2, za3, za4, za5, za6]
            refine zt 4 ?_ rfl (by kernel_rfl) (fun _ _ _ h => h) ⟨rfl, ?_⟩ hHeld ?_
            rotate_left
            focus (intro wx hSw; (try dsimp only at hSw); (try go_split_ands); go_simp; (try with_reducible rfl))
            try simp only [Act.put, za1, za2, za3, za4, za5, za6]
            refine zt 5 ?_ rfl (by kernel_rfl) (fun _ _ _ h => h) ⟨rfl, ?_⟩ hHeld ?_
            rotate_left
            focus (intro wx hSw; (try dsimp only at hSw); (try go_split_ands); go_simp; (try with_reducible rfl))
            try simp only [Act.put, za1, za2, za3, za4, za5, za6]
            refine zt 6 ?_ rfl (by kernel_rfl) (fun _ _ _ h => h) ⟨rfl, ?_⟩ hHeld ?_
            rotate_left
            focus (intro wx hSw; (try dsimp only at hSw); (try go_split_ands); go_simp; (try with_reducible rfl))
            try simp only [Act.put, za1, za2, za3, za4, za5, za6]
            refine zt 7 ?_ rfl (by kernel_rfl) (fun _ _ _ h => h) ⟨rfl, ?_⟩ hHeld ?_
            rotate_left
            focus (intro wx hSw; (try dsimp only at hSw); (try go_split_ands); go_simp; (try with_reducible rfl))
            try simp only [Act.put, za1, za2, za3, za4, za5, za6]
            refine zt 9 ?_ rfl (by kernel_rfl) (fun _ _ _ h => h) ⟨rfl, ?_⟩ hHeld ?_
            rotate_left
            focus (intro wx hSw; (try dsimp only at hSw); (try go_split_ands); go_simp; (try with_reducible rfl))
            try simp only [Act.put, za1, za2, za3, za4, za5, za6]
            refine wpAnyH_ready (rs := [8, 10]) (by kernel_rfl) (by simp) (AllReadyH.cons rfl (fun K hK => ?_) (AllReadyH.cons rfl (fun K hK => ?_) AllReadyH.nil))
            · go_simp
              refine hK.out _ _ ?_ (fun hHeld => ?_)
              · ((try dsimp only); (try dsimp only at hHeld); exact KS.out _ (by with_reducible repeat (first | exact Below.refl _ _ | refine bdr ?_ _ | refine Below.drew ?_ | refine ball ?_ _)))
              clear hK K
              try dsimp only at hHeld
              try simp only [Act.put, za1, za2, za3, za4, za5, za6]
              refine wpAnyH_ready (rs := [10]) (by kernel_rfl) (by simp) (AllReadyH.cons rfl (fun K hK => ?_) AllReadyH.nil)
              go_simp
              refine hK.out _ _ ?_ (fun hHeld => ?_)
              · ((try dsimp only); (try dsimp only at hHeld); exact KS.out _ (by with_reducible repeat (first | exact Below.refl _ _ | refine bdr ?_ _ | refine Below.drew ?_ | refine ball ?_ _)))
              clear hK K
              try dsimp only at hHeld
              try simp only [Act.put, za1, za2, za3, za4, za5, za6]
              refine zt 11 ?_ rfl (by kernel_rfl) (fun _ _ _ h => h) ⟨rfl, ?_⟩ hHeld ?_
              rotate_left
              focus (intro wx hSw; (try dsimp only at hSw); (try go_split_ands); go_simp; (try with_reducible rfl))
              try simp only [Act.put, za1, za2, za3, za4, za5, za6]
              refine wpAnyH_ready (rs := [12]) (by kernel_rfl) (by simp) (AllReadyH.cons rfl (fun K hK => ?_) AllReadyH.nil)
              go_simp
              have PW := Lib.hid (PTR.out ((w9.drew.alloc (.cells #[.int .u32 (p : Int), .int .u32 (q : Int)] 30)).alloc (.cells #[.string xs, .int .u32 xp, .int .u16 xq] 37)) (w9.heap.size) (w9.heap.size + 1) (ball (ball (Below.drew (Below.refl _ _)) _) _) ((Blk.new w9.drew _ _).alloc _) (by have := Blk.new (w9.drew.alloc (.cells #[.int .u32 (p : Int), .int .u32 (q : Int)] 30)) 37 #[.string xs, .int .u32 xp, .int .u16 xq]; rw [alloc_size] at this; exact this))
              refine PW.out.mono ?_
              rintro e10 w10 ⟨P3, Y3, rfl, ch10, ev10, ne10⟩
              have E10 : Hid (EvT (ChO Bc P2 Y2) w9 w10) := Lib.hid ((EvT.of_below (O := ChO Bc P2 Y2) (ball (ball (Below.drew (Below.refl w9.heap.size w9)) (.cells #[.int .u32 (p : Int), .int .u32 (q : Int)] 30)) (.cells #[.string xs, .int .u32 xp, .int .u16 xq] 37))).trans ev10 (fun b e => .inl e))
              have KS10 := Lib.hid (And.intro (cell66 (E10.out.blk HP9.out.1.blk (HP9.out.1.ch.ne HP9.out.1.blk (by decide) (by decide) (by decide))) HG.out.2.2.2.2.2.2.2.2.2) (have b2 := E10.out.blk HP9.out.2 (HP9.out.1.ch.ne HP9.out.2 (by decide) (by decide) (by decide)); And.intro (b2.cell 0) (And.intro (b2.cell 1) (b2.cell 2))))
              have C10 := Lib.hid ch10
              clear ch10 ev10 ne10
              go_wp2_with fail
              refine hK.out _ _ ?_ (fun hHeld => ?_)
              · ((try dsimp only); (try dsimp only at hHeld); exact KS10.out)
              clear hK K
              try dsimp only at hHeld
              try simp only [Act.put, za1, za2, za3, za4, za5, za6]
              refine zt 13 ?_ rfl (by kernel_rfl) (fun _ _ _ h => h) ⟨rfl, ?_⟩ hHeld ?_
              rotate_left
              focus (intro wx hSw; (try dsimp only at hSw); (try go_split_ands); go_simp; (try with_reducible rfl))
              try simp only [Act.put, za1, za2, za3, za4, za5, za6]
              refine zt 14 ?_ rfl (by kernel_rfl) (fun _ _ _ h => h) ⟨rfl, ?_⟩ hHeld ?_
              rotate_left
              focus (intro wx hSw; (try dsimp only at hSw); (try go_split_ands); go_simp; (try with_reducible rfl))
              try simp only [Act.put, za1, za2, za3, za4, za5, za6]
              refine wpAnyH_done (by kernel_rfl) ?_ _
              go_wp2_with fail
              go_ret2
              have ch10 := C10.out
              rw [← map_fst_snoc wr2 r (kidL [p, q] [⟨xs, xp, xq⟩]), ← map_snd_snoc wr2 r (kidL [p, q] [⟨xs, xp, xq⟩])] at ch10
              have B10 := HP9.out.1.put E10.out ch10
              unfold RetSet
              rw [setR_upS H12.out Hfr2.out]
              refine ⟨B10.dp, B10.lf, rfl, ⟨P3, Y3, B10.ch⟩, fun qq hqq => ?_, ?_⟩
              · rcases List.mem_append.1 hqq with h | h
                · exact HG.out.2.2.1 qq h
                · rw [List.mem_singleton] at h
                  rw [h]
                  have : xs.size ≤ 200 := HG.out.2.2.2.2.2.2.1.2
                  exact kidL_len (by simp [sumE]; omega) rfl
              · rw [List.length_append, List.length_singleton]
                have := HG.out.2.2.2.2.2.1
                omega
            · go_simp
              refine hK.out _ _ ?_ (fun hHeld => ?_)
              · ((try dsimp only); (try dsimp only at hHeld); exact KS.out _ (by with_reducible repeat (first | exact Below.refl _ _ | refine bdr ?_ _ | refine Below.drew ?_ | refine ball ?_ _)))
              clear hK K
              try dsimp only at hHeld
              try simp only [Act.put, za1, za2, za3, za4, za5, za6]
              refine wpAnyH_ready (rs := [8]) (by kernel_rfl) (by simp) (AllReadyH.cons rfl (fun K hK => ?_) AllReadyH.nil)
              go_simp
              refine hK.out _ _ ?_ (fun hHeld => ?_)
              · ((try dsimp only); (try dsimp only at hHeld); exact KS.out _ (by with_reducible repeat (first | exact Below.refl _ _ | refine bdr ?_ _ | refine Below.drew ?_ | refine ball ?_ _)))
              clear hK K
              try dsimp only at hHeld
              try simp only [Act.put, za1, za2, za3, za4, za5, za6]
              refine zt 11 ?_ rfl (by kernel_rfl) (fun _ _ _ h => h) ⟨rfl, ?_⟩ hHeld ?_
              rotate_left
              focus (intro wx hSw; (try dsimp only at hSw); (try go_split_ands); go_simp; (try with_reducible rfl))
              try simp only [Act.put, za1, za2, za3, za4, za5, za6]
              refine wpAnyH_ready (rs := [12]) (by kernel_rfl) (by simp) (AllReadyH.cons rfl (fun K hK => ?_) AllReadyH.nil)
              go_simp
              have PW := Lib.hid (PTR.out ((w9.drew.alloc (.cells #[.string xs, .int .u32 xp, .int .u16 xq] 37)).alloc (.cells #[.int .u32 (p : Int), .int .u32 (q : Int)] 30)) (w9.heap.size + 1) (w9.heap.size) (ball (ball (Below.drew (Below.refl _ _)) _) _) (by have := Blk.new (w9.drew.alloc (.cells #[.string xs, .int .u32 xp, .int .u16 xq] 37)) 30 #[.int .u32 (p : Int), .int .u32 (q : Int)]; rw [alloc_size] at this; exact this) ((Blk.new w9.drew _ _).alloc _))
              refine PW.out.mono ?_
              rintro e10 w10 ⟨P3, Y3, rfl, ch10, ev10, ne10⟩
              have E10 : Hid (EvT (ChO Bc P2 Y2) w9 w10) := Lib.hid ((EvT.of_below (O := ChO Bc P2 Y2) (ball (ball (Below.drew (Below.refl w9.heap.size w9)) (.cells #[.string xs, .int .u32 xp, .int .u16 xq] 37)) (.cells #[.int .u32 (p : Int), .int .u32 (q : Int)] 30))).trans ev10 (fun b e => .inl e))
              have KS10 := Lib.hid (And.intro (cell66 (E10.out.blk HP9.out.1.blk (HP9.out.1.ch.ne HP9.out.1.blk (by decide) (by decide) (by decide))) HG.out.2.2.2.2.2.2.2.2.2) (have b2 := E10.out.blk HP9.out.2 (HP9.out.1.ch.ne HP9.out.2 (by decide) (by decide) (by decide)); And.intro (b2.cell 0) (And.intro (b2.cell 1) (b2.cell 2))))
              have C10 := Lib.hid ch10
              clear ch10 ev10 ne10
              go_wp2_with fail
              refine hK.out _ _ ?_ (fun hHeld => ?_)
              · ((try dsimp only); (try dsimp only at hHeld); exact KS10.out)
              clear hK K
              try dsimp only at hHeld
              try simp only [Act.put, za1, za2, za3, za4, za5, za6]
              refine zt 13 ?_ rfl (by kernel_rfl) (fun _ _ _ h => h) ⟨rfl, ?_⟩ hHeld ?_
              rotate_left
              focus (intro wx hSw; (try dsimp only at hSw); (try go_split_ands); go_simp; (try with_reducible rfl))
              try simp only [Act.put, za1, za2, za3, za4, za5, za6]
              refine zt 14 ?_ rfl (by kernel_rfl) (fun _ _ _ h => h) ⟨rfl, ?_⟩ hHeld ?_
              rotate_left
              focus (intro wx hSw; (try dsimp only at hSw); (try go_split_ands); go_simp; (try with_reducible rfl))
              try simp only [Act.put, za1, za2, za3, za4, za5, za6]
              refine wpAnyH_done (by kernel_rfl) ?_ _
              go_wp2_with fail
              go_ret2
              have ch10 := C10.out
              rw [← map_fst_snoc wr2 r (kidL [p, q] [⟨xs, xp, xq⟩]), ← map_snd_snoc wr2 r (kidL [p, q] [⟨xs, xp, xq⟩])] at ch10
              have B10 := HP9.out.1.put E10.out ch10
              unfold RetSet
              rw [setR_upS H12.out Hfr2.out]
              refine ⟨B10.dp, B10.lf, rfl, ⟨P3, Y3, B10.ch⟩, fun qq hqq => ?_, ?_⟩
              · rcases List.mem_append.1 hqq with h | h
                · exact HG.out.2.2.1 qq h
                · rw [List.mem_singleton] at h
                  rw [h]
                  have : xs.size ≤ 200 := HG.out.2.2.2.2.2.2.1.2
                  exact kidL_len (by simp [sumE]; omega) rfl
              · rw [List.length_append, List.length_singleton]
                have := HG.out.2.2.2.2.2.1
                omega
       ·
        obtain ⟨i', hi'⟩ : ∃ i', i = i' + 1 := ⟨i - 1, by omega⟩
        have hid0 : decide ((0 : Int) < (i : Int)) = true := by simp; omega
        have hid1 : decide (0 < i) = true := by simp; omega
        have hi1 : (i : Int) - 1 = (i' : Int) := by omega
        have g0 : (0 : Int) ≤ (i' : Int) := by omega
        have g1 : (i' : Int) < (way : Int) := by omega
        obtain ⟨s, ss', hss⟩ : ∃ s ss', ss = s :: ss' := by
         cases ss with
         | nil => have := HG.out.1.ssl; rw [List.length_nil] at this; omega
         | cons a r => exact ⟨a, r, rfl⟩
        obtain ⟨f, fs', hfs⟩ : ∃ f fs', fs = f :: fs' := by
         cases fs with
         | nil => have := HG.out.1.wy.len; rw [hss] at this; simp at this
         | cons a r => exact ⟨a, r, rfl⟩
        subst hss
        subst hfs
        obtain ⟨m', BP, SI, hso, hsc⟩ := HG.out.1.pop hi'
        obtain ⟨sp1, sp2, sp3⟩ := HG.out.2.2.2.1
        obtain ⟨sq1, sq2, sq3⟩ := sp2 _ _ _ _ rfl
        have Hi := Lib.hid (And.intro hi hi')
        clear hi hi' sp2
        obtain ⟨slf, sN, sk2, se2, spp, si⟩ := s
        obtain ⟨e1, e2, e3, e4, e5, e6⟩ := SI
        simp only at e1 e2 e3 e4 e5 e6
        subst e1; subst e2; subst e3; subst e4
        have t3 : cs2[i' * 6 + 3]? = some (.slice se2.A se2.n se2.c) := hsc 3 (by decide)
        have t2 : cs2[i' * 6 + 2]? = some (.slice sk2.A sk2.n sk2.c) := hsc 2 (by decide)
        have t5 : cs2[i' * 6 + 5]? = some (.int .i64 (f.i : Int)) := hsc 5 (by decide)
        have t0 : cs2[i' * 6 + 0]? = some (.bool false) := hsc 0 (by decide)
        have t1 : cs2[i' * 6 + 1]? = some (.int .u32 0) := hsc 1 (by decide)
        have t4 : cs2[i' * 6 + 4]? = some (.int .u32 (f.p : Int)) := hsc 4 (by decide)
        rw [Nat.add_zero] at t0
        have hkn : sk2.n = f.seps.length + 1 := by have := e5.1; rw [vN_len] at this; omega
        have hen : se2.n = f.seps.length := by have := e6.1; rw [vE_len] at this; omega
        have hsl : f.seps.length ≤ 712 := by
         have h7 := sq3.sz
         have h7 : sumE (insI f.seps f.i ⟨xs, xp, xq⟩) + 4 * (insI f.seps f.i ⟨xs, xp, xq⟩).length ≤ 712 := h7
         rw [insI_len _ _ _ sq1] at h7
         omega
        have y3 := cell66 BP.blk t3
        have y2 := cell66 BP.blk t2
        have y5 := cell66 BP.blk t5
        have f3 := BP.blk.frozen (i' * 6 + 3)
        have IE := Lib.hid (insE_any (w := w8.drew.alloc (.cells #[.string xs, .int .u32 xp, .int .u16 xq] 37)) (base := m') (n := se2.n) (c := se2.c) (g := w8.heap.size) (i := f.i) (A := se2.A) (xs := vE f.seps) (news := [.string xs, .int .u32 xp, .int .u16 xq]) (own_below e6 (ball (Below.drew (Below.refl _ _)) _)) (by omega) (by rw [alloc_size]; show m' ≤ w8.heap.size + 1; have := BP.mz; have := BP.zW; omega) (by omega) (Blk.new w8.drew _ _) rfl (fun u hu => by
         rcases List.mem_append.1 hu with hu | hu
         · exact vE_one66 _ u hu
         · exact vE_one66 [⟨xs, xp, xq⟩] u hu) (fun e => by
         have h1 : se2.own w8.heap.size := by
          show (Value.slice se2.A se2.n se2.c).ownBlock = _
          rw [ownB]; exact e
         have := (World.ownsRow.lt e6 _ h1).2
         omega))
        have KS := Lib.hid (show ∀ W, Below w8.heap.size w8 W → W.cell? ⟨Bw, i' * 6 + 5, none⟩ = some (.int .i64 (f.i : Int)) ∧ W.cell? ⟨w2.heap.size, 0, none⟩ = some (.string xs) ∧ W.cell? ⟨w2.heap.size, 1, none⟩ = some (.int .u32 xp) ∧ W.cell? ⟨w2.heap.size, 2, none⟩ = some (.int .u16 xq) from fun W hb => by
         have b1 := BP.blk.below hb BP.blk.lt
         have b2 := HG.out.2.1.below hb HG.out.2.1.lt
         exact ⟨cell66 b1 t5, b2.cell 0, b2.cell 1, b2.cell 2⟩)
        have HQ := Lib.hid (And.intro BP (And.intro e5 (And.intro e6 (And.intro hso (And.intro sq1 (And.intro sq2 (And.intro sq3 sp3)))))))
        have HT := Lib.hid (And.intro t0 (And.intro t1 (And.intro t2 (And.intro t3 (And.intro t4 t5)))))
        have HL := Lib.hid (And.intro hkn (And.intro hen (And.intro hsl sp1)))
        clear BP e5 e6 hso sq1 sq2 sq3 sp3 t0 t1 t2 t3 t4 t5 hkn hen hsl sp1 hsc
        go_upto_region 18 with fail
        go_cut [] (fun wx => ∃ e2 : S11, Blk wx Bw 77 (cs2.setIfInBounds (i' * 6 + 3) e2.v) ∧ wx.ownsRow m' 37 3 e2.v e2.n (vE (insI f.seps f.i ⟨xs, xp, xq⟩)) ∧ EvT (fun b => se2.own b ∨ b = Bw) w8 wx ∧ ∀ b, e2.own b → se2.own b ∨ w8.heap.size ≤ b)
        case first =>
         refine wp_region_held_drew (S := (fun W => W.cell? ⟨Bw, i' * 6 + 5, none⟩ = some (.int .i64 (f.i : Int)) ∧ W.cell? ⟨w2.heap.size, 0, none⟩ = some (.string xs) ∧ W.cell? ⟨w2.heap.size, 1, none⟩ = some (.int .u32 xp) ∧ W.cell? ⟨w2.heap.size, 2, none⟩ = some (.int .u16 xq))) (by kernel_rfl) (by exact KS.out _ (Below.drew (Below.refl _ _))) (fun hHeld => ?_)
         try dsimp only at hHeld
         refine zt 0 ?_ rfl (by kernel_rfl) (fun _ _ _ h => h) ⟨rfl, ?_⟩ hHeld ?_
         rotate_left
         focus (intro wx hSw; (try dsimp only at hSw); (try go_split_ands); go_simp; (try with_reducible rfl))
         try simp only [Act.put, za1, za2, za3, za4, za5, za6]
         refine zt 1 ?_ rfl (by kernel_rfl) (fun _ _ _ h => h) ⟨rfl, ?_⟩ hHeld ?_
         rotate_left
         focus (intro wx hSw; (try dsimp only at hSw); (try go_split_ands); go_simp; (try with_reducible rfl))
         try simp only [Act.put, za1, za2, za3, za4, za5, za6]
         refine zt 2 ?_ rfl (by kernel_rfl) (fun _ _ _ h => h) ⟨rfl, ?_⟩ hHeld ?_
         rotate_left
         focus (intro wx hSw; (try dsimp only at hSw); (try go_split_ands); go_simp; (try with_reducible rfl))
         try simp only [Act.put, za1, za2, za3, za4, za5, za6]
         refine zt 3 ?_ rfl (by kernel_rfl) (fun _ _ _ h => h) ⟨rfl, ?_⟩ hHeld ?_
         rotate_left
         focus (intro wx hSw; (try dsimp only at hSw); (try go_split_ands); go_simp; (try with_reducible rfl))
         try simp only [Act.put, za1, za2, za3, za4, za5, za6]
         refine zt 4 ?_ rfl (by kernel_rfl) (fun _ _ _ h => h) ⟨rfl, ?_⟩ hHeld ?_
         rotate_left
         focus (intro wx hSw; (try dsimp only at hSw); (try go_split_ands); go_simp; (try with_reducible rfl))
         try simp only [Act.put, za1, za2, za3, za4, za5, za6]
         refine zt 6 ?_ rfl (by kernel_rfl) (fun _ _ _ h => h) ⟨rfl, ?_⟩ hHeld ?_
         rotate_left
         focus (intro wx hSw; (try dsimp only at hSw); (try go_split_ands); go_simp; (try with_reducible rfl))
         try simp only [Act.put, za1, za2, za3, za4, za5, za6]
         refine zt 7 ?_ rfl (by kernel_rfl) (fun _ _ _ h => h) ⟨rfl, ?_⟩ hHeld ?_
         rotate_left
         focus (intro wx hSw; (try dsimp only at hSw); (try go_split_ands); go_simp; (try with_reducible rfl))
         try simp only [Act.put, za1, za2, za3, za4, za5, za6]
         refine zt 8 ?_ rfl (by kernel_rfl) (fun _ _ _ h => h) ⟨rfl, ?_⟩ hHeld ?_
         rotate_left
         focus (intro wx hSw; (try dsimp only at hSw); (try go_split_ands); go_simp; (try with_reducible rfl))
         try simp only [Act.put, za1, za2, za3, za4, za5, za6]
         refine zt 9 ?_ rfl (by kernel_rfl) (fun _ _ _ h => h) ⟨rfl, ?_⟩ hHeld ?_
         rotate_left
         focus (intro wx hSw; (try dsimp only at hSw); (try go_split_ands); go_simp; (try with_reducible rfl))
         try simp only [Act.put, za1, za2, za3, za4, za5, za6]
         refine zt 10 ?_ rfl (by kernel_rfl) (fun _ _ _ h => h) ⟨rfl, ?_⟩ hHeld ?_
         rotate_left
         focus (intro wx hSw; (try dsimp only at hSw); (try go_split_ands); go_simp; (try with_reducible rfl))
         try simp only [Act.put, za1, za2, za3, za4, za5, za6]
         refine wpAnyH_ready (rs := [5, 11]) (by kernel_rfl) (by simp) (AllReadyH.cons rfl (fun K hK => ?_) (AllReadyH.cons rfl (fun K hK => ?_) AllReadyH.nil))
         · go_simp
           refine hK.out _ _ ?_ (fun hHeld => ?_)
           · ((try dsimp only); (try dsimp only at hHeld); exact KS.out _ (by with_reducible repeat (first | exact Below.refl _ _ | refine bdr ?_ _ | refine Below.drew ?_ | refine ball ?_ _)))
           clear hK K
           try dsimp only at hHeld
           try simp only [Act.put, za1, za2, za3, za4, za5, za6]
           refine wpAnyH_ready (rs := [11]) (by kernel_rfl) (by simp) (AllReadyH.cons rfl (fun K hK => ?_) AllReadyH.nil)
           go_simp
           refine hK.out _ _ ?_ (fun hHeld => ?_)
           · ((try dsimp only); (try dsimp only at hHeld); exact KS.out _ (by with_reducible repeat (first | exact Below.refl _ _ | refine bdr ?_ _ | refine Below.drew ?_ | refine ball ?_ _)))
           clear hK K
           try dsimp only at hHeld
           try simp only [Act.put, za1, za2, za3, za4, za5, za6]
           refine wpAnyH_ready (rs := [12]) (by kernel_rfl) (by simp) (AllReadyH.cons rfl (fun K hK => ?_) AllReadyH.nil)
           go_simp
           refine IE.out.mono ?_
           rintro e10 w10 ⟨A10, c10, rfl, ho10, ev10, nb10⟩
           have E10 : EvT se2.own w8 w10 := (EvT.of_below (O := se2.own) (ball (Below.drew (Below.refl w8.heap.size w8)) (.cells #[.string xs, .int .u32 xp, .int .u16 xq] 37))).trans (ev10.mono (O' := se2.own) fun b hb => .inl (by show (Value.slice _ _ _).ownBlock = _; rw [ownB]; exact hb)) (fun b e => .inl e)
           have hnB : ¬ se2.own Bw := own_blk_ne HQ.out.2.2.1 HQ.out.1.blk (by decide)
           have b10 := E10.blk HQ.out.1.blk hnB
           have x10 := E10.blk HG.out.2.1 (fun h => by have := (HQ.out.2.2.2.1 _ (.inr h)).2.1; have := H2.out.1.zW; omega)
           have KS10 := Lib.hid (And.intro (cell66 b10 HT.out.2.2.2.2.2) (And.intro (x10.cell 0) (And.intro (x10.cell 1) (x10.cell 2))))
           have KS11 := Lib.hid (fun (u : Value) => And.intro (cell66 (j := i' * 6 + 5) (b10.set_ (i' * 6 + 3) u) ((set_ne66 (by omega)).trans HT.out.2.2.2.2.2)) (have x11 := x10.far (p := ⟨Bw, i' * 6 + 3, none⟩) (fun h => by have h : w2.heap.size = Bw := h; have := H2.out.1.bw; have := H2.out.1.zW; omega) u; And.intro (x11.cell 0) (And.intro (x11.cell 1) (x11.cell 2))))
           have d10 := cell66 b10 HT.out.2.2.2.1
           have f10 := b10.frozen (i' * 6 + 3)
           have l10 := b10.lt
           have C10 := Lib.hid (And.intro b10 (And.intro ho10 (And.intro E10 nb10)))
           clear b10 ho10 E10 ev10 nb10 hnB x10
           go_wp2_with fail
           refine hK.out _ _ ?_ (fun hHeld => ?_)
           · ((try dsimp only); (try dsimp only at hHeld); exact KS10.out)
           clear hK K
           try dsimp only at hHeld
           try simp only [Act.put, za1, za2, za3, za4, za5, za6]
           refine zt 13 ?_ rfl (by kernel_rfl) (fun _ _ _ h => h) ⟨rfl, ?_⟩ hHeld ?_
           rotate_left
           focus (intro wx hSw; (try dsimp only at hSw); (try go_split_ands); go_simp; (try with_reducible rfl))
           try simp only [Act.put, za1, za2, za3, za4, za5, za6]
           refine zt 14 ?_ rfl (by kernel_rfl) (fun _ _ _ h => h) ⟨rfl, ?_⟩ hHeld ?_
           rotate_left
           focus (intro wx hSw; (try dsimp only at hSw); (try go_split_ands); go_simp; (try with_reducible rfl))
           try simp only [Act.put, za1, za2, za3, za4, za5, za6]
           refine zt 15 ?_ rfl (by kernel_rfl) (fun _ _ _ h => h) ⟨rfl, ?_⟩ hHeld ?_
           rotate_left
           focus (intro wx hSw; (try dsimp only at hSw); (try go_split_ands); go_simp; (try with_reducible rfl))
           try simp only [Act.put, za1, za2, za3, za4, za5, za6]
           refine wpAnyH_ready (rs := [16]) (by kernel_rfl) (by simp) (AllReadyH.cons rfl (fun K hK => ?_) AllReadyH.nil)
           go_simp
           refine hK.out _ _ ?_ (fun hHeld => ?_)
           · ((try dsimp only); (try dsimp only at hHeld); exact KS11.out _)
           clear hK K
           try dsimp only at hHeld
           try simp only [Act.put, za1, za2, za3, za4, za5, za6]
           refine wpAnyH_done (by kernel_rfl) ?_ _
           go_wp2_with fail
           go_meet
           refine ⟨⟨A10, se2.n + 1, c10⟩, C10.out.1.set_ _ _, (by have h := C10.out.2.1; rw [vE_ins3 f.seps f.i xs xp xq] at h; exact far_own66 h C10.out.1 (by decide) _ _), (C10.out.2.2.1.mono (O' := fun b => se2.own b ∨ b = Bw) fun b e => .inl (.inl e)).store (p := ⟨Bw, i' * 6 + 3, none⟩) (.inr (.inr rfl)) _, fun b hb => ?_⟩
           have hb : (Value.slice A10 (se2.n + 1) c10).ownBlock = some b := hb
           rw [ownB] at hb
           rcases C10.out.2.2.2 b hb with h | h
           · left; show (Value.slice _ _ _).ownBlock = _; rw [ownB]; exact h
           · right; rw [alloc_size] at h; have h : w8.heap.size + 1 ≤ b := h; omega
         · go_simp
           refine hK.out _ _ ?_ (fun hHeld => ?_)
           · ((try dsimp only); (try dsimp only at hHeld); exact KS.out _ (by with_reducible repeat (first | exact Below.refl _ _ | refine bdr ?_ _ | refine Below.drew ?_ | refine ball ?_ _)))
           clear hK K
           try dsimp only at hHeld
           try simp only [Act.put, za1, za2, za3, za4, za5, za6]
           refine wpAnyH_ready (rs := [5]) (by kernel_rfl) (by simp) (AllReadyH.cons rfl (fun K hK => ?_) AllReadyH.nil)
           go_simp
           refine hK.out _ _ ?_ (fun hHeld => ?_)
           · ((try dsimp only); (try dsimp only at hHeld); exact KS.out _ (by with_reducible repeat (first | exact Below.refl _ _ | refine bdr ?_ _ | refine Below.drew ?_ | refine ball ?_ _)))
           clear hK K
           try dsimp only at hHeld
           try simp only [Act.put, za1, za2, za3, za4, za5, za6]
           refine wpAnyH_ready (rs := [12]) (by kernel_rfl) (by simp) (AllReadyH.cons rfl (fun K hK => ?_) AllReadyH.nil)
           go_simp
           refine IE.out.mono ?_
           rintro e10 w10 ⟨A10, c10, rfl, ho10, ev10, nb10⟩
           have E10 : EvT se2.own w8 w10 := (EvT.of_below (O := se2.own) (ball (Below.drew (Below.refl w8.heap.size w8)) (.cells #[.string xs, .int .u32 xp, .int .u16 xq] 37))).trans (ev10.mono (O' := se2.own) fun b hb => .inl (by show (Value.slice _ _ _).ownBlock = _; rw [ownB]; exact hb)) (fun b e => .inl e)
           have hnB : ¬ se2.own Bw := own_blk_ne HQ.out.2.2.1 HQ.out.1.blk (by decide)
           have b10 := E10.blk HQ.out.1.blk hnB
           have x10 := E10.blk HG.out.2.1 (fun h => by have := (HQ.out.2.2.2.1 _ (.inr h)).2.1; have := H2.out.1.zW; omega)
           have KS10 := Lib.hid (And.intro (cell66 b10 HT.out.2.2.2.2.2) (And.intro (x10.cell 0) (And.intro (x10.cell 1) (x10.cell 2))))
           have KS11 := Lib.hid (fun (u : Value) => And.intro (cell66 (j := i' * 6 + 5) (b10.set_ (i' * 6 + 3) u) ((set_ne66 (by omega)).trans HT.out.2.2.2.2.2)) (have x11 := x10.far (p := ⟨Bw, i' * 6 + 3, none⟩) (fun h => by have h : w2.heap.size = Bw := h; have := H2.out.1.bw; have := H2.out.1.zW; omega) u; And.intro (x11.cell 0) (And.intro (x11.cell 1) (x11.cell 2))))
           have d10 := cell66 b10 HT.out.2.2.2.1
           have f10 := b10.frozen (i' * 6 + 3)
           have l10 := b10.lt
           have C10 := Lib.hid (And.intro b10 (And.intro ho10 (And.intro E10 nb10)))
           clear b10 ho10 E10 ev10 nb10 hnB x10
           go_wp2_with fail
           refine hK.out _ _ ?_ (fun hHeld => ?_)
           · ((try dsimp only); (try dsimp only at hHeld); exact KS10.out)
           clear hK K
           try dsimp only at hHeld
           try simp only [Act.put, za1, za2, za3, za4, za5, za6]
           refine zt 13 ?_ rfl (by kernel_rfl) (fun _ _ _ h => h) ⟨rfl, ?_⟩ hHeld ?_
           rotate_left
           focus (intro wx hSw; (try dsimp only at hSw); (try go_split_ands); go_simp; (try with_reducible rfl))
           try simp only [Act.put, za1, za2, za3, za4, za5, za6]
           refine zt 14 ?_ rfl (by kernel_rfl) (fun _ _ _ h => h) ⟨rfl, ?_⟩ hHeld ?_
           rotate_left
           focus (intro wx hSw; (try dsimp only at hSw); (try go_split_ands); go_simp; (try with_reducible rfl))
           try simp only [Act.put, za1, za2, za3, za4, za5, za6]
           refine zt 15 ?_ rfl (by kernel_rfl) (fun _ _ _ h => h) ⟨rfl, ?_⟩ hHeld ?_
           rotate_left
           focus (intro wx hSw; (try dsimp only at hSw); (try go_split_ands); go_simp; (try with_reducible rfl))
           try simp only [Act.put, za1, za2, za3, za4, za5, za6]
           refine wpAnyH_ready (rs := [16]) (by kernel_rfl) (by simp) (AllReadyH.cons rfl (fun K hK => ?_) AllReadyH.nil)
           go_simp
           refine hK.out _ _ ?_ (fun hHeld => ?_)
           · ((try dsimp only); (try dsimp only at hHeld); exact KS11.out _)
           clear hK K
           try dsimp only at hHeld
           try simp only [Act.put, za1, za2, za3, za4, za5, za6]
           refine wpAnyH_done (by kernel_rfl) ?_ _
           go_wp2_with fail
           go_meet
           refine ⟨⟨A10, se2.n + 1, c10⟩, C10.out.1.set_ _ _, (by have h := C10.out.2.1; rw [vE_ins3 f.seps f.i xs xp xq] at h; exact far_own66 h C10.out.1 (by decide) _ _), (C10.out.2.2.1.mono (O' := fun b => se2.own b ∨ b = Bw) fun b e => .inl (.inl e)).store (p := ⟨Bw, i' * 6 + 3, none⟩) (.inr (.inr rfl)) _, fun b hb => ?_⟩
           have hb : (Value.slice A10 (se2.n + 1) c10).ownBlock = some b := hb
           rw [ownB] at hb
           rcases C10.out.2.2.2 b hb with h | h
           · left; show (Value.slice _ _ _).ownBlock = _; rw [ownB]; exact h
           · right; rw [alloc_size] at h; have h : w8.heap.size + 1 ≤ b := h; omega
        case rest =>
         obtain ⟨e2, hB9, ho9, ev9, nb9⟩ := hcut
         rename World => w9
         have hO9 : ∀ b, se2.own b ∨ b = Bw → m' ≤ b ∧ b < z ∨ b = Bw := fun b hb => hb.imp (fun k => ⟨(HQ.out.2.2.2.1 b (.inr k)).1, (HQ.out.2.2.2.1 b (.inr k)).2.1⟩) id
         have B9 := HQ.out.1.evw ev9 hO9 hB9 (fun j hj => Array.getElem?_setIfInBounds_ne (by omega))
         have ok9 := ev9.own HQ.out.2.1 (fun b hb h => by
          rcases h with h | h
          · obtain ⟨cs', hb'⟩ := own_blk17 HQ.out.2.1 hb
            exact own_blk_ne HQ.out.2.2.1 hb' (by decide) h
          · exact (HQ.out.2.2.2.1 b (.inl hb)).2.2 h)
         have hz9 := ev9.size
         have hcz : cs2.size = (cs2.setIfInBounds (i' * 6 + 3) e2.v).size := by simp
         have t2' : (cs2.setIfInBounds (i' * 6 + 3) e2.v)[i' * 6 + 2]? = some (.slice sk2.A sk2.n sk2.c) := by rw [Array.getElem?_setIfInBounds_ne (by omega)]; exact HT.out.2.2.1
         have t5' : (cs2.setIfInBounds (i' * 6 + 3) e2.v)[i' * 6 + 5]? = some (.int .i64 (f.i : Int)) := by rw [Array.getElem?_setIfInBounds_ne (by omega)]; exact HT.out.2.2.2.2.2
         have t3' : (cs2.setIfInBounds (i' * 6 + 3) e2.v)[i' * 6 + 3]? = some e2.v := by
          have := (Array.getElem?_eq_some_iff.1 HT.out.2.2.2.1).1
          rw [Array.getElem?_setIfInBounds_self_of_lt this]
         obtain ⟨cs3, hcs3⟩ : ∃ x, cs2.setIfInBounds (i' * 6 + 3) e2.v = x := ⟨_, rfl⟩
         have hc3 : ∀ j, j ≠ i' * 6 + 3 → cs3[j]? = cs2[j]? := fun j hj => by rw [← hcs3]; exact Array.getElem?_setIfInBounds_ne (fun e => hj e.symm)
         rw [hcs3] at B9 hB9 t2' t5' t3'
         clear hcs3 hcz hO9
         clear y2 y5 f3 KS IE y3
         have y2 := cell66 B9.blk t2'
         have y5 := cell66 B9.blk t5'
         have f2 := B9.blk.frozen (i' * 6 + 2)
         have l9 := B9.blk.lt
         have IN := Lib.hid (insN_any (w := w9.drew.alloc (.cells #[.int .u32 (q : Int)] 30)) (base := m') (n := sk2.n) (c := sk2.c) (g := w9.heap.size) (i := f.i + 1) (A := sk2.A) (xs := vN f.kids) (news := [.int .u32 (q : Int)]) (own_below ok9 (ball (Below.drew (Below.refl _ _)) _)) (by have := HL.out; omega) (by rw [alloc_size]; show m' ≤ w9.heap.size + 1; have := B9.mz; have := B9.zW; omega) (by have := HL.out; have := HQ.out.2.2.2.2.1; omega) (Blk.new w9.drew _ _) rfl (fun u hu => by
          rcases List.mem_append.1 hu with hu | hu
          · exact vN_one66 _ u hu
          · exact vN_one66 [q] u hu) (fun e => by
          have h1 : sk2.own w9.heap.size := by
           show (Value.slice sk2.A sk2.n sk2.c).ownBlock = _
           rw [ownB]; exact e
          have := (World.ownsRow.lt ok9 _ h1).2
          omega))
         have gi1 : (f.i : Int) ≤ 712 := by have := HL.out; have := HQ.out.2.2.2.2.1; omega
         have gi : IntKind.i64.wrap ((f.i : Int) + 1) = (f.i : Int) + 1 := IntWalk.i64_in _ ⟨by omega, by omega⟩
         clear gi1
         have KN := Lib.hid (show ∀ W, Below w9.heap.size w9 W → W.cell? ⟨Bw, i' * 6 + 5, none⟩ = some (.int .i64 (f.i : Int)) from fun W hb => cell66 (B9.blk.below hb B9.blk.lt) t5')
         have HR := Lib.hid (And.intro B9 (And.intro ok9 (And.intro ho9 (And.intro nb9 (And.intro t3' hc3)))))
         have HTT := Lib.hid (And.intro t2' t5')
         clear B9 ok9 ho9 nb9 t3' hc3 t2' t5' hB9 ev9
         go_upto_region 19 with fail
         go_cut [] (fun wx => ∃ k2 : S11, Blk wx Bw 77 (cs3.setIfInBounds (i' * 6 + 2) k2.v) ∧ wx.ownsRow m' 30 1 k2.v k2.n (vN (insI f.kids (f.i + 1) q)) ∧ EvT (fun b => sk2.own b ∨ b = Bw) w9 wx ∧ ∀ b, k2.own b → sk2.own b ∨ w9.heap.size ≤ b)
         case first =>
          refine wp_region_held_drew (S := (fun W => W.cell? ⟨Bw, i' * 6 + 5, none⟩ = some (.int .i64 (f.i : Int)))) (by kernel_rfl) (by exact KN.out _ (Below.drew (Below.refl _ _))) (fun hHeld => ?_)
          try dsimp only at hHeld
          refine zt 0 ?_ rfl (by kernel_rfl) (fun _ _ _ h => h) ⟨rfl, ?_⟩ hHeld ?_
          rotate_left
          focus (intro wx hSw; (try dsimp only at hSw); (try go_split_ands); go_simp; (try with_reducible rfl))
          try simp only [Act.put, za1, za2, za3, za4, za5, za6]
          refine zt 1 ?_ rfl (by kernel_rfl) (fun _ _ _ h => h) ⟨rfl, ?_⟩ hHeld ?_
          rotate_left
          focus (intro wx hSw; (try dsimp only at hSw); (try go_split_ands); go_simp; (try with_reducible rfl))
          try simp only [Act.put, za1, za2, za3, za4, za5, za6]
          refine zt 2 ?_ rfl (by kernel_rfl) (fun _ _ _ h => h) ⟨rfl, ?_⟩ hHeld ?_
          rotate_left
          focus (intro wx hSw; (try dsimp only at hSw); (try go_split_ands); go_simp; (try with_reducible rfl))
          try simp only [Act.put, za1, za2, za3, za4, za5, za6]
          refine zt 3 ?_ rfl (by kernel_rfl) (fun _ _ _ h => h) ⟨rfl, ?_⟩ hHeld ?_
          rotate_left
          focus (intro wx hSw; (try dsimp only at hSw); (try go_split_ands); go_simp; (try with_reducible rfl))
          try simp only [Act.put, za1, za2, za3, za4, za5, za6]
          refine zt 4 ?_ rfl (by kernel_rfl) (fun _ _ _ h => h) ⟨rfl, ?_⟩ hHeld ?_
          rotate_left
          focus (intro wx hSw; (try dsimp only at hSw); (try go_split_ands); go_simp; (try with_reducible rfl))
          try simp only [Act.put, za1, za2, za3, za4, za5, za6]
          refine zt 6 ?_ rfl (by kernel_rfl) (fun _ _ _ h => h) ⟨rfl, ?_⟩ hHeld ?_
          rotate_left
          focus (intro wx hSw; (try dsimp only at hSw); (try go_split_ands); go_simp; (try with_reducible rfl))
          try simp only [Act.put, za1, za2, za3, za4, za5, za6]
          refine zt 7 ?_ rfl (by kernel_rfl) (fun _ _ _ h => h) ⟨rfl, ?_⟩ hHeld ?_
          rotate_left
          focus (intro wx hSw; (try dsimp only at hSw); (try go_split_ands); go_simp; (try with_reducible rfl))
          try simp only [Act.put, za1, za2, za3, za4, za5, za6]
          refine zt 8 ?_ rfl (by kernel_rfl) (fun _ _ _ h => h) ⟨rfl, ?_⟩ hHeld ?_
          rotate_left
          focus (intro wx hSw; (try dsimp only at hSw); (try go_split_ands); go_simp; (try with_reducible rfl))
          try simp only [Act.put, za1, za2, za3, za4, za5, za6]
          refine zt 9 ?_ rfl (by kernel_rfl) (fun _ _ _ h => h) ⟨rfl, ?_⟩ hHeld ?_
          rotate_left
          focus (intro wx hSw; (try dsimp only at hSw); (try go_split_ands); go_simp; (try with_reducible rfl))
          try simp only [Act.put, za1, za2, za3, za4, za5, za6]
          refine zt 10 ?_ rfl (by kernel_rfl) (fun _ _ _ h => h) ⟨rfl, ?_⟩ hHeld ?_
          rotate_left
          focus (intro wx hSw; (try dsimp only at hSw); (try go_split_ands); go_simp; (try with_reducible rfl))
          try simp only [Act.put, za1, za2, za3, za4, za5, za6]
          refine zt 11 ?_ rfl (by kernel_rfl) (fun _ _ _ h => h) ⟨rfl, ?_⟩ hHeld ?_
          rotate_left
          focus (intro wx hSw; (try dsimp only at hSw); (try go_split_ands); go_simp; (try with_reducible rfl))
          try simp only [Act.put, za1, za2, za3, za4, za5, za6]
          refine wpAnyH_ready (rs := [5, 12]) (by kernel_rfl) (by simp) (AllReadyH.cons rfl (fun K hK => ?_) (AllReadyH.cons rfl (fun K hK => ?_) AllReadyH.nil))
          · go_simp
            refine hK.out _ _ ?_ (fun hHeld => ?_)
            · ((try dsimp only); (try dsimp only at hHeld); exact KN.out _ (by with_reducible repeat (first | exact Below.refl _ _ | refine bdr ?_ _ | refine Below.drew ?_ | refine ball ?_ _)))
            clear hK K
            try dsimp only at hHeld
            try simp only [Act.put, za1, za2, za3, za4, za5, za6]
            refine wpAnyH_ready (rs := [12]) (by kernel_rfl) (by simp) (AllReadyH.cons rfl (fun K hK => ?_) AllReadyH.nil)
            go_simp
            refine hK.out _ _ ?_ (fun hHeld => ?_)
            · ((try dsimp only); (try dsimp only at hHeld); exact KN.out _ (by with_reducible repeat (first | exact Below.refl _ _ | refine bdr ?_ _ | refine Below.drew ?_ | refine ball ?_ _)))
            clear hK K
            try dsimp only at hHeld
            try simp only [Act.put, za1, za2, za3, za4, za5, za6]
            refine wpAnyH_ready (rs := [13]) (by kernel_rfl) (by simp) (AllReadyH.cons rfl (fun K hK => ?_) AllReadyH.nil)
            go_simp
            refine IN.out.mono ?_
            rintro e10 w10 ⟨A10, c10, rfl, ho10, ev10, nb10⟩
            have E10 : EvT sk2.own w9 w10 := (EvT.of_below (O := sk2.own) (ball (Below.drew (Below.refl w9.heap.size w9)) (.cells #[.int .u32 (q : Int)] 30))).trans (ev10.mono (O' := sk2.own) fun b hb => .inl (by show (Value.slice _ _ _).ownBlock = _; rw [ownB]; exact hb)) (fun b e => .inl e)
            have hnB : ¬ sk2.own Bw := own_blk_ne HR.out.2.1 HR.out.1.blk (by decide)
            have b10 := E10.blk HR.out.1.blk hnB
            have KS10 := Lib.hid (cell66 b10 HTT.out.2)
            have KS11 := Lib.hid (fun (u : Value) => cell66 (j := i' * 6 + 5) (b10.set_ (i' * 6 + 2) u) ((set_ne66 (by omega)).trans HTT.out.2))
            have d10 := cell66 b10 HTT.out.1
            have f10 := b10.frozen (i' * 6 + 2)
            have l10 := b10.lt
            have C10 := Lib.hid (And.intro b10 (And.intro ho10 (And.intro E10 nb10)))
            clear b10 ho10 E10 ev10 nb10 hnB
            go_wp2_with fail
            refine hK.out _ _ ?_ (fun hHeld => ?_)
            · ((try dsimp only); (try dsimp only at hHeld); exact KS10.out)
            clear hK K
            try dsimp only at hHeld
            try simp only [Act.put, za1, za2, za3, za4, za5, za6]
            refine zt 14 ?_ rfl (by kernel_rfl) (fun _ _ _ h => h) ⟨rfl, ?_⟩ hHeld ?_
            rotate_left
            focus (intro wx hSw; (try dsimp only at hSw); (try go_split_ands); go_simp; (try with_reducible rfl))
            try simp only [Act.put, za1, za2, za3, za4, za5, za6]
            refine zt 15 ?_ rfl (by kernel_rfl) (fun _ _ _ h => h) ⟨rfl, ?_⟩ hHeld ?_
            rotate_left
            focus (intro wx hSw; (try dsimp only at hSw); (try go_split_ands); go_simp; (try with_reducible rfl))
            try simp only [Act.put, za1, za2, za3, za4, za5, za6]
            refine zt 16 ?_ rfl (by kernel_rfl) (fun _ _ _ h => h) ⟨rfl, ?_⟩ hHeld ?_
            rotate_left
            focus (intro wx hSw; (try dsimp only at hSw); (try go_split_ands); go_simp; (try with_reducible rfl))
            try simp only [Act.put, za1, za2, za3, za4, za5, za6]
            refine wpAnyH_ready (rs := [17]) (by kernel_rfl) (by simp) (AllReadyH.cons rfl (fun K hK => ?_) AllReadyH.nil)
            go_simp
            refine hK.out _ _ ?_ (fun hHeld => ?_)
            · ((try dsimp only); (try dsimp only at hHeld); exact KS11.out _)
            clear hK K
            try dsimp only at hHeld
            try simp only [Act.put, za1, za2, za3, za4, za5, za6]
            refine wpAnyH_done (by kernel_rfl) ?_ _
            go_wp2_with fail
            go_meet
            refine ⟨⟨A10, sk2.n + 1, c10⟩, C10.out.1.set_ _ _, (by have h := C10.out.2.1; rw [vN_ins f.kids (f.i + 1) q] at h; exact far_own66 h C10.out.1 (by decide) _ _), (C10.out.2.2.1.mono (O' := fun b => sk2.own b ∨ b = Bw) fun b e => .inl (.inl e)).store (p := ⟨Bw, i' * 6 + 2, none⟩) (.inr (.inr rfl)) _, fun b hb => ?_⟩
            have hb : (Value.slice A10 (sk2.n + 1) c10).ownBlock = some b := hb
            rw [ownB] at hb
            rcases C10.out.2.2.2 b hb with h | h
            · left; show (Value.slice _ _ _).ownBlock = _; rw [ownB]; exact h
            · right; rw [alloc_size] at h; have h : w9.heap.size + 1 ≤ b := h; omega
          · go_simp
            refine hK.out _ _ ?_ (fun hHeld => ?_)
            · ((try dsimp only); (try dsimp only at hHeld); exact KN.out _ (by with_reducible repeat (first | exact Below.refl _ _ | refine bdr ?_ _ | refine Below.drew ?_ | refine ball ?_ _)))
            clear hK K
            try dsimp only at hHeld
            try simp only [Act.put, za1, za2, za3, za4, za5, za6]
            refine wpAnyH_ready (rs := [5]) (by kernel_rfl) (by simp) (AllReadyH.cons rfl (fun K hK => ?_) AllReadyH.nil)
            go_simp
            refine hK.out _ _ ?_ (fun hHeld => ?_)
            · ((try dsimp only); (try dsimp only at hHeld); exact KN.out _ (by with_reducible repeat (first | exact Below.refl _ _ | refine bdr ?_ _ | refine Below.drew ?_ | refine ball ?_ _)))
            clear hK K
            try dsimp only at hHeld
            try simp only [Act.put, za1, za2, za3, za4, za5, za6]
            refine wpAnyH_ready (rs := [13]) (by kernel_rfl) (by simp) (AllReadyH.cons rfl (fun K hK => ?_) AllReadyH.nil)
            go_simp
            refine IN.out.mono ?_
            rintro e10 w10 ⟨A10, c10, rfl, ho10, ev10, nb10⟩
            have E10 : EvT sk2.own w9 w10 := (EvT.of_below (O := sk2.own) (ball (Below.drew (Below.refl w9.heap.size w9)) (.cells #[.int .u32 (q : Int)] 30))).trans (ev10.mono (O' := sk2.own) fun b hb => .inl (by show (Value.slice _ _ _).ownBlock = _; rw [ownB]; exact hb)) (fun b e => .inl e)
            have hnB : ¬ sk2.own Bw := own_blk_ne HR.out.2.1 HR.out.1.blk (by decide)
            have b10 := E10.blk HR.out.1.blk hnB
            have KS10 := Lib.hid (cell66 b10 HTT.out.2)
            have KS11 := Lib.hid (fun (u : Value) => cell66 (j := i' * 6 + 5) (b10.set_ (i' * 6 + 2) u) ((set_ne66 (by omega)).trans HTT.out.2))
            have d10 := cell66 b10 HTT.out.1
            have f10 := b10.frozen (i' * 6 + 2)
            have l10 := b10.lt
            have C10 := Lib.hid (And.intro b10 (And.intro ho10 (And.intro E10 nb10)))
            clear b10 ho10 E10 ev10 nb10 hnB
            go_wp2_with fail
            refine hK.out _ _ ?_ (fun hHeld => ?_)
            · ((try dsimp only); (try dsimp only at hHeld); exact KS10.out)
            clear hK K
            try dsimp only at hHeld
            try simp only [Act.put, za1, za2, za3, za4, za5, za6]
            refine zt 14 ?_ rfl (by kernel_rfl) (fun _ _ _ h => h) ⟨rfl, ?_⟩ hHeld ?_
            rotate_left
            focus (intro wx hSw; (try dsimp only at hSw); (try go_split_ands); go_simp; (try with_reducible rfl))
            try simp only [Act.put, za1, za2, za3, za4, za5, za6]
            refine zt 15 ?_ rfl (by kernel_rfl) (fun _ _ _ h => h) ⟨rfl, ?_⟩ hHeld ?_
            rotate_left
            focus (intro wx hSw; (try dsimp only at hSw); (try go_split_ands); go_simp; (try with_reducible rfl))
            try simp only [Act.put, za1, za2, za3, za4, za5, za6]
            refine zt 16 ?_ rfl (by kernel_rfl) (fun _ _ _ h => h) ⟨rfl, ?_⟩ hHeld ?_
            rotate_left
            focus (intro wx hSw; (try dsimp only at hSw); (try go_split_ands); go_simp; (try with_reducible rfl))
            try simp only [Act.put, za1, za2, za3, za4, za5, za6]
            refine wpAnyH_ready (rs := [17]) (by kernel_rfl) (by simp) (AllReadyH.cons rfl (fun K hK => ?_) AllReadyH.nil)
            go_simp
            refine hK.out _ _ ?_ (fun hHeld => ?_)
            · ((try dsimp only); (try dsimp only at hHeld); exact KS11.out _)
            clear hK K
            try dsimp only at hHeld
            try simp only [Act.put, za1, za2, za3, za4, za5, za6]
            refine wpAnyH_done (by kernel_rfl) ?_ _
            go_wp2_with fail
            go_meet
            refine ⟨⟨A10, sk2.n + 1, c10⟩, C10.out.1.set_ _ _, (by have h := C10.out.2.1; rw [vN_ins f.kids (f.i + 1) q] at h; exact far_own66 h C10.out.1 (by decide) _ _), (C10.out.2.2.1.mono (O' := fun b => sk2.own b ∨ b = Bw) fun b e => .inl (.inl e)).store (p := ⟨Bw, i' * 6 + 2, none⟩) (.inr (.inr rfl)) _, fun b hb => ?_⟩
            have hb : (Value.slice A10 (sk2.n + 1) c10).ownBlock = some b := hb
            rw [ownB] at hb
            rcases C10.out.2.2.2 b hb with h | h
            · left; show (Value.slice _ _ _).ownBlock = _; rw [ownB]; exact h
            · right; rw [alloc_size] at h; have h : w9.heap.size + 1 ≤ b := h; omega
         case rest =>
          obtain ⟨k2, hB11, ho11, ev11, nb11⟩ := hcut
          rename World => w11
          have hO11 : ∀ b, sk2.own b ∨ b = Bw → m' ≤ b ∧ b < z ∨ b = Bw := fun b hb => hb.imp (fun k => ⟨(HQ.out.2.2.2.1 b (.inl k)).1, (HQ.out.2.2.2.1 b (.inl k)).2.1⟩) id
          have B11 := HR.out.1.evw ev11 hO11 hB11 (fun j hj => Array.getElem?_setIfInBounds_ne (by omega))
          have oe11 := ev11.own HR.out.2.2.1 (fun b hb h => by
           rcases h with h | h
           · obtain ⟨cs', hb'⟩ := own_blk17 HR.out.2.2.1 hb
             exact own_blk_ne HR.out.2.1 hb' (by decide) h
           · obtain ⟨cs', hb'⟩ := own_blk17 HR.out.2.2.1 hb
             exact absurd (hb'.ty (h ▸ HR.out.1.blk)) (by decide))
          have hlt2 := (Array.getElem?_eq_some_iff.1 HTT.out.1).1
          have hcc : ∀ j, j ≠ i' * 6 + 2 → j ≠ i' * 6 + 3 → (cs3.setIfInBounds (i' * 6 + 2) k2.v)[j]? = cs2[j]? := fun j h1 h2 => (Array.getElem?_setIfInBounds_ne (fun e => h1 e.symm)).trans (HR.out.2.2.2.2.2 j h2)
          have HZ := Lib.hid (And.intro B11 (And.intro oe11 (And.intro ho11 (And.intro nb11 hcc))))
          clear B11 oe11 ho11 nb11 hcc hB11 ev11 hO11 IN KN f2 y2 y5
          go_wp2_with fail
          have hpq : ∀ b, k2.own b → ¬ P2.own b := fun b hb hp => by
           have h8 := World.ownsRow.lt HG.out.1.ch.pg b hp
           rcases HZ.out.2.2.2.1 b hb with h | h
           · have := (HQ.out.2.2.2.1 b (.inl h)).2.1; omega
           · omega
          refine ⟨⟨rfl, i', m', ss', fs', T.set q true, P2, Y2, wr2, cs3.setIfInBounds (i' * 6 + 2) k2.v, false, f.p, 0, insI f.kids (f.i + 1) q, insI f.seps f.i ⟨xs, xp, xq⟩, k2, e2, by go_num, ⟨HZ.out.1, ?_, ?_, ?_, ?_, ?_, ⟨HZ.out.2.1, fun _ => HZ.out.2.2.1, fun e => by cases e⟩, hpq, HQ.out.2.2.2.2.2.2.1, ?_, ?_, ?_, HG.out.2.2.1, by omega, HL.out.2.2.2, HG.out.2.2.2.2.2.2.2.1⟩⟩, ?_⟩
          · exact (HZ.out.2.2.2.2 _ (by omega) (by omega)).trans HT.out.1
          · exact (HZ.out.2.2.2.2 _ (by omega) (by omega)).trans HT.out.2.1
          · rw [Array.getElem?_setIfInBounds_self_of_lt hlt2]
          · rw [Array.getElem?_setIfInBounds_ne (by omega)]; exact HR.out.2.2.2.2.1
          · exact (HZ.out.2.2.2.2 _ (by omega) (by omega)).trans HT.out.2.2.2.2.1
          · have := HQ.out.2.2.2.2.2.2.2
            rw [frSt_cur] at this
            exact this
          · have := HG.out.2.2.2.2.1
            rw [List.foldl_cons, frSt_cur] at this
            exact this
          · have := HG.out.2.2.2.2.2.1
            have := Hi.out.2
            omega
          · simp [intOf]; have := Hi.out.2; omega
end
end Go.Proofs.YtebobcbaloddaaaGreat
namespace Go.Proofs.YtebobcbaloddaaaGreat
section
set_option linter.unusedSimpArgs false
set_option linter.unusedVariables false
open Go.RowKit Go.Maps
theorem ins_tree2 {ps : List (List UInt8)} {T : List Bool} {root h : Nat} {d : Nd} {l : List En} {x : En} {st : Stt} (t : TreeK ps T root l h d) (hT : T.length = ps.length) (hb : ps.length ≤ 4095) (HI : InsOk ps T h d 0 x st) :
 (∀ root', (insP ps T root h st).2.2 = some root' → ∃ h' d', TreeK (insP ps T root h st).1 (insP ps T root h st).2.1 root' (withP l x) h' d' ∧ freeN (insP ps T root h st).2.1 + d'.P.length = freeN T + d.P.length ∧ (∀ p : Nat, T[p]? = some true → (insP ps T root h st).2.1[p]? = some true) ∧ (∀ p ∈ d'.P, p ∈ d.P ∨ T[p]? = some false) ∧ (∀ p : Nat, T[p]? = some true → p ∉ d.P → (insP ps T root h st).1[p]? = ps[p]?) ∧ ∀ wr r, (setR h root st).1 = some (wr, r) → ∀ w ∈ wr, w.1 ∈ d'.P) ∧
 ((insP ps T root h st).2.2 = none → (insP ps T root h st).1 = ps ∧ (freeN T ≤ h ∨ h = 12) ∧ (∀ p : Nat, T[p]? = some true → (insP ps T root h st).2.1[p]? = some true)) ∧ (insP ps T root h st).1.length = ps.length ∧ (insP ps T root h st).2.1.length = T.length := by
 obtain ⟨h1, h2, hsub, hp, hL, hnd, hmk⟩ := t
 cases st with
 | no T' =>
   obtain ⟨a, b, c⟩ := HI
   exact ⟨fun r hr => (by cases hr), fun _ => ⟨rfl, .inl (by omega), c⟩, rfl, b⟩
 | done wr T' =>
   obtain ⟨d', k1, k2, k3, k4, k5, k6⟩ := HI
   refine ⟨fun r hr => ?_, fun hr => (by cases hr), wrA_len _ _, k5.len⟩
   have hr : some root = some r := hr
   injection hr with hr
   subst hr
   exact ⟨h, d', ⟨h1, h2, k1, by rw [k2, hp], by rw [k4, hL], k5.nodup, k5.tru⟩, k5.cnt, k5.up, k5.old, fun q hq hn => wrA_far wr ps q fun w hw e => (k5.old q (e ▸ k6 w hw)).elim (fun k => hn k) (fun k => by rw [hq] at k; cases k), fun wr2 r2 e w hw => by
    have e : some (wr, root) = some (wr2, r2) := e
    injection e with e
    injection e with e1 e2
    exact k6 w (by rw [e1]; exact hw)⟩
 | up wr T' sep q =>
   obtain ⟨d1, d2, g1, g2, g3, g4, g5, gq, g6, g7, g8, g9, g10, g11, g12, g13, g14, g15⟩ := HI
   unfold insP
   by_cases h12 : h = 12
   · simp only
     rw [if_pos h12]
     exact ⟨fun r hr => (by cases hr), fun _ => ⟨rfl, .inr h12, g13.up⟩, rfl, g13.len⟩
   · simp only
     rw [if_neg h12]
     cases hr : freeI T' with
     | none =>
       refine ⟨fun r hr => (by cases hr), fun _ => ⟨rfl, .inl ?_, g13.up⟩, rfl, g13.len⟩
       have := freeN_full (freeI_none hr)
       omega
     | some r =>
       simp only
       obtain ⟨P1, hrP, hrl, hrT⟩ := g13.take hr
       have hroot : root < ps.length := by
        have hpl : ps[d.p]? ≠ none := by
         obtain ⟨k, rfl⟩ : ∃ k, h = k + 1 := ⟨h - 1, by omega⟩
         cases k with
         | zero => rw [hsub.1]; simp
         | succ k =>
           obtain ⟨_, _, _, _, e, _, _⟩ := sub_to hsub
           rw [e]; simp
        rw [← hp]
        rcases Nat.lt_or_ge d.p ps.length with e | e
        · exact e
        · exact absurd (List.getElem?_eq_none e) hpl
       have hne : ∀ e ∈ d1.P ++ d2.P, e ≠ r := fun e he he' => hrP (by rw [← he']; exact he)
       have hset : ∀ e, e ∈ d1.P ++ d2.P → ((wrA ps wr).set r (kidL [root, q] [sep]))[e]? = (wrA ps wr)[e]? := fun e he => List.getElem?_set_ne fun k => hne e he k.symm
       obtain ⟨k, rfl⟩ : ∃ k, h = k + 1 := ⟨h - 1, by omega⟩
       have K : InOk ((wrA ps wr).set r (kidL [root, q] [sep])) k [d1, d2] [sep] 0 :=
        ⟨⟨sub_frame _ _ _ g1 fun e he => hset e (by simp [he]), sub_frame _ _ _ g2 fun e he => hset e (by simp [he]), trivial⟩,
         ⟨fun y hy => ⟨fun s h0 => absurd h0 (by omega), fun s hs => by injection hs with hs; rw [← hs]; exact g9 y hy⟩, ⟨fun y hy => ⟨fun s _ hs => by injection hs with hs; rw [← hs]; exact g10 y hy, fun s hs => by simp at hs⟩, trivial⟩⟩, rfl,
         fun e he => by
          simp only [List.mem_cons, List.not_mem_nil, or_false] at he
          rcases he with rfl | rfl
          · rw [g3, hp]; omega
          · rw [g5]; omega,
         fun e he => by rw [List.mem_singleton] at he; rw [he]; exact g11,
         may_parts.2 ⟨fun e he => by rw [List.mem_singleton] at he; rw [he]; exact g12, List.pairwise_singleton _ _⟩,
         fun e he => by
          simp only [List.mem_cons, List.not_mem_nil, or_false] at he
          rcases he with rfl | rfl
          · exact g7
          · exact g8⟩
       have hkid : [d1, d2].map Nd.p = [root, q] := by simp [g3, g5, hp]
       have hSub := sub_of (p := r) K (by simp) (by rw [hkid, List.getElem?_set_self (by rw [wrA_len]; omega)]) (by
        show sumE [sep] + 4 * 1 ≤ 500
        simp [sumE]; omega)
       have hPd : (ndOf r [d1, d2]).P = r :: (d1.P ++ d2.P) := by simp [ndOf]
       refine ⟨fun r' hr' => ?_, fun hr' => (by cases hr'), by rw [wrA_len], by rw [List.length_set, g13.len]⟩
       injection hr' with hr'
       subst hr'
       refine ⟨k + 2, ndOf r [d1, d2], ⟨by omega, by omega, by rw [wrA_app]; exact hSub, rfl, ?_, by rw [hPd]; exact P1.nodup, by rw [hPd]; exact P1.tru⟩, by rw [hPd]; exact P1.cnt, P1.up, by rw [hPd]; exact P1.old, fun q1 hq hn => ?_, fun wr2 r2 e w hw => ?_⟩
       · show ([d1, d2].map Nd.L).flatten = _
         rw [← hL]
         simp [g6]
       · have hpo : q1 ∉ r :: (d1.P ++ d2.P) := fun e => (P1.old q1 e).elim (fun k => hn k) (fun k => by rw [hq] at k; cases k)
         refine wrA_far _ _ q1 fun w hw e => hpo ?_
         rcases List.mem_append.1 hw with hw | hw
         · rw [← e]; exact List.mem_cons_of_mem _ (g14 w hw)
         · rw [List.mem_singleton] at hw
           rw [← e, hw]; simp
       · rw [setR_upS h12 hr] at e
         injection e with e
         injection e with e1 e2
         rw [hPd]
         rw [← e1] at hw
         rcases List.mem_append.1 hw with hw | hw
         · exact List.mem_cons_of_mem _ (g14 w hw)
         · rw [List.mem_singleton] at hw
           rw [hw]; simp
theorem ins_at {es : List En} {x : En} {i : Nat} (h : BsOk es x i) (hx : x ∉ es) : insI es i x = withP es x := by
 have e : es = es.take i ++ es.drop i := (List.take_append_drop _ _).symm
 have h1 : ∀ y ∈ es.take i, lessE x y = false := fun y hy => by
  obtain ⟨j, hj⟩ := List.getElem?_of_mem hy
  have hji : j < i := by have := lt_of_at hj; rw [List.length_take] at this; omega
  rw [List.getElem?_take_of_lt hji] at hj
  have := h.lo j y hj hji
  have := cmpE_swap y x
  rw [lessE_cmp]
  simp; omega
 conv => rhs; rw [e]
 rw [with_app1 _ _ h1]
 unfold insI
 congr 1
 cases hd : es.drop i with
 | nil => rfl
 | cons y r =>
   have hy : es[i]? = some y := by rw [← List.head?_drop, hd]; rfl
   have h2 := h.hi i y hy (Nat.le_refl _)
   have h3 : cmpE y x ≠ 0 := fun e => hx (by rw [← cmpE_zero e]; exact List.mem_of_getElem? hy)
   have h4 := cmpE_swap y x
   have : lessE x y = true := by rw [lessE_cmp]; simp; omega
   rw [withP, if_pos this]
theorem way_top {ps : List (List UInt8)} {x : En} : ∀ (f p : Nat) (frs : List Fr11) (lp N : Nat) (es : List En), wayP ps f p x = some (frs, lp, N, es) → topP lp frs = p
 | 0, _, _, _, _, _, h => by cases h
 | f + 1, p, frs, lp, N, es, h => by
   rw [wayP] at h
   split at h
   · cases h
   · split at h
     · cases h
     · injection h with h
       injection h with h1 h
       injection h with h2 h
       rw [← h1, ← h2]; rfl
     · obtain ⟨r, hr, he⟩ := Option.map_eq_some_iff.1 h
       injection he with h1 he
       rw [← h1, topP_snoc]
theorem way_len {ps : List (List UInt8)} {x : En} : ∀ (h : Nat) (d : Nd) (nx : Nat), Sub ps h d nx → ∀ f, h ≤ f → ∀ frs lp N es, wayP ps f d.p x = some (frs, lp, N, es) → sumE es ≤ 504
 | 0, _, _, hs, _, _, _, _, _, _, _ => hs.elim
 | 1, d, nx, hs, f, hf, frs, lp, N, es, hw => by
   obtain ⟨f', rfl⟩ : ∃ f', f = f' + 1 := ⟨f - 1, by omega⟩
   obtain ⟨hp, hnx, hok, hmay, hfit, hP, hdf, hk⟩ := hs
   rw [wayP, hp] at hw
   simp only at hw
   rw [rdPg_leaf nx d.L hnx hok hmay hfit] at hw
   simp only at hw
   injection hw with hw
   injection hw with h1 hw
   injection hw with h2 hw
   injection hw with h3 h4
   rw [← h4]
   exact hfit
 | h + 2, d, nx, hs, f, hf, frs, lp, N, es, hw => by
   obtain ⟨f', rfl⟩ : ∃ f', f = f' + 1 := ⟨f - 1, by omega⟩
   obtain ⟨ds, seps, H, hsn, hp, hfit, hd⟩ := sub_to hs
   obtain ⟨m1, m2⟩ := may_parts.1 H.may
   obtain ⟨c1, c2, c3⟩ := chN_at m2 x
   obtain ⟨k1, k2, k3⟩ := kidL_page H hsn hfit
   have hlen := H.len
   have hil : chN seps x < ds.length := by omega
   have hget : ((ds.map Nd.p).headD 0 :: (seps.zip (ds.map Nd.p).tail).map Prod.snd).getD (chN seps x) 0 = (ds[chN seps x]).p := by
    rw [k3, List.getD_eq_getElem?_getD, List.getElem?_map, List.getElem?_eq_getElem hil]; rfl
   rw [wayP, hp] at hw
   simp only at hw
   rw [k1] at hw
   simp only at hw
   rw [k2, hget, k3] at hw
   cases hwd : wayP ps f' (ds[chN seps x]).p x with
   | none => rw [hwd] at hw; cases hw
   | some r =>
     rw [hwd] at hw
     simp only [Option.map_some] at hw
     obtain ⟨frs', lp', N', es'⟩ := r
     injection hw with hw
     injection hw with h1 hw
     injection hw with h2 hw
     injection hw with h3 h4
     rw [← h4]
     exact way_len (h + 1) _ _ (H.chn.iff_at _ _ (List.getElem?_eq_getElem hil)) f' (by omega) _ _ _ _ hwd
end
end Go.Proofs.YtebobcbaloddaaaGreat
namespace Go.Proofs.YtebobcbaloddaaaGreat
section
set_option linter.unusedSimpArgs false
set_option linter.unusedVariables false
open Go.RowKit Go.Maps
def RetIns (w : World) (g gb gt n : Nat) (ps : List (List UInt8)) (T : List Bool) (root h : Nat) (d : Nd) (l : List En) (x : En) (e : Ending) (w' : World) : Prop :=
 Lf w w' gb gt ∧ (200 < x.s.size → e = .returned (.tuple #[.int .u32 0, .int .i64 1]) ∧ DP w' g gb gt n ps T) ∧
  (x.s.size ≤ 200 → x ∈ l → e = .returned (.tuple #[.int .u32 0, .int .i64 10]) ∧ DP w' g gb gt n ps T) ∧
  (x.s.size ≤ 200 → x ∉ l → ∃ ps' T', DP w' g gb gt n ps' T' ∧ (∀ p : Nat, T[p]? = some true → T'[p]? = some true) ∧
   ((∃ (root' h' : Nat) (d' : Nd), e = .returned (.tuple #[.int .u32 (root' : Int), .int .i64 0]) ∧ TreeK ps' T' root' (withP l x) h' d' ∧ freeN T' + d'.P.length = freeN T + d.P.length ∧ (∀ p ∈ d'.P, p ∈ d.P ∨ T[p]? = some false) ∧ ∀ p : Nat, T[p]? = some true → p ∉ d.P → ps'[p]? = ps[p]?) ∨
     (e = .returned (.tuple #[.int .u32 0, .int .i64 7]) ∧ ps' = ps ∧ (freeN T ≤ h ∨ h = 12))))
def RetBs2 (w : World) (l : List En) (x : En) (b : Bool) (e : Ending) (w' : World) : Prop := ∃ i, BsOk l x i ∧ e = .returned (.tuple #[.int .i64 (i : Int), .bool b]) ∧ Below w.heap.size w w'
theorem own_open68 {w : World} {base n c size : Nat} {e : TypeId} {b : Nat} {xs : List Value} (h : w.ownsRow base e size (.slice (some ⟨b, 0, none⟩) n c) n xs) (hn : 0 < n) : ∃ cs, Blk w b e cs ∧ base ≤ b ∧ ∀ j, j < n * size → cs[j]? = xs[j]? := by
 rcases h.2 with ⟨e1, _⟩ | ⟨g, cap, cur, e1, hb, hB, hnc, hcm, hcs, hxs⟩
 · injection e1 with e1 e2 e3; omega
 · injection e1 with e1 e2 e3
   injection e1 with e1
   injection e1 with e1
   subst e1
   refine ⟨cur, hB, hb, fun j hj => ?_⟩
   rw [← hxs, List.getElem?_take_of_lt hj, Array.getElem?_toList]
set_option maxRecDepth 100000 in
set_option maxHeartbeats 8000000 in
theorem insert_any {w : World} {g gb gt n : Nat} {ps : List (List UInt8)} {T : List Bool} (hD : DP w g gb gt n ps T) (hn : n ≤ 4095) {root h : Nat} {d : Nd} {l : List En} (t : TreeK ps T root l h d) (hri : riseP l) (x : En) (hx : x.ok) :
 Calls Tryz.prog 12 #[.pointer (some ⟨g, 0, none⟩), .int .u32 (root : Int), x.agg] w (RetIns w g gb gt n ps T root h d l x) := by
 have hT := hD.hT
 have hps := hD.hp
 have hlts := hD.lts
 by_cases hk : 200 < x.s.size
 · have HD := Lib.hid hD
   clear hD t hri hx
   obtain ⟨xs, xp, xq⟩ := x
   have hk : 200 < xs.size := hk
   have hkI : (200 : Int) < (xs.size : Int) := by omega
   unfold En.agg
   simp only
   go_enter Tryz.func12, Tryz.ntmps12
   go_wp2_with fail
   go_ret2
   have hb := ball (Below.refl w.heap.size w) (.cells #[.string xs, .int .u32 xp, .int .u16 xq] 37)
   exact ⟨Lf.of_below hb, fun _ => ⟨rfl, HD.out.lower hb⟩, fun h => absurd hk (by have h : xs.size ≤ 200 := h; omega), fun h => absurd hk (by have h : xs.size ≤ 200 := h; omega)⟩
 · have hk2 : x.s.size ≤ 200 := by omega
   have hroot : root < n := by
    have := t.sub
    have hpl : ps[d.p]? ≠ none := by
     have h1 := t.h1
     obtain ⟨k, rfl⟩ : ∃ k, h = k + 1 := ⟨h - 1, by omega⟩
     cases k with
     | zero => rw [this.1]; simp
     | succ k =>
       obtain ⟨_, _, _, _, e, _, _⟩ := sub_to this
       rw [e]; simp
    rw [← hps, ← t.p]
    rcases Nat.lt_or_ge d.p ps.length with e | e
    · exact e
    · exact absurd (List.getElem?_eq_none e) hpl
   obtain ⟨frs, lp, N, es, hw, hfl, hmem, hrise, hins⟩ := way_sub hx hk2 (by omega) (by omega) h d 0 t.sub t.nd t.tk (by rw [t.L]; exact hri) 12 t.h2
   have hmem : x ∈ es ↔ x ∈ l := by rw [hmem, t.L]
   have hlen : es.length ≤ 504 := by
    have h1 := way_len h d 0 t.sub 12 t.h2 frs lp N es hw
    have h2 := sumE_eq es
    omega
   rw [t.p] at hw
   have hb1 := ball (Below.refl w.heap.size w) (.cells #[.string x.s, .int .u32 x.p, .int .u16 x.q] 37)
   have X1 := Blk.new w 37 #[.string x.s, .int .u32 x.p, .int .u16 x.q]
   have DS := Lib.hid (descend_any (hD.lower hb1) (by omega) root (by omega) x hw (by have := t.h2; omega))
   have WO := Lib.hid fun (hxl : x ∉ d.L) => way_ok hx hk2 (by omega) (by omega) h d 0 t.sub t.nd t.tk (by rw [t.L]; exact hri) 12 t.h2 hxl frs lp N es (by rw [t.p]; exact hw)
   have WT := Lib.hid (way_top 12 root frs lp N es hw)
   have H0 := Lib.hid (And.intro hD (And.intro t (And.intro hb1 (And.intro X1 (And.intro hfl (And.intro hmem hrise))))))
   have Hk := Lib.hid hk2
   have HX := Lib.hid hx
   have hw1 : (w.alloc (.cells #[.string x.s, .int .u32 x.p, .int .u16 x.q] 37)).heap.size = w.heap.size + 1 := by simp
   clear hD t hb1 X1 hfl hmem hrise hins hw hk hx hri hk2
   obtain ⟨xs, xp, xq⟩ := x
   unfold En.agg at DS ⊢
   simp only at DS H0 hw1 ⊢
   have hkI : ¬ (200 : Int) < (xs.size : Int) := by have h : xs.size ≤ 200 := Hk.out; omega
   have hkI' : (xs.size : Int) ≤ 200 := by omega
   go_enter Tryz.func12, Tryz.ntmps12
   go_wp2_with fail
   obtain ⟨w1, hW1⟩ : ∃ x, w.alloc (.cells #[.string xs, .int .u32 xp, .int .u16 xq] 37) = x := ⟨_, rfl⟩
   rw [hW1] at DS H0 hw1 ⊢
   clear hW1
   refine DS.out.mono ?_
   rintro e1 w2 ⟨sL, ss, Bw, cw, zb, rfl, ho, hwr, hzb, hsl, hog, hb2⟩
   obtain ⟨slf, sN, sk, se, spp, si⟩ := sL
   obtain ⟨e1, e2, e3, e4, he2⟩ := hsl
   simp only at e1 e2 e3 e4 he2
   subst e1; subst e2; subst e3; subst e4
   obtain ⟨cs, hB2, hab, hcs⟩ := own_open68 ho (by omega)
   have hall : ∀ (j : Nat) (s : Stp), (⟨true, sN, ⟨none, 0, 0⟩, se, spp, si⟩ :: ss : List Stp).reverse[j]? = some s → ∀ t, t < 6 → cs[j * 6 + t]? = s.cells[t]? := fun j s hs t ht => by
    have hj := lt_of_at hs
    rw [List.length_reverse, List.length_cons] at hj
    rw [hcs _ (by omega)]
    exact vSt_at hs t ht
   obtain ⟨L, hL⟩ : ∃ L, ss.length = L := ⟨_, rfl⟩
   have hlast := hall L ⟨true, sN, ⟨none, 0, 0⟩, se, spp, si⟩ (by rw [List.reverse_cons, List.getElem?_append_right (by rw [List.length_reverse]; omega), List.length_reverse, hL]; simp)
   have hup : ∀ (j : Nat) (s : Stp), ss.reverse[j]? = some s → ∀ t, t < 6 → cs[j * 6 + t]? = s.cells[t]? := fun j s hs => hall j s (by rw [List.reverse_cons, List.getElem?_append_left (lt_of_at hs)]; exact hs)
   have c0 : cs[L * 6]? = some (.bool true) := hlast 0 (by decide)
   have c1 : cs[L * 6 + 1]? = some (.int .u32 (sN : Int)) := hlast 1 (by decide)
   have c2 : cs[L * 6 + 2]? = some (.slice none 0 0) := hlast 2 (by decide)
   have c3 : cs[L * 6 + 3]? = some (.slice se.A se.n se.c) := hlast 3 (by decide)
   have c4 : cs[L * 6 + 4]? = some (.int .u32 (spp : Int)) := hlast 4 (by decide)
   have hLh : L + 1 = h := by have := hwr.len; have := H0.out.2.2.2.2.1; omega
   have h12 := H0.out.2.1.h2
   have q0 : (0 : Int) ≤ (L : Int) := by omega
   have q1 : (L : Int) < (L : Int) + 1 := by omega
   have q2 : (L : Int) ≤ 12 := by omega
   have hlb := own_cap ho
   rw [hL] at ho ⊢
   have X2 := H0.out.2.2.2.1.below hb2 (by omega)
   have y3 := cell66 hB2 c3
   have x0 : w2.cell? ⟨w.heap.size, 0, none⟩ = some (.string xs) := X2.cell 0
   have x1 : w2.cell? ⟨w.heap.size, 1, none⟩ = some (.int .u32 xp) := X2.cell 1
   have x2 : w2.cell? ⟨w.heap.size, 2, none⟩ = some (.int .u16 xq) := X2.cell 2
   have hen : se.n = es.length := by have := he2.1; rw [vE_len] at this; omega
   have BS := Lib.hid (show ∀ W, Below w2.heap.size w2 W → Calls Tryz.prog 29 #[.slice se.A se.n se.c, .agg #[.string xs, .int .u32 xp, .int .u16 xq], .func (.func 30) #[] #[]] W (RetBs2 W es ⟨xs, xp, xq⟩ (decide ((⟨xs, xp, xq⟩ : En) ∈ es))) from fun W hb => bsearch_any se.A se.n se.c es ⟨xs, xp, xq⟩ W (((Reads.of_own he2).below hb).more hb.size) (by omega) H0.out.2.2.2.2.2.2)
   have lx := X2.lt
   have lB := hB2.lt
   have hz2 := hb2.size
   have Hcs := Lib.hid (And.intro c0 (And.intro c1 (And.intro c2 (And.intro c3 (And.intro c4 hup)))))
   have HW := Lib.hid (And.intro hB2 (And.intro hwr (And.intro he2 (And.intro hb2 (And.intro X2 (And.intro hab hL))))))
   have Hen := Lib.hid (And.intro hen hLh)
   clear c0 c1 c2 c3 c4 hup hlast hall hB2 hwr he2 hb2 X2 hab hL hen hcs ho hog DS h12 hLh
   by_cases hin : (⟨xs, xp, xq⟩ : En) ∈ es
   · have hdt : decide ((⟨xs, xp, xq⟩ : En) ∈ es) = true := by simpa using hin
     rw [hdt] at BS
     have Hin := Lib.hid hin
     clear hin hdt
     go_wp2_with fail
     go_region_with (refine (BS.out _ (by with_reducible repeat (first | exact Below.refl _ _ | refine bdr ?_ _ | refine Below.drew ?_ | refine ball ?_ _))).mono ?_; rintro e3 w3 ⟨ix, bs, rfl, hb3⟩; have H3 := Lib.hid (And.intro bs hb3); clear bs hb3)
     all_goals (
      go_wp2_with fail
      go_ret2
      have hb03 := bto0 H0.out.2.2.1 (bto0 HW.out.2.2.2.1 (bto0 (Below.drew (Below.refl _ _)) H3.out.2))
      exact ⟨Lf.of_below hb03, fun h => absurd h (by have h2 : xs.size ≤ 200 := Hk.out; show ¬ 200 < xs.size; omega), fun _ _ => ⟨rfl, H0.out.1.lower hb03⟩, fun _ h => absurd (H0.out.2.2.2.2.2.1.1 Hin.out) h⟩)
   · have hdt : decide ((⟨xs, xp, xq⟩ : En) ∈ es) = false := by simpa using hin
     rw [hdt] at BS
     have Hin := Lib.hid hin
     clear hin hdt
     go_upto_region 7 with fail
     go_cut [11, 12] (fun s11 s12 wx => ∃ ix : Nat, s11 = .int .i64 (ix : Int) ∧ s12 = .bool false ∧ BsOk es ⟨xs, xp, xq⟩ ix ∧ Below w2.heap.size w2 wx)
     case first =>
      go_region_with (refine (BS.out _ (by with_reducible repeat (first | exact Below.refl _ _ | refine bdr ?_ _ | refine Below.drew ?_ | refine ball ?_ _))).mono ?_; rintro e3 w3 ⟨ix, bs, rfl, hb3⟩; have H3 := Lib.hid (And.intro bs hb3); clear bs hb3)
      all_goals (
       go_wp2_with fail
       go_meet
       exact ⟨ix, rfl, rfl, H3.out.1, bto0 (Below.drew (Below.refl _ _)) H3.out.2⟩)
     case rest =>
      obtain ⟨ix, rfl, rfl, bs, hb3⟩ := hcut
      rename World => w3
      have B3 := HW.out.1.below hb3 lB
      have X3 := HW.out.2.2.2.2.1.below hb3 lx
      have o3 := own_below HW.out.2.2.1 hb3
      have hz3 := hb3.size
      have y3 := cell66 B3 Hcs.out.2.2.2.1
      have f3 := B3.frozen (L * 6 + 3)
      have l3 := B3.lt
      have ix0 := bs.le
      have IE := Lib.hid (insE_any (w := w3.drew.alloc (.cells #[.string xs, .int .u32 xp, .int .u16 xq] 37)) (base := zb) (n := se.n) (c := se.c) (g := w3.heap.size) (i := ix) (A := se.A) (xs := vE es) (news := [.string xs, .int .u32 xp, .int .u16 xq]) (own_below o3 (ball (Below.drew (Below.refl _ _)) _)) (by have := Hen.out.1; have := hlen; omega) (by rw [alloc_size]; show zb ≤ w3.heap.size + 1; omega) (by have := Hen.out.1; omega) (Blk.new w3.drew _ _) rfl (fun u hu => by
       rcases List.mem_append.1 hu with hu | hu
       · exact vE_one66 _ u hu
       · exact vE_one66 [⟨xs, xp, xq⟩] u hu) (fun e => by
       have h1 : se.own w3.heap.size := by
        show (Value.slice se.A se.n se.c).ownBlock = _
        rw [ownB]; exact e
       have := (World.ownsRow.lt o3 _ h1).2
       omega))
      have KS := Lib.hid (show ∀ W, Below w3.heap.size w3 W → W.cell? ⟨w.heap.size, 0, none⟩ = some (.string xs) ∧ W.cell? ⟨w.heap.size, 1, none⟩ = some (.int .u32 xp) ∧ W.cell? ⟨w.heap.size, 2, none⟩ = some (.int .u16 xq) from fun W hb => by
       have b2 := X3.below hb X3.lt
       exact ⟨b2.cell 0, b2.cell 1, b2.cell 2⟩)
      have hsz : ¬ se.own w.heap.size ∧ ¬ se.own Bw := ⟨fun h => by have := (World.ownsRow.lt o3 _ h).1; have := HW.out.2.1.le; omega, fun h => own_blk_ne o3 B3 (by decide) h⟩
      have hBw : w.heap.size ≠ Bw := by have := HW.out.2.2.2.2.2.1; omega
      have HI := Lib.hid (And.intro bs (And.intro B3 (And.intro X3 (And.intro o3 (And.intro hb3 (And.intro hsz hBw))))))
      clear bs B3 X3 o3 hb3 BS x0 x1 x2 hsz hBw
      go_upto_region 10 with fail
      go_cut [] (fun wx => ∃ e2 : S11, Blk wx Bw 77 (cs.setIfInBounds (L * 6 + 3) e2.v) ∧ wx.ownsRow zb 37 3 e2.v e2.n (vE (insI es ix ⟨xs, xp, xq⟩)) ∧ EvT (fun b => se.own b ∨ b = Bw) w3 wx ∧ ∀ b, e2.own b → se.own b ∨ w3.heap.size ≤ b)
      case first =>
       refine wp_region_held_drew (S := (fun W => W.cell? ⟨w.heap.size, 0, none⟩ = some (.string xs) ∧ W.cell? ⟨w.heap.size, 1, none⟩ = some (.int .u32 xp) ∧ W.cell? ⟨w.heap.size, 2, none⟩ = some (.int .u16 xq))) (by kernel_rfl) (by exact KS.out _ (Below.drew (Below.refl _ _))) (fun hHeld => ?_)
       try dsimp only at hHeld
       refine zt 0 ?_ rfl (by kernel_rfl) (fun _ _ _ h => h) ⟨rfl, ?_⟩ hHeld ?_
       rotate_left
       focus (intro wx hSw; (try dsimp only at hSw); (try go_split_ands); go_simp; (try with_reducible rfl))
       try simp only [Act.put, za1, za2, za3, za4, za5, za6]
       refine zt 1 ?_ rfl (by kernel_rfl) (fun _ _ _ h => h) ⟨rfl, ?_⟩ hHeld ?_
       rotate_left
       focus (intro wx hSw; (try dsimp only at hSw); (try go_split_ands); go_simp; (try with_reducible rfl))
       try simp only [Act.put, za1, za2, za3, za4, za5, za6]
       refine zt 2 ?_ rfl (by kernel_rfl) (fun _ _ _ h => h) ⟨rfl, ?_⟩ hHeld ?_
       rotate_left
       focus (intro wx hSw; (try dsimp only at hSw); (try go_split_ands); go_simp; (try with_reducible rfl))
       try simp only [Act.put, za1, za2, za3, za4, za5, za6]
       refine zt 3 ?_ rfl (by kernel_rfl) (fun _ _ _ h => h) ⟨rfl, ?_⟩ hHeld ?_
       rotate_left
       focus (intro wx hSw; (try dsimp only at hSw); (try go_split_ands); go_simp; (try with_reducible rfl))
       try simp only [Act.put, za1, za2, za3, za4, za5, za6]
       refine zt 4 ?_ rfl (by kernel_rfl) (fun _ _ _ h => h) ⟨rfl, ?_⟩ hHeld ?_
       rotate_left
       focus (intro wx hSw; (try dsimp only at hSw); (try go_split_ands); go_simp; (try with_reducible rfl))
       try simp only [Act.put, za1, za2, za3, za4, za5, za6]
       refine zt 6 ?_ rfl (by kernel_rfl) (fun _ _ _ h => h) ⟨rfl, ?_⟩ hHeld ?_
       rotate_left
       focus (intro wx hSw; (try dsimp only at hSw); (try go_split_ands); go_simp; (try with_reducible rfl))
       try simp only [Act.put, za1, za2, za3, za4, za5, za6]
       refine zt 7 ?_ rfl (by kernel_rfl) (fun _ _ _ h => h) ⟨rfl, ?_⟩ hHeld ?_
       rotate_left
       focus (intro wx hSw; (try dsimp only at hSw); (try go_split_ands); go_simp; (try with_reducible rfl))
       try simp only [Act.put, za1, za2, za3, za4, za5, za6]
       refine wpAnyH_ready (rs := [5, 8]) (by kernel_rfl) (by simp) (AllReadyH.cons rfl (fun K hK => ?_) (AllReadyH.cons rfl (fun K hK => ?_) AllReadyH.nil))
       · go_simp
         refine hK.out _ _ ?_ (fun hHeld => ?_)
         · ((try dsimp only); (try dsimp only at hHeld); exact KS.out _ (by with_reducible repeat (first | exact Below.refl _ _ | refine bdr ?_ _ | refine Below.drew ?_ | refine ball ?_ _)))
         clear hK K
         try dsimp only at hHeld
         try simp only [Act.put, za1, za2, za3, za4, za5, za6]
         refine wpAnyH_ready (rs := [8]) (by kernel_rfl) (by simp) (AllReadyH.cons rfl (fun K hK => ?_) AllReadyH.nil)
         go_simp
         refine hK.out _ _ ?_ (fun hHeld => ?_)
         · ((try dsimp only); (try dsimp only at hHeld); exact KS.out _ (by with_reducible repeat (first | exact Below.refl _ _ | refine bdr ?_ _ | refine Below.drew ?_ | refine ball ?_ _)))
         clear hK K
         try dsimp only at hHeld
         try simp only [Act.put, za1, za2, za3, za4, za5, za6]
         refine wpAnyH_ready (rs := [9]) (by kernel_rfl) (by simp) (AllReadyH.cons rfl (fun K hK => ?_) AllReadyH.nil)
         go_simp
         refine IE.out.mono ?_
         rintro e10 w10 ⟨A10, c10, rfl, ho10, ev10, nb10⟩
         have E10 : EvT se.own w3 w10 := (EvT.of_below (O := se.own) (ball (Below.drew (Below.refl w3.heap.size w3)) (.cells #[.string xs, .int .u32 xp, .int .u16 xq] 37))).trans (ev10.mono (O' := se.own) fun b hb => .inl (by show (Value.slice _ _ _).ownBlock = _; rw [ownB]; exact hb)) (fun b e => .inl e)
         have b10 := E10.blk HI.out.2.1 HI.out.2.2.2.2.2.1.2
         have x10 := E10.blk HI.out.2.2.1 HI.out.2.2.2.2.2.1.1
         have KS10 := Lib.hid (And.intro (x10.cell 0) (And.intro (x10.cell 1) (x10.cell 2)))
         have KS11 := Lib.hid (fun (u : Value) => have x11 := x10.far (p := ⟨Bw, L * 6 + 3, none⟩) HI.out.2.2.2.2.2.2 u; And.intro (x11.cell 0) (And.intro (x11.cell 1) (x11.cell 2)))
         have d10 := cell66 b10 Hcs.out.2.2.2.1
         have f10 := b10.frozen (L * 6 + 3)
         have l10 := b10.lt
         have C10 := Lib.hid (And.intro b10 (And.intro ho10 (And.intro E10 nb10)))
         clear b10 ho10 E10 ev10 nb10 x10
         go_wp2_with fail
         refine hK.out _ _ ?_ (fun hHeld => ?_)
         · ((try dsimp only); (try dsimp only at hHeld); exact KS10.out)
         clear hK K
         try dsimp only at hHeld
         try simp only [Act.put, za1, za2, za3, za4, za5, za6]
         refine zt 10 ?_ rfl (by kernel_rfl) (fun _ _ _ h => h) ⟨rfl, ?_⟩ hHeld ?_
         rotate_left
         focus (intro wx hSw; (try dsimp only at hSw); (try go_split_ands); go_simp; (try with_reducible rfl))
         try simp only [Act.put, za1, za2, za3, za4, za5, za6]
         refine zt 11 ?_ rfl (by kernel_rfl) (fun _ _ _ h => h) ⟨rfl, ?_⟩ hHeld ?_
         rotate_left
         focus (intro wx hSw; (try dsimp only at hSw); (try go_split_ands); go_simp; (try with_reducible rfl))
         try simp only [Act.put, za1, za2, za3, za4, za5, za6]
         refine zt 12 ?_ rfl (by kernel_rfl) (fun _ _ _ h => h) ⟨rfl, ?_⟩ hHeld ?_
         rotate_left
         focus (intro wx hSw; (try dsimp only at hSw); (try go_split_ands); go_simp; (try with_reducible rfl))
         try simp only [Act.put, za1, za2, za3, za4, za5, za6]
         refine wpAnyH_ready (rs := [13]) (by kernel_rfl) (by simp) (AllReadyH.cons rfl (fun K hK => ?_) AllReadyH.nil)
         go_simp
         refine hK.out _ _ ?_ (fun hHeld => ?_)
         · ((try dsimp only); (try dsimp only at hHeld); exact KS11.out _)
         clear hK K
         try dsimp only at hHeld
         try simp only [Act.put, za1, za2, za3, za4, za5, za6]
         refine wpAnyH_done (by kernel_rfl) ?_ _
         go_wp2_with fail
         go_meet
         refine ⟨⟨A10, se.n + 1, c10⟩, C10.out.1.set_ _ _, (by have h := C10.out.2.1; rw [vE_ins3 es ix xs xp xq] at h; exact far_own66 h C10.out.1 (by decide) _ _), (C10.out.2.2.1.mono (O' := fun b => se.own b ∨ b = Bw) fun b e => .inl (.inl e)).store (p := ⟨Bw, L * 6 + 3, none⟩) (.inr (.inr rfl)) _, fun b hb => ?_⟩
         have hb : (Value.slice A10 (se.n + 1) c10).ownBlock = some b := hb
         rw [ownB] at hb
         rcases C10.out.2.2.2 b hb with h | h
         · left; show (Value.slice _ _ _).ownBlock = _; rw [ownB]; exact h
         · right; rw [alloc_size] at h; have h : w3.heap.size + 1 ≤ b := h; omega
       · go_simp
         refine hK.out _ _ ?_ (fun hHeld => ?_)
         · ((try dsimp only); (try dsimp only at hHeld); exact KS.out _ (by with_reducible repeat (first | exact Below.refl _ _ | refine bdr ?_ _ | refine Below.drew ?_ | refine ball ?_ _)))
         clear hK K
         try dsimp only at hHeld
         try simp only [Act.put, za1, za2, za3, za4, za5, za6]
         refine wpAnyH_ready (rs := [5]) (by kernel_rfl) (by simp) (AllReadyH.cons rfl (fun K hK => ?_) AllReadyH.nil)
         go_simp
         refine hK.out _ _ ?_ (fun hHeld => ?_)
         · ((try dsimp only); (try dsimp only at hHeld); exact KS.out _ (by with_reducible repeat (first | exact Below.refl _ _ | refine bdr ?_ _ | refine Below.drew ?_ | refine ball ?_ _)))
         clear hK K
         try dsimp only at hHeld
         try simp only [Act.put, za1, za2, za3, za4, za5, za6]
         refine wpAnyH_ready (rs := [9]) (by kernel_rfl) (by simp) (AllReadyH.cons rfl (fun K hK => ?_) AllReadyH.nil)
         go_simp
         refine IE.out.mono ?_
         rintro e10 w10 ⟨A10, c10, rfl, ho10, ev10, nb10⟩
         have E10 : EvT se.own w3 w10 := (EvT.of_below (O := se.own) (ball (Below.drew (Below.refl w3.heap.size w3)) (.cells #[.string xs, .int .u32 xp, .int .u16 xq] 37))).trans (ev10.mono (O' := se.own) fun b hb => .inl (by show (Value.slice _ _ _).ownBlock = _; rw [ownB]; exact hb)) (fun b e => .inl e)
         have b10 := E10.blk HI.out.2.1 HI.out.2.2.2.2.2.1.2
         have x10 := E10.blk HI.out.2.2.1 HI.out.2.2.2.2.2.1.1
         have KS10 := Lib.hid (And.intro (x10.cell 0) (And.intro (x10.cell 1) (x10.cell 2)))
         have KS11 := Lib.hid (fun (u : Value) => have x11 := x10.far (p := ⟨Bw, L * 6 + 3, none⟩) HI.out.2.2.2.2.2.2 u; And.intro (x11.cell 0) (And.intro (x11.cell 1) (x11.cell 2)))
         have d10 := cell66 b10 Hcs.out.2.2.2.1
         have f10 := b10.frozen (L * 6 + 3)
         have l10 := b10.lt
         have C10 := Lib.hid (And.intro b10 (And.intro ho10 (And.intro E10 nb10)))
         clear b10 ho10 E10 ev10 nb10 x10
         go_wp2_with fail
         refine hK.out _ _ ?_ (fun hHeld => ?_)
         · ((try dsimp only); (try dsimp only at hHeld); exact KS10.out)
         clear hK K
         try dsimp only at hHeld
         try simp only [Act.put, za1, za2, za3, za4, za5, za6]
         refine zt 10 ?_ rfl (by kernel_rfl) (fun _ _ _ h => h) ⟨rfl, ?_⟩ hHeld ?_
         rotate_left
         focus (intro wx hSw; (try dsimp only at hSw); (try go_split_ands); go_simp; (try with_reducible rfl))
         try simp only [Act.put, za1, za2, za3, za4, za5, za6]
         refine zt 11 ?_ rfl (by kernel_rfl) (fun _ _ _ h => h) ⟨rfl, ?_⟩ hHeld ?_
         rotate_left
         focus (intro wx hSw; (try dsimp only at hSw); (try go_split_ands); go_simp; (try with_reducible rfl))
         try simp only [Act.put, za1, za2, za3, za4, za5, za6]
         refine zt 12 ?_ rfl (by kernel_rfl) (fun _ _ _ h => h) ⟨rfl, ?_⟩ hHeld ?_
         rotate_left
         focus (intro wx hSw; (try dsimp only at hSw); (try go_split_ands); go_simp; (try with_reducible rfl))
         try simp only [Act.put, za1, za2, za3, za4, za5, za6]
         refine wpAnyH_ready (rs := [13]) (by kernel_rfl) (by simp) (AllReadyH.cons rfl (fun K hK => ?_) AllReadyH.nil)
         go_simp
         refine hK.out _ _ ?_ (fun hHeld => ?_)
         · ((try dsimp only); (try dsimp only at hHeld); exact KS11.out _)
         clear hK K
         try dsimp only at hHeld
         try simp only [Act.put, za1, za2, za3, za4, za5, za6]
         refine wpAnyH_done (by kernel_rfl) ?_ _
         go_wp2_with fail
         go_meet
         refine ⟨⟨A10, se.n + 1, c10⟩, C10.out.1.set_ _ _, (by have h := C10.out.2.1; rw [vE_ins3 es ix xs xp xq] at h; exact far_own66 h C10.out.1 (by decide) _ _), (C10.out.2.2.1.mono (O' := fun b => se.own b ∨ b = Bw) fun b e => .inl (.inl e)).store (p := ⟨Bw, L * 6 + 3, none⟩) (.inr (.inr rfl)) _, fun b hb => ?_⟩
         have hb : (Value.slice A10 (se.n + 1) c10).ownBlock = some b := hb
         rw [ownB] at hb
         rcases C10.out.2.2.2 b hb with h | h
         · left; show (Value.slice _ _ _).ownBlock = _; rw [ownB]; exact h
         · right; rw [alloc_size] at h; have h : w3.heap.size + 1 ≤ b := h; omega
      case rest =>
       obtain ⟨e2, hB4, ho4, ev4, nb4⟩ := hcut
       rename World => w4
       have hz4 := ev4.size
       have hO4 : ∀ b, se.own b ∨ b = Bw → w1.heap.size ≤ b ∧ b < w3.heap.size := fun b hb => by
        rcases hb with hb | hb
        · have := World.ownsRow.lt HI.out.2.2.2.1 b hb; have := HW.out.2.1.le; omega
        · have := HW.out.2.2.2.2.2.1; omega
       have lf4 : Lf w w4 gb gt := (Lf.of_below (gb := gb) (gt := gt) (bto0 H0.out.2.2.1 (bto0 HW.out.2.2.2.1 HI.out.2.2.2.2.1))).evt ev4 (fun b hb => by have := (hO4 b hb).1; omega)
       have dp4 : DP w4 g gb gt n ps T := (H0.out.1.lower (bto0 H0.out.2.2.1 (bto0 HW.out.2.2.2.1 HI.out.2.2.2.2.1))).evt ev4 (fun e => by have := (hO4 _ e).1; omega) (fun e => by have := (hO4 _ e).1; omega) (fun e => by have := (hO4 _ e).1; omega)
       have wy4 : WayR w4 w1.heap.size ss frs zb := (HW.out.2.1.below HI.out.2.2.2.2.1).stays ev4 (fun b hb => by
        rcases hb with hb | hb
        · exact .inl (World.ownsRow.lt HI.out.2.2.2.1 b hb).1
        · exact .inr ⟨_, cs, hb ▸ HI.out.2.1, by decide, by decide⟩)
       have hba := ball (Below.refl w4.heap.size w4) (.cells #[.pointer (some ⟨g, 0, none⟩), .slice none 0 0, .slice none 0 0] 85)
       have XC := Blk.new w4 85 #[.pointer (some ⟨g, 0, none⟩), .slice none 0 0, .slice none 0 0]
       have hxl : (⟨xs, xp, xq⟩ : En) ∉ d.L := fun e => Hin.out (H0.out.2.2.2.2.2.1.2 (by rw [← H0.out.2.1.L]; exact e))
       obtain ⟨so, ok, IO, hlp⟩ := WO.out hxl
       have hcsz : ∀ j, j ≠ L * 6 + 3 → (cs.setIfInBounds (L * 6 + 3) e2.v)[j]? = cs[j]? := fun j hj => set_ne66 (fun e => hj e.symm)
       have hc3 : (cs.setIfInBounds (L * 6 + 3) e2.v)[L * 6 + 3]? = some e2.v := by
        have := (Array.getElem?_eq_some_iff.1 Hcs.out.2.2.2.1).1
        rw [Array.getElem?_setIfInBounds_self_of_lt this]
       have hat := ins_at HI.out.1 Hin.out
       rw [hat] at ho4
       rw [leafSt_cur] at so
       have hst : frs.foldl (fun s fr => frSt fr s) (curSt true [] spp sN [] (withP es ⟨xs, xp, xq⟩) T) = setSt frs spp sN (withP es ⟨xs, xp, xq⟩) T := by unfold setSt; rw [leafSt_cur]
       have hzb1 : zb ≤ w4.heap.size := by omega
       have SJ : SetJ w Bw w4.heap.size g gb gt n w4.heap.size w1.heap.size zb ps L ss frs T S110 S110 [] (cs.setIfInBounds (L * 6 + 3) e2.v) true spp sN [] (withP es ⟨xs, xp, xq⟩) S110 e2 (L + 1) root (setSt frs spp sN (withP es ⟨xs, xp, xq⟩) T) (w4.alloc (.cells #[.pointer (some ⟨g, 0, none⟩), .slice none 0 0, .slice none 0 0] 85)) :=
        { b := ⟨hB4.alloc _, fun j s hs t ht => by
         have hj : j < L := by have := lt_of_at hs; rw [List.length_reverse, HW.out.2.2.2.2.2.2] at this; exact this
         rw [hcsz _ (by omega)]; exact Hcs.out.2.2.2.2.2 j s hs t ht, HW.out.2.2.2.2.2.2, wy4.below hba,
         ⟨XC, Nat.le_refl _, World.ownsRow_nil _ _ _ _, [], World.ownsRow_nil _ _ _ _, rfl, fun k v Lq h1 => by simp at h1⟩, dp4.lower hba, hzb1, by rw [alloc_size]; omega, ⟨HW.out.2.2.2.2.2.1, by omega⟩, lf4.trans (Lf.of_below hba), by omega, by omega⟩
          c0 := (hcsz _ (by omega)).trans Hcs.out.1
          c1 := (hcsz _ (by omega)).trans Hcs.out.2.1
          c2 := (hcsz _ (by omega)).trans Hcs.out.2.2.1
          c3 := hc3
          c4 := (hcsz _ (by omega)).trans Hcs.out.2.2.2.2.1
          cur := ⟨own_below ho4 hba, fun e => (by cases e), fun _ => rfl⟩
          nk := fun b hb => (S110.own_ b hb).elim
          ok := ok
          so := so
          eq := hst
          wl := by rw [List.length_nil]; omega
          w5 := fun q hq => by cases hq
          iw := by omega
          pn := by omega
          tp := WT.out }
       have ST := Lib.hid (settle_any (cw := cw) SJ rfl (by have := H0.out.2.1.h2; have := Hen.out.2; omega) (by omega) (by omega))
       have IT := Lib.hid (ins_tree2 H0.out.2.1 (by omega) (by omega) IO)
       have hh := Hen.out.2
       rw [← hh, insP_set] at IT
       have HV := Lib.hid (And.intro hba (And.intro lf4 hh))
       have hwz : gb < w4.heap.size ∧ gt < w4.heap.size := by omega
       clear hB4 ho4 ev4 nb4 hO4 lf4 dp4 wy4 XC so ok IO hcsz hc3 hat hst SJ hba hh IE KS y3 f3 Hcs
       generalize hR : setR (L + 1) root (setSt frs spp sN (withP es ⟨xs, xp, xq⟩) T) = R at *
       have HRR := Lib.hid hR
       clear hR
       go_upto_region 12 with fail
       obtain ⟨w5, hw5⟩ : ∃ x, w4.alloc (.cells #[.pointer (some ⟨g, 0, none⟩), .slice none 0 0, .slice none 0 0] 85) = x := ⟨_, rfl⟩
       rw [hw5] at ST HV ⊢
       clear hw5
       go_wp2_with fail
       refine ST.out.mono ?_
       rintro e6 w6 ⟨dp6, lf6, hres⟩
       rw [HRR.out] at dp6 hres
       obtain ⟨o, T2⟩ := R
       have nx1 : ∀ {Q : Prop}, 200 < (⟨xs, xp, xq⟩ : En).s.size → Q := fun h => absurd h (by have h2 : xs.size ≤ 200 := Hk.out; show ¬ 200 < xs.size; omega)
       have nx2 : ∀ {Q : Prop}, (⟨xs, xp, xq⟩ : En) ∈ l → Q := fun h => absurd (H0.out.2.2.2.2.2.1.2 h) Hin.out
       cases o with
       | none =>
         simp only at hres dp6
         subst hres
         have H6 := Lib.hid (And.intro dp6 lf6)
         clear dp6 lf6
         go_wp2_with fail
         go_ret2
         obtain ⟨i1, i2, i3⟩ := IT.out.2.1 rfl
         refine ⟨H6.out.2, nx1, fun _ => nx2, fun _ _ => ⟨ps, T2, H6.out.1, i3, .inr ⟨rfl, rfl, ?_⟩⟩⟩
         rw [← HV.out.2.2]; exact i2
       | some q =>
         obtain ⟨wr, r⟩ := q
         simp only at hres dp6
         obtain ⟨rfl, ⟨P, Y, ch6⟩, h512, hwl⟩ := hres
         obtain ⟨h', d', tk', c1, c2, c3, c4, c5⟩ := IT.out.1 r rfl
         have hTl := dp6.hT
         have WRI := Lib.hid (bwrite_any dp6 (by omega) ch6 (by have := lf6.size; have := ch6.hz; have := ch6.blk.lt; omega) hwz.1 hwz.2 (fun q hq => by
          have h1 := tk'.tk _ (c5 wr r rfl q hq)
          have h2 := lt_of_at h1
          exact ⟨by simp only at h2; omega, h1, h512 q hq⟩) (by omega))
         have H6 := Lib.hid (And.intro lf6 (And.intro tk' (And.intro c1 (And.intro c2 (And.intro c3 c4)))))
         clear dp6 lf6 ch6 h512 hwl tk' c1 c2 c3 c4 c5 hTl
         go_wp2_with fail
         refine WRI.out.mono ?_
         rintro e7 w7 ⟨rfl, dp7, lf7⟩
         have H7 := Lib.hid (And.intro dp7 lf7)
         clear dp7 lf7
         go_wp2_with fail
         go_ret2
         exact ⟨H6.out.1.trans H7.out.2, nx1, fun _ => nx2, fun _ _ => ⟨wrA ps wr, T2, H7.out.1, H6.out.2.2.2.1, .inl ⟨r, h', d', rfl, H6.out.2.1, H6.out.2.2.1, H6.out.2.2.2.2.1, H6.out.2.2.2.2.2⟩⟩⟩
end
end Go.Proofs.YtebobcbaloddaaaGreat
namespace Go.Proofs.YtebobcbaloddaaaGreat
section
set_option linter.unusedSimpArgs false
set_option linter.unusedVariables false
open Go.RowKit Go.Maps
section
variable {W w w' : World} {g gb gt n : Nat} {ps ps' : List (List UInt8)} {T T' : List Bool} {root root' : Nat} {l l' : List En} {A A' : Option Addr} {m c h m' c' h' : Nat} {d d' : Nd}
end
end
end Go.Proofs.YtebobcbaloddaaaGreat
namespace Go.Proofs.YtebobcbaloddaaaGreat
section
set_option linter.unusedSimpArgs false
set_option linter.unusedVariables false
open Go.RowKit Go.Maps
theorem leaf_pages {ps : List (List UInt8)} : ∀ (ds : List Nd) (nx : Nat), ChnN (Sub ps 1) ds nx → ((ds.map Nd.P).flatten).length = ds.length
 | [], _, _ => rfl
 | d :: r, nx, h => by
   have h1 := h.1.2.2.2.2.2.1
   rw [List.map_cons, List.flatten_cons, List.length_append, leaf_pages r nx h.2, h1]
   simp; omega
theorem free_new (n : Nat) (h : 1 ≤ n) : freeN (marksOf (zb n) n) = n - 1 := by
 rw [zb_marks n h]
 unfold freeN
 simp
end
end Go.Proofs.YtebobcbaloddaaaGreat
namespace Go.Proofs.YtebobcbaloddaaaGreat
section
set_option linter.unusedSimpArgs false
set_option linter.unusedVariables false
open Go.RowKit Go.Maps
theorem up_cnt2 {n : Nat} {l : List En} (hr : riseP l) : ∀ (f h : Nat) (lv : List Kd) (ds : List Nd) (ps : List (List UInt8)) (T : List Bool), LvS ps (h + 1) l lv ds → LvOk n lv → n = ps.length → T.length = ps.length → ps.length ≤ 10000 → (∀ p ∈ (ds.map Nd.P).flatten, T[p]? = some true) → lv.length ≤ f → lv.length * 2 ^ h ≤ 4095 →
 ∀ root, (upP f (ps, T, some lv)).2.2 = some root → ∃ h' d, 1 ≤ h' ∧ h' ≤ 12 ∧ Sub (upP f (ps, T, some lv)).1 h' d 0 ∧ d.p = root ∧ d.L = l ∧ d.P.Nodup ∧ (∀ p ∈ d.P, (upP f (ps, T, some lv)).2.1[p]? = some true ∧ (T[p]? = some false ∨ p ∈ (ds.map Nd.P).flatten)) ∧ freeN (upP f (ps, T, some lv)).2.1 + d.P.length = freeN T + ((ds.map Nd.P).flatten).length
 | 0, h, lv, ds, ps, T, S, O, hn, hT, hb, hm, hf, hh => by have := O.pos; omega
 | f + 1, h, lv, ds, ps, T, S, O, hn, hT, hb, hm, hf, hh => by
   have hp1 := O.pos
   have h12 : h < 12 := by
    by_cases hc : h < 12
    · exact hc
    · have h1 : 2 ^ 12 ≤ 2 ^ h := Nat.pow_le_pow_right (by omega) (by omega)
      have h2 : 1 * 2 ^ h ≤ lv.length * 2 ^ h := Nat.mul_le_mul_right _ hp1
      have h3 : (2 : Nat) ^ 12 = 4096 := by decide
      omega
   unfold upP
   by_cases h1 : lv.length ≤ 1
   · rw [if_pos h1]
     have hdl : ds.length = lv.length := by have := congrArg List.length S.fst; simpa using this
     obtain ⟨c, rfl⟩ : ∃ c, lv = [c] := by
      match lv, hp1, h1 with
      | [c], _, _ => exact ⟨c, rfl⟩
     obtain ⟨d, rfl⟩ : ∃ d, ds = [d] := by
      match ds, hdl with
      | [d], _ => exact ⟨d, rfl⟩
     have e1 := S.fst
     have e2 := S.L
     have e3 := S.nodup
     simp only [List.map_cons, List.map_nil, List.flatten_cons, List.flatten_nil, List.append_nil, List.cons.injEq, and_true] at e1 e2 e3 hm
     intro root hroot
     simp only [List.head?_cons, Option.map_some, Option.getD_some, Option.some.injEq] at hroot
     exact ⟨h + 1, d, by omega, by omega, S.chn.1, by rw [e1, hroot], e2, e3, fun p hp => ⟨hm p hp, .inr (by simpa using hp)⟩, by simp⟩
   · rw [if_neg h1]
     have hK := inP_keep lv ps T
     have hF := inP_free lv ps T
     have hgs := gs_half O.may (by omega)
     have hstep := fun lv' => in_sub (lv' := lv') (n := n) (lv := lv) (ds := ds) (ps := ps) (T := T) S hr O (by omega) hn hT hb hm
     have hok := fun lv' => inOk (n := n) (l := lv) O (by omega) (ps := ps) (T := T) (by omega) (lv := lv')
     generalize inP' lv ps T = R at *
     obtain ⟨ps', T', r⟩ := R
     simp only at *
     cases r with
     | none =>
       have e : upP f (ps', T', none) = (ps', T', none) := by cases f <;> rfl
       rw [e]
       exact fun root hroot => by cases hroot
     | some lv' =>
       simp only at hF
       obtain ⟨ds', S', hP', hPl⟩ := hstep lv' rfl
       obtain ⟨O', hl'⟩ := hok lv' rfl
       have hpw : lv'.length * 2 ^ (h + 1) ≤ 4095 := by
        rw [Nat.pow_succ]
        have h3 : 2 * lv'.length * 2 ^ h ≤ lv.length * 2 ^ h := Nat.mul_le_mul_right _ (by omega)
        have h4 : lv'.length * (2 ^ h * 2) = 2 * lv'.length * 2 ^ h := by rw [← Nat.mul_assoc, Nat.mul_comm, ← Nat.mul_assoc]
        omega
       intro root hroot
       obtain ⟨h', d, a1, a2, a3, a4, a5, a6, a7, a8⟩ := up_cnt2 hr f (h + 1) lv' ds' ps' T' S' O' (by omega) (by omega) (by omega) (fun p hp => (hP' p hp).1) (by omega) hpw root hroot
       refine ⟨h', d, a1, a2, a3, a4, a5, a6, fun p hp => ⟨(a7 p hp).1, ?_⟩, by omega⟩
       rcases (a7 p hp).2 with h2 | h2
       · left
         cases hTp : T[p]? with
         | none =>
           have := lt_of_at h2
           rw [List.getElem?_eq_none_iff] at hTp; omega
         | some b =>
           cases b with
           | false => rfl
           | true => rw [(hK.2.2 p hTp).2] at h2; cases h2
       · exact (hP' p h2).2
theorem bd_cnt2 {l : List En} {ps : List (List UInt8)} {T : List Bool} (hm : mayEn l = true) (hok : ∀ e ∈ l, e.ok) (hT : T.length = ps.length) (hb : ps.length ≤ 4095) {root : Nat} (hr : (bdP l ps T).2.2 = some root) :
 ∃ h d, TreeK (bdP l ps T).1 (bdP l ps T).2.1 root l h d ∧ freeN (bdP l ps T).2.1 + d.P.length = freeN T ∧ ∀ p ∈ d.P, T[p]? = some false := by
 have hri : riseP l := (rise_iff l).1 (by rw [may_both, Bool.and_eq_true] at hm; exact hm.2)
 revert hr
 unfold bdP
 have hK := lfP_keep l ps T
 have hF := lfP_free l ps T
 have hgs := gs_le hm
 have hstep := fun lv => lf_sub (lv := lv) hm hok hT (by omega)
 have hok' := fun lv => lfOk (ps := ps) (T := T) (lv := lv) hm hok
 generalize lfP l ps T = R at *
 obtain ⟨ps', T', r⟩ := R
 simp only at *
 cases r with
 | none =>
   have e : upP (l.length + 2) (ps', T', none) = (ps', T', none) := rfl
   rw [e]
   exact fun hr => by cases hr
 | some lv =>
   simp only at hF
   obtain ⟨ds, S, hP⟩ := hstep lv rfl
   obtain ⟨O, hl⟩ := hok' lv rfl
   have hfr : freeN T ≤ T.length := by unfold freeN; exact List.length_filter_le _ _
   intro hr
   obtain ⟨h', d, a1, a2, a3, a4, a5, a6, a7, a8⟩ := up_cnt2 hri (l.length + 2) 0 lv ds ps' T' S O (by omega) (by omega) (by omega) (fun p hp => (hP p hp).2) (by omega) (by omega) root hr
   have hdl : ds.length = lv.length := by have := congrArg List.length S.fst; simpa using this
   have := leaf_pages ds _ S.chn
   refine ⟨h', d, ⟨a1, a2, a3, a4, a5, a6, fun p hp => (a7 p hp).1⟩, by omega, fun p hp => ?_⟩
   rcases (a7 p hp).2 with h2 | h2
   · cases hTp : T[p]? with
     | none =>
       have := lt_of_at h2
       rw [List.getElem?_eq_none_iff] at hTp; omega
     | some b =>
       cases b with
       | false => rfl
       | true => rw [(hK.2.2 p hTp).2] at h2; cases h2
   · exact (hP p h2).1
theorem tree_small {ps : List (List UInt8)} {T : List Bool} {root h : Nat} {l : List En} {d : Nd} (t : TreeK ps T root l h d) (hl : l.length ≤ 60) : d.P.length ≤ 120 ∧ h ≤ 8 := by
 obtain ⟨m1, m2, m3⟩ := sub_many h d 0 t.sub
 rw [t.L] at m2
 have hk : d.k ≤ 60 := by
  by_cases e : l = []
  · have hh : h = 1 := by
     have h1 := t.h1
     obtain ⟨k, rfl⟩ : ∃ k, h = k + 1 := ⟨h - 1, by omega⟩
     cases k with
     | zero => rfl
     | succ k =>
       exfalso
       obtain ⟨ds, seps, H, hsn, hp, hfit, hd⟩ := sub_to t.sub
       have hL := t.L
       rw [hd, e] at hL
       have hlen := H.len
       cases ds with
       | nil => rw [List.length_nil] at hlen; omega
       | cons c r =>
         have h2 := H.ne c (by simp)
         have h3 : c.L ++ ((r.map Nd.L).flatten) = [] := by simpa [ndOf] using hL
         exact h2 (List.append_eq_nil_iff.1 h3).1
    subst hh
    have := t.sub.2.2.2.2.2.2.2
    omega
  · have := m2 e
    omega
 refine ⟨by omega, ?_⟩
 by_cases hc : h ≤ 8
 · exact hc
 · have h1 : 2 ^ 8 ≤ 2 ^ (h - 1) := Nat.pow_le_pow_right (by omega) (by omega)
   have h3 : (2 : Nat) ^ 8 = 256 := by decide
   omega
structure T3 (ps : List (List UInt8)) (T : List Bool) (ra rb rc : Nat) (la lb lc : List En) (ha hb hc : Nat) (da db dc : Nd) : Prop where
 a : TreeK ps T ra la ha da
 b : TreeK ps T rb lb hb db
 c : TreeK ps T rc lc hc dc
 ab : ∀ p ∈ da.P, p ∉ db.P
 ac : ∀ p ∈ da.P, p ∉ dc.P
 bc : ∀ p ∈ db.P, p ∉ dc.P
 cnt : freeN T + da.P.length + db.P.length + dc.P.length = 599
section
variable {ps ps' : List (List UInt8)} {T T' : List Bool} {ra rb rc : Nat} {la lb lc : List En} {ha hb hc hc' : Nat} {da db dc : Nd}
theorem TreeK.far_ (t : TreeK ps T ra la ha da) (hu : ∀ p : Nat, T[p]? = some true → T'[p]? = some true) (hf : ∀ p ∈ da.P, ps'[p]? = ps[p]?) : TreeK ps' T' ra la ha da :=
 ⟨t.h1, t.h2, sub_frame ha da 0 t.sub hf, t.p, t.L, t.nd, fun p hp => hu p (t.tk p hp)⟩
theorem T3.room (H : T3 ps T ra rb rc la lb lc ha hb hc da db dc) (h1 : la.length ≤ 60) (h2 : lb.length ≤ 60) (h3 : lc.length ≤ 60) : ¬ (freeN T ≤ hb ∨ hb = 12) ∧ ¬ (freeN T ≤ hc ∨ hc = 12) := by
 have a := tree_small H.a h1
 have b := tree_small H.b h2
 have c := tree_small H.c h3
 have := H.cnt
 omega
theorem T3.insB {root' h' : Nat} {d' : Nd} {l' : List En} (H : T3 ps T ra rb rc la lb lc ha hb hc' da db dc) (t : TreeK ps' T' root' l' h' d') (hcn : freeN T' + d'.P.length = freeN T + db.P.length) (hu : ∀ p : Nat, T[p]? = some true → T'[p]? = some true) (ho : ∀ p ∈ d'.P, p ∈ db.P ∨ T[p]? = some false) (hf : ∀ p : Nat, T[p]? = some true → p ∉ db.P → ps'[p]? = ps[p]?) :
 T3 ps' T' ra root' rc la l' lc ha h' hc' da d' dc := by
 have na : ∀ p ∈ da.P, p ∉ d'.P := fun p hp h => (ho p h).elim (fun e => H.ab p hp e) fun e => by rw [H.a.tk p hp] at e; cases e
 have nc : ∀ p ∈ d'.P, p ∉ dc.P := fun p hp h => (ho p hp).elim (fun e => H.bc p e h) fun e => by rw [H.c.tk p h] at e; cases e
 have := H.cnt
 exact ⟨H.a.far_ hu fun p hp => hf p (H.a.tk p hp) (H.ab p hp), t, H.c.far_ hu fun p hp => hf p (H.c.tk p hp) (fun e => H.bc p e hp), na, H.ac, nc, by omega⟩
theorem T3.swap (H : T3 ps T ra rb rc la lb lc ha hb hc' da db dc) : T3 ps T ra rc rb la lc lb ha hc' hb da dc db :=
 ⟨H.a, H.c, H.b, H.ac, H.ab, fun p hp h => H.bc p h hp, by have := H.cnt; omega⟩
end
theorem rise_eq : ∀ {a b : List En}, riseP a → riseP b → (∀ x, x ∈ a ↔ x ∈ b) → a = b
 | [], [], _, _, _ => rfl
 | [], y :: t, _, _, h => by have := (h y).2 (by simp); cases this
 | x :: s, [], _, _, h => by have := (h x).1 (by simp); cases this
 | x :: s, y :: t, h1, h2, h => by
   obtain ⟨a1, a2⟩ := List.pairwise_cons.1 h1
   obtain ⟨b1, b2⟩ := List.pairwise_cons.1 h2
   have hxy : x = y := by
    rcases List.mem_cons.1 ((h x).1 (by simp)) with e | e
    · exact e
    · rcases List.mem_cons.1 ((h y).2 (by simp)) with e2 | e2
      · exact e2.symm
      · have k1 := b1 x e
        have k2 := a1 y e2
        have := cmpE_swap x y
        omega
   subst hxy
   have : s = t := rise_eq a2 b2 fun z => by
    have hz := h z
    constructor
    · intro hs
      rcases List.mem_cons.1 (hz.1 (List.mem_cons_of_mem _ hs)) with e | e
      · subst e; have := a1 z hs; have := cmpE_swap z z; omega
      · exact e
    · intro ht
      rcases List.mem_cons.1 (hz.2 (List.mem_cons_of_mem _ ht)) with e | e
      · subst e; have := b1 z ht; have := cmpE_swap z z; omega
      · exact e
   rw [this]
theorem step_mem {out : List En} {x z : En} : z ∈ stepP out x ↔ z ∈ out ∨ (z = x ∧ x.s.size ≤ 200) := by
 unfold stepP
 split
 · rename_i h
   rw [with_mem]
   constructor
   · rintro (e | e)
     · exact .inr ⟨e, h.1⟩
     · exact .inl e
   · rintro (e | ⟨e, _⟩)
     · exact .inr e
     · exact .inl e
 · rename_i h
   constructor
   · exact .inl
   · rintro (e | ⟨e, h2⟩)
     · exact e
     · by_cases hx : x ∈ out
       · rw [e]; exact hx
       · exact absurd ⟨h2, hx⟩ h
theorem foldS_mem : ∀ (t out : List En) (z : En), z ∈ t.foldl stepP out ↔ z ∈ out ∨ (z ∈ t ∧ z.s.size ≤ 200)
 | [], out, z => by simp
 | x :: t, out, z => by
   rw [List.foldl_cons, foldS_mem t, step_mem, List.mem_cons]
   constructor
   · rintro ((h | ⟨rfl, h⟩) | ⟨h, h2⟩)
     · exact .inl h
     · exact .inr ⟨.inl rfl, h⟩
     · exact .inr ⟨.inr h, h2⟩
   · rintro (h | ⟨rfl | h, h2⟩)
     · exact .inl (.inl h)
     · exact .inl (.inr ⟨rfl, h2⟩)
     · exact .inr ⟨h, h2⟩
theorem foldS_rise : ∀ (t out : List En), riseP out → riseP (t.foldl stepP out)
 | [], _, h => h
 | x :: t, out, h => by
   rw [List.foldl_cons]
   refine foldS_rise t _ ?_
   unfold stepP
   split
   · rename_i h2; exact with_rise h h2.2
   · exact h
def rotL (l : List En) (b k : Nat) : List En := (List.range k).map fun i => l.getD ((i + b) % l.length) enZ
theorem rot_succ (l : List En) (b k : Nat) : rotL l b (k + 1) = rotL l b k ++ [l.getD ((k + b) % l.length) enZ] := by
 unfold rotL; rw [List.range_succ, List.map_append]; rfl
theorem rot_mem {l : List En} (b : Nat) (z : En) : z ∈ rotL l b l.length ↔ z ∈ l := by
 unfold rotL
 rw [List.mem_map]
 constructor
 · rintro ⟨i, hi, rfl⟩
   rw [List.mem_range] at hi
   have h1 : (i + b) % l.length < l.length := Nat.mod_lt _ (by omega)
   rw [List.getD_eq_getElem?_getD, List.getElem?_eq_getElem h1]
   exact List.getElem_mem h1
 · intro hz
   obtain ⟨j, hj⟩ := List.getElem?_of_mem hz
   have hjl := lt_of_at hj
   refine ⟨(j + (l.length - b % l.length)) % l.length, List.mem_range.2 (Nat.mod_lt _ (by omega)), ?_⟩
   have hb := Nat.mod_lt b (show l.length > 0 by omega)
   have e : ((j + (l.length - b % l.length)) % l.length + b) % l.length = j := by
    rw [Nat.add_mod, Nat.mod_mod, ← Nat.add_mod]
    have h2 : b = l.length * (b / l.length) + b % l.length := (Nat.div_add_mod b l.length).symm
    conv => lhs; arg 1; arg 2; rw [h2]
    rw [show j + (l.length - b % l.length) + (l.length * (b / l.length) + b % l.length) = j + l.length + l.length * (b / l.length) by omega, Nat.add_mul_mod_self_left, Nat.add_mod_right, Nat.mod_eq_of_lt hjl]
   rw [e, List.getD_eq_getElem?_getD, hj]; rfl
theorem sort_all {l : List En} (hl : l.length ≤ 60) : sortP l = l.foldl stepP [] := by unfold sortP; rw [List.take_of_length_le (by omega)]
theorem rot_sort {l : List En} (hl : l.length ≤ 60) (b : Nat) : (rotL l b l.length).foldl stepP [] = sortP l := by
 rw [sort_all hl]
 refine rise_eq (foldS_rise _ _ List.Pairwise.nil) (foldS_rise _ _ List.Pairwise.nil) fun x => ?_
 rw [foldS_mem, foldS_mem, rot_mem]
theorem foldS_len : ∀ (t out : List En), (t.foldl stepP out).length ≤ out.length + t.length
 | [], out => by simp
 | x :: t, out => by
   rw [List.foldl_cons, List.length_cons]
   have := foldS_len t (stepP out x)
   have h2 : (stepP out x).length ≤ out.length + 1 := by
    unfold stepP
    split
    · rw [with_len]; exact Nat.le_refl _
    · omega
   omega
end
end Go.Proofs.YtebobcbaloddaaaGreat
