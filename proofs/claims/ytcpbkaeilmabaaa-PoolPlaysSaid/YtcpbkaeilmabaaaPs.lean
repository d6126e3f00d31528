/-
  Pool: the law PoolPlays.
-/
import Derived.Test.YtcpbkaeilmabaaaPr
import Derived.Test.YtcpbkaeilmabaaaPn
import Derived.Deep.DeepCutAuto
namespace Go.Proofs.Ytcpbkaeilmabaaa
set_option linter.unusedSimpArgs false
set_option linter.unusedVariables false
open Go.RowKit Go.Maps

section
variable {w : World} {lo gp gd gb gt n : Nat} {ps : List (List UInt8)} {T : List Bool} {gm size : Nat} {K : List Fr} {D : DataW Unit} {rd ht : Nat}
theorem PS.k20 (h : PS w lo gp gd gb gt n ps T gm size K D rd ht) : K.length ≤ n := by
  have hnd := h.nodup
  have hsub : ∀ x ∈ pgs K, x < n := by
    intro x hx
    unfold pgs at hx
    obtain ⟨f, hf, rfl⟩ := List.mem_map.1 hx
    obtain ⟨i, hi⟩ := List.getElem?_of_mem hf
    exact h.pn hi
  have hle : (pgs K).length ≤ n := nodup_le _ n hnd hsub
  unfold pgs at hle
  rwa [List.length_map] at hle
/-- All blocks of a pool are old; only newer ones turn. -/
theorem PS.keep {wm w9 w10 : World} {D' : DataW Unit} {rd' ht' : Nat} (h0 : PS wm lo gp gd gb gt n ps T gm size K D rd ht) (h : PS w9 lo gp gd gb gt n ps T gm size K D' rd' ht') (he : ∀ g, g < wm.heap.size → w10.heap[g]? = w9.heap[g]?) : PS w10 lo gp gd gb gt n ps T gm size K D' rd' ht' :=
  ⟨⟨h.rg.low, (he _ h0.rg.pool.lt).trans h.rg.pool, fun i f hi => ⟨(he _ (h0.rg.fr i f hi).1.lt).trans (h.rg.fr i f hi).1, (h.rg.fr i f hi).2⟩, h.rg.inj⟩, h.mp.same (he _ h0.mp.lt), h.lom, fun i f hi => ⟨(he _ (h0.by_ i f hi).1.lt).trans (h.by_ i f hi).1, (h.by_ i f hi).2⟩, h.pg,
    ⟨⟨(he _ h0.dk.dk.d.lt).trans h.dk.dk.d, (he _ h0.dk.dk.b.lt).trans h.dk.dk.b, (he _ h0.dk.dk.t.lt).trans h.dk.dk.t, h.dk.dk.hb, h.dk.dk.ht⟩, h.dk.full, h.dk.hp⟩, h.s1, h.sz⟩
end
theorem Far.set4 (w : World) (r : Nat) (a b c d : Value) : Far w ((((w.setCell ⟨r, 0, none⟩ a).setCell ⟨r, 1, none⟩ b).setCell ⟨r, 2, none⟩ c).setCell ⟨r, 3, none⟩ d) r :=
  ⟨fun g hg => (Below.heap_setCell _ _ _ _ hg).trans ((Far.set3 w r a b c).heap g hg), by simp [World.setCell], fun B w0 hB hb => ((Far.set3 w r a b c).below B w0 hB hb).setCell (show B ≤ (⟨r, 3, none⟩ : Addr).block from hB) _⟩
theorem Blk.set4 {w : World} {r : Nat} {t : TypeId} {x0 x1 x2 x3 : Value} (h : Blk w r t #[x0, x1, x2, x3]) (a b c d : Value) : Blk ((((w.setCell ⟨r, 0, none⟩ a).setCell ⟨r, 1, none⟩ b).setCell ⟨r, 2, none⟩ c).setCell ⟨r, 3, none⟩ d) r t #[a, b, c, d] := by
  have := (((h.set_ 0 a).set_ 1 b).set_ 2 c).set_ 3 d
  simpa using this
theorem Far.turn {w w' : World} {r : Nat} (hf : Far w w' r) {A : Option Addr} {n : Nat} {P : List Nat} (h : RU w A n P) {t : TypeId} {cs : Array Value} (hX : Blk w r t cs) (ht : 34 ≠ t) : RU w' A n P :=
  h.same (by rw [hf.size]; exact Nat.le_refl _) fun g cs hc => hf.heap g (hc.ne_ hX ht)
/-- What is between two pages that are got. -/
def PLS (w : World) (B1 B3 gp gd gb gt n : Nat) (ps : List (List UInt8)) (T : List Bool) (gm size M k : Nat) (W : World) : Prop :=
  ∃ K D rd ht A c, PS W B1 gp gd gb gt n ps T gm size K D rd ht ∧ Blk W M 74 #[.int .i64 size, .slice A K.length c, .int .u64 (rd : Nat), .int .u64 (ht : Nat)] ∧ RU W A K.length (pgs K) ∧ (rd ≤ k ∧ ht ≤ k) ∧ Below w.heap.size w W ∧ B3 ≤ W.heap.size
theorem lawPlaysP_out (pages size : Int) (A : Option Addr) (m c : Nat) (s : Int) (w : World) (h : pages < 1 ∨ 20 < pages ∨ 300 < m) (hm : m ≤ 9223372036854775807) :
    Calls Try.prog 8 #[.int .i64 pages, .int .i64 size, .slice A m c, .int .u8 s] w (RetB w (.bool true)) := by
  have F := Lib.hid pfixed_any
  by_cases h1 : pages < 1
  · have e1 : decide (pages < 1) = true := by simp [h1]
    clear h hm
    go_enter Try.func8, Try.ntmps8
    go_wp2_with (go_at_call 35; refine (F.out _).mono ?_; rintro e w1 ⟨rfl, hb1⟩)
    go_ret
    exact ⟨rfl, hb1⟩
  · have e1 : decide (pages < 1) = false := by simp [h1]
    by_cases h2 : 20 < pages
    · have e2 : decide (20 < pages) = true := by simp [h2]
      clear h hm h1
      go_enter Try.func8, Try.ntmps8
      go_wp2_with (go_at_call 35; refine (F.out _).mono ?_; rintro e w1 ⟨rfl, hb1⟩)
      go_ret
      exact ⟨rfl, hb1⟩
    · have e2 : decide (20 < pages) = false := by simp [h2]
      have h3 : (300 : Int) < (m : Int) := by omega
      have e3 : decide ((300 : Int) < (m : Int)) = true := by simp [h3]
      clear h hm h1 h2
      go_enter Try.func8, Try.ntmps8
      go_wp2_with (go_at_call 35; refine (F.out _).mono ?_; rintro e w1 ⟨rfl, hb1⟩)
      go_ret
      exact ⟨rfl, hb1⟩
set_option maxRecDepth 100000 in
theorem lawPlaysP_small (n : Nat) (size : Int) (A : Option Addr) (m c : Nat) (s : Int) (w : World) (h1 : 1 ≤ n) (h2 : n ≤ 20) (hm : m ≤ 300) (hs : size < 1) :
    Calls Try.prog 8 #[.int .i64 n, .int .i64 size, .slice A m c, .int .u8 s] w (RetB w (.bool true)) := by
  have F := Lib.hid pfixed_any
  have BG := Lib.hid (begin_any n h1 h2 w)
  have e1 : decide ((n : Int) < 1) = false := by simp; omega
  have e2 : decide ((20 : Int) < (n : Int)) = false := by simp; omega
  have e3 : decide ((300 : Int) < (m : Int)) = false := by simp; omega
  have e4 : decide (size < 1) = true := by simp [hs]
  have PN := Lib.hid fun d W => pnew_no d size (.inr hs) W
  clear hm hs
  go_enter Try.func8, Try.ntmps8
  go_wp2_with fail
  refine BG.out.mono ?_
  rintro e w1 ⟨gd, gb, gt, ps, T, rfl, dp, hb1⟩
  have H1 := Lib.hid hb1
  clear dp hb1
  go_wp2_with fail
  refine (PN.out _ _).mono ?_
  rintro e w2 ⟨rfl, rfl⟩
  go_wp2_with fail
  refine (F.out _).mono ?_
  rintro e w3 ⟨rfl, hb3⟩
  have HE := Lib.hid (bto0 H1.out hb3)
  clear hb3
  go_wp2
  go_ret
  exact ⟨rfl, HE.out⟩
set_option maxRecDepth 100000 in
set_option maxHeartbeats 4000000 in
theorem lawPlaysP_in (n size : Nat) (A : Option Addr) (m c s : Nat) (l : List Int) (w : World) (h1 : 1 ≤ n) (h2 : n ≤ 20) (hs1 : 1 ≤ size) (hs2 : size ≤ 9223372036854775807) (hs : s ≤ 255) (hm : m ≤ 300) (hr : Reads w w.heap.size 1 A m (l.map (Value.int .u32))) (hw : ∀ x ∈ l, (Lit.int .u32 x).wf = true) :
    Calls Try.prog 8 #[.int .i64 n, .int .i64 size, .slice A m c, .int .u8 s] w (RetB w (.bool true)) := by
  have F := Lib.hid pfixed_any
  have BG := Lib.hid (begin_any n h1 h2 w)
  have e1 : decide ((n : Int) < 1) = false := by simp; omega
  have e2 : decide ((20 : Int) < (n : Int)) = false := by simp; omega
  have e3 : decide ((300 : Int) < (m : Int)) = false := by simp; omega
  have e4 : decide ((size : Int) < 1) = false := by simp; omega
  have hsI : (s : Int) ≤ 255 := by omega
  have hszI : (size : Int) ≤ 9223372036854775807 := by omega
  have HR := Lib.hid (And.intro hr hw)
  clear hr hw
  go_enter Try.func8, Try.ntmps8
  go_wp2_with fail
  refine BG.out.mono ?_
  rintro e w1 ⟨gd, gb, gt, ps, T, rfl, dp, hb1⟩
  have N1 := Lib.hid (pnew_any (size := size) dp hs1 hs2)
  have HD := Lib.hid (And.intro dp hb1)
  clear dp hb1
  go_wp2_with fail
  refine N1.out.mono ?_
  rintro e w2 ⟨gp, gm, D, rfl, pa, hb2, hg1, hg2⟩
  have hb12 := bto0 HD.out.2 hb2
  have hzw := HD.out.2.size
  have hz2 := hb2.size
  have hS0 : PLS w w1.heap.size (w2.heap.size + 1) gp gd gb gt n ps T gm size w2.heap.size 0 (w2.alloc (.cells #[.int .i64 size, .slice none 0 0, .int .u64 0, .int .u64 0] 74)) :=
    ⟨[], D, 0, 0, none, 0, pa.below (ball (Below.refl _ _) _), Blk.new _ _ _, ⟨Reads.none_, by simp⟩, by omega, ball hb12 _, by simp⟩
  clear pa hb2 N1 HD hb12
  have HS0 := Lib.hid hS0
  clear hS0
  go_wp2_with fail
  go_loopw [64] (fun u64 wr => ∃ (k : Nat), u64 = .int .i64 k ∧ k ≤ m ∧ PLS w w1.heap.size (w2.heap.size + 1) gp gd gb gt n ps T gm size w2.heap.size k wr) (fun u64 _ => m - (intOf u64).toNat)
  case atStart => exact ⟨0, rfl, by omega, HS0.out⟩
  case round =>
    clear HS0
    obtain ⟨k, rfl, hk, hst⟩ := hrel
    have q0 : (0 : Int) ≤ (k : Int) := by omega
    by_cases hlt : k < m
    · have q1 : (k : Int) < (m : Int) := by omega
      obtain ⟨K, D5, rd, ht, A5, c5, pa, hM, hru, hkk, hbl, hz⟩ := hst
      obtain ⟨ad, u, rfl, _, hu, cl⟩ := (HR.out.1.below hbl).at_ hlt
      rw [List.getElem?_map] at hu
      obtain ⟨x, hx, rfl⟩ := Option.map_eq_some_iff.1 hu
      have hxw := Go.bounds_u32 (HR.out.2 x (List.mem_of_getElem? hx))
      obtain ⟨p, rfl⟩ : ∃ p : Nat, x = p := ⟨x.toNat, by omega⟩
      have HP := Lib.hid hxw
      have H := Lib.hid (And.intro pa (And.intro hM (And.intro hru (And.intro hkk (And.intro hbl hz)))))
      clear pa hM hru hkk hbl hu hx hxw
      obtain ⟨ok, hok⟩ : ∃ ok, decide (0 < k ∧ k = s) = ok := ⟨_, rfl⟩
      have HO := Lib.hid hok
      clear hok
      go_upto_region 13 with fail
      go_cut [76] (fun s76 wx => s76 = .bool ok ∧ wx = wr)
      case first =>
        have ho := HO.out
        by_cases h0 : 0 < k
        · have e5 : decide (0 < k) = true := by simp [h0]
          by_cases h6 : k = s
          · have e6 : ((k : Int) == (s : Int)) = true := by simp; omega
            obtain rfl : ok = true := by rw [← ho]; simp [h0, h6]; omega
            clear ho h6
            go_wp2_with fail
            go_meet
            case rel => exact ⟨rfl, rfl⟩
          · have e6 : ((k : Int) == (s : Int)) = false := by simp; omega
            obtain rfl : ok = false := by rw [← ho]; simp [h6]
            clear ho h6
            go_wp2_with fail
            go_meet
            case rel => exact ⟨rfl, rfl⟩
        · have e5 : decide (0 < k) = false := by simp [h0]
          obtain rfl : ok = false := by rw [← ho]; simp [h0]
          clear ho
          go_wp2_with fail
          go_meet
          case rel => exact ⟨rfl, rfl⟩
      case rest =>
        obtain ⟨rfl, rfl⟩ := hcut
        clear cl
        go_upto_if 76 with fail
        go_cut [] (fun wx => PLS w w1.heap.size (w2.heap.size + 1) gp gd gb gt n ps T gm size w2.heap.size k wx)
        case first =>
          cases ok
          · go_wp2_with fail
            go_meet
            case rel => exact ⟨K, D5, rd, ht, A5, c5, H.out.1, H.out.2.1, H.out.2.2.1, H.out.2.2.2.1, H.out.2.2.2.2.1, H.out.2.2.2.2.2⟩
          · have RS := Lib.hid (reset_any H.out.1)
            go_wp2_with fail
            refine RS.out.mono ?_
            rintro e w4 ⟨rfl, pa4, tn4⟩
            have hM4 := H.out.1.turn_blk tn4 H.out.2.1 (by decide) (by decide)
            have f0 := hM4.frozen 0; have f1 := hM4.frozen 1; have f2 := hM4.frozen 2; have f3 := hM4.frozen 3
            have m0 := hM4.cell 0; have m1 := hM4.cell 1; have m2 := hM4.cell 2; have m3 := hM4.cell 3
            have hbl4 := tn4.below _ _ (by omega) H.out.2.2.2.2.1
            have hz4 := Nat.le_trans H.out.2.2.2.2.2 tn4.size
            have HE := Lib.hid (And.intro pa4 (And.intro hM4 (And.intro hbl4 hz4)))
            clear pa4 tn4 hM4 hbl4 hz4 RS
            go_wp2_with fail
            go_meet
            case rel =>
              have hf := Far.set4 w4 w2.heap.size (.int .i64 size) (.slice none 0 0) (.int .u64 0) (.int .u64 0)
              exact ⟨[], _, 0, 0, none, 0, HE.out.1.far HE.out.2.1 hf (by decide) (by decide) (by decide) (by decide) (by decide), HE.out.2.1.set4 _ _ _ _, ⟨Reads.none_, by simp⟩, by omega, hf.below _ _ (by omega) HE.out.2.2.1, by rw [hf.size]; exact HE.out.2.2.2⟩
        case rest =>
          clear H
          obtain ⟨K, D5, rd, ht, A5, c5, pa, hM, hru, hkk, hbl, hz⟩ := hcut
          by_cases hpn : p < n
          · obtain ⟨q, hq⟩ : ∃ q, ps[p]? = some q := ⟨_, List.getElem?_eq_getElem (by rw [pa.dk.hp]; exact hpn)⟩
            have hK20 := pa.k20
            have e7 : decide ((n : Int) ≤ (p : Int)) = false := by simp; omega
            have G := Lib.hid (get_any2 pa hq (by omega) (by omega) (by omega) (by omega) (show w1.heap.size ≤ wc.heap.size by omega))
            have H := Lib.hid (And.intro pa (And.intro hM (And.intro hru (And.intro hbl (And.intro hq hK20)))))
            clear pa hM hru hbl hq hK20
            go_wp2_with fail
            refine G.out.mono ?_
            rintro e w4 ⟨K', D', rd', ht', A6, c6, wm, rfl, own4, hc4, pm, hst4, tn4, hbm4, hk4⟩
            have hMm := H.out.1.turn_blk tn4 H.out.2.1 (by decide) (by decide)
            have hM4 := hMm.below hbm4 hMm.lt
            have hrum : RU wm A5 K.length (pgs K) := H.out.2.2.1.same tn4.size fun g cs hc => tn4.heap g hc.lt (hc.ne_ H.out.1.rg.pool (by decide)) (H.out.1.mp.ne_ hc) (fun j f hj => hc.ne_ (H.out.1.rg.fr j f hj).1 (by decide))
            have hru4 := hrum.below hbm4
            have RG := Lib.hid (rget_any size A5 K.length c5 (pgs K) rd ht p w4 hru4 (by unfold pgs; rw [List.length_map]) (by have := H.out.2.2.2.2.2; omega) H.out.1.nodup H.out.1.sz hs1 hs2 (by omega) (by omega) (by have := HP.out.2; omega))
            rw [← hst4] at RG
            unfold RetR at RG
            simp only [show (pgs K').length = K'.length from by unfold pgs; rw [List.length_map]] at RG
            have hbl4 := (tn4.below w.heap.size w (by omega) H.out.2.2.2.1).trans (hbm4.mono (by have := tn4.size; omega))
            have hkk' : rd' ≤ k + 1 ∧ ht' ≤ k + 1 := by
              have := stepG_small (size := size) (s := (pgs K, rd, ht)) (p := p) (k := k) hkk.1 hkk.2
              rw [← hst4] at this
              exact this
            have m0 := hM4.cell 0; have m1 := hM4.cell 1; have m2 := hM4.cell 2; have m3 := hM4.cell 3
            have hm4z := hbm4.size
            have htz := tn4.size
            have H4 := Lib.hid (And.intro own4 (And.intro pm (And.intro hbm4 (And.intro hM4 (And.intro hbl4 (And.intro hMm.lt tn4.size))))))
            clear own4 pm hst4 tn4 hbm4 hk4 hMm hM4 hrum hru4 hbl4 G
            go_wp2_with fail
            refine RG.out.mono ?_
            rintro e w5 ⟨A7, c7, rfl, hru5, hb5⟩
            have hM5 := H4.out.2.2.2.1.below hb5 H4.out.2.2.2.1.lt
            have hf := Far.set4 w5 w2.heap.size (.int .i64 size) (.slice A7 K'.length c7) (.int .u64 (rd' : Nat)) (.int .u64 (ht' : Nat))
            have pW := ((H4.out.2.1.below H4.out.2.2.1).below hb5).far hM5 hf (by decide) (by decide) (by decide) (by decide) (by decide)
            have MW := hM5.set4 (.int .i64 size) (.slice A7 K'.length c7) (.int .u64 (rd' : Nat)) (.int .u64 (ht' : Nat))
            have ruW := hf.turn hru5 hM5 (by decide)
            have own5 := H4.out.1.below hb5
            have ownW := own5.stays fun g cs _ hb => hf.heap g (hb.ne_ hM5 (by decide))
            have blW := hf.below w.heap.size w (by omega) (bto0 H4.out.2.2.2.2.1 hb5)
            have hzW := hf.size
            have hz5 := hb5.size
            have RD := Lib.hid (read_ok pW.dk p q H.out.2.2.2.2.1 (by omega))
            have f0 := hM5.frozen 0; have f1 := hM5.frozen 1; have f2 := hM5.frozen 2; have f3 := hM5.frozen 3
            have n0 := hM5.cell 0; have n1 := hM5.cell 1; have n2 := hM5.cell 2; have n3 := hM5.cell 3
            have HW := Lib.hid (And.intro pW (And.intro MW (And.intro ruW (And.intro ownW (And.intro blW hzW)))))
            clear hM5 hf pW MW ruW own5 ownW blW hru5 hb5 RG hzW m0 m1 m2 m3
            go_wp2_with fail
            refine RD.out.mono ?_
            rintro e w6 ⟨rfl, hB6, hb6⟩
            rw [HW.out.2.2.2.2.2] at hB6
            have p6 := HW.out.1.below hb6
            have M6 := HW.out.2.1.below hb6 HW.out.2.1.lt
            have ru6 := HW.out.2.2.1.below hb6
            have own6 := HW.out.2.2.2.1.below hb6
            have bl6 := bto0 HW.out.2.2.2.2.1 hb6
            have hz6 := hb6.size
            have hql : q.length = 512 := p6.dk.full q (List.mem_of_getElem? H.out.2.2.2.2.1)
            have cv1 := own6.reads.1.cnv (c := c6)
            have cv2 := (reads_bv hB6 hql).cnv (c := 512)
            have SM := Lib.hid (poolsame_any p6 ru6 (c := c7) (by have := p6.k20; omega) (by omega) (by omega))
            have m0 := M6.cell 0; have m1 := M6.cell 1; have m2 := M6.cell 2; have m3 := M6.cell 3
            have H6 := Lib.hid (And.intro p6 (And.intro M6 (And.intro ru6 (And.intro own6 (And.intro bl6 (by rw [HW.out.2.2.2.2.2] at hz6; exact hz6 : w5.heap.size ≤ w6.heap.size))))))
            clear hB6 hb6 p6 M6 ru6 own6 bl6 hz6 hql RD n0 n1 n2 n3 f0 f1 f2 f3
            go_wp2_with fail
            refine SM.out.mono ?_
            rintro e w7 ⟨rfl, hb7⟩
            have p7 := H6.out.1.below hb7
            have M7 := H6.out.2.1.below hb7 H6.out.2.1.lt
            have ru7 := H6.out.2.2.1.below hb7
            have own7 := H6.out.2.2.2.1.below hb7
            have bl7 := bto0 H6.out.2.2.2.2.1 hb7
            have hz7 := hb7.size
            obtain ⟨w8, hcl, hcb, hch, hcs⟩ := own7.clr
            have hobk : ∀ g, (Value.slice A6 512 c6).ownBlock = some g → wm.heap.size ≤ g := fun g hg => (own7.lt g hg).1
            have hwz : wm.heap.size ≤ w7.heap.size := by have := H6.out.2.2.2.2.2; omega
            have p8 : PS w8 w1.heap.size gp gd gb gt n ps T gm size K' D' rd' ht' := H4.out.2.1.keep p7 fun g hg => hch g (by omega) (fun e => by have := hobk g e; omega)
            have M8 : Blk w8 w2.heap.size 74 #[.int .i64 size, .slice A7 K'.length c7, .int .u64 (rd' : Nat), .int .u64 (ht' : Nat)] := (hch _ M7.lt (fun e => by have := hobk _ e; have := H4.out.2.2.2.2.2.1; omega)).trans M7
            have ru8 : RU w8 A7 K'.length (pgs K') := ru7.same (by rw [hcs]; exact Nat.le_refl _) fun g cs hc => hch g hc.lt (own_blk_ne (e := 5) own7 hc (by decide))
            have bl8 := hcb w.heap.size w (by omega) bl7
            have hz8 : w2.heap.size + 1 ≤ w8.heap.size := by rw [hcs]; omega
            have Hcl := Lib.hid hcl
            have HE := Lib.hid (And.intro p8 (And.intro M8 (And.intro ru8 (And.intro bl8 (And.intro hz8 hkk')))))
            clear p7 M7 ru7 own7 bl7 hz7 hb7 hcl hcb hch hcs hobk hwz p8 M8 ru8 bl8 hz8 SM m0 m1 m2 m3 cv1 cv2
            go_wp2_with fail
            rw [Hcl.out]
            go_wp2
            go_roundw
            case rel => exact ⟨k + 1, by go_num, by omega, K', D', rd', ht', A7, c7, HE.out.1, HE.out.2.1, HE.out.2.2.1, HE.out.2.2.2.2.2, HE.out.2.2.2.1, HE.out.2.2.2.2.1⟩
            case measure => simp [intOf]; omega
          · have e7 : decide ((n : Int) ≤ (p : Int)) = true := by simp; omega
            have G := Lib.hid (get_beyond pa (p := p) (by omega) (by have := HP.out.2; omega) (by omega))
            have HE := Lib.hid (And.intro pa (And.intro hM (And.intro hru (And.intro hkk (And.intro hbl hz)))))
            clear pa hM hru hbl hkk
            have hpn' : n ≤ p := by omega
            have hpI : (p : Int) ≤ 4294967295 := HP.out.2
            go_wp2_with fail
            refine G.out.mono ?_
            rintro e w4 ⟨rfl, rfl⟩
            go_wp2
            go_roundw
            case rel => exact ⟨k + 1, by go_num, by omega, K, D5, rd, ht, A5, c5, HE.out.1, HE.out.2.1, HE.out.2.2.1, ⟨by have := HE.out.2.2.2.1.1; omega, by have := HE.out.2.2.2.1.2; omega⟩, HE.out.2.2.2.2.1, HE.out.2.2.2.2.2⟩
            case measure => simp [intOf]; omega
    · obtain rfl : k = m := by omega
      obtain ⟨K, D5, rd, ht, A5, c5, pa, hM, hru, hkk, hbl, hz⟩ := hst
      have PG := Lib.hid fun W (hW : Below wr.heap.size wr W) => pages_any (pa.below hW)
      have HB := Lib.hid hbl
      clear pa hM hru hkk hbl
      go_wp2_with fail
      refine (F.out _).mono ?_
      rintro e w6 ⟨rfl, hb6⟩
      go_wp2_with fail
      refine (PG.out _ hb6).mono ?_
      rintro e w7 ⟨rfl, rfl⟩
      go_wp2
      go_ret
      exact ⟨rfl, bto0 HB.out hb6⟩
theorem lawPlaysP_any (pages size s : Int) (A : Option Addr) (m c : Nat) (l : List Int) (w : World) (hsz : size ≤ 9223372036854775807) (hs : 0 ≤ s ∧ s ≤ 255) (hm : m ≤ maxLen) (hr : Reads w w.heap.size 1 A m (l.map (Value.int .u32))) (hw : ∀ x ∈ l, (Lit.int .u32 x).wf = true) :
    Calls Try.prog 8 #[.int .i64 pages, .int .i64 size, .slice A m c, .int .u8 s] w (RetB w (.bool true)) := by
  unfold maxLen at hm
  by_cases h : pages < 1 ∨ 20 < pages ∨ 300 < m
  · exact lawPlaysP_out pages size A m c s w h hm
  · obtain ⟨n, rfl⟩ : ∃ n : Nat, pages = n := ⟨pages.toNat, by omega⟩
    by_cases h1 : size < 1
    · exact lawPlaysP_small n size A m c s w (by omega) (by omega) (by omega) h1
    · obtain ⟨z, rfl⟩ : ∃ z : Nat, size = z := ⟨size.toNat, by omega⟩
      obtain ⟨a, rfl⟩ : ∃ a : Nat, s = a := ⟨s.toNat, by omega⟩
      exact lawPlaysP_in n z A m c a l w (by omega) (by omega) (by omega) (by omega) (by omega) (by omega) hr hw
end Go.Proofs.Ytcpbkaeilmabaaa
