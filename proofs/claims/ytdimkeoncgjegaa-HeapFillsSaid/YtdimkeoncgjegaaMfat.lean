/-
  Several texts in one: He2 Hf Sr Ss St Su.
-/
import Derived.Test.YtdimkeoncgjegaaMfas
import Derived.Test.YtdimkeoncgjegaaMfak
import Derived.Test.YtdimkeoncgjegaaMfaq
import Derived.Test.YtdimkeoncgjegaaMfad
import Derived.Test.YtdimkeoncgjegaaMfab
import Derived.BigQuiet
import Derived.BigGuardPart
/-
  Heap: the program's Walk with Scan's closure; Scan.
-/
namespace Go.Proofs.Ytdimkeoncgjegaa
section
set_option linter.unusedSimpArgs false
set_option linter.unusedVariables false
open Go.RowKit Go.Maps

section
variable {w0 W W' : World} {lo gp gd gb gt n : Nat} {ps : List (List UInt8)} {T : List Bool} {gm size : Nat} {K0 : List Fr} {m gl : Nat} {acc : List PIt}
theorem WS.pages (h : WS w0 lo gp gd gb gt n ps T gm size K0 m gl acc W) : Calls Try.prog 56 #[.pointer (some ⟨gp, 0, none⟩)] W fun e w' => e = .returned (.int .i64 n) ∧ W = w' := by
  obtain ⟨K, D, rd, ht, h1, _⟩ := h.pool
  exact pages_any h1
theorem WS.pn (h : WS w0 lo gp gd gb gt n ps T gm size K0 m gl acc W) : ps.length = n ∧ Full ps := by
  obtain ⟨K, D, rd, ht, h1, _⟩ := h.pool
  exact ⟨h1.dk.hp, h1.dk.full⟩
/-- What Walk leaves. -/
def RetWk (w0 : World) (lo gp gd gb gt n : Nat) (ps : List (List UInt8)) (T : List Bool) (gm size : Nat) (K0 : List Fr) (m gl : Nat) (R : List It × Nat × Int) (e : Ending) (W' : World) : Prop :=
  ∃ acc, WS w0 lo gp gd gb gt n ps T gm size K0 m gl acc W' ∧ e = .returned (.tuple #[.int .i64 R.2.1, .int .i64 R.2.2]) ∧ ((R.2.2 = 0 ∧ R.1 = acc.map PIt.it) ∨ (R.2.2 ≠ 0 ∧ R.1 = [] ∧ R.2.1 = 0))
theorem WS.more {m' : Nat} (h : WS w0 lo gp gd gb gt n ps T gm size K0 m gl acc W) (hm : m ≤ m') : WS w0 lo gp gd gb gt n ps T gm size K0 m' gl acc W := by
  obtain ⟨K, D, rd, ht, h1, h2, h3, h4⟩ := h.pool
  exact ⟨⟨K, D, rd, ht, h1, by omega, by omega, h4⟩, h.turn, h.list, h.ok, h.lo, h.hi⟩
set_option maxRecDepth 100000 in
set_option maxHeartbeats 8000000 in
theorem walk_any (h : WS w0 lo gp gd gb gt n ps T gm size K0 m gl [] W) (hn : n ≤ 1000) (hm : m ≤ 100000) (p0 : Nat) (hp0 : p0 ≤ 4294967295) :
    Calls Try.prog 35 #[.pointer (some ⟨gp, 0, none⟩), .int .u32 p0, .func (.func 36) #[] #[.pointer (some ⟨gl, 0, none⟩)]] W (RetWk w0 lo gp gd gb gt n ps T gm size K0 (m + n) gl (outH ps n p0 [] 0)) := by
  obtain ⟨R, hR⟩ : ∃ R, outH ps n p0 [] 0 = R := ⟨_, rfl⟩
  have hpn := Lib.hid h.pn
  have hnI : (n : Int) ≤ 1000 := by omega
  have HR := Lib.hid hR
  have H0 := Lib.hid h
  have nf : ∀ W, (binOp .eql 107 (.func (.func 36) #[] #[.pointer (some ⟨gl, 0, none⟩)]) .nilFunc).run Try.prog W = .ok (.bool false) W := fun W => rfl
  rw [hR]
  clear hR h
  go_enter Try.func35, Try.ntmps35
  go_wp2
  go_loopw [8, 9] (fun u8 u9 wr => ∃ (f p k : Nat) (acc : List PIt), u8 = .int .i64 k ∧ u9 = .int .u32 p ∧ f + k = n ∧ p ≤ 4294967295 ∧ acc.length ≤ k * 126 ∧ WS w0 lo gp gd gb gt n ps T gm size K0 (m + k) gl acc wr ∧ outH ps f p (acc.map PIt.it) k = R) (fun u8 _ _ => n + 1 - (intOf u8).toNat)
  case atStart => exact ⟨n, p0, 0, [], rfl, rfl, by omega, hp0, by simp, H0.out, HR.out⟩
  case round =>
    obtain ⟨wo, rfl⟩ : ∃ wo : World, wo = wr := ⟨_, rfl⟩
    obtain ⟨f, p, k, acc, rfl, rfl, hfk, hp, hal, hws, hout⟩ := hrel
    have PGS := Lib.hid hws.pages
    have k0 : (0 : Int) ≤ (k : Int) := by omega
    by_cases hf0 : f = 0
    · subst hf0
      have hRe : R = ([], 0, 2) := by rw [← hout]; rfl
      have e1 : ((k : Int) == (n : Int)) = true := by simp; omega
      have HB := Lib.hid hws
      clear hout hws
      go_wp2_with fail
      refine PGS.out.mono ?_
      rintro e w1 ⟨rfl, rfl⟩
      go_wp2
      go_ret2
      rw [hRe]
      exact ⟨acc, HB.out.more (by omega), rfl, .inr ⟨by decide, rfl, rfl⟩⟩
    · obtain ⟨f, rfl⟩ : ∃ g, f = g + 1 := ⟨f - 1, by omega⟩
      have e1 : ((k : Int) == (n : Int)) = false := by simp; omega
      have HD := Lib.hid (hws.head hn (by omega) p hp 1)
      have HO := Lib.hid hout
      have H1 := Lib.hid hws
      clear hout hws
      go_wp2_with fail
      refine PGS.out.mono ?_
      rintro e w1 ⟨rfl, rfl⟩
      go_wp2_with fail
      refine HD.out.mono ?_
      rintro e w1 ⟨ws1, hsz1, ⟨hnp, rfl⟩ | ⟨q, hq, hno, rfl⟩ | ⟨q, A3, c3, hq, hok, hkk, rfl, own3⟩⟩
      · have hRe : R = ([], 0, 8) := by rw [← HO.out]; exact outH_none (List.getElem?_eq_none (by rw [hpn.out.1]; exact hnp))
        have HB := Lib.hid (ws1.below (ball (Below.refl _ _) (.cells #[.int .u8 0, .int .u16 0, .int .u32 0] 109)))
        unfold hd0
        clear ws1
        go_wp2
        go_ret2
        rw [hRe]
        exact ⟨acc, HB.out.more (by omega), rfl, .inr ⟨by show (8 : Int) ≠ 0; decide, rfl, rfl⟩⟩
      · have hpg : isPage q = false := by
          rcases hc : isPage q with _ | _
          · rfl
          · obtain ⟨h1, h2⟩ := page_hd hc
            rcases hno with h3 | h3
            · rw [h1] at h3; cases h3
            · exact absurd (by rw [h2]; rfl) h3
        have hRe : R = ([], 0, 2) := by rw [← HO.out]; exact outH_no hq hpg
        have HB := Lib.hid (ws1.below (ball (Below.refl _ _) (.cells #[.int .u8 0, .int .u16 0, .int .u32 0] 109)))
        unfold hd0
        clear ws1
        go_wp2
        go_ret2
        rw [hRe]
        exact ⟨acc, HB.out.more (by omega), rfl, .inr ⟨by show (2 : Int) ≠ 0; decide, rfl, rfl⟩⟩
      · have hv : hdV q = .agg #[.int .u8 1, .int .u16 (hdC q : Int), .int .u32 (hdN q : Int)] := by unfold hdV; rw [hok, if_pos rfl, hkk]
        rw [hv]
        have hcap3 : 512 ≤ c3 := by obtain ⟨A', c', e', h'⟩ := own_form own3; injection e' with _ _ e'; omega
        have hb1 := ball (Below.refl w1.heap.size w1) (.cells #[.int .u8 1, .int .u16 (hdC q : Int), .int .u32 (hdN q : Int)] 109)
        have own3a := (own3.below hb1).reads.1
        rcases hpg : isPage q with _ | _
        · have AN := Lib.hid (all_no hpg own3a (Nat.le_refl _) (by omega) hcap3)
          have hRe : R = ([], 0, 2) := by rw [← HO.out]; exact outH_no hq hpg
          have HB := Lib.hid (ws1.below hb1)
          clear ws1 hb1 own3a
          go_wp2_with fail
          refine AN.out.mono ?_
          rintro e w2 ⟨rfl, hb2⟩
          have HB2 := Lib.hid (HB.out.below hb2)
          clear hb2
          go_wp2
          go_ret2
          rw [hRe]
          exact ⟨acc, HB2.out.more (by omega), rfl, .inr ⟨by show (2 : Int) ≠ 0; decide, rfl, rfl⟩⟩
        · have AY := Lib.hid (all_ok hpg own3a (Nat.le_refl _) (by omega) hcap3)
          have hHd := Blk.new w1 109 #[.int .u8 1, .int .u16 (hdC q : Int), .int .u32 (hdN q : Int)]
          have hN2 := hdN_lt q hok
          have hC6 := (page_end hpg).2.1
          have RL : Hid (∀ k, k < hdC q → (recs q)[k]? = some (recK q k)) := fun k h => recs_at q h
          have HO2 : Hid (outH ps (f + 1) p (acc.map PIt.it) k = if hdN q = 0 then (acc.map PIt.it ++ itK p (recs q) (hdC q), k + 1, 0) else outH ps f (hdN q) (acc.map PIt.it ++ itK p (recs q) (hdC q)) (k + 1)) := by
            unfold Hid
            split
            · rename_i h; exact outH_end hq hpg h
            · rename_i h; exact outH_next hq hpg h
          have HB := Lib.hid (And.intro (ws1.below hb1) hHd)
          obtain ⟨C, hC⟩ : ∃ C, hdC q = C := ⟨_, rfl⟩
          obtain ⟨N, hN⟩ : ∃ N, hdN q = N := ⟨_, rfl⟩
          obtain ⟨rs, hrs⟩ : ∃ rs, recs q = rs := ⟨_, rfl⟩
          rw [hC, hrs] at AY RL
          rw [hC] at hC6
          rw [hN] at hN2
          rw [hC, hN, hrs] at HO2
          rw [hN] at AY
          rw [hC, hN] at HB ⊢
          clear ws1 hb1 own3a own3 hHd hC hN hrs hv hkk
          go_wp2_with fail
          refine AY.out.mono ?_
          rintro e w2 ⟨g, fs, rfl, hfl, hbg, hfam, hgw, hb2⟩
          have hHd2 := HB.out.2.below hb2 HB.out.2.lt
          have hlow : w0.heap.size ≤ (w1.alloc (.cells #[.int .u8 1, .int .u16 (C : Int), .int .u32 (N : Int)] 109)).heap.size := by have := HB.out.1.turn.size; exact this
          have H2 := Lib.hid (And.intro (HB.out.1.below hb2) (And.intro hbg (And.intro (hfam.less hlow) hHd2)))
          clear hb2 hbg hfam hHd2
          go_wp2
          go_loopw [45] (fun u45 wr => ∃ (i : Nat) (acc2 : List PIt), i ≤ C ∧ u45 = .int .i64 i ∧ acc2.length = acc.length + i ∧ WS w0 lo gp gd gb gt n ps T gm size K0 (m + k + 1) gl acc2 wr ∧ acc2.map PIt.it = acc.map PIt.it ++ itK p rs i ∧ Blk wr g 59 (famV rs fs).toArray ∧ Fam wr w0.heap.size rs fs ∧ Blk wr w1.heap.size 109 #[.int .u8 1, .int .u16 (C : Int), .int .u32 (N : Int)]) (fun u45 _ => C - (intOf u45).toNat)
          case atStart => exact ⟨0, acc, by omega, rfl, rfl, H2.out.1, by simp [itK], H2.out.2.1, H2.out.2.2.1, H2.out.2.2.2⟩
          case round =>
            obtain ⟨wi, rfl⟩ : ∃ wi : World, wi = wr := ⟨_, rfl⟩
            obtain ⟨i, acc2, hiC, rfl, ha2, hws, hmap, hbg, hfam, hHd⟩ := hrel
            have i0 : (0 : Int) ≤ (i : Int) := by omega
            have hd2 : wi.cell? ⟨w1.heap.size, 2, none⟩ = some (.int .u32 (N : Int)) := hHd.cell 2
            by_cases hlt : i < C
            · have i1 : (i : Int) < (C : Int) := by omega
              have i2 : (i : Int) ≤ 65535 := by omega
              have hr := RL.out i hlt
              obtain ⟨r, hrr⟩ : ∃ r, recK q i = r := ⟨_, rfl⟩
              rw [hrr] at hr
              obtain ⟨fi, hfi⟩ : ∃ fi, fs[i]? = some fi := ⟨_, List.getElem?_eq_getElem (by rw [hfl]; exact hlt)⟩
              have cB : wi.cell? ⟨g, i, none⟩ = some (.slice (some ⟨fi.1, 0, none⟩) r.length fi.2) := by rw [hbg.cell i, List.getElem?_toArray]; exact famV_at rs fs i r fi hr hfi
              have CL := Lib.hid (clos_any hws p i fi.1 fi.2 r (by omega) (by omega) (hfam.own i fi r hfi hr) (hfam.cap i fi r hfi hr))
              have HL := Lib.hid (And.intro hmap (And.intro hbg (And.intro hfam (And.intro hHd hr))))
              clear hmap hbg hfam hHd hws hr
              go_wp2_with fail
              refine CL.out.mono ?_
              rintro e w4 ⟨rfl, ws4, ch4⟩
              have H4 := Lib.hid (And.intro ws4 ch4)
              clear ws4 ch4
              go_wp2
              refine ⟨⟨i + 1, acc2 ++ [⟨⟨p, i, r⟩, fi.1, fi.2⟩], by omega, rfl, by rw [List.length_append, ha2]; rfl, H4.out.1, ?_, H4.out.2.blk HL.out.2.1 (by decide) (by decide), ⟨fun j f x hf hx => H4.out.2.own (HL.out.2.2.1.own j f x hf hx), HL.out.2.2.1.cap, HL.out.2.2.1.lt⟩, H4.out.2.blk HL.out.2.2.2.1 (by decide) (by decide)⟩, by simp [intOf]; omega⟩
              rw [List.map_append, HL.out.1, itK_succ, List.append_assoc, List.getD_eq_getElem?_getD, HL.out.2.2.2.2]
              rfl
            · obtain rfl : C = i := by omega
              have HL := Lib.hid (And.intro hws hmap)
              clear hws hmap hbg hfam hHd
              by_cases hN0 : N = 0
              · subst hN0
                have hRe : Hid (R = (acc2.map PIt.it, k + 1, 0)) := by unfold Hid; rw [← HO.out, HO2.out, if_pos rfl, HL.out.2]
                go_wp2
                go_ret2
                rw [hRe.out]
                exact ⟨acc2, HL.out.1.more (by omega), rfl, .inl ⟨rfl, rfl⟩⟩
              · have e3 : ((N : Int) == 0) = false := by simp; omega
                have hRe : Hid (outH ps f N (acc2.map PIt.it) (k + 1) = R) := by unfold Hid; rw [← HO.out, HO2.out, if_neg hN0, HL.out.2]
                go_wp2
                exact ⟨⟨f, N, k + 1, acc2, rfl, rfl, by omega, by omega, by omega, by rw [← Nat.add_assoc]; exact HL.out.1, hRe.out⟩, by simp [intOf]; omega⟩
/-- What Scan leaves, the row its own. -/
def RetSc2 (w : World) (lo gp gd gb gt n : Nat) (ps : List (List UInt8)) (T : List Bool) (gm size : Nat) (K : List Fr) (m : Nat) (R : List It × Nat × Int) (e : Ending) (w' : World) : Prop :=
  ∃ acc A c K' D' rd' ht', e = .returned (.tuple #[.slice A R.1.length c, .int .i64 R.2.1, .int .i64 R.2.2]) ∧ R.1 = acc.map PIt.it ∧ w'.ownsRow (w.heap.size + 1) 62 3 (.slice A R.1.length c) R.1.length (pV acc) ∧ LOk w' w.heap.size acc ∧
    PS w' lo gp gd gb gt n ps T gm size K' D' rd' ht' ∧ rd' ≤ m ∧ ht' ≤ m ∧ (∀ (j : Nat) (f : Fr), K'[j]? = some f → (∃ i : Nat, K[i]? = some f) ∨ w.heap.size ≤ f.g) ∧ Turn w w' lo gp gm K
set_option maxRecDepth 100000 in
set_option maxHeartbeats 4000000 in
theorem scan2_any {K : List Fr} {D : DataW Unit} {rd ht : Nat} (h : PS W lo gp gd gb gt n ps T gm size K D rd ht) (hrd : rd ≤ m) (hht : ht ≤ m) (hlo : lo ≤ W.heap.size) (hn : n ≤ 1000) (hm : m ≤ 100000) (p0 : Nat) (hp0 : p0 ≤ 4294967295) :
    Calls Try.prog 15 #[.pointer (some ⟨gp, 0, none⟩), .int .u32 p0] W (RetSc2 W lo gp gd gb gt n ps T gm size K (m + n) (outH ps n p0 [] 0)) := by
  have hb0 := ball (Below.refl W.heap.size W) (.cells #[.slice none 0 0] 55)
  have ws0 : WS W lo gp gd gb gt n ps T gm size K m W.heap.size [] (W.alloc (.cells #[.slice none 0 0] 55)) :=
    ⟨⟨K, D, rd, ht, h.below hb0, hrd, hht, fun j f hj => .inl ⟨j, hj⟩⟩, Turn.of_below hb0 hlo, ⟨.slice none 0 0, Blk.new W _ _, ⟨rfl, .inl ⟨rfl, rfl⟩⟩⟩, fun x hx => (by cases hx), hlo, Nat.le_refl _⟩
  have hmf : ∀ (fn : Fn) (first cap : Array Value) (w : World), (Instr.makeFunc fn first cap).run Try.prog w = .ok (.func fn first cap) w := fun _ _ _ _ => rfl
  have WK := Lib.hid (walk_any ws0 hn hm p0 hp0)
  obtain ⟨R, hR⟩ : ∃ R, outH ps n p0 [] 0 = R := ⟨_, rfl⟩
  rw [hR] at WK ⊢
  clear hR ws0 hb0 h hlo
  go_enter Try.func15, Try.ntmps15
  go_wp2_with fail
  refine WK.out.mono ?_
  rintro e w1 ⟨acc, ws1, rfl, ⟨hE, hl⟩ | ⟨hE, hl, hk0⟩⟩
  · obtain ⟨l, k, E⟩ := R
    obtain rfl : E = 0 := hE
    obtain rfl : l = acc.map PIt.it := hl
    obtain ⟨K', D', rd', ht', h1, h2, h3, h4⟩ := ws1.pool
    obtain ⟨u, u1, u2⟩ := ws1.list
    obtain ⟨A, c, rfl, hc⟩ := own_form u2
    have c0 : w1.cell? ⟨W.heap.size, 0, none⟩ = some (.slice A acc.length c) := u1.cell 0
    have H1 := Lib.hid (And.intro h1 (And.intro h4 (And.intro ws1.ok (And.intro ws1.turn u2))))
    clear ws1 h1 h4 u1 u2
    go_wp2
    go_ret3
    exact ⟨acc, A, c, K', D', rd', ht', by simp, rfl, by rw [List.length_map]; exact H1.out.2.2.2.2, H1.out.2.2.1, H1.out.1, h2, h3, H1.out.2.1, H1.out.2.2.2.1⟩
  · obtain ⟨l, k, E⟩ := R
    obtain rfl : l = [] := hl
    obtain rfl : k = 0 := hk0
    have e1 : (E != 0) = true := by simpa using hE
    obtain ⟨K', D', rd', ht', h1, h2, h3, h4⟩ := ws1.pool
    have H1 := Lib.hid (And.intro h1 (And.intro h4 ws1.turn))
    clear ws1 h1 h4
    go_wp2
    go_ret3
    exact ⟨[], none, 0, K', D', rd', ht', rfl, rfl, ⟨rfl, .inl ⟨rfl, rfl⟩⟩, fun x hx => (by cases hx), H1.out.1, h2, h3, H1.out.2.1, H1.out.2.2⟩
/-- What Scan leaves. -/
def RetSc (w : World) (lo gp gd gb gt n : Nat) (ps : List (List UInt8)) (T : List Bool) (gm size : Nat) (K : List Fr) (m : Nat) (R : List It × Nat × Int) (e : Ending) (w' : World) : Prop :=
  ∃ acc A c K' D' rd' ht', e = .returned (.tuple #[.slice A R.1.length c, .int .i64 R.2.1, .int .i64 R.2.2]) ∧ R.1 = acc.map PIt.it ∧ R.1.length ≤ maxLen ∧ Reads w' w'.heap.size 3 A R.1.length (pV acc) ∧ LOk w' w.heap.size acc ∧
    PS w' lo gp gd gb gt n ps T gm size K' D' rd' ht' ∧ rd' ≤ m ∧ ht' ≤ m ∧ (∀ (j : Nat) (f : Fr), K'[j]? = some f → (∃ i : Nat, K[i]? = some f) ∨ w.heap.size ≤ f.g) ∧ Turn w w' lo gp gm K
theorem scan_any {K : List Fr} {D : DataW Unit} {rd ht : Nat} (h : PS W lo gp gd gb gt n ps T gm size K D rd ht) (hrd : rd ≤ m) (hht : ht ≤ m) (hlo : lo ≤ W.heap.size) (hn : n ≤ 1000) (hm : m ≤ 100000) (p0 : Nat) (hp0 : p0 ≤ 4294967295) :
    Calls Try.prog 15 #[.pointer (some ⟨gp, 0, none⟩), .int .u32 p0] W (RetSc W lo gp gd gb gt n ps T gm size K (m + n) (outH ps n p0 [] 0)) :=
  (scan2_any h hrd hht hlo hn hm p0 hp0).mono fun e w' ⟨acc, A, c, K', D', rd', ht', h1, h2, h3, h4⟩ => by
    obtain ⟨A', c', e', hc⟩ := own_form h3
    injection e' with _ _ e'
    exact ⟨acc, A, c, K', D', rd', ht', h1, h2, by have := own_cap h3; omega, Reads.of_own h3, h4⟩
end
end
end Go.Proofs.Ytdimkeoncgjegaa
/-
  Heap: the program's Fetch; the example of the chapter.
-/
namespace Go.Proofs.Ytdimkeoncgjegaa
section
set_option linter.unusedSimpArgs false
set_option linter.unusedVariables false
open Go.RowKit Go.Maps

section
variable {W : World} {lo gp gd gb gt n : Nat} {ps : List (List UInt8)} {T : List Bool} {gm size : Nat} {m : Nat}
/-- What Fetch leaves. -/
def RetFc (w : World) (lo gp gd gb gt n : Nat) (ps : List (List UInt8)) (T : List Bool) (gm size : Nat) (K : List Fr) (m : Nat) (R : List UInt8 × Int) (e : Ending) (w' : World) : Prop :=
  ∃ A c K' D' rd' ht', e = .returned (.tuple #[.slice A R.1.length c, .int .i64 R.2]) ∧ Reads w' w'.heap.size 1 A R.1.length (bL R.1) ∧ R.1.length ≤ c ∧
    PS w' lo gp gd gb gt n ps T gm size K' D' rd' ht' ∧ rd' ≤ m ∧ ht' ≤ m ∧ (∀ (j : Nat) (f : Fr), K'[j]? = some f → (∃ i : Nat, K[i]? = some f) ∨ w.heap.size ≤ f.g) ∧ Turn w w' lo gp gm K
set_option maxRecDepth 100000 in
set_option maxHeartbeats 4000000 in
theorem fetch_any {K : List Fr} {D : DataW Unit} {rd ht : Nat} (h : PS W lo gp gd gb gt n ps T gm size K D rd ht) (hrd : rd ≤ m) (hht : ht ≤ m) (hlo : lo ≤ W.heap.size) (hn : n ≤ 1000) (hm : m ≤ 200000) (p : Nat) (hp : p ≤ 4294967295) (s : Nat) (hs : s ≤ 65535) :
    Calls Try.prog 17 #[.pointer (some ⟨gp, 0, none⟩), .agg #[.int .u32 p, .int .u16 s]] W (RetFc W lo gp gd gb gt n ps T gm size K (m + 1) (fetchH ps p s)) := by
  have hb0 := ball (Below.refl W.heap.size W) (.cells #[.int .u32 p, .int .u16 s] 50)
  have hps := h.dk.hp
  have HD := Lib.hid (headv_any (h.below hb0) p 1 hp hn m (by omega) hrd hht (Nat.le_trans hlo hb0.size))
  have hR0 := Blk.new W 50 #[.int .u32 p, .int .u16 s]
  have TB := Lib.hid (Turn.of_below (gp := gp) (gm := gm) (K := K) hb0 hlo)
  have H0 := Lib.hid (And.intro h hlo)
  have s0 : (0 : Int) ≤ (s : Int) := by omega
  obtain ⟨R, hR⟩ : ∃ R, fetchH ps p s = R := ⟨_, rfl⟩
  rw [hR]
  clear h hlo hb0
  go_enter Try.func17, Try.ntmps17
  go_wp2_with fail
  refine HD.out.mono ?_
  rintro e w1 ⟨⟨K', D', rd', ht', p1, p2, p3, p4⟩, tn, hc⟩
  have tn0 := TB.out.trans tn fun j f hj => .inl ⟨j, hj⟩
  have hzw : W.heap.size ≤ (W.alloc (.cells #[.int .u32 p, .int .u16 s] 50)).heap.size := by simp
  have p4' : ∀ (j : Nat) (f : Fr), K'[j]? = some f → (∃ i : Nat, K[i]? = some f) ∨ W.heap.size ≤ f.g := fun j f hj => (p4 j f hj).imp id fun h => Nat.le_trans hzw h
  have hRid : Blk w1 W.heap.size 50 #[.int .u32 p, .int .u16 s] := (H0.out.1.below (ball (Below.refl W.heap.size W) (.cells #[.int .u32 p, .int .u16 s] 50))).turn_blk tn hR0 (by decide) (by decide)
  have cR : w1.cell? ⟨W.heap.size, 1, none⟩ = some (.int .u16 s) := hRid.cell 1
  have zR := hRid.lt
  rcases hc with ⟨hnp, rfl⟩ | ⟨q, hq, hno, rfl⟩ | ⟨q, A3, c3, hq, hok, hkk, rfl, own3⟩
  · have hRe : R = ([], 8) := by rw [← hR]; unfold fetchH; rw [List.getElem?_eq_none (by omega)]
    have hb1 := ball (Below.refl w1.heap.size w1) (.cells #[.int .u8 0, .int .u16 0, .int .u32 0] 109)
    have H1 := Lib.hid (And.intro (p1.below hb1) (And.intro (tn0.more hb1 H0.out.2) (And.intro p4' hRe)))
    unfold hd0
    clear p1 tn tn0 hb1 p4 p4' hRe hR HD TB
    go_wp2
    go_ret2
    rw [H1.out.2.2.2]
    exact ⟨none, 0, K', D', rd', ht', rfl, Reads.none_, Nat.le_refl _, H1.out.1, p2, p3, H1.out.2.2.1, H1.out.2.1⟩
  · have hpg : isPage q = false := by
      rcases hc : isPage q with _ | _
      · rfl
      · obtain ⟨h1, h2⟩ := page_hd hc
        rcases hno with h3 | h3
        · rw [h1] at h3; cases h3
        · exact absurd (by rw [h2]; rfl) h3
    have hRe : R = ([], 2) := by rw [← hR]; unfold fetchH; rw [hq]; simp [hpg]
    have hb1 := ball (Below.refl w1.heap.size w1) (.cells #[.int .u8 0, .int .u16 0, .int .u32 0] 109)
    have H1 := Lib.hid (And.intro (p1.below hb1) (And.intro (tn0.more hb1 H0.out.2) (And.intro p4' hRe)))
    unfold hd0
    clear p1 tn tn0 hb1 p4 p4' hRe hR HD TB
    go_wp2
    go_ret2
    rw [H1.out.2.2.2]
    exact ⟨none, 0, K', D', rd', ht', rfl, Reads.none_, Nat.le_refl _, H1.out.1, p2, p3, H1.out.2.2.1, H1.out.2.1⟩
  · have hv : hdV q = .agg #[.int .u8 1, .int .u16 (hdC q : Int), .int .u32 (hdN q : Int)] := by unfold hdV; rw [hok, if_pos rfl, hkk]
    rw [hv]
    have hcap3 : 512 ≤ c3 := by obtain ⟨A', c', e', h'⟩ := own_form own3; injection e' with _ _ e'; omega
    have hb1 := ball (Below.refl w1.heap.size w1) (.cells #[.int .u8 1, .int .u16 (hdC q : Int), .int .u32 (hdN q : Int)] 109)
    have own3a := (own3.below hb1).reads.1
    have cR2 : (w1.alloc (.cells #[.int .u8 1, .int .u16 (hdC q : Int), .int .u32 (hdN q : Int)] 109)).cell? ⟨W.heap.size, 1, none⟩ = some (.int .u16 s) := (hRid.alloc _).cell 1
    have H1 := Lib.hid (And.intro (p1.below hb1) (And.intro (tn0.more hb1 H0.out.2) p4'))
    rcases hpg : isPage q with _ | _
    · have hRe : R = ([], 2) := by rw [← hR]; unfold fetchH; rw [hq]; simp [hpg]
      have GN := Lib.hid (get_no (s : Int) hpg own3a (Nat.le_refl _) (by omega) hcap3)
      clear p1 tn tn0 hb1 p4 p4' hR own3 own3a HD TB
      go_wp2_with fail
      refine GN.out.mono ?_
      rintro e w2 ⟨rfl, hb2⟩
      have H2 := Lib.hid hb2
      clear hb2
      go_wp2
      go_ret2
      rw [hRe]
      exact ⟨none, 0, K', D', rd', ht', rfl, Reads.none_, Nat.le_refl _, H1.out.1.below H2.out, p2, p3, H1.out.2.2, H1.out.2.1.more H2.out H0.out.2⟩
    · by_cases hlt : s < hdC q
      · have hRe : R = (recK q s, 0) := by rw [← hR]; unfold fetchH; rw [hq]; simp [hpg, hlt]
        have GN := Lib.hid (get_ok s hpg hlt own3a (Nat.le_refl _) (by omega) hcap3)
        clear p1 tn tn0 hb1 p4 p4' hR own3 own3a HD TB
        go_wp2_with fail
        refine GN.out.mono ?_
        rintro e w2 ⟨A4, c4, rfl, own4, hc4, hb2⟩
        have H2 := Lib.hid (And.intro hb2 own4)
        clear hb2 own4
        go_wp2
        go_ret2
        rw [hRe]
        exact ⟨A4, c4, K', D', rd', ht', rfl, H2.out.2.reads.1, hc4, H1.out.1.below H2.out.1, p2, p3, H1.out.2.2, H1.out.2.1.more H2.out.1 H0.out.2⟩
      · have hRe : R = ([], 9) := by rw [← hR]; unfold fetchH; rw [hq]; simp [hpg, hlt]
        have GN := Lib.hid (get_out (s : Int) hpg (.inr (by omega)) own3a (Nat.le_refl _) (by omega) hcap3)
        clear p1 tn tn0 hb1 p4 p4' hR own3 own3a HD TB
        go_wp2_with fail
        refine GN.out.mono ?_
        rintro e w2 ⟨rfl, hb2⟩
        have H2 := Lib.hid hb2
        clear hb2
        go_wp2
        go_ret2
        rw [hRe]
        exact ⟨none, 0, K', D', rd', ht', rfl, Reads.none_, Nat.le_refl _, H1.out.1.below H2.out, p2, p3, H1.out.2.2, H1.out.2.1.more H2.out H0.out.2⟩
end
set_option maxRecDepth 100000 in
theorem hpages0 (w : World) : Calls Try.prog 16 #[.slice none 0 0] w fun e w' => e = .returned (.int .i64 1) ∧ w = w' := by
  go_enter Try.func16, Try.ntmps16
  go_wp2
  go_loop [3, 4, 9] (fun u3 u4 u9 => u3 = .int .i64 1 ∧ u4 = .int .i64 500 ∧ u9 = .int .i64 0) (fun _ _ _ => 0)
  case atStart => exact ⟨rfl, rfl, rfl⟩
  case round =>
    obtain ⟨rfl, rfl, rfl⟩ := hrel
    go_wp2
    go_ret
    exact ⟨rfl, rfl⟩
set_option maxRecDepth 100000 in
theorem hpages3 (w : World) (g : Nat) (h : Blk w g 3 #[.int .i64 250, .int .i64 250, .int .i64 250]) : Calls Try.prog 16 #[.slice (some ⟨g, 0, none⟩) 3 3] w fun e w' => e = .returned (.int .i64 3) ∧ w = w' := by
  have c0 : w.cell? ⟨g, 0, none⟩ = some (.int .i64 250) := h.cell 0
  have c1 : w.cell? ⟨g, 1, none⟩ = some (.int .i64 250) := h.cell 1
  have c2 : w.cell? ⟨g, 2, none⟩ = some (.int .i64 250) := h.cell 2
  clear h
  go_enter Try.func16, Try.ntmps16
  go_wp2
  go_loop [3, 4, 9] (fun u3 u4 u9 => (u3 = .int .i64 1 ∧ u4 = .int .i64 500 ∧ u9 = .int .i64 0) ∨ (u3 = .int .i64 1 ∧ u4 = .int .i64 246 ∧ u9 = .int .i64 1) ∨ (u3 = .int .i64 2 ∧ u4 = .int .i64 246 ∧ u9 = .int .i64 2) ∨ (u3 = .int .i64 3 ∧ u4 = .int .i64 246 ∧ u9 = .int .i64 3)) (fun _ _ u9 => 3 - (intOf u9).toNat)
  case atStart => exact .inl ⟨rfl, rfl, rfl⟩
  case round =>
    rcases hrel with ⟨rfl, rfl, rfl⟩ | ⟨rfl, rfl, rfl⟩ | ⟨rfl, rfl, rfl⟩ | ⟨rfl, rfl, rfl⟩
    · go_wp2
      go_round
      case rel => exact .inr (.inl ⟨rfl, rfl, rfl⟩)
      case measure => simp [intOf]
    · go_wp2
      go_round
      case rel => exact .inr (.inr (.inl ⟨rfl, rfl, rfl⟩))
      case measure => simp [intOf]
    · go_wp2
      go_round
      case rel => exact .inr (.inr (.inr ⟨rfl, rfl, rfl⟩))
      case measure => simp [intOf]
    · go_wp2
      go_ret
      exact ⟨rfl, rfl⟩
set_option maxRecDepth 100000 in
theorem hfixed_any (w : World) : Calls Try.prog 7 #[] w (RetB w (.bool true)) := by
  have P0 := Lib.hid fun W => hpages0 W
  have P3 := Lib.hid (hpages3 _ _ (Blk.new w 3 #[.int .i64 250, .int .i64 250, .int .i64 250]))
  go_enter Try.func7, Try.ntmps7
  go_wp2_with fail
  refine P3.out.mono ?_
  rintro e w1 ⟨rfl, rfl⟩
  go_wp2_with fail
  refine (P0.out _).mono ?_
  rintro e w1 ⟨rfl, rfl⟩
  go_wp2
  go_ret
  exact ⟨rfl, ball (Below.refl _ _) _⟩
end
end Go.Proofs.Ytdimkeoncgjegaa
/-
  Slots of a heap page: the law's same.
-/
namespace Go.Proofs.Ytdimkeoncgjegaa
section
open Go.RowKit

/-- The rows of a family from one on. -/
structure FamAt (w : World) (base : Nat) (rs : List (List UInt8)) (fs : List (Nat × Nat)) (k : Nat) : Prop where
  own : ∀ (i : Nat) (f : Nat × Nat) (r : List UInt8), k ≤ i → fs[i]? = some f → rs[i]? = some r → Own w base (.slice (some ⟨f.1, 0, none⟩) r.length f.2) r
theorem Fam.at_ {w : World} {base : Nat} {rs : List (List UInt8)} {fs : List (Nat × Nat)} (h : Fam w base rs fs) : FamAt w base rs fs 0 := ⟨fun i f r _ hf hr => h.own i f r hf hr⟩
theorem FamAt.below {w w' : World} {base k : Nat} {rs : List (List UInt8)} {fs : List (Nat × Nat)} (h : FamAt w base rs fs k) (hb : Below w.heap.size w w') : FamAt w' base rs fs k :=
  ⟨fun i f r hk hf hr => (h.own i f r hk hf hr).below hb⟩
theorem FamAt.next {w w' : World} {base k : Nat} {rs : List (List UInt8)} {fs : List (Nat × Nat)} {f : Nat × Nat} (h : FamAt w base rs fs k) (hl : ∀ (i j : Nat) (f f' : Nat × Nat), i < j → fs[i]? = some f → fs[j]? = some f' → f.1 < f'.1) (hf : fs[k]? = some f)
    (he : ∀ g, g < w.heap.size → g ≠ f.1 → w'.heap[g]? = w.heap[g]?) : FamAt w' base rs fs (k + 1) :=
  ⟨fun i f' r hk hf' hr => (h.own i f' r (by omega) hf' hr).same_ (he _ (h.own i f' r (by omega) hf' hr).block_lt.2 (fun e => by have := hl k i f f' (by omega) hf hf'; omega))⟩
section
variable {w : World} {A : Option Addr} {n c B : Nat} {l : List UInt8}
end
end
end Go.Proofs.Ytdimkeoncgjegaa
/-
  Slots of a heap page: the law's example.
-/
namespace Go.Proofs.Ytdimkeoncgjegaa
section
open Go.RowKit

theorem lay_pE {next : Nat} {rs : List (List UInt8)} (h : Fits rs) : pE (layL next rs) = 512 - tot rs := by
  unfold pE
  rw [lay_C h, lay_end h rs.length (Nat.le_refl _), List.take_length]; rfl
theorem lay_room {next : Nat} {rs : List (List UInt8)} (h : Fits rs) : pRoom (layL next rs) = 508 - (8 + 4 * rs.length + tot rs) := by
  unfold pRoom
  rw [lay_page h, if_pos rfl, lay_pE h, lay_C h]; omega
theorem lay_count {next : Nat} {rs : List (List UInt8)} (h : Fits rs) : pC (layL next rs) = rs.length := by
  unfold pC
  rw [lay_page h, if_pos rfl, lay_C h]
theorem lay_recs {next : Nat} {rs : List (List UInt8)} (h : Fits rs) : recs (layL next rs) = rs := by
  apply List.ext_getElem?
  intro i
  by_cases hi : i < rs.length
  · rw [recs_at _ (by rw [lay_C h]; exact hi), List.getElem?_eq_getElem hi, lay_rec h (List.getElem?_eq_getElem hi)]
  · rw [List.getElem?_eq_none (by rw [recs_len, lay_C h]; omega), List.getElem?_eq_none (by omega)]
theorem fits_one : Fits [zs 10] := ⟨by decide, by intro r hr; rw [List.mem_singleton] at hr; subst hr; decide⟩
end
end Go.Proofs.Ytdimkeoncgjegaa
/-
  Slices of byte slices that came in.
-/
namespace Go.Proofs.Ytdimkeoncgjegaa
section
open Go.RowKit Go.ChangeShapes Go.WideShapes Go.Deep

/-- One of many slices of bytes: where it lies, its capacity, its bytes. -/
structure Rw where
  A : Option Addr
  c : Nat
  l : List UInt8
def Rw.val (r : Rw) : Value := .slice r.A r.l.length r.c
structure RRs (w : World) (B : Nat) (A : Option Addr) (n : Nat) (rows : List Rw) : Prop where
  len : rows.length = n
  outer : Reads w B 1 A n (rows.map Rw.val)
  cap : ∀ r ∈ rows, r.l.length ≤ r.c ∧ r.c ≤ maxLen
  inner : ∀ r ∈ rows, Reads w B 1 r.A r.l.length (bL r.l)
theorem RRs.below {w w' : World} {B n : Nat} {A : Option Addr} {rows : List Rw} (h : RRs w B A n rows) (hb : Below B w w') : RRs w' B A n rows :=
  ⟨h.len, h.outer.below hb, h.cap, fun r hr => (h.inner r hr).below hb⟩
theorem RRs.row {w : World} {B n k : Nat} {A : Option Addr} {rows : List Rw} (h : RRs w B A n rows) (hk : k < n) : ∃ ad r, A = some ad ∧ ad.block < B ∧ rows[k]? = some r ∧ w.cell? (ad.add k) = some (.slice r.A r.l.length r.c) ∧ r.l.length ≤ r.c ∧ r.c ≤ maxLen ∧ Reads w B 1 r.A r.l.length (bL r.l) := by
  obtain ⟨ad, u, e, hb, hu, hc⟩ := h.outer.at_ hk
  rw [List.getElem?_map] at hu
  obtain ⟨r, h1, rfl⟩ := Option.map_eq_some_iff.1 hu
  have hm := List.mem_of_getElem? h1
  exact ⟨ad, r, e, hb, h1, hc, (h.cap r hm).1, (h.cap r hm).2, h.inner r hm⟩
theorem ints_bytes : ∀ (l : List Int), (∀ x ∈ l, (Lit.int .u8 x).wf = true) → ∃ L : List UInt8, l.map (Value.int .u8) = bL L ∧ L.length = l.length
  | [], _ => ⟨[], rfl, rfl⟩
  | x :: l, h => by
    obtain ⟨L, h1, h2⟩ := ints_bytes l fun y hy => h y (by simp [hy])
    have hx := Go.bounds_u8 (h x (by simp))
    refine ⟨UInt8.ofNat x.toNat :: L, ?_, by simp [h2]⟩
    rw [List.map_cons, h1]
    simp only [bL, List.map_cons]
    congr 1
    congr 1
    simp
    omega
section
variable {H : Type} {enc : TypeId × Value → H} {P : Program} {w : World} {base : Nat} {spare : Nat → Bool} {held : Bool}
theorem trod_bytes {t e : TypeId} {n : Nat} {cs : List Value} {y : DataW H × List MemPlace} (ht : P.underlying t = some (.slice e)) (he : P.underlying e = some (.int .u8)) (hC : P.cellsOf e = 1) (h : DataW.trod enc P w base spare held n t cs = some y) :
    ∃ (A : Option Addr) (len cap : Nat) (L : List UInt8), cs = [.slice A len cap] ∧ len ≤ cap ∧ cap ≤ maxLen ∧ L.length = len ∧ Reads w w.heap.size 1 A len (bL L) := by
  obtain ⟨A, len, cap, l, rfl, h1, h2, h3, h4, h5⟩ := trod_ints ht he hC h
  obtain ⟨L, hL, hl⟩ := ints_bytes l h4
  rw [hL] at h5
  exact ⟨A, len, cap, L, rfl, h1, h2, by omega, h5⟩
theorem trod_bss {t e b : TypeId} {n : Nat} {cs : List Value} {y : DataW H × List MemPlace} (ht : P.underlying t = some (.slice e)) (he : P.underlying e = some (.slice b)) (hb : P.underlying b = some (.int .u8)) (hC : P.cellsOf e = 1) (hCb : P.cellsOf b = 1) (h : DataW.trod enc P w base spare held n t cs = some y) :
    ∃ (A : Option Addr) (len cap : Nat) (rows : List Rw), cs = [.slice A len cap] ∧ len ≤ cap ∧ cap ≤ maxLen ∧ RRs w w.heap.size A len rows := by
  obtain ⟨A, len, cap, L, rfl, h1, h2, h3, h4, h5⟩ := trod_sl (fun c => ∃ r : Rw, c = [r.val] ∧ r.l.length ≤ r.c ∧ r.c ≤ maxLen ∧ Reads w w.heap.size 1 r.A r.l.length (bL r.l)) ht hC (by omega) (fun m c y hc _ => by
    obtain ⟨A, len, cap, l, hx, a1, a2, a3, a4⟩ := trod_bytes he hb hCb hc
    subst a3
    exact ⟨⟨A, cap, l⟩, hx, a1, a2, a4⟩) h
  have hex : ∀ (L : List (List Value)), (∀ c ∈ L, ∃ r : Rw, c = [r.val] ∧ r.l.length ≤ r.c ∧ r.c ≤ maxLen ∧ Reads w w.heap.size 1 r.A r.l.length (bL r.l)) → ∃ l : List Rw, L = l.map (fun r => [r.val]) ∧ ∀ r ∈ l, r.l.length ≤ r.c ∧ r.c ≤ maxLen ∧ Reads w w.heap.size 1 r.A r.l.length (bL r.l) := by
    intro L
    induction L with
    | nil => intro _; exact ⟨[], rfl, by simp⟩
    | cons c r ih =>
      intro hL
      obtain ⟨v, rfl, hv⟩ := hL c (by simp)
      obtain ⟨l, rfl, hl⟩ := ih fun c hc => hL c (by simp [hc])
      exact ⟨v :: l, rfl, by intro u hu; rcases List.mem_cons.1 hu with rfl | hu; exact hv; exact hl u hu⟩
  obtain ⟨l, rfl, hl⟩ := hex L fun c hc => (h4 c hc).1
  refine ⟨A, len, cap, l, rfl, h1, h2, by simpa using h3, ?_, fun r hr => ⟨(hl r hr).1, (hl r hr).2.1⟩, fun r hr => (hl r hr).2.2⟩
  have : (l.map (fun r => [Rw.val r])).flatMap id = l.map Rw.val := by rw [List.flatMap_map]; exact flatMap_one _ l
  rwa [this] at h5
end
end
end Go.Proofs.Ytdimkeoncgjegaa
/-
  Slots of a heap page: the law SlotsPlays.
-/
namespace Go.Proofs.Ytdimkeoncgjegaa
section
open Go.RowKit

theorem Own.past {w w' : World} {base : Nat} {v : Value} {l : List UInt8} (h : Own w base v l) (he : ∀ g, v.ownBlock = some g → g < w.heap.size → w'.heap[g]? = w.heap[g]?) : Own w' base v l := by
  refine ⟨h.1, ?_⟩
  rcases h.2 with hn | ⟨g, cap, cur, rfl, hb, hgg, rest⟩
  · exact .inl hn
  · refine .inr ⟨g, cap, cur, rfl, hb, ?_, rest⟩
    rw [he g rfl (Array.getElem?_eq_some_iff.1 hgg).1]
    exact hgg
/-- A page of the program's and the reference's, both with these records. -/
structure PB (w : World) (base gp : Nat) (A : Option Addr) (c : Nat) (A2 : Option Addr) (c2 m next : Nat) (rs : List (List UInt8)) : Prop where
  own : Own w base (.slice A 512 c) (layL next rs)
  cap : 512 ≤ c
  fits : Fits rs
  len : rs.length = m
  pg : Blk w gp 41 #[.int .u32 next, .slice A2 m c2]
  row : w.ownsRow base 9 1 (.slice A2 m c2) m (sL rs)
section
variable {w w' : World} {base gp c c2 m next : Nat} {A A2 : Option Addr} {rs : List (List UInt8)}
theorem PB.below (h : PB w base gp A c A2 c2 m next rs) (hb : Below w.heap.size w w') : PB w' base gp A c A2 c2 m next rs :=
  ⟨h.own.below hb, h.cap, h.fits, h.len, h.pg.below hb h.pg.lt, h.row.kept (row := none) ⟨hb.os, hb.tape, hb.output, hb.size, fun i hi _ => hb.block i hi⟩ (by cases h' : (Value.slice A2 m c2).ownBlock <;> simp)⟩
theorem PB.m6 (h : PB w base gp A c A2 c2 m next rs) : m ≤ 126 := by have := h.fits.1; have := h.len; omega
theorem PB.t6 (h : PB w base gp A c A2 c2 m next rs) : tot rs ≤ 1000000 := by have := h.fits.1; omega
theorem PB.reads (h : PB w base gp A c A2 c2 m next rs) : Reads w w.heap.size 1 A2 m (sL rs) := Reads.of_own h.row
theorem PB.room (h : PB w base gp A c A2 c2 m next rs) : Calls Try.prog 25 #[.slice A 512 c] w (RetB w (.int .i64 (508 - (8 + 4 * m + tot rs) : Nat))) := by
  have := Room_any (n := 512) (c := c) h.own.reads.1 (Nat.le_refl _) (by omega) h.cap
  rwa [lay_room h.fits, h.len] at this
theorem PB.rroom (h : PB w base gp A c A2 c2 m next rs) : Calls Try.prog 30 #[.agg #[.int .u32 next, .slice A2 m c2]] w (RetB w (.int .i64 (508 - (8 + 4 * m + tot rs) : Nat))) :=
  rroom_any next h.reads (by have := h.m6; omega) h.t6
end
end
end Go.Proofs.Ytdimkeoncgjegaa
