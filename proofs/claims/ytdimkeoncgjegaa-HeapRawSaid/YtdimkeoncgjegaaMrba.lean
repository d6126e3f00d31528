/-
  Several texts in one: Hf St.
-/
import Derived.Test.YtdimkeoncgjegaaMraz
import Derived.Test.YtdimkeoncgjegaaMrae
import Derived.Test.YtdimkeoncgjegaaMrab
/-
  Heap: the program's Fetch; the example of the chapter.
-/
namespace Go.Proofs.Ytdimkeoncgjegaa
section
set_option linter.unusedSimpArgs false
set_option linter.unusedVariables false
open Go.RowKit Go.Maps

section
variable {W : World} {lo gp gd gb gt n : Nat} {ps : List (List UInt8)} {T : List Bool} {gm size : Nat} {m : Nat}
/-- What Fetch leaves. -/
def RetFc (w : World) (lo gp gd gb gt n : Nat) (ps : List (List UInt8)) (T : List Bool) (gm size : Nat) (K : List Fr) (m : Nat) (R : List UInt8 × Int) (e : Ending) (w' : World) : Prop :=
  ∃ A c K' D' rd' ht', e = .returned (.tuple #[.slice A R.1.length c, .int .i64 R.2]) ∧ Reads w' w'.heap.size 1 A R.1.length (bL R.1) ∧ R.1.length ≤ c ∧
    PS w' lo gp gd gb gt n ps T gm size K' D' rd' ht' ∧ rd' ≤ m ∧ ht' ≤ m ∧ (∀ (j : Nat) (f : Fr), K'[j]? = some f → (∃ i : Nat, K[i]? = some f) ∨ w.heap.size ≤ f.g) ∧ Turn w w' lo gp gm K
set_option maxRecDepth 100000 in
set_option maxHeartbeats 4000000 in
theorem fetch_any {K : List Fr} {D : DataW Unit} {rd ht : Nat} (h : PS W lo gp gd gb gt n ps T gm size K D rd ht) (hrd : rd ≤ m) (hht : ht ≤ m) (hlo : lo ≤ W.heap.size) (hn : n ≤ 1000) (hm : m ≤ 200000) (p : Nat) (hp : p ≤ 4294967295) (s : Nat) (hs : s ≤ 65535) :
    Calls Try.prog 17 #[.pointer (some ⟨gp, 0, none⟩), .agg #[.int .u32 p, .int .u16 s]] W (RetFc W lo gp gd gb gt n ps T gm size K (m + 1) (fetchH ps p s)) := by
  have hb0 := ball (Below.refl W.heap.size W) (.cells #[.int .u32 p, .int .u16 s] 50)
  have hps := h.dk.hp
  have HD := Lib.hid (headv_any (h.below hb0) p 1 hp hn m (by omega) hrd hht (Nat.le_trans hlo hb0.size))
  have hR0 := Blk.new W 50 #[.int .u32 p, .int .u16 s]
  have TB := Lib.hid (Turn.of_below (gp := gp) (gm := gm) (K := K) hb0 hlo)
  have H0 := Lib.hid (And.intro h hlo)
  have s0 : (0 : Int) ≤ (s : Int) := by omega
  obtain ⟨R, hR⟩ : ∃ R, fetchH ps p s = R := ⟨_, rfl⟩
  rw [hR]
  clear h hlo hb0
  go_enter Try.func17, Try.ntmps17
  go_wp2_with fail
  refine HD.out.mono ?_
  rintro e w1 ⟨⟨K', D', rd', ht', p1, p2, p3, p4⟩, tn, hc⟩
  have tn0 := TB.out.trans tn fun j f hj => .inl ⟨j, hj⟩
  have hzw : W.heap.size ≤ (W.alloc (.cells #[.int .u32 p, .int .u16 s] 50)).heap.size := by simp
  have p4' : ∀ (j : Nat) (f : Fr), K'[j]? = some f → (∃ i : Nat, K[i]? = some f) ∨ W.heap.size ≤ f.g := fun j f hj => (p4 j f hj).imp id fun h => Nat.le_trans hzw h
  have hRid : Blk w1 W.heap.size 50 #[.int .u32 p, .int .u16 s] := (H0.out.1.below (ball (Below.refl W.heap.size W) (.cells #[.int .u32 p, .int .u16 s] 50))).turn_blk tn hR0 (by decide) (by decide)
  have cR : w1.cell? ⟨W.heap.size, 1, none⟩ = some (.int .u16 s) := hRid.cell 1
  have zR := hRid.lt
  rcases hc with ⟨hnp, rfl⟩ | ⟨q, hq, hno, rfl⟩ | ⟨q, A3, c3, hq, hok, hkk, rfl, own3⟩
  · have hRe : R = ([], 8) := by rw [← hR]; unfold fetchH; rw [List.getElem?_eq_none (by omega)]
    have hb1 := ball (Below.refl w1.heap.size w1) (.cells #[.int .u8 0, .int .u16 0, .int .u32 0] 109)
    have H1 := Lib.hid (And.intro (p1.below hb1) (And.intro (tn0.more hb1 H0.out.2) (And.intro p4' hRe)))
    unfold hd0
    clear p1 tn tn0 hb1 p4 p4' hRe hR HD TB
    go_wp2
    go_ret2
    rw [H1.out.2.2.2]
    exact ⟨none, 0, K', D', rd', ht', rfl, Reads.none_, Nat.le_refl _, H1.out.1, p2, p3, H1.out.2.2.1, H1.out.2.1⟩
  · have hpg : isPage q = false := by
      rcases hc : isPage q with _ | _
      · rfl
      · obtain ⟨h1, h2⟩ := page_hd hc
        rcases hno with h3 | h3
        · rw [h1] at h3; cases h3
        · exact absurd (by rw [h2]; rfl) h3
    have hRe : R = ([], 2) := by rw [← hR]; unfold fetchH; rw [hq]; simp [hpg]
    have hb1 := ball (Below.refl w1.heap.size w1) (.cells #[.int .u8 0, .int .u16 0, .int .u32 0] 109)
    have H1 := Lib.hid (And.intro (p1.below hb1) (And.intro (tn0.more hb1 H0.out.2) (And.intro p4' hRe)))
    unfold hd0
    clear p1 tn tn0 hb1 p4 p4' hRe hR HD TB
    go_wp2
    go_ret2
    rw [H1.out.2.2.2]
    exact ⟨none, 0, K', D', rd', ht', rfl, Reads.none_, Nat.le_refl _, H1.out.1, p2, p3, H1.out.2.2.1, H1.out.2.1⟩
  · have hv : hdV q = .agg #[.int .u8 1, .int .u16 (hdC q : Int), .int .u32 (hdN q : Int)] := by unfold hdV; rw [hok, if_pos rfl, hkk]
    rw [hv]
    have hcap3 : 512 ≤ c3 := by obtain ⟨A', c', e', h'⟩ := own_form own3; injection e' with _ _ e'; omega
    have hb1 := ball (Below.refl w1.heap.size w1) (.cells #[.int .u8 1, .int .u16 (hdC q : Int), .int .u32 (hdN q : Int)] 109)
    have own3a := (own3.below hb1).reads.1
    have cR2 : (w1.alloc (.cells #[.int .u8 1, .int .u16 (hdC q : Int), .int .u32 (hdN q : Int)] 109)).cell? ⟨W.heap.size, 1, none⟩ = some (.int .u16 s) := (hRid.alloc _).cell 1
    have H1 := Lib.hid (And.intro (p1.below hb1) (And.intro (tn0.more hb1 H0.out.2) p4'))
    rcases hpg : isPage q with _ | _
    · have hRe : R = ([], 2) := by rw [← hR]; unfold fetchH; rw [hq]; simp [hpg]
      have GN := Lib.hid (get_no (s : Int) hpg own3a (Nat.le_refl _) (by omega) hcap3)
      clear p1 tn tn0 hb1 p4 p4' hR own3 own3a HD TB
      go_wp2_with fail
      refine GN.out.mono ?_
      rintro e w2 ⟨rfl, hb2⟩
      have H2 := Lib.hid hb2
      clear hb2
      go_wp2
      go_ret2
      rw [hRe]
      exact ⟨none, 0, K', D', rd', ht', rfl, Reads.none_, Nat.le_refl _, H1.out.1.below H2.out, p2, p3, H1.out.2.2, H1.out.2.1.more H2.out H0.out.2⟩
    · by_cases hlt : s < hdC q
      · have hRe : R = (recK q s, 0) := by rw [← hR]; unfold fetchH; rw [hq]; simp [hpg, hlt]
        have GN := Lib.hid (get_ok s hpg hlt own3a (Nat.le_refl _) (by omega) hcap3)
        clear p1 tn tn0 hb1 p4 p4' hR own3 own3a HD TB
        go_wp2_with fail
        refine GN.out.mono ?_
        rintro e w2 ⟨A4, c4, rfl, own4, hc4, hb2⟩
        have H2 := Lib.hid (And.intro hb2 own4)
        clear hb2 own4
        go_wp2
        go_ret2
        rw [hRe]
        exact ⟨A4, c4, K', D', rd', ht', rfl, H2.out.2.reads.1, hc4, H1.out.1.below H2.out.1, p2, p3, H1.out.2.2, H1.out.2.1.more H2.out.1 H0.out.2⟩
      · have hRe : R = ([], 9) := by rw [← hR]; unfold fetchH; rw [hq]; simp [hpg, hlt]
        have GN := Lib.hid (get_out (s : Int) hpg (.inr (by omega)) own3a (Nat.le_refl _) (by omega) hcap3)
        clear p1 tn tn0 hb1 p4 p4' hR own3 own3a HD TB
        go_wp2_with fail
        refine GN.out.mono ?_
        rintro e w2 ⟨rfl, hb2⟩
        have H2 := Lib.hid hb2
        clear hb2
        go_wp2
        go_ret2
        rw [hRe]
        exact ⟨none, 0, K', D', rd', ht', rfl, Reads.none_, Nat.le_refl _, H1.out.1.below H2.out, p2, p3, H1.out.2.2, H1.out.2.1.more H2.out H0.out.2⟩
end
set_option maxRecDepth 100000 in
theorem hpages0 (w : World) : Calls Try.prog 16 #[.slice none 0 0] w fun e w' => e = .returned (.int .i64 1) ∧ w = w' := by
  go_enter Try.func16, Try.ntmps16
  go_wp2
  go_loop [3, 4, 9] (fun u3 u4 u9 => u3 = .int .i64 1 ∧ u4 = .int .i64 500 ∧ u9 = .int .i64 0) (fun _ _ _ => 0)
  case atStart => exact ⟨rfl, rfl, rfl⟩
  case round =>
    obtain ⟨rfl, rfl, rfl⟩ := hrel
    go_wp2
    go_ret
    exact ⟨rfl, rfl⟩
set_option maxRecDepth 100000 in
theorem hpages3 (w : World) (g : Nat) (h : Blk w g 3 #[.int .i64 250, .int .i64 250, .int .i64 250]) : Calls Try.prog 16 #[.slice (some ⟨g, 0, none⟩) 3 3] w fun e w' => e = .returned (.int .i64 3) ∧ w = w' := by
  have c0 : w.cell? ⟨g, 0, none⟩ = some (.int .i64 250) := h.cell 0
  have c1 : w.cell? ⟨g, 1, none⟩ = some (.int .i64 250) := h.cell 1
  have c2 : w.cell? ⟨g, 2, none⟩ = some (.int .i64 250) := h.cell 2
  clear h
  go_enter Try.func16, Try.ntmps16
  go_wp2
  go_loop [3, 4, 9] (fun u3 u4 u9 => (u3 = .int .i64 1 ∧ u4 = .int .i64 500 ∧ u9 = .int .i64 0) ∨ (u3 = .int .i64 1 ∧ u4 = .int .i64 246 ∧ u9 = .int .i64 1) ∨ (u3 = .int .i64 2 ∧ u4 = .int .i64 246 ∧ u9 = .int .i64 2) ∨ (u3 = .int .i64 3 ∧ u4 = .int .i64 246 ∧ u9 = .int .i64 3)) (fun _ _ u9 => 3 - (intOf u9).toNat)
  case atStart => exact .inl ⟨rfl, rfl, rfl⟩
  case round =>
    rcases hrel with ⟨rfl, rfl, rfl⟩ | ⟨rfl, rfl, rfl⟩ | ⟨rfl, rfl, rfl⟩ | ⟨rfl, rfl, rfl⟩
    · go_wp2
      go_round
      case rel => exact .inr (.inl ⟨rfl, rfl, rfl⟩)
      case measure => simp [intOf]
    · go_wp2
      go_round
      case rel => exact .inr (.inr (.inl ⟨rfl, rfl, rfl⟩))
      case measure => simp [intOf]
    · go_wp2
      go_round
      case rel => exact .inr (.inr (.inr ⟨rfl, rfl, rfl⟩))
      case measure => simp [intOf]
    · go_wp2
      go_ret
      exact ⟨rfl, rfl⟩
set_option maxRecDepth 100000 in
theorem hfixed_any (w : World) : Calls Try.prog 7 #[] w (RetB w (.bool true)) := by
  have P0 := Lib.hid fun W => hpages0 W
  have P3 := Lib.hid (hpages3 _ _ (Blk.new w 3 #[.int .i64 250, .int .i64 250, .int .i64 250]))
  go_enter Try.func7, Try.ntmps7
  go_wp2_with fail
  refine P3.out.mono ?_
  rintro e w1 ⟨rfl, rfl⟩
  go_wp2_with fail
  refine (P0.out _).mono ?_
  rintro e w1 ⟨rfl, rfl⟩
  go_wp2
  go_ret
  exact ⟨rfl, ball (Below.refl _ _) _⟩
end
end Go.Proofs.Ytdimkeoncgjegaa
/-
  Slices of byte slices that came in.
-/
namespace Go.Proofs.Ytdimkeoncgjegaa
section
open Go.RowKit Go.ChangeShapes Go.WideShapes Go.Deep

/-- One of many slices of bytes: where it lies, its capacity, its bytes. -/
structure Rw where
  A : Option Addr
  c : Nat
  l : List UInt8
def Rw.val (r : Rw) : Value := .slice r.A r.l.length r.c
structure RRs (w : World) (B : Nat) (A : Option Addr) (n : Nat) (rows : List Rw) : Prop where
  len : rows.length = n
  outer : Reads w B 1 A n (rows.map Rw.val)
  cap : ∀ r ∈ rows, r.l.length ≤ r.c ∧ r.c ≤ maxLen
  inner : ∀ r ∈ rows, Reads w B 1 r.A r.l.length (bL r.l)
theorem RRs.below {w w' : World} {B n : Nat} {A : Option Addr} {rows : List Rw} (h : RRs w B A n rows) (hb : Below B w w') : RRs w' B A n rows :=
  ⟨h.len, h.outer.below hb, h.cap, fun r hr => (h.inner r hr).below hb⟩
theorem RRs.row {w : World} {B n k : Nat} {A : Option Addr} {rows : List Rw} (h : RRs w B A n rows) (hk : k < n) : ∃ ad r, A = some ad ∧ ad.block < B ∧ rows[k]? = some r ∧ w.cell? (ad.add k) = some (.slice r.A r.l.length r.c) ∧ r.l.length ≤ r.c ∧ r.c ≤ maxLen ∧ Reads w B 1 r.A r.l.length (bL r.l) := by
  obtain ⟨ad, u, e, hb, hu, hc⟩ := h.outer.at_ hk
  rw [List.getElem?_map] at hu
  obtain ⟨r, h1, rfl⟩ := Option.map_eq_some_iff.1 hu
  have hm := List.mem_of_getElem? h1
  exact ⟨ad, r, e, hb, h1, hc, (h.cap r hm).1, (h.cap r hm).2, h.inner r hm⟩
theorem ints_bytes : ∀ (l : List Int), (∀ x ∈ l, (Lit.int .u8 x).wf = true) → ∃ L : List UInt8, l.map (Value.int .u8) = bL L ∧ L.length = l.length
  | [], _ => ⟨[], rfl, rfl⟩
  | x :: l, h => by
    obtain ⟨L, h1, h2⟩ := ints_bytes l fun y hy => h y (by simp [hy])
    have hx := Go.bounds_u8 (h x (by simp))
    refine ⟨UInt8.ofNat x.toNat :: L, ?_, by simp [h2]⟩
    rw [List.map_cons, h1]
    simp only [bL, List.map_cons]
    congr 1
    congr 1
    simp
    omega
section
variable {H : Type} {enc : TypeId × Value → H} {P : Program} {w : World} {base : Nat} {spare : Nat → Bool} {held : Bool}
theorem trod_bytes {t e : TypeId} {n : Nat} {cs : List Value} {y : DataW H × List MemPlace} (ht : P.underlying t = some (.slice e)) (he : P.underlying e = some (.int .u8)) (hC : P.cellsOf e = 1) (h : DataW.trod enc P w base spare held n t cs = some y) :
    ∃ (A : Option Addr) (len cap : Nat) (L : List UInt8), cs = [.slice A len cap] ∧ len ≤ cap ∧ cap ≤ maxLen ∧ L.length = len ∧ Reads w w.heap.size 1 A len (bL L) := by
  obtain ⟨A, len, cap, l, rfl, h1, h2, h3, h4, h5⟩ := trod_ints ht he hC h
  obtain ⟨L, hL, hl⟩ := ints_bytes l h4
  rw [hL] at h5
  exact ⟨A, len, cap, L, rfl, h1, h2, by omega, h5⟩
theorem trod_bss {t e b : TypeId} {n : Nat} {cs : List Value} {y : DataW H × List MemPlace} (ht : P.underlying t = some (.slice e)) (he : P.underlying e = some (.slice b)) (hb : P.underlying b = some (.int .u8)) (hC : P.cellsOf e = 1) (hCb : P.cellsOf b = 1) (h : DataW.trod enc P w base spare held n t cs = some y) :
    ∃ (A : Option Addr) (len cap : Nat) (rows : List Rw), cs = [.slice A len cap] ∧ len ≤ cap ∧ cap ≤ maxLen ∧ RRs w w.heap.size A len rows := by
  obtain ⟨A, len, cap, L, rfl, h1, h2, h3, h4, h5⟩ := trod_sl (fun c => ∃ r : Rw, c = [r.val] ∧ r.l.length ≤ r.c ∧ r.c ≤ maxLen ∧ Reads w w.heap.size 1 r.A r.l.length (bL r.l)) ht hC (by omega) (fun m c y hc _ => by
    obtain ⟨A, len, cap, l, hx, a1, a2, a3, a4⟩ := trod_bytes he hb hCb hc
    subst a3
    exact ⟨⟨A, cap, l⟩, hx, a1, a2, a4⟩) h
  have hex : ∀ (L : List (List Value)), (∀ c ∈ L, ∃ r : Rw, c = [r.val] ∧ r.l.length ≤ r.c ∧ r.c ≤ maxLen ∧ Reads w w.heap.size 1 r.A r.l.length (bL r.l)) → ∃ l : List Rw, L = l.map (fun r => [r.val]) ∧ ∀ r ∈ l, r.l.length ≤ r.c ∧ r.c ≤ maxLen ∧ Reads w w.heap.size 1 r.A r.l.length (bL r.l) := by
    intro L
    induction L with
    | nil => intro _; exact ⟨[], rfl, by simp⟩
    | cons c r ih =>
      intro hL
      obtain ⟨v, rfl, hv⟩ := hL c (by simp)
      obtain ⟨l, rfl, hl⟩ := ih fun c hc => hL c (by simp [hc])
      exact ⟨v :: l, rfl, by intro u hu; rcases List.mem_cons.1 hu with rfl | hu; exact hv; exact hl u hu⟩
  obtain ⟨l, rfl, hl⟩ := hex L fun c hc => (h4 c hc).1
  refine ⟨A, len, cap, l, rfl, h1, h2, by simpa using h3, ?_, fun r hr => ⟨(hl r hr).1, (hl r hr).2.1⟩, fun r hr => (hl r hr).2.2⟩
  have : (l.map (fun r => [Rw.val r])).flatMap id = l.map Rw.val := by rw [List.flatMap_map]; exact flatMap_one _ l
  rwa [this] at h5
end
end
end Go.Proofs.Ytdimkeoncgjegaa
