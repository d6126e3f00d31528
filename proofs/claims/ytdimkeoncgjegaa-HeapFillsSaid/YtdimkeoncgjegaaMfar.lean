/-
  Several texts in one: Ee Ha Hb Hq.
-/
import Derived.Test.YtdimkeoncgjegaaMfak
import Derived.Test.YtdimkeoncgjegaaMfaq
import Derived.Test.YtdimkeoncgjegaaMfae
import Derived.OwnWalk
import Derived.BigRegion
import Derived.Deep.RegionLaw
/-
  The law DiskPlays: what the loop holds.
-/
namespace Go.Proofs.Ytdimkeoncgjegaa
section
open Go.RowKit

/-- The reference's disk in its variable: what it reads as, and that the program's disk lies elsewhere. -/
structure RP (w : World) (B M n gb gt : Nat) (ps : List (List UInt8)) (T : List Bool) (A : Option Addr) (c : Nat) (A2 : Option Addr) (c2 : Nat) : Prop where
  m : Blk w M 32 #[.slice A n c, .slice A2 n c2]
  r1 : Reads w w.heap.size 1 A n (sL ps)
  r2 : Reads w w.heap.size 1 A2 n (tL T)
  c1 : n ≤ c
  c2 : n ≤ c2
  f1 : ∀ ad, A = some ad → ad.block ≠ gb ∧ ad.block ≠ gt ∧ ad.block ≠ M
  f2 : ∀ ad, A2 = some ad → ad.block ≠ gb ∧ ad.block ≠ gt ∧ ad.block ≠ M
  lo : B ≤ M
  o1 : M ≠ gb
  o2 : M ≠ gt
section
variable {w w' : World} {B M n g gb gt : Nat} {ps ps' : List (List UInt8)} {T T' : List Bool} {A A2 : Option Addr} {c c2 : Nat}
theorem RP.below (h : RP w B M n gb gt ps T A c A2 c2) (hb : Below w.heap.size w w') : RP w' B M n gb gt ps T A c A2 c2 :=
  ⟨h.m.below hb h.m.lt, (h.r1.below hb).more hb.size, (h.r2.below hb).more hb.size, h.c1, h.c2, h.f1, h.f2, h.lo, h.o1, h.o2⟩
theorem RP.left (h : RP w B M n gb gt ps T A c A2 c2) (hl : Left w w' g gb gt n ps' T') : RP w' B M n gb gt ps T A c A2 c2 := by
  obtain ⟨_, _, h2, h3⟩ := hl
  refine ⟨h.m.same_ (h2 M h.o1 h.o2), ?_, ?_, h.c1, h.c2, h.f1, h.f2, h.lo, h.o1, h.o2⟩
  · rw [h3]; exact h.r1.same_ fun ad hA _ => h2 _ (h.f1 ad hA).1 (h.f1 ad hA).2.1
  · rw [h3]; exact h.r2.same_ fun ad hA _ => h2 _ (h.f2 ad hA).1 (h.f2 ad hA).2.1
/-- Another disk of the program's, made later. -/
theorem RP.other (h : RP w B M n gb gt ps T A c A2 c2) (hn : 1 ≤ n) {gb' gt' : Nat} (h1 : w.heap.size ≤ gb') (h2 : w.heap.size ≤ gt') : RP w B M n gb' gt' ps T A c A2 c2 := by
  have hm := h.m.lt
  refine ⟨h.m, h.r1, h.r2, h.c1, h.c2, fun ad hA => ?_, fun ad hA => ?_, h.lo, by omega, by omega⟩
  · obtain ⟨ad', e, hb, _⟩ := h.r1.2 (by omega)
    rw [hA] at e; injection e with e; subst e
    exact ⟨by omega, by omega, (h.f1 ad hA).2.2⟩
  · obtain ⟨ad', e, hb, _⟩ := h.r2.2 (by omega)
    rw [hA] at e; injection e with e; subst e
    exact ⟨by omega, by omega, (h.f2 ad hA).2.2⟩
theorem RP.start {L : Nat} (hn : 1 ≤ n) (h1 : Reads w w.heap.size 1 A n (sL ps)) (h2 : Reads w w.heap.size 1 A2 n (tL T)) (c1 : n ≤ c) (c2' : n ≤ c2) (l1 : ∀ ad, A = some ad → L ≤ ad.block) (l2 : ∀ ad, A2 = some ad → L ≤ ad.block) (hB : B ≤ w.heap.size) (hb : gb < L) (ht : gt < L) (hL : L ≤ w.heap.size) :
    RP (w.alloc (.cells #[.slice A n c, .slice A2 n c2] 32)) B w.heap.size n gb gt ps T A c A2 c2 := by
  have hz : (w.alloc (.cells #[.slice A n c, .slice A2 n c2] 32)).heap.size = w.heap.size + 1 := by simp
  refine ⟨Blk.new _ _ _, (h1.alloc (Nat.le_refl _) _).more (by omega), (h2.alloc (Nat.le_refl _) _).more (by omega), c1, c2', fun ad hA => ?_, fun ad hA => ?_, hB, by omega, by omega⟩
  · obtain ⟨ad', e, hb, _⟩ := h1.2 (by omega)
    rw [hA] at e; injection e with e; subst e
    have := l1 ad hA
    exact ⟨by omega, by omega, by omega⟩
  · obtain ⟨ad', e, hb, _⟩ := h2.2 (by omega)
    rw [hA] at e; injection e with e; subst e
    have := l2 ad hA
    exact ⟨by omega, by omega, by omega⟩
/-- The variable is written anew: new pages, new marks. -/
theorem RP.stored (h : Blk w M 32 #[.slice A n c, .slice A2 n c2]) {A' A2' : Option Addr} {c' c2' : Nat} (hr1 : Reads w w.heap.size 1 A' n (sL ps')) (hr2 : Reads w w.heap.size 1 A2' n (tL T')) (hc1 : n ≤ c') (hc2 : n ≤ c2')
    (hf1 : ∀ ad, A' = some ad → ad.block ≠ gb ∧ ad.block ≠ gt ∧ ad.block ≠ M) (hf2 : ∀ ad, A2' = some ad → ad.block ≠ gb ∧ ad.block ≠ gt ∧ ad.block ≠ M) (lo : B ≤ M) (o1 : M ≠ gb) (o2 : M ≠ gt) :
    RP ((w.setCell ⟨M, 0, none⟩ (.slice A' n c')).setCell ⟨M, 1, none⟩ (.slice A2' n c2')) B M n gb gt ps' T' A' c' A2' c2' :=
  ⟨(h.set_ 0 _).set_ 1 _, reads_far (reads_far hr1 (p := ⟨M, 0, none⟩) (fun ad h => (hf1 ad h).2.2) _) (p := ⟨M, 1, none⟩) (fun ad h => (hf1 ad h).2.2) _, reads_far (reads_far hr2 (p := ⟨M, 0, none⟩) (fun ad h => (hf2 ad h).2.2) _) (p := ⟨M, 1, none⟩) (fun ad h => (hf2 ad h).2.2) _, hc1, hc2, hf1, hf2, lo, o1, o2⟩
theorem DP.store {p : Addr} (h : DP w g gb gt n ps T) (h1 : g ≠ p.block) (h2 : gb ≠ p.block) (h3 : gt ≠ p.block) (u : Value) : DP (w.setCell p u) g gb gt n ps T :=
  ⟨⟨h.dk.d.far h1 u, h.dk.b.far h2 u, h.dk.t.far h3 u, h.dk.hb, h.dk.ht⟩, h.full, h.hp⟩
end
theorem clear_blk {w : World} {g n c : Nat} {l : List UInt8} (h : Blk w g 5 (bV l)) (hn : l.length = n) :
    ∃ w', (∀ ty, (Builtin.clear_ #[59] ty #[.slice (some ⟨g, 0, none⟩) n c]).run Try.prog w = .ok (.tuple #[]) w') ∧ (∀ B w0, B ≤ g → Below B w0 w → Below B w0 w') ∧ (∀ g', g' < w.heap.size → g' ≠ g → w'.heap[g']? = w.heap[g']?) ∧ w'.heap.size = w.heap.size :=
  clear_row g n c (fun j hj => by rw [h.cell, Array.getElem?_eq_getElem (by rw [bV_size]; omega)]; rfl) (fun j _ => h.frozen j)
theorem RP.turn {w : World} {B M n gb gt gb' gt' : Nat} {ps : List (List UInt8)} {T : List Bool} {A A2 : Option Addr} {c c2 : Nat} (h : RP w B M n gb gt ps T A c A2 c2) (h1 : ∀ ad, A = some ad → ad.block ≠ gb' ∧ ad.block ≠ gt') (h2 : ∀ ad, A2 = some ad → ad.block ≠ gb' ∧ ad.block ≠ gt') (o1 : M ≠ gb') (o2 : M ≠ gt') : RP w B M n gb' gt' ps T A c A2 c2 :=
  ⟨h.m, h.r1, h.r2, h.c1, h.c2, fun ad hA => ⟨(h1 ad hA).1, (h1 ad hA).2, (h.f1 ad hA).2.2⟩, fun ad hA => ⟨(h2 ad hA).1, (h2 ad hA).2, (h.f2 ad hA).2.2⟩, h.lo, o1, o2⟩
theorem DP.beside {w w' : World} {n g gb gt g' gb' gt' : Nat} {ps ps2 : List (List UInt8)} {T T2 : List Bool} (h : DP w g' gb' gt' n ps T) (hl : Left w w' g gb gt n ps2 T2) (h1 : g' ≠ gb ∧ g' ≠ gt) (h2 : gb' ≠ gb ∧ gb' ≠ gt) (h3 : gt' ≠ gb ∧ gt' ≠ gt) : DP w' g' gb' gt' n ps T :=
  ⟨⟨h.dk.d.same_ (hl.2.2.1 g' h1.1 h1.2), h.dk.b.same_ (hl.2.2.1 gb' h2.1 h2.2), h.dk.t.same_ (hl.2.2.1 gt' h3.1 h3.2), h.dk.hb, h.dk.ht⟩, h.full, h.hp⟩
/-- Behind a clear of another block. -/
theorem RP.cleared {w w' : World} {B M n gb gt gc : Nat} {ps : List (List UInt8)} {T : List Bool} {A A2 : Option Addr} {c c2 : Nat} (h : RP w B M n gb gt ps T A c A2 c2) (hch : ∀ g', g' < w.heap.size → g' ≠ gc → w'.heap[g']? = w.heap[g']?) (hs : w'.heap.size = w.heap.size) (hM : M ≠ gc) (ha : ∀ ad, A = some ad → ad.block ≠ gc) (ha2 : ∀ ad, A2 = some ad → ad.block ≠ gc) : RP w' B M n gb gt ps T A c A2 c2 :=
  ⟨h.m.same_ (hch M h.m.lt hM), by rw [hs]; exact h.r1.same_ fun ad hA hb => hch _ hb (ha ad hA), by rw [hs]; exact h.r2.same_ fun ad hA hb => hch _ hb (ha2 ad hA), h.c1, h.c2, h.f1, h.f2, h.lo, h.o1, h.o2⟩
theorem DP.cleared {w w' : World} {n g gb gt gc : Nat} {ps : List (List UInt8)} {T : List Bool} (h : DP w g gb gt n ps T) (hch : ∀ g', g' < w.heap.size → g' ≠ gc → w'.heap[g']? = w.heap[g']?) (h1 : g ≠ gc) (h2 : gb ≠ gc) (h3 : gt ≠ gc) : DP w' g gb gt n ps T :=
  ⟨⟨h.dk.d.same_ (hch g h.dk.d.lt h1), h.dk.b.same_ (hch gb h.dk.b.lt h2), h.dk.t.same_ (hch gt h.dk.t.lt h3), h.dk.hb, h.dk.ht⟩, h.full, h.hp⟩
theorem RP.under {w : World} {B M n gb gt : Nat} {ps : List (List UInt8)} {T : List Bool} {A A2 : Option Addr} {c c2 : Nat} (h : RP w B M n gb gt ps T A c A2 c2) (hn : 1 ≤ n) : (∀ ad, A = some ad → ad.block < w.heap.size) ∧ (∀ ad, A2 = some ad → ad.block < w.heap.size) := by
  refine ⟨fun ad hA => ?_, fun ad hA => ?_⟩
  · obtain ⟨ad', e, hb, _⟩ := h.r1.2 (by omega)
    rw [hA] at e; injection e with e; subst e
    exact hb
  · obtain ⟨ad', e, hb, _⟩ := h.r2.2 (by omega)
    rw [hA] at e; injection e with e; subst e
    exact hb
theorem slice1 (g : Nat) (W : World) : (Instr.slice 59 (.slice (some ⟨g, 0, none⟩) 512 512) (some (.int .i64 1)) none none).run Try.prog W = .ok (.slice (some ⟨g, 1, none⟩) 511 511) W := by
  rw [run_slice_l W 59 (some ⟨g, 0, none⟩) 512 512 Try.sliceB .i64 1 (by omega) (by omega), Try.elemB, Try.sizeB]
  simp [sliced, Result.andThen, Addr.add]
theorem clear_nil (w : World) (c : Nat) (ty : TypeId) : (Builtin.clear_ #[59] ty #[.slice none 0 c]).run Try.prog w = .ok (.tuple #[]) w := by
  have ht : Try.prog.underlying 59 = some (.slice 5) := Try.underlying59
  simp [Builtin.clear_, run_underlying ht, Sem.run_pure]
end
end Go.Proofs.Ytdimkeoncgjegaa
/-
  Heap, plain: what a scan comes to; the reference's page.
-/
namespace Go.Proofs.Ytdimkeoncgjegaa
section
set_option linter.unusedSimpArgs false
set_option linter.unusedVariables false
open Go.RowKit

/-- A record, and where it stands. -/
structure It where
  p : Nat
  s : Nat
  r : List UInt8
/-- The first items of a page. -/
def itK (p : Nat) (rs : List (List UInt8)) (k : Nat) : List It := (List.range k).map fun i => ⟨p, i, rs.getD i []⟩
theorem itK_succ (p : Nat) (rs : List (List UInt8)) (k : Nat) : itK p rs (k + 1) = itK p rs k ++ [⟨p, k, rs.getD k []⟩] := by simp [itK, List.range_succ]
theorem itK_len (p : Nat) (rs : List (List UInt8)) (k : Nat) : (itK p rs k).length = k := by simp [itK]
/-- What a scan comes to: its records, pages, error. -/
def outH (ps : List (List UInt8)) : Nat → Nat → List It → Nat → List It × Nat × Int
  | 0, _, _, _ => ([], 0, 2)
  | f + 1, p, acc, k => match ps[p]? with
    | none => ([], 0, 8)
    | some q => if isPage q = true then
        (if hdN q = 0 then (acc ++ itK p (recs q) (hdC q), k + 1, 0) else outH ps f (hdN q) (acc ++ itK p (recs q) (hdC q)) (k + 1))
      else ([], 0, 2)
theorem outH_none {ps : List (List UInt8)} {f p k : Nat} {acc : List It} (h : ps[p]? = none) : outH ps (f + 1) p acc k = ([], 0, 8) := by rw [outH, h]
theorem outH_no {ps : List (List UInt8)} {f p k : Nat} {acc : List It} {q : List UInt8} (h : ps[p]? = some q) (hp : isPage q = false) : outH ps (f + 1) p acc k = ([], 0, 2) := by rw [outH, h]; simp [hp]
theorem outH_end {ps : List (List UInt8)} {f p k : Nat} {acc : List It} {q : List UInt8} (h : ps[p]? = some q) (hp : isPage q = true) (hz : hdN q = 0) : outH ps (f + 1) p acc k = (acc ++ itK p (recs q) (hdC q), k + 1, 0) := by rw [outH, h]; simp [hp, hz]
theorem outH_next {ps : List (List UInt8)} {f p k : Nat} {acc : List It} {q : List UInt8} (h : ps[p]? = some q) (hp : isPage q = true) (hz : hdN q ≠ 0) : outH ps (f + 1) p acc k = outH ps f (hdN q) (acc ++ itK p (recs q) (hdC q)) (k + 1) := by rw [outH, h]; simp [hp, hz]
theorem hdN_lt (q : List UInt8) (h : hdOk q = true) : hdN q < 4294967296 := by
  have := beVal_lt_of (l := (q.drop 4).take 4) (n := 4) (by simp; omega)
  unfold hdN
  omega
theorem page_hd {q : List UInt8} (h : isPage q = true) : hdOk q = true ∧ hdK q = 1 := by
  unfold isPage at h
  simp only [Bool.and_eq_true, beq_iff_eq, decide_eq_true_eq] at h
  exact ⟨h.1, h.2.1⟩

theorem pg_end {W : World} {R : Nat} {tm : Array Value} {Q : Ending → World → Prop} {v : Value} {x : Int} {A : Option Addr} {n c : Nat} (hR : Blk W R 41 #[.int .u32 x, .slice A n c])
    (h4 : tm[4]? = some (.pointer (some ⟨R, 0, none⟩))) (h5 : tm[5]? = some v) (h : Q (.returned (.tuple #[.agg #[.int .u32 x, .slice A n c], v])) W) :
    bodyPost Try.prog Try.f39 Q Exit.ret { tmps := tm, defers := [] } W := by
  have q0 : W.cell? ⟨R, 0, none⟩ = _ := hR.cell 0
  have q1 : W.cell? ⟨R, 1, none⟩ = _ := hR.cell 1
  exact bodyPost_ret (v := .tuple #[.agg #[.int .u32 x, .slice A n c], v]) (by simp [results, Try.results39, go_sem, h4, h5, q0, q1]) rfl h
/-- What the reference's page answers. -/
def RetPg (w : World) (ps : List (List UInt8)) (p : Nat) (e : Ending) (w' : World) : Prop :=
  (∃ E : Int, ((ps[p]? = none ∧ E = 8) ∨ (∃ q, ps[p]? = some q ∧ isPage q = false ∧ E = 2)) ∧ e = .returned (.tuple #[.agg #[.int .u32 0, .slice none 0 0], .int .i64 E]) ∧ Below w.heap.size w w') ∨
  (∃ q A c, ps[p]? = some q ∧ isPage q = true ∧ e = .returned (.tuple #[.agg #[.int .u32 (hdN q : Nat), .slice A (hdC q) c], .int .i64 0]) ∧ Reads w' w'.heap.size 1 A (hdC q) (sL (recs q)) ∧ hdC q ≤ c ∧ (∀ ad, A = some ad → w.heap.size ≤ ad.block) ∧ Below w.heap.size w w')
set_option maxRecDepth 100000 in
set_option maxHeartbeats 4000000 in
theorem rpage_any {w : World} {n : Nat} (A : Option Addr) (c : Nat) (A2 : Option Addr) (c2 : Nat) (ps : List (List UInt8)) (hr : Reads w w.heap.size 1 A n (sL ps)) (hps : ps.length = n) (hf : Full ps) (hn : n ≤ 1000000) (p : Nat) (hp : p ≤ 4294967295) :
    Calls Try.prog 39 #[.agg #[.slice A n c, .slice A2 n c2], .int .u32 p] w (RetPg w ps p) := by
  have hX := (Blk.new w 32 #[.slice A n c, .slice A2 n c2]).alloc (.cells #[.int .u32 0, .slice none 0 0] 41)
  have hR : Blk ((w.alloc (.cells #[.slice A n c, .slice A2 n c2] 32)).alloc (.cells #[.int .u32 0, .slice none 0 0] 41)) (w.heap.size + 1) 41 #[.int .u32 0, .slice none 0 0] := Blk.newAt (by simp)
  have hb := ball (ball (Below.refl w.heap.size w) (.cells #[.slice A n c, .slice A2 n c2] 32)) (.cells #[.int .u32 0, .slice none 0 0] 41)
  have hnI : (n : Int) ≤ 1000000 := by omega
  have g0 : (0 : Int) ≤ (p : Int) := by omega
  have g3 : (p : Int) ≤ 4294967295 := by omega
  by_cases h1 : n ≤ p
  · have g1 : (n : Int) ≤ (p : Int) := by omega
    have hpn : ps[p]? = none := List.getElem?_eq_none (by omega)
    have HP := Lib.hid hpn
    clear h1 hp hr hpn hps hf
    go_enter Try.func39, Try.ntmps39
    go_wp2_with fail
    obtain ⟨W2, hW2⟩ : ∃ W2, ((w.alloc (.cells #[.slice A n c, .slice A2 n c2] 32)).alloc (.cells #[.int .u32 0, .slice none 0 0] 41)) = W2 := ⟨_, rfl⟩
    rw [hW2] at hX hR hb ⊢
    clear hW2
    have c0 : W2.cell? ⟨w.heap.size, 0, none⟩ = some (.slice A n c) := hX.cell 0
    have c1 : W2.cell? ⟨w.heap.size, 1, none⟩ = some (.slice A2 n c2) := hX.cell 1
    have f0 := hR.frozen 0
    have f1 := hR.frozen 1
    have r0 : W2.cell? ⟨w.heap.size + 1, 0, none⟩ = some (.int .u32 0) := hR.cell 0
    have r1 : W2.cell? ⟨w.heap.size + 1, 1, none⟩ = some (.slice none 0 0) := hR.cell 1
    go_wp2
    exact pg_end (R := w.heap.size + 1) hR (by simp) (by simp) (.inl ⟨8, .inl ⟨HP.out, rfl⟩, rfl, hb⟩)
  · have g1 : (p : Int) < (n : Int) := by omega
    have hpn : p < n := by omega
    have e9 : decide ((n : Int) ≤ (p : Int)) = false := by simp; omega
    obtain ⟨ad, q, rfl, hadb, hq, hcell⟩ := hr.text hpn
    have hql : q.length = 512 := hf q (List.mem_of_getElem? hq)
    have RD := Lib.hid fun W => rread_any q (by omega) W
    have HQ := Lib.hid hq
    clear h1 hp hr hps hf hq hql hpn
    have hcell2 : ((w.alloc (.cells #[.slice (some ad) n c, .slice A2 n c2] 32)).alloc (.cells #[.int .u32 0, .slice none 0 0] 41)).cell? (ad.add p) = some (.string (str q)) := by rw [World.cell?_alloc_lt _ _ _ (by rw [block_of_add]; simp; omega), World.cell?_alloc_lt _ _ _ (by rw [block_of_add]; omega)]; exact hcell
    have H2 := Lib.hid (And.intro hR hb)
    clear hX hR hb hcell
    go_enter Try.func39, Try.ntmps39
    go_wp2_with fail
    refine (RD.out _).mono ?_
    rintro e w3 (⟨hp, rfl, hb3⟩ | ⟨hp, A3, c3, rfl, hr3, hc3, hlo, hb3⟩)
    · have R3 := H2.out.1.below hb3 H2.out.1.lt
      have B3 := bto0 H2.out.2 hb3
      have hz3 := R3.lt
      have r30 : w3.cell? ⟨w.heap.size + 1, 0, none⟩ = some (.int .u32 0) := R3.cell 0
      have r31 : w3.cell? ⟨w.heap.size + 1, 1, none⟩ = some (.slice none 0 0) := R3.cell 1
      have f30 := R3.frozen 0
      have f31 := R3.frozen 1
      have H3 := Lib.hid (And.intro R3 (And.intro B3 hp))
      clear R3 B3 hb3 hp
      go_wp2
      exact pg_end (R := w.heap.size + 1) (((H3.out.1.set_ 0 (.int .u32 0)).set_ 1 (.slice none 0 0)).alloc _) (by simp) (by simp) (.inl ⟨2, .inr ⟨q, HQ.out, H3.out.2.2, rfl⟩, rfl, ball ((H3.out.2.1.setCell (by simp) _).setCell (by simp) _) _⟩)
    · have R3 := H2.out.1.below hb3 H2.out.1.lt
      have B3 := bto0 H2.out.2 hb3
      have hz3 := R3.lt
      obtain ⟨C, hC⟩ : ∃ C, hdC q = C := ⟨_, rfl⟩
      obtain ⟨N, hN⟩ : ∃ N, hdN q = N := ⟨_, rfl⟩
      have hN2 : N < 4294967296 := by rw [← hN]; exact hdN_lt q (page_hd hp).1
      rw [hC] at hr3 hc3 ⊢
      rw [hN]
      have r30 : w3.cell? ⟨w.heap.size + 1, 0, none⟩ = some (.int .u32 0) := R3.cell 0
      have r31 : w3.cell? ⟨w.heap.size + 1, 1, none⟩ = some (.slice none 0 0) := R3.cell 1
      have f30 := R3.frozen 0
      have f31 := R3.frozen 1
      have RA := fun (o : Obj) => R3.alloc o
      have H3 := Lib.hid (And.intro R3 (And.intro B3 (And.intro hp (And.intro hr3 (And.intro hc3 (And.intro hC (And.intro hN hlo)))))))
      clear R3 B3 hb3 hp hr3 hC hN RA hlo
      go_wp2
      have lo : ∀ ad', A3 = some ad' → ad'.block ≠ w.heap.size + 1 := fun ad' e => by have := H3.out.2.2.2.2.2.2.2 ad' e; simp at this; omega
      have R5 := reads_far (p := ⟨w.heap.size + 1, 1, none⟩) (reads_far (p := ⟨w.heap.size + 1, 0, none⟩) H3.out.2.2.2.1 lo (.int .u32 (N : Int))) lo (.slice A3 C c3)
      refine pg_end (v := .int .i64 0) (R := w.heap.size + 1) (((H3.out.1.set_ 0 (.int .u32 (N : Int))).set_ 1 (.slice A3 C c3)).alloc _) (by simp) (by simp) (.inr ⟨q, A3, c3, HQ.out, H3.out.2.2.1, by rw [H3.out.2.2.2.2.2.1, H3.out.2.2.2.2.2.2.1], ?_, by rw [H3.out.2.2.2.2.2.1]; exact H3.out.2.2.2.2.1, fun ad' e => by have := H3.out.2.2.2.2.2.2.2 ad' e; simp at this; omega, ball ((H3.out.2.1.setCell (by simp) _).setCell (by simp) _) _⟩)
      rw [H3.out.2.2.2.2.2.1]
      exact (R5.alloc (Nat.le_refl _) _).more (by simp)
end
end Go.Proofs.Ytdimkeoncgjegaa
/-
  Heap: the reference's Fetch and Scan.
-/
namespace Go.Proofs.Ytdimkeoncgjegaa
section
set_option linter.unusedSimpArgs false
set_option linter.unusedVariables false
open Go.RowKit

/-- What a fetch comes to. -/
def fetchH (ps : List (List UInt8)) (p s : Nat) : List UInt8 × Int := match ps[p]? with
  | none => ([], 8)
  | some q => if isPage q = true then (if s < hdC q then (recK q s, 0) else ([], 9)) else ([], 2)
set_option maxRecDepth 100000 in
set_option maxHeartbeats 4000000 in
theorem rfetch_any {w : World} {n : Nat} (A : Option Addr) (c : Nat) (A2 : Option Addr) (c2 : Nat) (ps : List (List UInt8)) (hr : Reads w w.heap.size 1 A n (sL ps)) (hps : ps.length = n) (hf : Full ps) (hn : n ≤ 1000000) (p : Nat) (hp : p ≤ 4294967295) (s : Nat) (hs : s ≤ 65535) :
    Calls Try.prog 21 #[.agg #[.slice A n c, .slice A2 n c2], .agg #[.int .u32 p, .int .u16 s]] w (RetB w (.tuple #[.string (str (fetchH ps p s).1), .int .i64 (fetchH ps p s).2])) := by
  have hb0 : Below w.heap.size w ((w.alloc (.cells #[.slice A n c, .slice A2 n c2] 32)).alloc (.cells #[.int .u32 p, .int .u16 s] 50)) := ball (ball (Below.refl _ _) _) _
  have PG := Lib.hid (rpage_any A c A2 c2 ps ((hr.below hb0).more hb0.size) hps hf hn p hp)
  have hX := (Blk.new w 32 #[.slice A n c, .slice A2 n c2]).alloc (.cells #[.int .u32 p, .int .u16 s] 50)
  have hR : Blk ((w.alloc (.cells #[.slice A n c, .slice A2 n c2] 32)).alloc (.cells #[.int .u32 p, .int .u16 s] 50)) (w.heap.size + 1) 50 #[.int .u32 p, .int .u16 s] := Blk.newAt (by simp)
  have H := Lib.hid (And.intro hX (And.intro hR hb0))
  have s0 : (0 : Int) ≤ (s : Int) := by omega
  have s1 : (s : Int) ≤ 65535 := by omega
  clear hb0 hr hX hR hps hf
  go_enter Try.func21, Try.ntmps21
  go_wp2_with fail
  refine PG.out.mono ?_
  rintro e w1 (⟨E, hE, rfl, hb1⟩ | ⟨q, A3, c3, hq, hpg, rfl, hr3, hc3, hlo3, hb1⟩)
  · have B1 := bto0 H.out.2.2 hb1
    have hv : fetchH ps p s = ([], E) := by
      unfold fetchH
      rcases hE with ⟨h1, rfl⟩ | ⟨q, h1, h2, rfl⟩
      · rw [h1]
      · rw [h1]; simp [h2]
    have e1 : (E != 0) = true := by rcases hE with ⟨h1, rfl⟩ | ⟨q, h1, h2, rfl⟩ <;> rfl
    have H1 := Lib.hid B1
    have hv := Lib.hid hv
    clear hE hb1 B1
    go_wp2
    go_ret2
    exact ⟨by rw [hv.out]; rfl, ball H1.out _⟩
  · have B1 := bto0 H.out.2.2 hb1
    have R1 := H.out.2.1.below hb1 H.out.2.1.lt
    have z1 := R1.lt
    have cR : w1.cell? ⟨w.heap.size + 1, 1, none⟩ = some (.int .u16 s) := R1.cell 1
    have RL : Hid (∀ k, k < hdC q → (recs q)[k]? = some (recK q k)) := fun k h => recs_at q h
    have hv : Hid (fetchH ps p s = if s < hdC q then (recK q s, 0) else ([], 9)) := by unfold Hid fetchH; rw [hq]; simp [hpg]
    have hC6 := (page_end hpg).2.1
    obtain ⟨C, hC⟩ : ∃ C, hdC q = C := ⟨_, rfl⟩
    obtain ⟨N, hN⟩ : ∃ N, hdN q = N := ⟨_, rfl⟩
    rw [hC] at hr3 hc3 RL hv hC6 ⊢
    rw [hN]
    have H1 := Lib.hid B1
    have H3 := Lib.hid hr3
    clear hb1 B1 R1 hC hN hq hpg hr3
    by_cases hlt : s < C
    · obtain ⟨ad, r, rfl, hadb, hr2, hcell⟩ := H3.out.text hlt
      rw [RL.out s hlt] at hr2
      injection hr2 with hr2
      subst hr2
      have e1 : decide ((C : Int) ≤ (s : Int)) = false := by simp; omega
      have i1 : (s : Int) < (C : Int) := by omega
      have hcell2 : (w1.alloc (.cells #[.int .u32 (N : Int), .slice (some ad) C c3] 41)).cell? (ad.add s) = some (.string (str (recK q s))) := by rw [World.cell?_alloc_lt _ _ _ (by rw [block_of_add]; omega)]; exact hcell
      have hv2 := hv.out
      rw [if_pos hlt] at hv2
      have hv3 := Lib.hid hv2
      clear hcell hv2 hv
      go_wp2
      go_ret2
      exact ⟨by rw [hv3.out]; rfl, ball H1.out _⟩
    · have e1 : decide ((C : Int) ≤ (s : Int)) = true := by simp; omega
      have hv2 := hv.out
      rw [if_neg hlt] at hv2
      have hv3 := Lib.hid hv2
      clear hv2 hv
      go_wp2
      go_ret2
      exact ⟨by rw [hv3.out]; rfl, ball H1.out _⟩
/-- The reference's items. -/
def iV (l : List It) : List Value := l.flatMap fun x => [.int .u32 x.p, .int .u16 x.s, .string (str x.r)]
theorem iV_snoc (l : List It) (x : It) : iV (l ++ [x]) = iV l ++ [.int .u32 x.p, .int .u16 x.s, .string (str x.r)] := by simp [iV]
theorem iV_len (l : List It) : (iV l).length = l.length * 3 := flat_len _ 3 l (by simp)
theorem Try.infoRI : (Try.prog.info? 73).map (fun i => (i.zero, i.size, i.bytes)) = some (some (.agg #[.int .u32 0, .int .u16 0, .string ⟨#[]⟩]), 3, 24) := by kernel_rfl
end
end Go.Proofs.Ytdimkeoncgjegaa
/-
  Append of one element of several cells to a row of the call's own.
-/
namespace Go.Proofs.Ytdimkeoncgjegaa
section
set_option linter.unusedSimpArgs false
set_option linter.unusedVariables false
open Go.RowKit

theorem wp_pushR {P : Program} {w : World} {o : Oper} {a : Act} {K : Act → World → Prop} {Q : Exit → Act → World → Prop} {news : List Value} {arr : Array Value} (s x : Operand) (t : TypeId)
    (ho : o.op = .call { callee := .builtin .append, args := #[s, x], argTypes := #[t, t] })
    (base : Nat) (e : TypeId) (i : TypeInfo) (z : Value) (size bytes : Nat) (ht : P.underlying t = some (.slice e)) (hi : P.info? e = some i) (hz : i.zero = some z)
    (hsize : i.size = size) (hby : i.bytes = bytes) (hzs : z.cells.size = size) (hsz : 0 < size)
    (v : Value) (n : Nat) (xs : List Value) (hs : a.eval s = v) (hown : w.ownsRow base e size v n xs)
    (harr : arr = news.toArray) (g : Nat) (hx : a.eval x = .slice (some ⟨g, 0, none⟩) 1 1) (hg : g = w.heap.size) (hl : news.length = size) (h1 : ∀ u ∈ news, u.oneCell' = true)
    (h63 : n + 1 ≤ 1000000000) (hbytes : bytes ≤ 10000) (hbase : base ≤ w.heap.size)
    (h : ∀ v' w', w'.ownsRow base e size v' (n + 1) (xs ++ news) → (w.alloc (.cells arr e)).grownBy w' v.ownBlock → (v'.ownBlock = v.ownBlock ∨ v'.ownBlock = some (w.heap.size + 1)) → K (a.put o.dst v') w') : o.wp P a (w.alloc (.cells arr e)) K Q := by
  subst hg
  subst harr
  have hb : (n + 1) * bytes ≤ 1000000000 * 10000 := Nat.mul_le_mul h63 hbytes
  have hnews : ∀ j u, news[j]? = some u → (w.alloc (.cells news.toArray e)).cell? ((⟨w.heap.size, 0, none⟩ : Addr).add j) = some u := by
    intro j u hj
    rw [add_head, World.cell?_alloc_at _ _ _ _ rfl]
    simpa using hj
  obtain ⟨v', w', hr, h2, h3, h4, h5⟩ := run_append_own_at (P := P) (w.alloc (.cells news.toArray e)) base t o.type e i z size bytes ht hi hz hsize hby hzs hsz v n xs (hown.alloc _) ⟨w.heap.size, 0, none⟩ 1 1 news (by rw [hl]; omega) hnews h1 (by unfold maxLen; omega) (by omega) (by simp; omega)
  unfold Oper.wp execOp
  simp only [ho, resolve, invoke, builtin, Sem.run_bind, Sem.run_pure, Result.andThen_ok, List.map_toArray, List.map_cons, List.map_nil, hs, hx, hr]
  exact h _ _ h2 h3 (by simpa using h5)

/-- The same, where the region draws. -/
theorem step_pushR {P : Program} {w : World} {ops : Array Oper} {o : Oper} {a : Act} {K : Act → World → Prop} {Q : Exit → Act → World → Prop} {E : Prop} {news : List Value} {arr : Array Value} (hgd : o.guard = none) (s x : Operand) (t : TypeId)
    (ho : o.op = .call { callee := .builtin .append, args := #[s, x], argTypes := #[t, t] })
    (base : Nat) (e : TypeId) (i : TypeInfo) (z : Value) (size bytes : Nat) (ht : P.underlying t = some (.slice e)) (hi : P.info? e = some i) (hz : i.zero = some z)
    (hsize : i.size = size) (hby : i.bytes = bytes) (hzs : z.cells.size = size) (hsz : 0 < size)
    (v : Value) (n : Nat) (xs : List Value) (hs : a.eval s = v) (hown : w.ownsRow base e size v n xs)
    (harr : arr = news.toArray) (g : Nat) (hx : a.eval x = .slice (some ⟨g, 0, none⟩) 1 1) (hg : g = w.heap.size) (hl : news.length = size) (h1 : ∀ u ∈ news, u.oneCell' = true)
    (h63 : n + 1 ≤ 1000000000) (hbytes : bytes ≤ 10000) (hbase : base ≤ w.heap.size)
    (h : ∀ v' w', w'.ownsRow base e size v' (n + 1) (xs ++ news) → (w.alloc (.cells arr e)).grownBy w' v.ownBlock → (v'.ownBlock = v.ownBlock ∨ v'.ownBlock = some (w.heap.size + 1)) → K (a.put o.dst v') w') : if Region.wanted o (yielded ops a.tmps) = true then Oper.wp P o a (w.alloc (.cells arr e)) K Q else E := by
  have hw : Region.wanted o (yielded ops a.tmps) = true := by simp [Region.wanted, hgd]
  rw [if_pos hw]
  exact wp_pushR s x t ho base e i z size bytes ht hi hz hsize hby hzs hsz v n xs hs hown harr g hx hg hl h1 h63 hbytes hbase h

theorem wpList_pushR {P : Program} {w : World} {ops : Array Oper} {rest : List Oper} {o : Oper} {a : Act} {Q : Exit → Act → World → Prop} {news : List Value} {arr : Array Value} (hgd : o.guard = none) (s x : Operand) (t : TypeId)
    (ho : o.op = .call { callee := .builtin .append, args := #[s, x], argTypes := #[t, t] })
    (base : Nat) (e : TypeId) (i : TypeInfo) (z : Value) (size bytes : Nat) (ht : P.underlying t = some (.slice e)) (hi : P.info? e = some i) (hz : i.zero = some z)
    (hsize : i.size = size) (hby : i.bytes = bytes) (hzs : z.cells.size = size) (hsz : 0 < size)
    (v : Value) (n : Nat) (xs : List Value) (hs : a.eval s = v) (hown : w.ownsRow base e size v n xs)
    (harr : arr = news.toArray) (g : Nat) (hx : a.eval x = .slice (some ⟨g, 0, none⟩) 1 1) (hg : g = w.heap.size) (hl : news.length = size) (h1 : ∀ u ∈ news, u.oneCell' = true)
    (h63 : n + 1 ≤ 1000000000) (hbytes : bytes ≤ 10000) (hbase : base ≤ w.heap.size)
    (h : ∀ v' w', w'.ownsRow base e size v' (n + 1) (xs ++ news) → (w.alloc (.cells arr e)).grownBy w' v.ownBlock → (v'.ownBlock = v.ownBlock ∨ v'.ownBlock = some (w.heap.size + 1)) → wpList P ops Q rest (a.put o.dst v') w') : wpList P ops Q (o :: rest) a (w.alloc (.cells arr e)) :=
  wpList_plain hgd fun _ hK => wp_pushR s x t ho base e i z size bytes ht hi hz hsize hby hzs hsz v n xs hs hown harr g hx hg hl h1 h63 hbytes hbase fun v' w' h2 h3 h4 => hK _ _ (h v' w' h2 h3 h4)
end
end Go.Proofs.Ytdimkeoncgjegaa
