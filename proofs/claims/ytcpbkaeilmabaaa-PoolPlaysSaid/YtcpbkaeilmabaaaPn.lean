/-
  Pool: Head.
-/
import Derived.Test.YtcpbkaeilmabaaaPk
import Derived.Test.YtcpbkaeilmabaaaDk
namespace Go.Proofs.Ytcpbkaeilmabaaa
set_option linter.unusedSimpArgs false
set_option linter.unusedVariables false
open Go.RowKit Go.Maps

/-- Three cells of a block are written: all else stays. -/
structure Far (w w' : World) (r : Nat) : Prop where
  heap : ∀ g, g ≠ r → w'.heap[g]? = w.heap[g]?
  size : w'.heap.size = w.heap.size
  below : ∀ B w0, B ≤ r → Below B w0 w → Below B w0 w'
theorem Far.set3 (w : World) (r : Nat) (a b c : Value) : Far w (((w.setCell ⟨r, 0, none⟩ a).setCell ⟨r, 1, none⟩ b).setCell ⟨r, 2, none⟩ c) r :=
  ⟨fun g hg => (Below.heap_setCell _ _ _ _ hg).trans ((Below.heap_setCell _ _ _ _ hg).trans (Below.heap_setCell _ _ _ _ hg)), by simp [World.setCell],
   fun B w0 hB hb => ((hb.setCell (show B ≤ (⟨r, 0, none⟩ : Addr).block from hB) _).setCell (show B ≤ (⟨r, 1, none⟩ : Addr).block from hB) _).setCell (show B ≤ (⟨r, 2, none⟩ : Addr).block from hB) _⟩
section
variable {w w' : World} {lo gp gd gb gt n : Nat} {ps : List (List UInt8)} {T : List Bool} {gm size : Nat} {K : List Fr} {D : DataW Unit} {rd ht : Nat}
theorem PS.far (h : PS w lo gp gd gb gt n ps T gm size K D rd ht) {r : Nat} {t : TypeId} {cs : Array Value} (hX : Blk w r t cs) (hf : Far w w' r) (h1 : t ≠ 122) (h2 : t ≠ 115) (h3 : t ≠ 5) (h4 : t ≠ 4) (h5 : t ≠ 107) : PS w' lo gp gd gb gt n ps T gm size K D rd ht := by
  have hb : ∀ {g : Nat} {ty : TypeId} {cs' : Array Value}, t ≠ ty → Blk w g ty cs' → Blk w' g ty cs' := fun ht hb => (hf.heap _ (hb.ne_ hX fun e => ht e.symm)).trans hb
  exact ⟨⟨h.rg.low, hb h1 h.rg.pool, fun i f hi => ⟨hb h2 (h.rg.fr i f hi).1, (h.rg.fr i f hi).2⟩, h.rg.inj⟩, h.mp.same (hf.heap gm fun e => h.mp.ne_ hX e.symm), h.lom, fun i f hi => ⟨hb h3 (h.by_ i f hi).1, (h.by_ i f hi).2⟩, h.pg, ⟨⟨hb h5 h.dk.dk.d, hb h3 h.dk.dk.b, hb h4 h.dk.dk.t, h.dk.dk.hb, h.dk.dk.ht⟩, h.dk.full, h.dk.hp⟩, h.s1, h.sz⟩
theorem Turn.far (t : Turn w w' lo gp gm K) {w2 : World} {r : Nat} (hf : Far w' w2 r) (hr : w.heap.size ≤ r) (hlo : lo ≤ w.heap.size) : Turn w w2 lo gp gm K :=
  ⟨by rw [hf.size]; exact t.size, fun g hg h1 h2 h3 => (hf.heap g (by omega)).trans (t.heap g hg h1 h2 h3), fun B w0 hB hb => hf.below B w0 (by omega) (t.below B w0 hB hb)⟩
theorem Turn.more (t : Turn w w' lo gp gm K) {w2 : World} (hb : Below w'.heap.size w' w2) (hlo : lo ≤ w.heap.size) : Turn w w2 lo gp gm K :=
  ⟨Nat.le_trans t.size hb.size, fun g hg h1 h2 h3 => (hb.block g (Nat.lt_of_lt_of_le hg t.size)).trans (t.heap g hg h1 h2 h3), fun B w0 hB hb' => (t.below B w0 hB hb').trans (hb.mono (by have := t.size; omega))⟩
end
def hd0 : Value := .agg #[.int .u8 0, .int .u16 0, .int .u32 0]
section
variable {w : World} {lo gp gd gb gt n : Nat} {ps : List (List UInt8)} {T : List Bool} {gm size : Nat} {K : List Fr} {D : DataW Unit} {rd ht : Nat}
/-- What Head leaves. -/
def RetH (w : World) (lo gp gd gb gt n : Nat) (ps : List (List UInt8)) (T : List Bool) (gm size : Nat) (K : List Fr) (p : Nat) (k : Int) (e : Ending) (w' : World) : Prop :=
  (∃ K' D' rd' ht', PS w' lo gp gd gb gt n ps T gm size K' D' rd' ht') ∧ Turn w w' lo gp gm K ∧
  ((n ≤ p ∧ e = .returned (.tuple #[hd0, .slice none 0 0, .int .i64 8])) ∨
   (∃ q, ps[p]? = some q ∧ (hdOk q = false ∨ (hdK q : Int) ≠ k) ∧ e = .returned (.tuple #[hd0, .slice none 0 0, .int .i64 2])) ∨
   (∃ q A c, ps[p]? = some q ∧ hdOk q = true ∧ (hdK q : Int) = k ∧ e = .returned (.tuple #[hdV q, .slice A 512 c, .int .i64 0]) ∧ Own w' w.heap.size (.slice A 512 c) q))
set_option maxRecDepth 100000 in
theorem head_any (h : PS w lo gp gd gb gt n ps T gm size K D rd ht) (p : Nat) (k : Int) (hp2 : p ≤ 4294967295) (hn : n ≤ 20) (hrd : rd ≤ 1000000) (hht : ht ≤ 1000000) (hlo : lo ≤ w.heap.size) :
    Calls Try.prog 43 #[.pointer (some ⟨gp, 0, none⟩), .int .u32 p, .int .u8 k] w (RetH w lo gp gd gb gt n ps T gm size K p k) := by
  have hb0 : Below w.heap.size w (w.alloc (.cells #[.int .u8 0, .int .u16 0, .int .u32 0] 57)) := ball (Below.refl _ _) _
  have h0 := h.below hb0
  have G := Lib.hid (get_u h0 p hp2 hn hrd hht (Nat.le_trans hlo hb0.size))
  have hX := Blk.new w 57 #[.int .u8 0, .int .u16 0, .int .u32 0]
  have H := Lib.hid (And.intro h (And.intro h0 (And.intro hX (And.intro hb0 hlo))))
  clear h h0 hX hb0 hlo
  go_enter Try.func43, Try.ntmps43
  go_wp2_with fail
  refine G.out.mono ?_
  rintro e w1 ⟨K', D', rd', ht', v, r, rfl, gv, ps1, hs1, tn, hk⟩
  have hX1 := H.out.2.1.turn_blk tn H.out.2.2.1 (by decide) (by decide)
  have tn1 : Turn w w1 lo gp gm K := (Turn.of_below H.out.2.2.2.1 H.out.2.2.2.2).trans tn fun j f hj => .inl ⟨j, hj⟩
  rcases gv with ⟨hpn, A, c, q, hq, rfl, rfl, own1, hc1⟩ | ⟨hpn, rfl, rfl⟩
  · have DG := Lib.hid (dget_any A 512 c _ q w1 own1.reads.1 (Nat.le_refl _) (by omega))
    have H1 := Lib.hid (And.intro ps1 (And.intro hX1 (And.intro tn1 (And.intro own1 hq))))
    clear ps1 hs1 tn hk hX1 tn1 own1 hq hc1 G
    go_wp2_with fail
    refine DG.out.mono ?_
    rintro e w2 ⟨rfl, hb2⟩
    have hX2 := H1.out.2.1.below hb2 H1.out.2.1.lt
    have hbs2 := hb2
    have ho : (hdOk q = true ∧ hdV q = .agg #[.int .u8 (hdK q : Int), .int .u16 (hdC q : Int), .int .u32 (hdN q : Int)]) ∨ (hdOk q = false ∧ hdV q = hd0) := by
      unfold hdV hd0
      rcases hdOk q with _ | _
      · exact .inr ⟨rfl, rfl⟩
      · exact .inl ⟨rfl, rfl⟩
    have H2 := Lib.hid (And.intro hX2 hb2)
    clear hb2 hbs2 hX2 DG
    rcases ho with ⟨ho, hv⟩ | ⟨ho, hv⟩
    · rw [ho, hv]
      obtain ⟨a, ha⟩ : ∃ a, (hdK q : Int) = a := ⟨_, rfl⟩
      obtain ⟨b, hb⟩ : ∃ b, (hdC q : Int) = b := ⟨_, rfl⟩
      obtain ⟨d, hd⟩ : ∃ d, (hdN q : Int) = d := ⟨_, rfl⟩
      rw [hb, hd] at hv ⊢
      rw [ha] at hv ⊢
      have hX3 := H2.out.1.alloc (.cells #[.int .u8 a, .int .u16 b, .int .u32 d] 57)
      have hb3 := ball H2.out.2 (.cells #[.int .u8 a, .int .u16 b, .int .u32 d] 57)
      have r0 := hX3.cell 0; have r1 := hX3.cell 1; have r2 := hX3.cell 2
      have f0 := hX3.frozen 0; have f1 := hX3.frozen 1; have f2 := hX3.frozen 2
      have HF : Hid (∀ W', Far (w2.alloc (.cells #[.int .u8 a, .int .u16 b, .int .u32 d] 57)) W' w.heap.size → PS W' lo gp gd gb gt n ps T gm size K' D' rd' ht' ∧ Turn w W' lo gp gm K ∧ Own W' w.heap.size (.slice A 512 c) q) := fun W' hf =>
        ⟨(H1.out.1.below hb3).far hX3 hf (by decide) (by decide) (by decide) (by decide) (by decide), (H1.out.2.2.1.more hb3 H.out.2.2.2.2).far hf (Nat.le_refl _) H.out.2.2.2.2, ((H1.out.2.2.2.1.below hb3).less H.out.2.2.2.1.size).stays fun g cs _ hb => hf.heap g (hb.ne_ hX3 (by decide))⟩
      have HV := Lib.hid (And.intro ho (And.intro hv ha))
      clear hX3 hb3 ho hv ha hb hd
      by_cases hk : a = k
      · have e1 : (a != k) = false := by simpa using hk
        have HK := Lib.hid hk
        clear hk
        go_wp2
        refine bodyPost_ret (v := .tuple #[.agg #[.int .u8 a, .int .u16 b, .int .u32 d], .slice A 512 c, .int .i64 0]) (by simp only [results, Try.results43]; simp [go_sem, r0, r1, r2]) rfl ?_
        obtain ⟨x1, x2, x3⟩ := HF.out _ (Far.set3 _ _ _ _ _)
        exact ⟨⟨_, _, _, _, x1⟩, x2, .inr (.inr ⟨q, A, c, H1.out.2.2.2.2, HV.out.1, HV.out.2.2.trans HK.out, by rw [HV.out.2.1], x3⟩)⟩
      · have e1 : (a != k) = true := by simpa using hk
        have HK := Lib.hid hk
        clear hk
        go_wp2
        refine bodyPost_ret (v := .tuple #[.agg #[.int .u8 0, .int .u16 0, .int .u32 0], .slice none 0 0, .int .i64 2]) (by simp only [results, Try.results43]; simp [go_sem, r0, r1, r2]) rfl ?_
        obtain ⟨x1, x2, x3⟩ := HF.out _ (Far.set3 _ _ _ _ _)
        exact ⟨⟨_, _, _, _, x1⟩, x2, .inr (.inl ⟨q, H1.out.2.2.2.2, .inr (by rw [HV.out.2.2]; exact HK.out), rfl⟩)⟩
    · rw [ho, hv]
      unfold hd0
      have hX3 := H2.out.1.alloc (.cells #[.int .u8 0, .int .u16 0, .int .u32 0] 57)
      have hb3 := ball H2.out.2 (.cells #[.int .u8 0, .int .u16 0, .int .u32 0] 57)
      have r0 := hX3.cell 0; have r1 := hX3.cell 1; have r2 := hX3.cell 2
      have f0 := hX3.frozen 0; have f1 := hX3.frozen 1; have f2 := hX3.frozen 2
      have HF : Hid (∀ W', Far (w2.alloc (.cells #[.int .u8 0, .int .u16 0, .int .u32 0] 57)) W' w.heap.size → PS W' lo gp gd gb gt n ps T gm size K' D' rd' ht' ∧ Turn w W' lo gp gm K ∧ Own W' w.heap.size (.slice A 512 c) q) := fun W' hf =>
        ⟨(H1.out.1.below hb3).far hX3 hf (by decide) (by decide) (by decide) (by decide) (by decide), (H1.out.2.2.1.more hb3 H.out.2.2.2.2).far hf (Nat.le_refl _) H.out.2.2.2.2, ((H1.out.2.2.2.1.below hb3).less H.out.2.2.2.1.size).stays fun g cs _ hb => hf.heap g (hb.ne_ hX3 (by decide))⟩
      have HV := Lib.hid (And.intro ho hv)
      clear hX3 hb3 ho hv
      go_wp2
      refine bodyPost_ret (v := .tuple #[.agg #[.int .u8 0, .int .u16 0, .int .u32 0], .slice none 0 0, .int .i64 2]) (by simp only [results, Try.results43]; simp [go_sem, r0, r1, r2]) rfl ?_
      obtain ⟨x1, x2, x3⟩ := HF.out _ (Far.set3 _ _ _ _ _)
      exact ⟨⟨_, _, _, _, x1⟩, x2, .inr (.inl ⟨q, H1.out.2.2.2.2, .inl HV.out.1, rfl⟩)⟩
  · have r0 := hX1.cell 0; have r1 := hX1.cell 1; have r2 := hX1.cell 2
    have f0 := hX1.frozen 0; have f1 := hX1.frozen 1; have f2 := hX1.frozen 2
    have H1 := Lib.hid (And.intro ps1 (And.intro hX1 tn1))
    clear ps1 hs1 tn hk hX1 tn1 G
    go_wp2
    refine bodyPost_ret (v := .tuple #[.agg #[.int .u8 0, .int .u16 0, .int .u32 0], .slice none 0 0, .int .i64 8]) (by simp only [results, Try.results43]; simp [go_sem, r0, r1, r2]) rfl ?_
    exact ⟨⟨_, _, _, _, H1.out.1.far H1.out.2.1 (Far.set3 _ _ _ _ _) (by decide) (by decide) (by decide) (by decide) (by decide)⟩, H1.out.2.2.far (Far.set3 _ _ _ _ _) (Nat.le_refl _) H.out.2.2.2.2, .inl ⟨hpn, rfl⟩⟩
end
end Go.Proofs.Ytcpbkaeilmabaaa
