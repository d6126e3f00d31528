/-
  Several texts in one: Hp Sp Sj Dl.
-/
import Derived.Test.YtdimkeoncgjegaaMfak
import Derived.Test.YtdimkeoncgjegaaMfag
import Derived.Test.YtdimkeoncgjegaaMfad
import Derived.Test.YtdimkeoncgjegaaMfaf
/-
  Pool: Get and Head, with counts; what a pool keeps when other memory changes.
-/
namespace Go.Proofs.Ytdimkeoncgjegaa
section
set_option linter.unusedSimpArgs false
set_option linter.unusedVariables false
open Go.RowKit Go.Maps

section
variable {w : World} {lo gp gd gb gt n : Nat} {ps : List (List UInt8)} {T : List Bool} {gm size : Nat} {K : List Fr} {D : DataW Unit} {rd ht : Nat}
theorem get_v (h : PS w lo gp gd gb gt n ps T gm size K D rd ht) (p : Nat) (hp2 : p ≤ 4294967295) (hn : n ≤ 1000) (hrd : rd ≤ 1000000) (hht : ht ≤ 1000000) (hlo : lo ≤ w.heap.size) :
    Calls Try.prog 58 #[.pointer (some ⟨gp, 0, none⟩), .int .u32 p] w fun e w' => ∃ K' D' rd' ht' v r, e = .returned (.tuple #[v, .int .i64 r]) ∧ GetV ps n p w' w.heap.size v r ∧ PS w' lo gp gd gb gt n ps T gm size K' D' rd' ht' ∧ (pgs K', rd', ht') = stepU n size (pgs K, rd, ht) p ∧ Turn w w' lo gp gm K ∧
      ∀ (j : Nat) (f : Fr), K'[j]? = some f → (∃ i : Nat, K[i]? = some f) ∨ w.heap.size ≤ f.g := by
  by_cases hpn : p < n
  · obtain ⟨q, hq⟩ : ∃ q, ps[p]? = some q := ⟨_, List.getElem?_eq_getElem (by rw [h.dk.hp]; exact hpn)⟩
    have hk20 : K.length ≤ 1000000 := by
      have hnd := h.nodup
      have hsub : ∀ x ∈ pgs K, x < n := by
        intro x hx
        unfold pgs at hx
        obtain ⟨f, hf, rfl⟩ := List.mem_map.1 hx
        obtain ⟨i, hi⟩ := List.getElem?_of_mem hf
        exact h.pn hi
      have hle : (pgs K).length ≤ n := nodup_le _ n hnd hsub
      unfold pgs at hle
      rw [List.length_map] at hle
      omega
    refine (get_any h hq (by omega) hrd hht hk20 hlo).mono ?_
    rintro e w' ⟨K', D', rd', ht', A, c, rfl, h2, h3, h4, h5, h6, h7⟩
    exact ⟨K', D', rd', ht', _, _, rfl, .inl ⟨hpn, A, c, q, hq, rfl, rfl, h2, h3⟩, h4, by unfold stepU; rw [if_pos hpn]; exact h5, h6, h7⟩
  · refine (get_beyond h (by omega) hp2 (by omega)).mono ?_
    rintro e w' ⟨rfl, rfl⟩
    exact ⟨K, D, rd, ht, _, _, rfl, .inr ⟨by omega, rfl, rfl⟩, h, by unfold stepU; rw [if_neg hpn], Turn.refl _ _ _ _ _, fun j f hj => .inl ⟨j, hj⟩⟩
/-- What Head leaves. -/
def RetH2 (m : Nat) (w : World) (lo gp gd gb gt n : Nat) (ps : List (List UInt8)) (T : List Bool) (gm size : Nat) (K : List Fr) (p : Nat) (k : Int) (e : Ending) (w' : World) : Prop :=
  (∃ K' D' rd' ht', PS w' lo gp gd gb gt n ps T gm size K' D' rd' ht' ∧ rd' ≤ m + 1 ∧ ht' ≤ m + 1 ∧ ∀ (j : Nat) (f : Fr), K'[j]? = some f → (∃ i : Nat, K[i]? = some f) ∨ w.heap.size ≤ f.g) ∧ Turn w w' lo gp gm K ∧
  ((n ≤ p ∧ e = .returned (.tuple #[hd0, .slice none 0 0, .int .i64 8])) ∨
   (∃ q, ps[p]? = some q ∧ (hdOk q = false ∨ (hdK q : Int) ≠ k) ∧ e = .returned (.tuple #[hd0, .slice none 0 0, .int .i64 2])) ∨
   (∃ q A c, ps[p]? = some q ∧ hdOk q = true ∧ (hdK q : Int) = k ∧ e = .returned (.tuple #[hdV q, .slice A 512 c, .int .i64 0]) ∧ Own w' w.heap.size (.slice A 512 c) q))
set_option maxRecDepth 100000 in
theorem headv_any (h : PS w lo gp gd gb gt n ps T gm size K D rd ht) (p : Nat) (k : Int) (hp2 : p ≤ 4294967295) (hn : n ≤ 1000) (m : Nat) (hm : m ≤ 1000000) (hrd : rd ≤ m) (hht : ht ≤ m) (hlo : lo ≤ w.heap.size) :
    Calls Try.prog 37 #[.pointer (some ⟨gp, 0, none⟩), .int .u32 p, .int .u8 k] w (RetH2 m w lo gp gd gb gt n ps T gm size K p k) := by
  have hb0 : Below w.heap.size w (w.alloc (.cells #[.int .u8 0, .int .u16 0, .int .u32 0] 109)) := ball (Below.refl _ _) _
  have h0 := h.below hb0
  have G := Lib.hid (get_v h0 p hp2 hn (Nat.le_trans hrd hm) (Nat.le_trans hht hm) (Nat.le_trans hlo hb0.size))
  have hX := Blk.new w 109 #[.int .u8 0, .int .u16 0, .int .u32 0]
  have H := Lib.hid (And.intro h (And.intro h0 (And.intro hX (And.intro hb0 hlo))))
  clear h h0 hX hb0 hlo
  go_enter Try.func37, Try.ntmps37
  go_wp2_with fail
  refine G.out.mono ?_
  rintro e w1 ⟨K', D', rd', ht', v, r, rfl, gv, ps1, hs1, tn, hk⟩
  have HM : Hid (rd' ≤ m + 1 ∧ ht' ≤ m + 1 ∧ ∀ (j : Nat) (f : Fr), K'[j]? = some f → (∃ i : Nat, K[i]? = some f) ∨ w.heap.size ≤ f.g) := by
    have hs2 := stepU_small (n := n) (size := size) (s := (pgs K, rd, ht)) (p := p) (k := m) hrd hht
    rw [← hs1] at hs2
    exact ⟨hs2.1, hs2.2, fun j f hj => (hk j f hj).imp id fun h => by simp at h; omega⟩
  have hX1 := H.out.2.1.turn_blk tn H.out.2.2.1 (by decide) (by decide)
  have tn1 : Turn w w1 lo gp gm K := (Turn.of_below H.out.2.2.2.1 H.out.2.2.2.2).trans tn fun j f hj => .inl ⟨j, hj⟩
  rcases gv with ⟨hpn, A, c, q, hq, rfl, rfl, own1, hc1⟩ | ⟨hpn, rfl, rfl⟩
  · have DG := Lib.hid (dget_any A 512 c _ q w1 own1.reads.1 (Nat.le_refl _) (by omega))
    have H1 := Lib.hid (And.intro ps1 (And.intro hX1 (And.intro tn1 (And.intro own1 hq))))
    clear ps1 hs1 tn hk hX1 tn1 own1 hq hc1 G
    go_wp2_with fail
    refine DG.out.mono ?_
    rintro e w2 ⟨rfl, hb2⟩
    have hX2 := H1.out.2.1.below hb2 H1.out.2.1.lt
    have hbs2 := hb2
    have ho : (hdOk q = true ∧ hdV q = .agg #[.int .u8 (hdK q : Int), .int .u16 (hdC q : Int), .int .u32 (hdN q : Int)]) ∨ (hdOk q = false ∧ hdV q = hd0) := by
      unfold hdV hd0
      rcases hdOk q with _ | _
      · exact .inr ⟨rfl, rfl⟩
      · exact .inl ⟨rfl, rfl⟩
    have H2 := Lib.hid (And.intro hX2 hb2)
    clear hb2 hbs2 hX2 DG
    rcases ho with ⟨ho, hv⟩ | ⟨ho, hv⟩
    · rw [ho, hv]
      obtain ⟨a, ha⟩ : ∃ a, (hdK q : Int) = a := ⟨_, rfl⟩
      obtain ⟨b, hb⟩ : ∃ b, (hdC q : Int) = b := ⟨_, rfl⟩
      obtain ⟨d, hd⟩ : ∃ d, (hdN q : Int) = d := ⟨_, rfl⟩
      rw [hb, hd] at hv ⊢
      rw [ha] at hv ⊢
      have hX3 := H2.out.1.alloc (.cells #[.int .u8 a, .int .u16 b, .int .u32 d] 109)
      have hb3 := ball H2.out.2 (.cells #[.int .u8 a, .int .u16 b, .int .u32 d] 109)
      have r0 := hX3.cell 0; have r1 := hX3.cell 1; have r2 := hX3.cell 2
      have f0 := hX3.frozen 0; have f1 := hX3.frozen 1; have f2 := hX3.frozen 2
      have HF : Hid (∀ W', Far (w2.alloc (.cells #[.int .u8 a, .int .u16 b, .int .u32 d] 109)) W' w.heap.size → PS W' lo gp gd gb gt n ps T gm size K' D' rd' ht' ∧ Turn w W' lo gp gm K ∧ Own W' w.heap.size (.slice A 512 c) q) := fun W' hf =>
        ⟨(H1.out.1.below hb3).far hX3 hf (by decide) (by decide) (by decide) (by decide) (by decide), (H1.out.2.2.1.more hb3 H.out.2.2.2.2).far hf (Nat.le_refl _) H.out.2.2.2.2, ((H1.out.2.2.2.1.below hb3).less H.out.2.2.2.1.size).stays fun g cs _ hb => hf.heap g (hb.ne_ hX3 (by decide))⟩
      have HV := Lib.hid (And.intro ho (And.intro hv ha))
      clear hX3 hb3 ho hv ha hb hd
      by_cases hk : a = k
      · have e1 : (a != k) = false := by simpa using hk
        have HK := Lib.hid hk
        clear hk
        go_wp2
        refine bodyPost_ret (v := .tuple #[.agg #[.int .u8 a, .int .u16 b, .int .u32 d], .slice A 512 c, .int .i64 0]) (by simp only [results, Try.results37]; simp [go_sem, r0, r1, r2]) rfl ?_
        obtain ⟨x1, x2, x3⟩ := HF.out _ (Far.set3 _ _ _ _ _)
        exact ⟨⟨_, _, _, _, x1, HM.out⟩, x2, .inr (.inr ⟨q, A, c, H1.out.2.2.2.2, HV.out.1, HV.out.2.2.trans HK.out, by rw [HV.out.2.1], x3⟩)⟩
      · have e1 : (a != k) = true := by simpa using hk
        have HK := Lib.hid hk
        clear hk
        go_wp2
        refine bodyPost_ret (v := .tuple #[.agg #[.int .u8 0, .int .u16 0, .int .u32 0], .slice none 0 0, .int .i64 2]) (by simp only [results, Try.results37]; simp [go_sem, r0, r1, r2]) rfl ?_
        obtain ⟨x1, x2, x3⟩ := HF.out _ (Far.set3 _ _ _ _ _)
        exact ⟨⟨_, _, _, _, x1, HM.out⟩, x2, .inr (.inl ⟨q, H1.out.2.2.2.2, .inr (by rw [HV.out.2.2]; exact HK.out), rfl⟩)⟩
    · rw [ho, hv]
      unfold hd0
      have hX3 := H2.out.1.alloc (.cells #[.int .u8 0, .int .u16 0, .int .u32 0] 109)
      have hb3 := ball H2.out.2 (.cells #[.int .u8 0, .int .u16 0, .int .u32 0] 109)
      have r0 := hX3.cell 0; have r1 := hX3.cell 1; have r2 := hX3.cell 2
      have f0 := hX3.frozen 0; have f1 := hX3.frozen 1; have f2 := hX3.frozen 2
      have HF : Hid (∀ W', Far (w2.alloc (.cells #[.int .u8 0, .int .u16 0, .int .u32 0] 109)) W' w.heap.size → PS W' lo gp gd gb gt n ps T gm size K' D' rd' ht' ∧ Turn w W' lo gp gm K ∧ Own W' w.heap.size (.slice A 512 c) q) := fun W' hf =>
        ⟨(H1.out.1.below hb3).far hX3 hf (by decide) (by decide) (by decide) (by decide) (by decide), (H1.out.2.2.1.more hb3 H.out.2.2.2.2).far hf (Nat.le_refl _) H.out.2.2.2.2, ((H1.out.2.2.2.1.below hb3).less H.out.2.2.2.1.size).stays fun g cs _ hb => hf.heap g (hb.ne_ hX3 (by decide))⟩
      have HV := Lib.hid (And.intro ho hv)
      clear hX3 hb3 ho hv
      go_wp2
      refine bodyPost_ret (v := .tuple #[.agg #[.int .u8 0, .int .u16 0, .int .u32 0], .slice none 0 0, .int .i64 2]) (by simp only [results, Try.results37]; simp [go_sem, r0, r1, r2]) rfl ?_
      obtain ⟨x1, x2, x3⟩ := HF.out _ (Far.set3 _ _ _ _ _)
      exact ⟨⟨_, _, _, _, x1, HM.out⟩, x2, .inr (.inl ⟨q, H1.out.2.2.2.2, .inl HV.out.1, rfl⟩)⟩
  · have r0 := hX1.cell 0; have r1 := hX1.cell 1; have r2 := hX1.cell 2
    have f0 := hX1.frozen 0; have f1 := hX1.frozen 1; have f2 := hX1.frozen 2
    have H1 := Lib.hid (And.intro ps1 (And.intro hX1 tn1))
    clear ps1 hs1 tn hk hX1 tn1 G
    go_wp2
    refine bodyPost_ret (v := .tuple #[.agg #[.int .u8 0, .int .u16 0, .int .u32 0], .slice none 0 0, .int .i64 8]) (by simp only [results, Try.results37]; simp [go_sem, r0, r1, r2]) rfl ?_
    exact ⟨⟨_, _, _, _, H1.out.1.far H1.out.2.1 (Far.set3 _ _ _ _ _) (by decide) (by decide) (by decide) (by decide) (by decide), HM.out⟩, H1.out.2.2.far (Far.set3 _ _ _ _ _) (Nat.le_refl _) H.out.2.2.2.2, .inl ⟨hpn, rfl⟩⟩
end
section
variable {w w' : World} {lo gp gd gb gt n : Nat} {ps : List (List UInt8)} {T : List Bool} {gm size : Nat} {K : List Fr} {D : DataW Unit} {rd ht : Nat}
/-- Blocks of two kinds change alone. -/
theorem PS.keep (h : PS w lo gp gd gb gt n ps T gm size K D rd ht) (t1 t2 : TypeId) (he : ∀ g, (∀ cs, ¬ Blk w g t1 cs) → (∀ cs, ¬ Blk w g t2 cs) → g < w.heap.size → w'.heap[g]? = w.heap[g]?)
    (a1 : ∀ t, t = t1 ∨ t = t2 → t ≠ 104 ∧ t ≠ 96 ∧ t ≠ 5 ∧ t ≠ 4 ∧ t ≠ 78) : PS w' lo gp gd gb gt n ps T gm size K D rd ht := by
  have hb : ∀ {g : Nat} {ty : TypeId} {cs' : Array Value}, t1 ≠ ty → t2 ≠ ty → Blk w g ty cs' → Blk w' g ty cs' := fun h1 h2 hb => (he _ (fun cs hc => hb.ne_ hc (fun e => h1 e.symm) rfl) (fun cs hc => hb.ne_ hc (fun e => h2 e.symm) rfl) hb.lt).trans hb
  obtain ⟨p1, p2, p3, p4, p5⟩ := a1 t1 (.inl rfl)
  obtain ⟨q1, q2, q3, q4, q5⟩ := a1 t2 (.inr rfl)
  exact ⟨⟨h.rg.low, hb p1 q1 h.rg.pool, fun i f hi => ⟨hb p2 q2 (h.rg.fr i f hi).1, (h.rg.fr i f hi).2⟩, h.rg.inj⟩, h.mp.same (he gm (fun cs hc => h.mp.ne_ hc rfl) (fun cs hc => h.mp.ne_ hc rfl) h.mp.lt), h.lom, fun i f hi => ⟨hb p3 q3 (h.by_ i f hi).1, (h.by_ i f hi).2⟩, h.pg, ⟨⟨hb p5 q5 h.dk.dk.d, hb p3 q3 h.dk.dk.b, hb p4 q4 h.dk.dk.t, h.dk.dk.hb, h.dk.dk.ht⟩, h.dk.full, h.dk.hp⟩, h.s1, h.sz⟩
theorem Turn.base (t : Turn w w' lo gp gm K) {w2 : World} (hb : Below w.heap.size w' w2) (hlo : lo ≤ w.heap.size) : Turn w w2 lo gp gm K :=
  ⟨Nat.le_trans t.size hb.size, fun g hg h1 h2 h3 => (hb.block g hg).trans (t.heap g hg h1 h2 h3), fun B w0 hB hb' => (t.below B w0 hB hb').trans (hb.mono (by omega))⟩
end
end
end Go.Proofs.Ytdimkeoncgjegaa
/-
  Slots of a heap page: a page as its records (pure facts on lists).
-/
namespace Go.Proofs.Ytdimkeoncgjegaa
section
open Go.RowKit

/-- The i-th record of a page. -/
def recK (l : List UInt8) (i : Nat) : List UInt8 := (l.drop (two l (8 + 4 * i))).take (two l (8 + 4 * i + 2))
theorem endK_some {l : List UInt8} {m e : Nat} (h : endK l m = some e) {k : Nat} (hk : k < m) : ∃ f, endK l k = some f ∧ f ≤ 512 ∧ two l (8 + 4 * k + 2) ≠ 0 ∧ two l (8 + 4 * k) + two l (8 + 4 * k + 2) = f ∧ endK l (k + 1) = some (two l (8 + 4 * k)) := by
  rcases h0 : endK l (k + 1) with _ | x
  · rw [endK_none l (k + 1) h0 m hk] at h; cases h
  · rw [endK] at h0
    rcases h1 : endK l k with _ | f
    · rw [h1] at h0; cases h0
    · rw [h1, Option.bind_some] at h0
      split at h0
      · rename_i hc
        injection h0 with h0
        exact ⟨f, rfl, endK_le l k f h1, hc.1, hc.2, by rw [h0]⟩
      · cases h0
theorem recK_len {l : List UInt8} {m e : Nat} (hl : l.length = 512) (h : endK l m = some e) {k : Nat} (hk : k < m) : (recK l k).length = two l (8 + 4 * k + 2) := by
  obtain ⟨f, _, h2, _, h3, _⟩ := endK_some h hk
  unfold recK
  rw [List.length_take, List.length_drop]; omega
/-- The records, the last one first. -/
def bk (rs : List (List UInt8)) : List UInt8 := rs.reverse.flatten
theorem bk_snoc (rs : List (List UInt8)) (r : List UInt8) : bk (rs ++ [r]) = r ++ bk rs := by simp [bk]
theorem bk_app (a b : List (List UInt8)) : bk (a ++ b) = bk b ++ bk a := by simp [bk]
theorem bk_cons (r : List UInt8) (rs : List (List UInt8)) : bk (r :: rs) = bk rs ++ r := by simp [bk]
/-- The slots of records that end at e. -/
def slB : Nat → List (List UInt8) → List UInt8
  | _, [] => []
  | e, r :: rs => be 2 (e - r.length) ++ (be 2 r.length ++ slB (e - r.length) rs)
theorem slB_len : ∀ (rs : List (List UInt8)) (e : Nat), (slB e rs).length = 4 * rs.length
  | [], _ => rfl
  | r :: rs, e => by rw [slB, List.length_append, List.length_append, be_len, be_len, slB_len rs, List.length_cons]; omega
theorem slB_snoc : ∀ (rs : List (List UInt8)) (e : Nat) (r : List UInt8), slB e (rs ++ [r]) = slB e rs ++ (be 2 (e - (bk rs).length - r.length) ++ be 2 r.length)
  | [], e, r => by simp [slB, bk]
  | x :: rs, e, r => by
    rw [List.cons_append, slB, slB_snoc rs (e - x.length) r, slB, bk_cons, List.length_append]
    rw [show e - x.length - (bk rs).length - r.length = e - ((bk rs).length + x.length) - r.length from by omega]
    simp only [List.append_assoc]
def hd8 (m next : Nat) : List UInt8 := [1, 0] ++ be 2 m ++ be 4 next
theorem hd8_len (m next : Nat) : (hd8 m next).length = 8 := by simp [hd8, be_len]
theorem hd8_of (m next : Nat) : (headL 1 m next).take 8 = hd8 m next := by
  unfold headL headP
  rw [List.take_append_of_le_length (by simp [be_len]), show (be 4 next).take 4 = be 4 next from List.take_of_length_le (by rw [be_len]; omega)]
  exact List.take_of_length_le (by simp [be_len])
def zs (n : Nat) : List UInt8 := List.replicate n 0
theorem zs_len (n : Nat) : (zs n).length = n := List.length_replicate
theorem zs_add (a b : Nat) : zs (a + b) = zs a ++ zs b := by simp [zs, List.replicate_append_replicate]
def tot (rs : List (List UInt8)) : Nat := (bk rs).length
theorem tot_snoc (rs : List (List UInt8)) (r : List UInt8) : tot (rs ++ [r]) = tot rs + r.length := by unfold tot; rw [bk_snoc, List.length_append]; omega
theorem tot_cons (rs : List (List UInt8)) (r : List UInt8) : tot (r :: rs) = tot rs + r.length := by unfold tot; rw [bk_cons, List.length_append]
theorem tot_app (a b : List (List UInt8)) : tot (a ++ b) = tot a + tot b := by unfold tot; rw [bk_app, List.length_append]; omega
/-- A page with these records. -/
def layL (next : Nat) (rs : List (List UInt8)) : List UInt8 := hd8 rs.length next ++ (slB 512 rs ++ (zs (504 - 4 * rs.length - tot rs) ++ bk rs))
/-- Records that have room. -/
def Fits (rs : List (List UInt8)) : Prop := 8 + 4 * rs.length + tot rs ≤ 512 ∧ ∀ r ∈ rs, r ≠ []
theorem Fits.nil : Fits [] := ⟨by simp [tot, bk], by simp⟩
theorem Fits.snoc {rs : List (List UInt8)} (h : Fits rs) {r : List UInt8} (hr : r ≠ []) (hm : r.length + (8 + 4 * (rs.length + 1) + tot rs) ≤ 512) : Fits (rs ++ [r]) := by
  refine ⟨?_, ?_⟩
  · rw [tot_snoc, List.length_append]; simp; omega
  · intro x hx
    rcases List.mem_append.1 hx with hx | hx
    · exact h.2 x hx
    · rw [List.mem_singleton] at hx; subst hx; exact hr
theorem layL_len {next : Nat} {rs : List (List UInt8)} (h : Fits rs) : (layL next rs).length = 512 := by
  have := h.1
  unfold layL
  simp only [List.length_append, hd8_len, slB_len, zs_len]
  unfold tot at *
  omega
theorem lay_hd {next : Nat} {rs : List (List UInt8)} (h : Fits rs) : hdOk (layL next rs) = true ∧ hdK (layL next rs) = 1 := by
  refine ⟨?_, rfl⟩
  unfold hdOk
  rw [layL_len h]
  rfl
theorem beVal_be2 (m : Nat) (h : m < 65536) : 256 * (UInt8.ofNat (m / 256)).toNat + (UInt8.ofNat m).toNat = m := by simp; omega
theorem be2_eq (m : Nat) : be 2 m = [UInt8.ofNat (m / 256), UInt8.ofNat m] := by simp [be]
theorem lay_C {next : Nat} {rs : List (List UInt8)} (h : Fits rs) : hdC (layL next rs) = rs.length := by
  have hm : rs.length < 65536 := by have := h.1; omega
  rw [hdC_eq (l := layL next rs) (x := UInt8.ofNat (rs.length / 256)) (y := UInt8.ofNat rs.length) (by unfold layL hd8; rw [be2_eq]; rfl) (by unfold layL hd8; rw [be2_eq]; rfl)]
  exact beVal_be2 _ hm
theorem slB_at : ∀ (rs : List (List UInt8)) (e i : Nat) (r : List UInt8), rs[i]? = some r → (slB e rs).drop (4 * i) = be 2 (e - tot (rs.take i) - r.length) ++ (be 2 r.length ++ slB (e - tot (rs.take i) - r.length) (rs.drop (i + 1)))
  | [], e, i, r, h => by simp at h
  | x :: rs, e, 0, r, h => by
    simp only [List.getElem?_cons_zero, Option.some.injEq] at h
    subst h
    simp [slB, tot, bk]
  | x :: rs, e, i + 1, r, h => by
    simp only [List.getElem?_cons_succ] at h
    rw [slB, ← List.append_assoc, show 4 * (i + 1) = 4 + 4 * i from by omega, ← List.drop_drop, List.drop_left' (by rw [List.length_append, be_len, be_len]), slB_at rs _ i r h, List.take_succ_cons, tot_cons, List.drop_succ_cons]
    rw [show e - x.length - tot (rs.take i) - r.length = e - (tot (rs.take i) + x.length) - r.length from by omega]
theorem two_of {l : List UInt8} {i m : Nat} {t : List UInt8} (h : l.drop i = be 2 m ++ t) (hm : m < 65536) : two l i = m := by
  unfold two
  have h0 : l.getD i 0 = UInt8.ofNat (m / 256) := by
    have : l[i]? = (l.drop i)[0]? := by rw [List.getElem?_drop]; rfl
    rw [List.getD_eq_getElem?_getD, this, h, be2_eq]; rfl
  have h1 : l.getD (i + 1) 0 = UInt8.ofNat m := by
    have : l[i + 1]? = (l.drop i)[1]? := by rw [List.getElem?_drop]
    rw [List.getD_eq_getElem?_getD, this, h, be2_eq]; rfl
  rw [h0, h1]
  exact beVal_be2 m hm
theorem lay_drop8 (next : Nat) (rs : List (List UInt8)) : (layL next rs).drop 8 = slB 512 rs ++ (zs (504 - 4 * rs.length - tot rs) ++ bk rs) := List.drop_left' (hd8_len _ _)
theorem tot_take_succ {rs : List (List UInt8)} {i : Nat} {r : List UInt8} (h : rs[i]? = some r) : tot (rs.take (i + 1)) = tot (rs.take i) + r.length := by
  rw [List.take_add_one, h]; exact tot_snoc _ _
theorem tot_take_le (rs : List (List UInt8)) (i : Nat) : tot (rs.take i) ≤ tot rs := by
  have h := tot_app (rs.take i) (rs.drop i)
  rw [List.take_append_drop] at h
  omega
theorem lay_two {next : Nat} {rs : List (List UInt8)} (h : Fits rs) {i : Nat} {r : List UInt8} (hr : rs[i]? = some r) :
    two (layL next rs) (8 + 4 * i) = 512 - tot (rs.take (i + 1)) ∧ two (layL next rs) (8 + 4 * i + 2) = r.length := by
  have hi := lt_of_at hr
  have ht := tot_take_le rs (i + 1)
  have hs := tot_take_succ hr
  have h1 := h.1
  have hd : (layL next rs).drop (8 + 4 * i) = be 2 (512 - tot (rs.take i) - r.length) ++ (be 2 r.length ++ (slB (512 - tot (rs.take i) - r.length) (rs.drop (i + 1)) ++ (zs (504 - 4 * rs.length - tot rs) ++ bk rs))) := by
    rw [← List.drop_drop, lay_drop8, List.drop_append_of_le_length (by rw [slB_len]; omega), slB_at rs 512 i r hr]
    simp only [List.append_assoc]
  refine ⟨?_, ?_⟩
  · rw [two_of hd (by omega)]; omega
  · refine two_of (t := slB (512 - tot (rs.take i) - r.length) (rs.drop (i + 1)) ++ (zs (504 - 4 * rs.length - tot rs) ++ bk rs)) ?_ (by omega)
    rw [← List.drop_drop, hd]
    exact List.drop_left' (be_len _ _)
theorem lay_end {next : Nat} {rs : List (List UInt8)} (h : Fits rs) : ∀ i, i ≤ rs.length → endK (layL next rs) i = some (512 - tot (rs.take i))
  | 0, _ => rfl
  | i + 1, hi => by
    have hr : rs[i]? = some (rs[i]'(by omega)) := List.getElem?_eq_getElem (by omega)
    obtain ⟨t1, t2⟩ := lay_two (next := next) h hr
    have hs := tot_take_succ hr
    have ht := tot_take_le rs (i + 1)
    have h1 := h.1
    have hne : (rs[i]'(by omega)).length ≠ 0 := fun e => h.2 _ (List.getElem_mem (by omega)) (List.eq_nil_of_length_eq_zero e)
    rw [endK, lay_end h i (by omega), Option.bind_some, t1, t2, if_pos ⟨hne, by omega⟩]
theorem allZ_zs (n : Nat) : allZ (zs n) = true := by
  unfold allZ zs
  simp
theorem lay_page {next : Nat} {rs : List (List UInt8)} (h : Fits rs) : isPage (layL next rs) = true := by
  have h1 := h.1
  obtain ⟨a, b⟩ := lay_hd (next := next) h
  have c := lay_C (next := next) h
  have e := lay_end (next := next) h rs.length (Nat.le_refl _)
  rw [List.take_length] at e
  unfold isPage pageEnd
  rw [a, b, c, e]
  simp only
  have hz : ((layL next rs).drop (8 + 4 * rs.length)).take (512 - tot rs - (8 + 4 * rs.length)) = zs (504 - 4 * rs.length - tot rs) := by
    rw [← List.drop_drop, lay_drop8, List.drop_left' (slB_len _ _), List.take_append_of_le_length (by rw [zs_len]; omega)]
    exact List.take_of_length_le (by rw [zs_len]; omega)
  rw [hz, allZ_zs]
  simp; omega
theorem lay_rec {next : Nat} {rs : List (List UInt8)} (h : Fits rs) {i : Nat} {r : List UInt8} (hr : rs[i]? = some r) : recK (layL next rs) i = r := by
  have hi := lt_of_at hr
  have h1 := h.1
  obtain ⟨t1, t2⟩ := lay_two (next := next) h hr
  have hs := tot_take_succ hr
  unfold recK
  rw [t1, t2]
  have e1 : rs = rs.take i ++ (r :: rs.drop (i + 1)) := by
    have := List.take_append_drop i rs
    rw [List.drop_eq_getElem_cons hi] at this
    rw [List.getElem?_eq_getElem hi] at hr
    injection hr with hr
    rw [hr] at this
    exact this.symm
  have e2 : bk rs = bk (rs.drop (i + 1)) ++ (r ++ bk (rs.take i)) := by
    have : bk rs = bk (rs.take i ++ (r :: rs.drop (i + 1))) := by rw [← e1]
    rw [this, bk_app, bk_cons, List.append_assoc]
  have e3 : tot rs = tot (rs.take (i + 1)) + tot (rs.drop (i + 1)) := by
    have := tot_app (rs.take (i + 1)) (rs.drop (i + 1))
    rwa [List.take_append_drop] at this
  have e4 : layL next rs = (hd8 rs.length next ++ (slB 512 rs ++ (zs (504 - 4 * rs.length - tot rs) ++ bk (rs.drop (i + 1))))) ++ (r ++ bk (rs.take i)) := by
    unfold layL
    rw [e2]
    simp only [List.append_assoc]
  rw [e4, List.drop_left' (by simp only [List.length_append, hd8_len, slB_len, zs_len]; unfold tot at *; omega)]
  exact List.take_left' rfl
theorem bk_nil : bk [] = [] := rfl
theorem lay_new (next : Nat) : headL 1 0 next = layL next [] := by
  unfold headL headP layL hd8
  rw [show (be 4 next).take 4 = be 4 next from List.take_of_length_le (by rw [be_len]; omega), show tot [] = 0 from rfl, bk_nil, List.append_nil]
  show _ ++ List.replicate (508 - 4) 0 = _ ++ ([] ++ zs (504 - 4 * 0 - 0))
  rw [List.nil_append, List.length_nil, zs]
theorem lay_link (next other : Nat) (rs : List (List UInt8)) : (headL 1 rs.length other).take 8 ++ (layL next rs).drop 8 = layL other rs := by
  rw [hd8_of, lay_drop8]; rfl
/-- What Add makes of a page: the record's bytes, its slot, the count. -/
def addL (l r : List UInt8) (m e : Nat) : List UInt8 :=
  (((((splice l (e - r.length) r).set (8 + 4 * m) (UInt8.ofNat ((e - r.length) / 256))).set (8 + 4 * m + 1) (UInt8.ofNat (e - r.length))).set (8 + 4 * m + 2) (UInt8.ofNat (r.length / 256))).set (8 + 4 * m + 3) (UInt8.ofNat r.length) |>.set 2 (UInt8.ofNat ((m + 1) / 256))).set 3 (UInt8.ofNat (m + 1))
theorem addL_len (l r : List UInt8) (m e : Nat) (h : e ≤ l.length) (hr : r.length ≤ e) : (addL l r m e).length = l.length := by
  unfold addL splice
  simp only [List.length_set, List.length_append, List.length_take, List.length_drop]
  omega
theorem lay_add (next : Nat) {rs : List (List UInt8)} (r : List UInt8) (hm : r.length + (8 + 4 * (rs.length + 1) + tot rs) ≤ 512) : addL (layL next rs) r rs.length (512 - tot rs) = layL next (rs ++ [r]) := by
  have e0 : layL next rs = (hd8 rs.length next ++ (slB 512 rs ++ (zs 4 ++ zs (500 - 4 * rs.length - tot rs - r.length)))) ++ (zs r.length ++ bk rs) := by
    unfold layL
    rw [show 504 - 4 * rs.length - tot rs = 4 + (500 - 4 * rs.length - tot rs - r.length) + r.length from by omega, zs_add, zs_add]
    simp only [List.append_assoc]
  have hlen : (hd8 rs.length next ++ (slB 512 rs ++ (zs 4 ++ zs (500 - 4 * rs.length - tot rs - r.length)))).length = 512 - tot rs - r.length := by
    simp only [List.length_append, hd8_len, slB_len, zs_len]; omega
  have e1 : splice (layL next rs) (512 - tot rs - r.length) r = hd8 rs.length next ++ (slB 512 rs ++ (zs 4 ++ (zs (500 - 4 * rs.length - tot rs - r.length) ++ (r ++ bk rs)))) := by
    unfold splice
    rw [e0, List.take_left' hlen, ← List.append_assoc (hd8 rs.length next ++ _) (zs r.length) (bk rs), List.drop_left' (by rw [List.length_append, hlen, zs_len])]
    simp only [List.append_assoc]
  unfold addL
  rw [e1]
  have hb : ∀ (x : List UInt8) (k : Nat) (b : UInt8), (hd8 rs.length next ++ (slB 512 rs ++ x)).set (8 + 4 * rs.length + k) b = hd8 rs.length next ++ (slB 512 rs ++ x.set k b) := by
    intro x k b
    rw [List.set_append_right _ _ (by rw [hd8_len]; omega), hd8_len, List.set_append_right _ _ (by rw [slB_len]; omega), slB_len]
    congr 3
    omega
  have b0 := hb (zs 4 ++ (zs (500 - 4 * rs.length - tot rs - r.length) ++ (r ++ bk rs))) 0
  rw [Nat.add_zero] at b0
  rw [b0, hb, hb, hb]
  have hz : ((((zs 4 ++ (zs (500 - 4 * rs.length - tot rs - r.length) ++ (r ++ bk rs))).set 0 (UInt8.ofNat ((512 - tot rs - r.length) / 256))).set 1 (UInt8.ofNat (512 - tot rs - r.length))).set 2 (UInt8.ofNat (r.length / 256))).set 3 (UInt8.ofNat r.length) = be 2 (512 - tot rs - r.length) ++ (be 2 r.length ++ (zs (500 - 4 * rs.length - tot rs - r.length) ++ (r ++ bk rs))) := by
    rw [be2_eq, be2_eq]; rfl
  rw [hz]
  have hh : ∀ x : List UInt8, ((hd8 rs.length next ++ x).set 2 (UInt8.ofNat ((rs.length + 1) / 256))).set 3 (UInt8.ofNat (rs.length + 1)) = hd8 (rs.length + 1) next ++ x := by
    intro x
    unfold hd8
    rw [be2_eq, be2_eq]; rfl
  rw [hh]
  unfold layL
  rw [List.length_append, List.length_singleton, tot_snoc, bk_snoc, slB_snoc, show 504 - 4 * (rs.length + 1) - (tot rs + r.length) = 500 - 4 * rs.length - tot rs - r.length from by omega]
  simp only [List.append_assoc]
  rfl
end
end Go.Proofs.Ytdimkeoncgjegaa
/-
  Slots of a heap page: the reference's Used, Room.
-/
namespace Go.Proofs.Ytdimkeoncgjegaa
section
open Go.RowKit

def tl (rs : List (List UInt8)) : Nat := (rs.map List.length).sum
theorem tl_tot (rs : List (List UInt8)) : tl rs = tot rs := by
  induction rs with
  | nil => rfl
  | cons r rs ih => rw [tot_cons]; unfold tl at *; simp only [List.map_cons, List.sum_cons]; omega
theorem tot_take_at {rs : List (List UInt8)} {i : Nat} {r : List UInt8} (h : rs[i]? = some r) : tot (rs.take (i + 1)) = tot (rs.take i) + r.length := by
  rw [List.take_add_one, h]; exact tot_snoc _ _
theorem tot_takes (rs : List (List UInt8)) (i : Nat) : tot (rs.take i) ≤ tot rs := by
  have h := tot_app (rs.take i) (rs.drop i)
  rw [List.take_append_drop] at h
  omega
section
variable {w : World} {A : Option Addr} {n c : Nat} {rs : List (List UInt8)}
theorem used_any (next : Int) (hr : Reads w w.heap.size 1 A n (sL rs)) (hn : n ≤ 1000000) (ht : tot rs ≤ 1000000) :
    Calls Try.prog 52 #[.agg #[.int .u32 next, .slice A n c]] w (RetB w (.int .i64 (8 + 4 * n + tot rs : Nat))) := by
  have hl : rs.length = n := by have := hr.1; rw [sL_len] at this; omega
  have HL := Lib.hid hl; clear hl
  have HT := Lib.hid ht; clear ht
  have hX := Blk.new w 41 #[.int .u32 next, .slice A n c]
  have hb := ball (Below.refl w.heap.size w) (.cells #[.int .u32 next, .slice A n c] 41)
  have hr := hr.alloc (Nat.le_refl _) (.cells #[.int .u32 next, .slice A n c] 41)
  have hnI : (n : Int) ≤ 1000000 := by omega
  go_enter Try.func52, Try.ntmps52
  go_wp2
  obtain ⟨W, hW⟩ : ∃ W, (w.alloc (.cells #[.int .u32 next, .slice A n c] 41)) = W := ⟨_, rfl⟩
  rw [hW] at hX hr hb ⊢
  clear hW
  have c1 := hX.cell 1
  go_loop [3, 8] (fun u v => ∃ k : Nat, u = .int .i64 (8 + 4 * k + tot (rs.take k) : Nat) ∧ v = .int .i64 k ∧ k ≤ n) (fun _ v => n - (intOf v).toNat)
  case atStart => exact ⟨0, rfl, rfl, by omega⟩
  case round =>
    obtain ⟨k, rfl, rfl, hk⟩ := hrel
    have g1 : (0 : Int) ≤ (k : Int) := by omega
    by_cases hki : k < n
    · have g2 : (k : Int) < (n : Int) := by omega
      obtain ⟨ad, r, rfl, _, hx, d2⟩ := hr.text hki
      have fs := Lib.hid (tot_take_at hx)
      have f1 := Nat.le_trans (tot_takes rs k) HT.out
      have f2 := Nat.le_trans (tot_takes rs (k + 1)) HT.out
      have hs := str_size r
      obtain ⟨F, hF⟩ : ∃ F, tot (rs.take k) = F := ⟨_, rfl⟩
      rw [fs.out, hF] at f2
      rw [hF] at fs f1 ⊢
      obtain ⟨s, hs'⟩ : ∃ s, str r = s := ⟨_, rfl⟩
      rw [hs'] at hs d2
      have Hs := Lib.hid hs
      have hI : (s.size : Int) ≤ 1000000 := by omega
      clear hF hx hs' hs f2
      go_wp2
      go_round
      case rel => exact ⟨k + 1, by rw [fs.out, ← Hs.out]; go_num, by go_num, by omega⟩
      case measure => simp [intOf]; omega
    · obtain rfl : n = k := by omega
      have e1 : rs.take n = rs := List.take_of_length_le (by rw [HL.out]; exact Nat.le_refl _)
      rw [e1]
      go_wp2
      go_ret
      exact ⟨rfl, hb⟩
theorem rroom_any (next : Int) (hr : Reads w w.heap.size 1 A n (sL rs)) (hn : n ≤ 1000000) (ht : tot rs ≤ 1000000) :
    Calls Try.prog 30 #[.agg #[.int .u32 next, .slice A n c]] w (RetB w (.int .i64 (508 - (8 + 4 * n + tot rs) : Nat))) := by
  have hX := Blk.new w 41 #[.int .u32 next, .slice A n c]
  have hb := ball (Below.refl w.heap.size w) (.cells #[.int .u32 next, .slice A n c] 41)
  have U := Lib.hid fun W (hW : Below w.heap.size w W) => used_any (c := c) next ((hr.below hW).more hW.size) hn ht
  obtain ⟨T, hT⟩ : ∃ T, 8 + 4 * n + tot rs = T := ⟨_, rfl⟩
  have hT2 : T ≤ 6000000 := by omega
  rw [hT] at U ⊢
  clear hT ht hr
  by_cases h5 : 508 < T
  · have h5I : (508 : Int) < (T : Int) := by omega
    go_enter Try.func30, Try.ntmps30
    go_wp2_with fail
    refine (U.out _ hb).mono ?_
    rintro e w1 ⟨rfl, hb1⟩
    go_wp2
    go_ret
    exact ⟨ret_int (by omega), bto0 hb hb1⟩
  · have h5I : (T : Int) ≤ 508 := by omega
    go_enter Try.func30, Try.ntmps30
    go_wp2_with fail
    refine (U.out _ hb).mono ?_
    rintro e w1 ⟨rfl, hb1⟩
    have c0 := (hX.below hb1 hX.lt).cell 0
    have c1 := (hX.below hb1 hX.lt).cell 1
    go_wp2_with fail
    refine (U.out _ (bto0 hb hb1)).mono ?_
    rintro e w2 ⟨rfl, hb2⟩
    go_wp2
    go_ret
    exact ⟨ret_int (by omega), bto0 (bto0 hb hb1) hb2⟩
end
end
end Go.Proofs.Ytdimkeoncgjegaa
/-
  Heads of pages: the reference's Number, zeros.
-/
namespace Go.Proofs.Ytdimkeoncgjegaa
section
open Go.RowKit

theorem str_append (a b : List UInt8) : str a ++ str b = str (a ++ b) := by
  apply ByteArray.ext
  apply Array.toList_inj.1
  simp [str, ByteArray.data_append]
theorem conv_one (W : World) (b : UInt8) (u : Int) (hu : u = (b.toNat : Int)) : (convert 59 9 (.slice (some ⟨W.heap.size, 0, none⟩) 1 1)).run Try.prog (W.alloc (.cells #[.int .u8 u] 5)) = .ok (.string (str [b])) (W.alloc (.cells #[.int .u8 u] 5)) := by
  subst hu
  exact conv_blk (l := [b]) (Blk.new W 5 _) _ 5 _ Try.underlying59 Try.underlying5 Try.underlying9 1 1 rfl

set_option maxHeartbeats 1000000 in
set_option maxRecDepth 100000 in
theorem dnum_any (N sz : Nat) (hN : N < 18446744073709551616) (hs : sz ≤ 100) (w : World) : Calls Try.prog 68 #[.int .u64 N, .int .i64 sz] w (RetB w (.string (str (be sz N)))) := by
  have HN := Lib.hid hN; clear hN
  have hsI : (sz : Int) ≤ 100 := by omega
  go_enter Try.func68, Try.ntmps68
  go_wp2
  go_loopw [0, 5, 6] (fun nv sv iv wr => ∃ j : Nat, j ≤ sz ∧ iv = .int .i64 j ∧ nv = .int .u64 ((N / 256 ^ j : Nat) : Int) ∧ sv = .string (str (be j N)) ∧ Below w.heap.size w wr) (fun _ _ iv _ => sz - (intOf iv).toNat)
  case atStart => exact ⟨0, by omega, rfl, by simp, rfl, Below.refl _ _⟩
  case round =>
    obtain ⟨j, hj, rfl, rfl, rfl, hb⟩ := hrel
    have q0 : (0 : Int) ≤ (j : Int) := by omega
    by_cases hlt : j < sz
    · have q1 : (j : Int) < (sz : Int) := by omega
      have hst : Hid (str [UInt8.ofNat (N / 256 ^ j)] ++ str (be j N) = str (be (j + 1) N)) := by
        show _ = _
        rw [str_append, be_cons]; rfl
      have hq : Hid (IntKind.u64.wrap (((N / 256 ^ j : Nat) : Int) / 256) = ((N / 256 ^ (j + 1) : Nat) : Int)) := by
        show _ = _
        have h1 : N / 256 ^ j ≤ N := Nat.div_le_self _ _
        have h2 := HN.out
        rw [IntKind.wrap_u64, Nat.pow_succ, ← Nat.div_div_eq_div_mul]
        generalize N / 256 ^ j = V at h1 ⊢
        omega
      have hz : ¬ 9223372036854775807 < (str [UInt8.ofNat (N / 256 ^ j)]).size + (str (be j N)).size := by
        rw [str_size, str_size, be_len]; simp; omega
      obtain ⟨s, hs'⟩ : ∃ s, str (be j N) = s := ⟨_, rfl⟩
      have cv := conv_one wr (UInt8.ofNat (N / 256 ^ j)) (((N / 256 ^ j : Nat) : Int) % 256) (by rw [u8_nat])
      have hV : N / 256 ^ j ≤ N := Nat.div_le_self _ _
      obtain ⟨V, hVe⟩ : ∃ V, N / 256 ^ j = V := ⟨_, rfl⟩
      rw [hVe] at hst hq cv hV hz ⊢
      rw [hs'] at hst hz ⊢
      have HV := Lib.hid hV
      obtain ⟨s1, hs1⟩ : ∃ s1, str [UInt8.ofNat V] = s1 := ⟨_, rfl⟩
      rw [hs1] at hst cv hz
      clear hs' hVe hs1 hV
      have g0 : (0 : Int) ≤ (V : Int) := by omega
      go_wp2
      go_roundw
      case rel => exact ⟨j + 1, by omega, by go_num, val_int hq.out, by rw [hst.out], ball hb _⟩
      case measure => simp [intOf]; omega
    · obtain rfl : j = sz := by omega
      go_wp2
      go_ret
      exact ⟨rfl, hb⟩

theorem zeros_any (n : Nat) (hn : n ≤ 3000000) (w : World) : Calls Try.prog 22 #[.int .i64 n] w (RetB w (.string (str (List.replicate n 0)))) := by
  obtain ⟨i0, hi0, hz0, hs0, hy0⟩ := int_info8 Try.infoB
  have hm : madeCells #[.int .u8 0] n = bV (List.replicate n 0) := by
    apply Array.ext
    · simp [size_madeCells, bV_size]
    · intro j h1 h2
      have hj : j < n := by simpa [size_madeCells] using h1
      have : (bV (List.replicate n 0))[j]? = some (.int .u8 ((0 : UInt8).toNat : Int)) := bV_at (by simp [hj])
      rw [Array.getElem?_eq_getElem h2] at this
      rw [Option.some.inj this]
      simp [madeCells, Nat.mod_one]
  have mk0 : ∀ W, (Instr.makeSlice 59 (.int .i64 (n : Int)) (.int .i64 (n : Int))).run Try.prog W = .ok (.slice (some ⟨W.heap.size, 0, none⟩) n n) (W.alloc (.cells (bV (List.replicate n 0)) 5)) := by
    intro W
    have h := run_make (P := Try.prog) W 59 5 i0 (.int .u8 0) Try.underlying59 hi0 hz0 .i64 .i64 n n (by omega) (by omega) (by rw [hy0]; omega) (by omega)
    rw [hs0, Int.toNat_natCast, Nat.mul_one] at h
    rw [← hm]
    exact h
  have cv : (convert 59 9 (.slice (some ⟨w.heap.size, 0, none⟩) n n)).run Try.prog (w.alloc (.cells (bV (List.replicate n 0)) 5)) = .ok (.string (str (List.replicate n 0))) (w.alloc (.cells (bV (List.replicate n 0)) 5)) :=
    conv_blk (l := List.replicate n 0) (Blk.new w 5 _) _ 5 _ Try.underlying59 Try.underlying5 Try.underlying9 n n List.length_replicate
  obtain ⟨s, hs⟩ : ∃ s, str (List.replicate n 0) = s := ⟨_, rfl⟩
  rw [hs] at cv ⊢
  obtain ⟨a, ha⟩ : ∃ a, bV (List.replicate n 0) = a := ⟨_, rfl⟩
  rw [ha] at cv mk0
  clear hi0 hz0 hs0 hy0 hm hs ha
  go_enter Try.func22, Try.ntmps22
  go_wp2
  go_ret
  exact ⟨rfl, ball (Below.refl _ _) _⟩
end
end Go.Proofs.Ytdimkeoncgjegaa
