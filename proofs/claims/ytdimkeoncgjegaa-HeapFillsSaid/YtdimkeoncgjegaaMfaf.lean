/-
  Several texts in one: Pc Dj Be Sl Dk.
-/
import Derived.Test.YtdimkeoncgjegaaMfad
import Derived.Test.YtdimkeoncgjegaaMfae
import Derived.Test.YtdimkeoncgjegaaMfac
import Derived.Test.YtdimkeoncgjegaaMfab
import Derived.Lib.Builder
import Derived.Laws.Bits64
import Derived.Laws.BitsAllLaws
import Derived.Test.YtdimkeoncgjegaaProg
import Derived.Laws.Slices
import Derived.KernelRfl
import Derived.BigQuiet
/-
  Pool: a frame enters the ring; which pages are kept.
-/
namespace Go.Proofs.Ytdimkeoncgjegaa
section
set_option linter.unusedSimpArgs false
set_option linter.unusedVariables false
open Go.RowKit

section
variable {w : World} {lo gp : Nat} {K : List Fr} {x0 x1 x2 x7 x8 : Value}
theorem enter_any (h : Rg w lo gp K x0 x1 x2 x7 x8) {f : Fr} {o1 o2 : Value} (hf : Blk w f.g 96 #[.int .u32 f.p, .slice (some ⟨f.b, 0, none⟩) 512 512, o1, o2]) (hlo : lo ≤ f.g) (hfr : ∀ (j : Nat) (f' : Fr), K[j]? = some f' → f'.g ≠ f.g) :
    Calls Try.prog 73 #[.pointer (some ⟨f.g, 0, none⟩), .pointer (some ⟨gp, 3, none⟩)] w fun e w' => e = .returned (.tuple #[]) ∧ Rg w' lo gp (K ++ [f]) x0 x1 x2 x7 x8 ∧ Stay w w' lo gp (K ++ [f]) := by
  obtain ⟨ab, ao, ta, ca, ea, ba, sa, la, ga⟩ := h.node K.length
  have h2 : w.cell? ⟨f.g, 2, none⟩ = some o1 := hf.cell 2
  have h3 : w.cell? ⟨f.g, 3, none⟩ = some o2 := hf.cell 3
  have he : w.cell? ⟨gp, 3 + 2, none⟩ = some (.pointer (some ⟨ab, ao, none⟩)) := by rw [h.pool.cell]; simp [plC, ea]
  have ha : w.cell? ⟨ab, ao + 3, none⟩ = some ca[ao + 3] := by rw [ba.cell, Array.getElem?_eq_getElem sa]
  have n2 : gp ≠ f.g := fun e => by
    have hp := h.pool
    rw [e] at hp
    exact hf.ne_ hp (by decide) rfl
  have n1 : ab ≠ f.g := by
    rcases adr_cases gp K K.length with ⟨e, _⟩ | ⟨j, f', _, hj, e⟩
    · rw [e] at ea; injection ea with ea; rw [← ea]; exact n2
    · rw [e] at ea; injection ea with ea; rw [← ea]; exact hfr j f' hj
  refine (enter_raw f.g ab ao gp _ _ _ (.pointer none) w h2 h3 (hf.frozen _) (hf.frozen _) he (h.pool.frozen _) ha (ba.frozen _) n1 n2 ga).mono ?_
  rintro e w' ⟨rfl, rfl⟩
  have hup : ∀ {g : Nat} {t : TypeId} {cs : Array Value}, g ≠ f.g → Blk w g t cs → Blk ((((w.setCell ⟨f.g, 2, none⟩ (.pointer (some ⟨ab, ao, none⟩))).setCell ⟨f.g, 3, none⟩ (.pointer (some ⟨gp, 3, none⟩))).setCell ⟨ab, ao + 3, none⟩ (.pointer (some ⟨f.g, 0, none⟩))).setCell ⟨gp, 5, none⟩ (.pointer (some ⟨f.g, 0, none⟩))) g t
      (if g = gp then (if g = ab then cs.setIfInBounds (ao + 3) (.pointer (some ⟨f.g, 0, none⟩)) else cs).setIfInBounds 5 (.pointer (some ⟨f.g, 0, none⟩)) else (if g = ab then cs.setIfInBounds (ao + 3) (.pointer (some ⟨f.g, 0, none⟩)) else cs)) :=
    fun hg hb => ((((hb.far hg _).far hg _).upd ab (ao + 3) _).upd gp 5 _)
  have eab : (adr gp K K.length).block = ab ∧ (adr gp K K.length).off = ao := by rw [ea]; exact ⟨rfl, rfl⟩
  refine ⟨rfl, ⟨h.low, ?_, ?_, ?_⟩, ⟨?_, ?_, ?_⟩⟩
  · have hb := hup n2 h.pool
    have k1 := h.blk_pl K.length
    rw [eab.1] at k1
    rw [if_pos rfl] at hb
    have e1 : adr gp (K ++ [f]) (K ++ [f]).length = ⟨f.g, 0, none⟩ := by rw [adr_snoc, if_pos (by simp)]
    have e2 : adr gp (K ++ [f]) 1 = if K.length = 0 then ⟨f.g, 0, none⟩ else adr gp K 1 := by
      rw [adr_snoc]
      by_cases c : K.length = 0
      · rw [if_pos (by omega), if_pos c]
      · rw [if_neg (by omega), if_neg c]
    unfold plC
    rw [e1, e2]
    by_cases c : K.length = 0
    · have d1 : gp = ab := k1.2 (.inl c)
      have d3 : ao = 3 := by rw [← eab.2]; exact adr_off_pl _ (.inl c)
      subst d3
      rw [if_pos d1] at hb
      rw [if_pos c]
      exact hb
    · have d1 : ¬ gp = ab := fun e => by have := k1.1 e; omega
      rw [if_neg d1] at hb
      rw [if_neg c]
      exact hb
  · intro j f' hj
    rcases Nat.lt_or_ge j K.length with hlt | hge
    · rw [List.getElem?_append_left hlt] at hj
      refine ⟨?_, (h.fr j f' hj).2⟩
      have hb := hup (hfr j f' hj) (h.fr j f' hj).1
      have k1 := h.blk_fr hj K.length
      rw [eab.1] at k1
      rw [if_neg (h.ne hj)] at hb
      unfold frC
      rw [adr_snoc, adr_snoc, if_neg (by omega)]
      by_cases c : j + 1 = K.length
      · have d1 : f'.g = ab := k1.2 c.symm
        have d3 : ao = 0 := by rw [← eab.2, ← c]; exact adr_off_fr hj
        subst d3
        rw [if_pos d1] at hb
        rw [if_pos (by omega)]
        exact hb
      · have d1 : ¬ f'.g = ab := fun e => c (k1.1 e).symm
        rw [if_neg d1] at hb
        rw [if_neg (by omega)]
        exact hb
    · have hl := lt_of_at hj
      have : j = K.length := by simp at hl; omega
      subst this
      rw [List.getElem?_append_right (Nat.le_refl _), Nat.sub_self] at hj
      injection hj with hj
      subst hj
      refine ⟨?_, hlo⟩
      have hb := (((hf.set_ 2 (.pointer (some ⟨ab, ao, none⟩))).set_ 3 (.pointer (some ⟨gp, 3, none⟩))).far (p := ⟨ab, ao + 3, none⟩) (fun e => n1 e.symm) (.pointer (some ⟨f.g, 0, none⟩))).far (p := ⟨gp, 5, none⟩) (fun e => n2 e.symm) (.pointer (some ⟨f.g, 0, none⟩))
      unfold frC
      rw [adr_snoc, adr_snoc, if_neg (by omega), if_neg (by omega), ea, adr_past (by omega)]
      exact hb
  · intro j1 j2 f1 f2 hj1 hj2 hg
    have cs : ∀ (j : Nat) (f' : Fr), (K ++ [f])[j]? = some f' → (K[j]? = some f') ∨ (j = K.length ∧ f' = f) := by
      intro j f' hj
      rcases Nat.lt_or_ge j K.length with hlt | hge
      · rw [List.getElem?_append_left hlt] at hj; exact .inl hj
      · have hl := lt_of_at hj
        have : j = K.length := by simp at hl; omega
        subst this
        rw [List.getElem?_append_right (Nat.le_refl _), Nat.sub_self] at hj
        injection hj with hj
        exact .inr ⟨rfl, hj.symm⟩
    rcases cs j1 f1 hj1 with a | ⟨a, rfl⟩ <;> rcases cs j2 f2 hj2 with b | ⟨b, rfl⟩
    · exact h.inj _ _ _ _ a b hg
    · exact absurd hg (hfr _ _ a)
    · exact absurd hg.symm (hfr _ _ b)
    · omega
  · simp [World.setCell]
  · intro g hg hk
    have nf : g ≠ f.g := hk K.length f (by rw [List.getElem?_append_right (Nat.le_refl _), Nat.sub_self]; rfl)
    have na : g ≠ ab := by
      rcases adr_cases gp K K.length with ⟨e, _⟩ | ⟨j, f', _, hj, e⟩
      · rw [e] at eab; rw [← eab.1]; exact hg
      · rw [e] at eab; rw [← eab.1]; exact hk j f' (by rw [List.getElem?_append_left (lt_of_at hj)]; exact hj)
    rw [Below.heap_setCell _ _ _ _ hg, Below.heap_setCell _ _ _ _ na, Below.heap_setCell _ _ _ _ nf, Below.heap_setCell _ _ _ _ nf]
  · intro B w0 hB hb
    exact (((hb.setCell (show B ≤ (⟨f.g, 2, none⟩ : Addr).block from Nat.le_trans hB hlo) _).setCell (show B ≤ (⟨f.g, 3, none⟩ : Addr).block from Nat.le_trans hB hlo) _).setCell (show B ≤ (⟨ab, ao + 3, none⟩ : Addr).block from Nat.le_trans hB la) _).setCell (show B ≤ (⟨gp, 5, none⟩ : Addr).block from Nat.le_trans hB h.low) _
theorem Rg.below (h : Rg w lo gp K x0 x1 x2 x7 x8) {w' : World} (hb : Below w.heap.size w w') : Rg w' lo gp K x0 x1 x2 x7 x8 :=
  ⟨h.low, h.pool.below hb h.pool.lt, fun i f hi => ⟨(h.fr i f hi).1.below hb (h.fr i f hi).1.lt, (h.fr i f hi).2⟩, h.inj⟩
/-- Blocks of the ring stay, whatever other block turns. -/
theorem Rg.same (h : Rg w lo gp K x0 x1 x2 x7 x8) {w' : World} (h1 : w'.heap[gp]? = w.heap[gp]?) (h2 : ∀ (j : Nat) (f : Fr), K[j]? = some f → w'.heap[f.g]? = w.heap[f.g]?) : Rg w' lo gp K x0 x1 x2 x7 x8 :=
  ⟨h.low, h1.trans h.pool, fun i f hi => ⟨(h2 i f hi).trans (h.fr i f hi).1, (h.fr i f hi).2⟩, h.inj⟩
/-- Another value of the pool's own cells. -/
theorem Rg.put7 (h : Rg w lo gp K x0 x1 x2 x7 x8) (u : Value) : Rg (w.setCell ⟨gp, 7, none⟩ u) lo gp K x0 x1 x2 u x8 :=
  ⟨h.low, h.pool.set_ 7 u, fun i f hi => ⟨(h.fr i f hi).1.far (p := ⟨gp, 7, none⟩) (h.ne hi) u, (h.fr i f hi).2⟩, h.inj⟩
theorem Rg.put8 (h : Rg w lo gp K x0 x1 x2 x7 x8) (u : Value) : Rg (w.setCell ⟨gp, 8, none⟩ u) lo gp K x0 x1 x2 x7 u :=
  ⟨h.low, h.pool.set_ 8 u, fun i f hi => ⟨(h.fr i f hi).1.far (p := ⟨gp, 8, none⟩) (h.ne hi) u, (h.fr i f hi).2⟩, h.inj⟩
theorem run_neq_ptr_other {P : Program} (w : World) {tp te : TypeId} {j : TypeInfo} {a b : Addr} {ca cb : Array Value} {ta tb : TypeId} (hp : P.underlying tp = some (.pointer te)) (hte : P.info? te = some j) (hsz : j.size ≠ 0)
    (hne : a ≠ b) (ha : w.heap[a.block]? = some (.cells ca ta (0, 0))) (hb : w.heap[b.block]? = some (.cells cb tb (0, 0))) :
    (binOp .neq tp (.pointer (some a)) (.pointer (some b))).run P w = .ok (.bool true) w := by
  have h : ∀ d : Nat, (Op.equalIn (d + 1) tp (.pointer (some a)) (.pointer (some b))).run P w = .ok false w := fun d => by
    simp [Op.equalIn, run_underlying hp, sizeOf, typeInfo, hte, hsz, run_sameAddr_other w hne ha hb]
  simp only [binOp]
  simp [Op.equal, Op.maxDepth, h 9999]
theorem Try.infoFr : (Try.prog.info? 96).map (·.size) = some 4 := by kernel_rfl
def pgL (K : List Fr) : List Value := K.map fun f => .int .u32 f.p
theorem Try.infoU32 : (Try.prog.info? 36).map (fun i => (i.zero, i.size, i.bytes)) = some (some (.int .u32 0), 1, 4) := by kernel_rfl
def RetKept (w : World) (K : List Fr) (e : Ending) (w' : World) : Prop := ∃ A c, e = .returned (.slice A K.length c) ∧ w'.ownsRow w.heap.size 36 1 (.slice A K.length c) K.length (pgL K) ∧ Below w.heap.size w w'
end
end
end Go.Proofs.Ytdimkeoncgjegaa
/-
  Heads of pages: the program's Put.
-/
namespace Go.Proofs.Ytdimkeoncgjegaa
section
open Go.RowKit

theorem bV_set (l : List UInt8) (i : Nat) (b : UInt8) : (bV l).setIfInBounds i (.int .u8 (b.toNat : Int)) = bV (l.set i b) := by
  simp [bV, bL, List.map_set]
/-- A page with a head, as far as it is laid. -/
def headP (k : UInt8) (c n j : Nat) : List UInt8 := [k, 0] ++ be 2 c ++ (be 4 n).take j ++ List.replicate (508 - j) 0
def headL (k : UInt8) (c n : Nat) : List UInt8 := headP k c n 4
theorem headP_len (k : UInt8) (c n j : Nat) (h : j ≤ 4) : (headP k c n j).length = 512 := by
  unfold headP
  simp only [List.length_append, List.length_cons, List.length_nil, be_len, List.length_take, List.length_replicate]
  omega
theorem headP_set (k : UInt8) (c n j : Nat) (h : j < 4) : (headP k c n j).set (4 + j) (UInt8.ofNat (n / 256 ^ (3 - j))) = headP k c n (j + 1) := by
  unfold headP
  rw [be_take 4 n j h, show 508 - j = (508 - (j + 1)) + 1 from by omega, List.replicate_succ]
  have hl : ([k, 0] ++ be 2 c ++ (be 4 n).take j).length = 4 + j := by
    simp only [List.length_append, List.length_cons, List.length_nil, be_len, List.length_take]; omega
  rw [List.set_append_right _ _ (by omega), hl, Nat.sub_self, List.set_cons_zero, List.append_assoc, List.append_assoc, List.append_assoc, List.append_assoc, List.append_assoc]
  rfl
def z512 : List UInt8 := List.replicate 512 0
theorem rep512 : z512 = [0, 0, 0, 0] ++ List.replicate 508 0 := by
  unfold z512
  rw [show (512 : Nat) = 4 + 508 from rfl, ← List.replicate_append_replicate]
  rfl
theorem headP_zero (k : UInt8) (c n : Nat) : ((z512.set 0 k).set 2 (UInt8.ofNat (c / 256))).set 3 (UInt8.ofNat c) = headP k c n 0 := by
  rw [rep512]
  rfl
theorem headP_zero' (k : UInt8) (c n : Nat) : ((z512.set 0 k).set 3 (UInt8.ofNat c)).set 2 (UInt8.ofNat (c / 256)) = headP k c n 0 := by
  rw [rep512]
  rfl
theorem rep_at (i : Nat) (h : i < 512) : (bV z512)[i]? = some (.int .u8 0) := bV_at (x := 0) (by unfold z512; rw [List.getElem?_replicate, if_pos h])
theorem headP_at (k : UInt8) (c n j : Nat) (h : j < 4) : (bV (headP k c n j))[4 + j]? = some (.int .u8 0) := by
  refine bV_at (x := 0) ?_
  unfold headP
  have hl : ([k, 0] ++ be 2 c ++ (be 4 n).take j).length = 4 + j := by
    simp only [List.length_append, List.length_cons, List.length_nil, be_len, List.length_take]; omega
  rw [List.getElem?_append_right (by omega), hl, Nat.sub_self, show 508 - j = (508 - (j + 1)) + 1 from by omega, List.replicate_succ]
  rfl
theorem shr_byte4 (n j : Nat) (hj : j < 4) : (n : Int) / 2 ^ (24 - 8 * j) % 256 = ((UInt8.ofNat (n / 256 ^ (3 - j))).toNat : Int) := by
  have h2 : (2 : Int) ^ (24 - 8 * j) = ((256 ^ (3 - j) : Nat) : Int) := by
    rw [show 24 - 8 * j = 8 * (3 - j) from by omega, Int.pow_mul, Int.natCast_pow]
    rfl
  rw [h2, u8_nat, Int.natCast_ediv]
def RetHead (w : World) (k : UInt8) (c n : Nat) (e : Ending) (w' : World) : Prop := ∃ g, e = .returned (.slice (some ⟨g, 0, none⟩) 512 512) ∧ Blk w' g 5 (bV (headL k c n)) ∧ w.heap.size ≤ g ∧ Below w.heap.size w w'

set_option maxHeartbeats 1000000 in
theorem dput_any (k : UInt8) (c n : Nat) (hc : c < 65536) (hn : n < 4294967296) (w : World) : Calls Try.prog 41 #[.agg #[.int .u8 (k.toNat : Int), .int .u16 c, .int .u32 n]] w (RetHead w k c n) := by
  obtain ⟨i0, hi0, hz0, hs0, hy0⟩ := int_info8 Try.infoB
  have mk0 : ∀ W, (Instr.makeSlice 59 (.int .i64 512) (.int .i64 512)).run Try.prog W = .ok (.slice (some ⟨W.heap.size, 0, none⟩) 512 512) (W.alloc (.cells (bV z512) 5)) := by
    intro W
    have h := run_make (P := Try.prog) W 59 5 i0 (.int .u8 0) Try.underlying59 hi0 hz0 .i64 .i64 512 512 (by omega) (by omega) (by rw [hy0]; omega) (by omega)
    rw [hs0] at h
    have e : bV z512 = madeCells #[.int .u8 0] 512 := (zero_rep 1).symm
    rw [e]
    exact h
  clear hi0 hz0 hs0 hy0
  obtain ⟨arr, harr⟩ : ∃ arr, bV z512 = arr := ⟨_, rfl⟩
  have a0 : arr[0]? = some (.int .u8 0) := by rw [← harr]; exact rep_at 0 (by omega)
  have HA := Lib.hid harr
  rw [harr] at mk0
  clear harr
  have e1 : arr.setIfInBounds 0 (.int .u8 (k.toNat : Int)) = bV (z512.set 0 k) := by rw [← HA.out, bV_set]
  have X0 := (Blk.new w 109 #[.int .u8 (k.toNat : Int), .int .u16 c, .int .u32 n]).alloc (.cells (arr.setIfInBounds 0 (.int .u8 (k.toNat : Int))) 5)
  have hb0 : Below w.heap.size w ((w.alloc (.cells #[.int .u8 (k.toNat : Int), .int .u16 c, .int .u32 n] 109)).alloc (.cells (arr.setIfInBounds 0 (.int .u8 (k.toNat : Int))) 5)) := ball (ball (Below.refl _ _) _) _
  have B0 : Blk ((w.alloc (.cells #[.int .u8 (k.toNat : Int), .int .u16 c, .int .u32 n] 109)).alloc (.cells (arr.setIfInBounds 0 (.int .u8 (k.toNat : Int))) 5)) (w.heap.size + 1) 5 (arr.setIfInBounds 0 (.int .u8 (k.toNat : Int))) := Blk.newAt (by simp)
  have HB := Lib.hid (And.intro X0 (And.intro hb0 (And.intro B0 e1)))
  clear X0 B0 hb0 e1
  have hcI : (c : Int) < 65536 := by omega
  have hnI : (n : Int) < 4294967296 := by omega
  go_enter Try.func41, Try.ntmps41
  go_wp2
  obtain ⟨X0, hb0, B0, e1⟩ := HB.out
  obtain ⟨W0, hW0⟩ : ∃ W0, (w.alloc (.cells #[.int .u8 (k.toNat : Int), .int .u16 c, .int .u32 n] 109)).alloc (.cells (arr.setIfInBounds 0 (.int .u8 (k.toNat : Int))) 5) = W0 := ⟨_, rfl⟩
  rw [hW0] at X0 hb0 B0 ⊢
  rw [e1] at B0
  clear hW0 e1 mk0 a0
  have c1 := X0.cell 1
  have b2 : W0.cell? ⟨w.heap.size + 1, 2, none⟩ = some (.int .u8 0) := (B0.cell 2).trans (bV_at (x := 0) rfl)
  have b3 : W0.cell? ⟨w.heap.size + 1, 3, none⟩ = some (.int .u8 0) := (B0.cell 3).trans (bV_at (x := 0) rfl)
  have f2 := B0.frozen 2
  have f3 := B0.frozen 3
  have HB2 := Lib.hid (And.intro X0 (And.intro hb0 B0))
  clear X0 hb0 B0
  obtain ⟨X0, hb0, B0⟩ := HB2.out
  have B1 : Blk ((W0.setCell ⟨w.heap.size + 1, 2, none⟩ (.int .u8 ((c : Int) / 256))).setCell ⟨w.heap.size + 1, 3, none⟩ (.int .u8 ((c : Int) % 256))).drew (w.heap.size + 1) 5 (bV (headP k c n 0)) := by
    have v2 : (Value.int .u8 ((c : Int) / 256)) = .int .u8 ((UInt8.ofNat (c / 256)).toNat : Int) := val_int (by rw [u8_nat]; omega)
    have v3 : (Value.int .u8 ((c : Int) % 256)) = .int .u8 ((UInt8.ofNat c).toNat : Int) := val_int (by rw [u8_nat])
    rw [v2, v3, ← headP_zero, ← bV_set, ← bV_set]
    exact ((B0.set_ 2 _).set_ 3 _).drew
  have X1 := ((X0.far (p := ⟨w.heap.size + 1, 2, none⟩) (by simp) (.int .u8 ((c : Int) / 256))).far (p := ⟨w.heap.size + 1, 3, none⟩) (by simp) (.int .u8 ((c : Int) % 256))).drew
  have hb1 := (((hb0.setCell (show w.heap.size ≤ (⟨w.heap.size + 1, 2, none⟩ : Addr).block by simp) (.int .u8 ((c : Int) / 256))).setCell (show w.heap.size ≤ (⟨w.heap.size + 1, 3, none⟩ : Addr).block by simp) (.int .u8 ((c : Int) % 256)))).drew
  have HB3 := Lib.hid (And.intro X1 (And.intro hb1 B1))
  clear X0 hb0 B0 X1 hb1 B1
  go_region
  go_wp2
  obtain ⟨X1, hb1, B1⟩ := HB3.out
  obtain ⟨W1, hW1⟩ : ∃ W1, ((W0.setCell ⟨w.heap.size + 1, 2, none⟩ (.int .u8 ((c : Int) / 256))).setCell ⟨w.heap.size + 1, 3, none⟩ (.int .u8 ((c : Int) % 256))).drew = W1 := ⟨_, rfl⟩
  rw [hW1] at X1 hb1 B1 ⊢
  clear hW1 c1 b2 b3 f2 f3
  go_loopw [21] (fun iv wr => ∃ j : Nat, j ≤ 4 ∧ iv = .int .i64 j ∧ Blk wr (w.heap.size + 1) 5 (bV (headP k c n j)) ∧ Blk wr w.heap.size 109 #[.int .u8 (k.toNat : Int), .int .u16 c, .int .u32 n] ∧ Below w.heap.size w wr) (fun iv _ => 4 - (intOf iv).toNat)
  case atStart => exact ⟨0, by omega, rfl, B1, X1, hb1⟩
  case round =>
    clear X1 hb1 B1
    obtain ⟨j, hj, rfl, hB, hX, hb⟩ := hrel
    have q0 : (0 : Int) ≤ (j : Int) := by omega
    by_cases hlt : j < 4
    · have q1 : (j : Int) < 4 := by omega
      have c2 := hX.cell 2
      have b4 : wr.cell? ⟨w.heap.size + 1, 4 + j, none⟩ = some (.int .u8 0) := (hB.cell (4 + j)).trans (headP_at k c n j hlt)
      have f4 := hB.frozen (4 + j)
      have hv : Hid ((n : Int) / 2 ^ (24 - 8 * j) % 256 = ((UInt8.ofNat (n / 256 ^ (3 - j))).toNat : Int)) := shr_byte4 n j hlt
      go_wp2
      go_roundw
      case rel => exact ⟨j + 1, by omega, by go_num, by rw [← headP_set k c n j hlt, ← bV_set, ← hv.out]; exact hB.set_ _ _, hX.far (by simp) _, hb.setCell (by simp) _⟩
      case measure => simp [intOf]; omega
    · obtain rfl : j = 4 := by omega
      go_wp2
      go_ret
      exact ⟨_, rfl, hB, by omega, hb⟩
end
end Go.Proofs.Ytdimkeoncgjegaa
/-
  Numbers out of bytes, the high ones first (plain).
-/
namespace Go.Proofs.Ytdimkeoncgjegaa
section
open Go.RowKit

def beVal (l : List UInt8) : Nat := l.foldl (fun u x => 256 * u + x.toNat) 0
theorem snoc_ind {α : Type} {P : List α → Prop} (h0 : P []) (h1 : ∀ r x, P r → P (r ++ [x])) (l : List α) : P l := by
  have key : ∀ (m : List α), P m.reverse := by
    intro m
    induction m with
    | nil => exact h0
    | cons x r ih => rw [List.reverse_cons]; exact h1 _ _ ih
  have := key l.reverse
  rwa [List.reverse_reverse] at this
theorem beVal_snoc (l : List UInt8) (x : UInt8) : beVal (l ++ [x]) = 256 * beVal l + x.toNat := by simp [beVal, List.foldl_append]
theorem beVal_be : ∀ n u, beVal (be n u) = u % 256 ^ n
  | 0, u => by simp [be, beVal, Nat.mod_one]
  | n + 1, u => by
    rw [be, beVal_snoc, beVal_be n (u / 256), Nat.pow_succ, Nat.mul_comm (256 ^ n) 256, Nat.mod_mul]
    simp
    omega
theorem beVal_lt : ∀ l : List UInt8, beVal l < 256 ^ l.length := by
  intro l
  refine snoc_ind (P := fun l => beVal l < 256 ^ l.length) (by simp [beVal]) (fun r x ih => ?_) l
  · rw [beVal_snoc, List.length_append, List.length_singleton, Nat.pow_succ]
    have := x.toNat_lt
    omega
theorem be_beVal (l : List UInt8) : be l.length (beVal l) = l := by
  refine snoc_ind (P := fun l => be l.length (beVal l) = l) rfl (fun r x ih => ?_) l
  · rw [List.length_append, List.length_singleton, be, beVal_snoc]
    have h1 : (256 * beVal r + x.toNat) / 256 = beVal r := by have := x.toNat_lt; omega
    rw [h1, ih]
    congr 2
    apply UInt8.toNat_inj.1
    have := x.toNat_lt
    simp
theorem beVal_take {l : List UInt8} {j : Nat} {b : UInt8} (h : l[j]? = some b) : beVal (l.take (j + 1)) = 256 * beVal (l.take j) + b.toNat := by
  rw [List.take_add_one, h]; exact beVal_snoc _ _
theorem beVal_lt_of {l : List UInt8} {n : Nat} (h : l.length ≤ n) : beVal l < 256 ^ n := Nat.lt_of_lt_of_le (beVal_lt l) (Nat.pow_le_pow_right (by omega) h)
theorem or_nat (U : Nat) (b : UInt8) : 256 * U ||| b.toNat = 256 * U + b.toNat := by
  have hb := b.toNat_lt
  rw [show (256 : Nat) = 2 ^ 8 from rfl]
  exact (Nat.two_pow_add_eq_or_of_lt (i := 8) (b := b.toNat) (by omega) U).symm
theorem or_u16 (x b : UInt8) : bits .or .u16 ((x.toNat : Int) * 256) (b.toNat : Int) = ((256 * x.toNat + b.toNat : Nat) : Int) := by
  have hb := b.toNat_lt
  have hx := x.toNat_lt
  have h1 : (x.toNat : Int) * 256 = ((256 * x.toNat : Nat) : Int) := by omega
  rw [h1]
  show IntKind.u16.wrap ((BitVec.ofInt 16 ((256 * x.toNat : Nat) : Int) ||| BitVec.ofInt 16 (b.toNat : Int)).toNat : Int) = _
  have e1 : (BitVec.ofInt 16 ((256 * x.toNat : Nat) : Int)).toNat = 256 * x.toNat := by rw [BitVec.toNat_ofInt]; omega
  have e2 : (BitVec.ofInt 16 (b.toNat : Int)).toNat = b.toNat := by rw [BitVec.toNat_ofInt]; omega
  rw [BitVec.toNat_or, e1, e2, or_nat]
  simp [IntKind.wrap, IntKind.bits, IntKind.signed]; omega
theorem or_u32 (U : Nat) (b : UInt8) (hU : U < 16777216) : bits .or .u32 (IntKind.u32.wrap ((U : Int) * 256)) (b.toNat : Int) = ((256 * U + b.toNat : Nat) : Int) := by
  have hb := b.toNat_lt
  have h1 : IntKind.u32.wrap ((U : Int) * 256) = ((256 * U : Nat) : Int) := by simp [IntKind.wrap, IntKind.bits, IntKind.signed]; omega
  rw [h1]
  show IntKind.u32.wrap ((BitVec.ofInt 32 ((256 * U : Nat) : Int) ||| BitVec.ofInt 32 (b.toNat : Int)).toNat : Int) = _
  have e1 : (BitVec.ofInt 32 ((256 * U : Nat) : Int)).toNat = 256 * U := by rw [BitVec.toNat_ofInt]; omega
  have e2 : (BitVec.ofInt 32 (b.toNat : Int)).toNat = b.toNat := by rw [BitVec.toNat_ofInt]; omega
  rw [BitVec.toNat_or, e1, e2, or_nat]
  simp [IntKind.wrap, IntKind.bits, IntKind.signed]; omega
end
end Go.Proofs.Ytdimkeoncgjegaa
/-
  Cuts of a slice of bytes that reads as a list: equations for the walk, and what the cut reads as.
-/
namespace Go.Proofs.Ytdimkeoncgjegaa
section
open Go.RowKit

theorem Try.elemB : Try.prog.elem 59 = 5 := by kernel_rfl
theorem Try.sizeB (W : World) : (Go.sizeOf 5).run Try.prog W = .ok 1 W := by kernel_rfl
theorem map_add0 (A : Option Addr) : A.map (fun x => x.add 0) = A := by cases A <;> simp [Addr.add]
section
variable {w0 : World} {B : Nat} {A : Option Addr} {n c : Nat} {l : List UInt8}
theorem Try.sliceB : Try.prog.underlying 59 = some (.slice (Try.prog.elem 59)) := by rw [Try.elemB]; exact Try.underlying59
/-- s[i:]. -/
theorem cutb_lo (k : IntKind) (i : Nat) (x : Int) (hx : x = i) (h : i ≤ n) (hc : n ≤ c) : ∃ A', (∀ W, (Instr.slice 59 (.slice A n c) (some (.int k x)) none none).run Try.prog W = .ok (.slice A' (n - i) (c - i)) W) ∧
    (∀ W B l, Reads W B 1 A n (bL l) → Reads W B 1 A' (n - i) (bL (l.drop i))) := by
  subst hx
  refine ⟨if c = i then A else A.map (·.add (i * 1)), fun W => ?_, fun W B l hr => ?_⟩
  · rw [run_slice_l W 59 A n c Try.sliceB k (i : Int) (by omega) (by omega), Try.elemB, Try.sizeB]
    simp [sliced, Result.andThen]
  · have := hr.cut (k := i) (cap := c) h hc
    rw [Nat.mul_one] at this ⊢
    have e : bL (l.drop i) = (bL l).drop i := by simp [bL, List.map_drop]
    rw [e]
    exact this
/-- s[:j]. -/
theorem cutb_hi (k : IntKind) (j : Nat) (x : Int) (hx : x = j) (h : j ≤ n) (hc : n ≤ c) : ∃ A', (∀ W, (Instr.slice 59 (.slice A n c) none (some (.int k x)) none).run Try.prog W = .ok (.slice A' j c) W) ∧
    (∀ W B l, Reads W B 1 A n (bL l) → Reads W B 1 A' j (bL (l.take j))) := by
  subst hx
  refine ⟨A, fun W => ?_, fun W B l hr => ?_⟩
  · rw [run_slice_h W 59 A n c Try.sliceB k (j : Int) (by omega) (by omega), Try.elemB, Try.sizeB]
    simp [sliced, Result.andThen, map_add0]
  · have := hr.takec j h
    rw [Nat.mul_one] at this
    have e : bL (l.take j) = (bL l).take j := by simp [bL, List.map_take]
    rw [e]
    exact this
/-- s[i:j]. -/
theorem cutb_mid (k k' : IntKind) (i j : Nat) (x y : Int) (hx : x = i) (hy : y = j) (h0 : i ≤ j) (h : j ≤ n) (hc : n ≤ c) : ∃ A', (∀ W, (Instr.slice 59 (.slice A n c) (some (.int k x)) (some (.int k' y)) none).run Try.prog W = .ok (.slice A' (j - i) (c - i)) W) ∧
    (∀ W B l, Reads W B 1 A n (bL l) → Reads W B 1 A' (j - i) (bL ((l.drop i).take (j - i)))) := by
  subst hx hy
  refine ⟨if c = i then A else A.map (·.add (i * 1)), fun W => ?_, fun W B l hr => ?_⟩
  · rw [run_slice_lh W 59 A n c Try.sliceB k k' (i : Int) (j : Int) (by omega) (by omega) (by omega), Try.elemB, Try.sizeB]
    simp [sliced, Result.andThen]
  · have h1 := hr.cut (k := i) (cap := c) (by omega) hc
    have h2 := h1.takec (j - i) (by omega)
    rw [Nat.mul_one, Nat.mul_one] at h2
    have e : bL ((l.drop i).take (j - i)) = ((bL l).drop i).take (j - i) := by simp [bL, List.map_drop, List.map_take]
    rw [e, Nat.mul_one]
    exact h2
theorem Reads.byte {w : World} {k : Nat} (hr : Reads w B 1 A n (bL l)) (hk : k < n) : ∃ ad b, A = some ad ∧ ad.block < B ∧ l[k]? = some b ∧ w.cell? (ad.add k) = some (.int .u8 (b.toNat : Int)) := by
  obtain ⟨ad, u, e, hb, hu, hc⟩ := hr.at_ hk
  unfold bL at hu
  rw [List.getElem?_map] at hu
  obtain ⟨b, h1, rfl⟩ := Option.map_eq_some_iff.1 hu
  exact ⟨ad, b, e, hb, h1, hc⟩
theorem Reads.bytes_len {w : World} (hr : Reads w B 1 A n (bL l)) : l.length = n := by have := hr.1; rw [bL_len] at this; omega
end
end
end Go.Proofs.Ytdimkeoncgjegaa
/-
  Heads of pages: the program's Get.
-/
namespace Go.Proofs.Ytdimkeoncgjegaa
section
open Go.RowKit

def hdOk (l : List UInt8) : Bool := l.length == 512 && l[1]? == some 0
def hdK (l : List UInt8) : Nat := (l.getD 0 0).toNat
def hdC (l : List UInt8) : Nat := beVal ((l.drop 2).take 2)
def hdN (l : List UInt8) : Nat := beVal ((l.drop 4).take 4)
def hdV (l : List UInt8) : Value := if hdOk l then .agg #[.int .u8 (hdK l : Int), .int .u16 (hdC l : Int), .int .u32 (hdN l : Int)] else .agg #[.int .u8 0, .int .u16 0, .int .u32 0]
def RetHd (w : World) (l : List UInt8) (e : Ending) (w' : World) : Prop := e = .returned (.tuple #[hdV l, .bool (hdOk l)]) ∧ Below w.heap.size w w'
theorem hdC_eq {l : List UInt8} {x y : UInt8} (h2 : l[2]? = some x) (h3 : l[3]? = some y) : hdC l = 256 * x.toNat + y.toNat := by
  unfold hdC
  have e : (l.drop 2).take 2 = [x, y] := by
    have hl := lt_of_at h3
    rw [List.drop_eq_getElem_cons (by omega), List.drop_eq_getElem_cons (by omega)]
    rw [List.getElem?_eq_getElem (by omega)] at h2 h3
    injection h2 with h2; injection h3 with h3
    simp [h2, h3]
  rw [e]
  simp [beVal]
theorem hdN_take {l : List UInt8} {j : Nat} {b : UInt8} (h : l[4 + j]? = some b) : beVal ((l.drop 4).take (j + 1)) = 256 * beVal ((l.drop 4).take j) + b.toNat :=
  beVal_take (by rw [List.getElem?_drop]; exact h)

set_option maxRecDepth 100000 in
set_option maxHeartbeats 2000000 in
theorem dget_any (A : Option Addr) (n c B : Nat) (l : List UInt8) (w : World) (hr : Reads w B 1 A n (bL l)) (hB : B ≤ w.heap.size) (hn : n ≤ 1000000000) :
    Calls Try.prog 59 #[.slice A n c] w (RetHd w l) := by
  have hl := hr.bytes_len
  by_cases h5 : n = 512
  rotate_left
  · have ho : hdOk l = false := by unfold hdOk; rw [hl]; simp [h5]
    have hv : hdV l = .agg #[.int .u8 0, .int .u16 0, .int .u32 0] := by unfold hdV; rw [ho]; rfl
    have HH := Lib.hid (And.intro ho hv)
    have e1 : (n == 512) = false := by simpa using h5
    have e2 : ((n : Int) == 512) = false := by simp; omega
    have e3 : (n != 512) = true := by simpa using h5
    have e4 : ((n : Int) != 512) = true := by simp; omega
    clear ho hv hr hl h5
    go_enter Try.func59, Try.ntmps59
    go_wp2
    exact bodyPost_ret (v := .tuple #[.agg #[.int .u8 0, .int .u16 0, .int .u32 0], .bool false]) (by simp [results, Try.results59, go_sem]) rfl ⟨by rw [HH.out.1, HH.out.2], ball (Below.refl _ _) _⟩
  · subst h5
    obtain ⟨ad, x1, rfl, hb, hx1, c1⟩ := hr.byte (k := 1) (by omega)
    have hby : ∀ i, i < 512 → ∃ b, l[i]? = some b ∧ w.cell? (ad.add i) = some (.int .u8 (b.toNat : Int)) := by
      intro i hi
      obtain ⟨ad', b, e, _, h1, h2⟩ := hr.byte (k := i) hi
      injection e with e
      subst e
      exact ⟨b, h1, h2⟩
    have da : ∀ i o, i < 512 → (w.alloc o).cell? (ad.add i) = w.cell? (ad.add i) := fun i o _ => World.cell?_alloc_lt w o _ (by rw [block_of_add]; omega)
    have d1 : ∀ o, (w.alloc o).cell? ⟨ad.block, ad.off + 1, none⟩ = some (.int .u8 (x1.toNat : Int)) := fun o => (da 1 o (by omega)).trans c1
    by_cases hz : x1 = 0
    rotate_left
    · have hz' : ¬ x1.toNat = 0 := fun e => hz (UInt8.toNat_inj.1 e)
      have ho : hdOk l = false := by unfold hdOk; rw [hx1]; simp [hz]
      have hv : hdV l = .agg #[.int .u8 0, .int .u16 0, .int .u32 0] := by unfold hdV; rw [ho]; rfl
      have HH := Lib.hid (And.intro ho hv)
      have e1 : (x1.toNat == 0) = false := by simpa using hz'
      have e2 : ((x1.toNat : Int) == 0) = false := by simp; omega
      have e3 : (x1.toNat != 0) = true := by simpa using hz'
      have e4 : ((x1.toNat : Int) != 0) = true := by simp; omega
      clear ho hv hr hl hby da c1 hx1 hz hz'
      go_enter Try.func59, Try.ntmps59
      go_wp2
      exact bodyPost_ret (v := .tuple #[.agg #[.int .u8 0, .int .u16 0, .int .u32 0], .bool false]) (by simp [results, Try.results59, go_sem]) rfl ⟨by rw [HH.out.1, HH.out.2], ball (Below.refl _ _) _⟩
    · subst hz
      have ho : hdOk l = true := by unfold hdOk; rw [hl, hx1]; rfl
      obtain ⟨x0, h0, c0⟩ := hby 0 (by omega)
      obtain ⟨x2, h2, c2⟩ := hby 2 (by omega)
      obtain ⟨x3, h3, c3⟩ := hby 3 (by omega)
      have hK : hdK l = x0.toNat := by unfold hdK; rw [List.getD_eq_getElem?_getD, h0]; rfl
      have hC := hdC_eq h2 h3
      have hv : hdV l = .agg #[.int .u8 (x0.toNat : Int), .int .u16 ((256 * x2.toNat + x3.toNat : Nat) : Int), .int .u32 (hdN l : Int)] := by unfold hdV; rw [ho, if_pos rfl, hK, hC]
      have HH := Lib.hid (And.intro ho hv)
      have d0 : ∀ o, (w.alloc o).cell? ad = some (.int .u8 (x0.toNat : Int)) := fun o => by have := (da 0 o (by omega)).trans c0; simpa [Addr.add] using this
      have d2 : ∀ o, (w.alloc o).cell? ⟨ad.block, ad.off + 2, none⟩ = some (.int .u8 (x2.toNat : Int)) := fun o => (da 2 o (by omega)).trans c2
      have d3 : ∀ o, (w.alloc o).cell? ⟨ad.block, ad.off + 3, none⟩ = some (.int .u8 (x3.toNat : Int)) := fun o => (da 3 o (by omega)).trans c3
      have dd : ∀ (p : Addr) v, (∀ o, (w.alloc o).cell? p = some v) → p.block < w.heap.size → ∀ o o', ((w.alloc o).alloc o').cell? p = some v := fun p v h hp o o' => (World.cell?_alloc_lt _ o' p (by simp; omega)).trans (h o)
      have d0' := dd _ _ d0 (by omega)
      have d2' := dd _ _ d2 (by show ad.block < _; omega)
      have d3' := dd _ _ d3 (by show ad.block < _; omega)
      clear dd
      have o16 := or_u16 x2 x3
      obtain ⟨C, hC'⟩ : ∃ C : Nat, 256 * x2.toNat + x3.toNat = C := ⟨_, rfl⟩
      rw [hC'] at o16 HH
      clear hC'
      have b3 : (x3.toNat : Int) ≤ 255 := by have := x3.toNat_lt; omega
      have b2 : (x2.toNat : Int) ≤ 255 := by have := x2.toNat_lt; omega
      have HY := Lib.hid hby
      clear ho hv hby h0 h2 h3 c0 c1 c2 c3 hK hC da hx1
      go_enter Try.func59, Try.ntmps59
      go_wp2
      go_region
      go_wp2
      have XR := ((Blk.new w 109 #[.int .u8 0, .int .u16 0, .int .u32 0]).alloc (.cells #[.int .u8 (x0.toNat : Int), .int .u16 (C : Int), .int .u32 0] 109)).drew
      have XH : Blk ((w.alloc (.cells #[.int .u8 0, .int .u16 0, .int .u32 0] 109)).alloc (.cells #[.int .u8 (x0.toNat : Int), .int .u16 (C : Int), .int .u32 0] 109)).drew (w.heap.size + 1) 109 #[.int .u8 (x0.toNat : Int), .int .u16 (C : Int), .int .u32 0] := (Blk.newAt (by simp)).drew
      have hbw : Below w.heap.size w ((w.alloc (.cells #[.int .u8 0, .int .u16 0, .int .u32 0] 109)).alloc (.cells #[.int .u8 (x0.toNat : Int), .int .u16 (C : Int), .int .u32 0] 109)).drew := (ball (ball (Below.refl _ _) _) _).drew
      obtain ⟨W0, hW0⟩ : ∃ W0, ((w.alloc (.cells #[.int .u8 0, .int .u16 0, .int .u32 0] 109)).alloc (.cells #[.int .u8 (x0.toNat : Int), .int .u16 (C : Int), .int .u32 0] 109)).drew = W0 := ⟨_, rfl⟩
      rw [hW0] at XR XH hbw ⊢
      clear hW0 d0 d2 d3 d0' d2' d3' o16 d1 b2 b3
      go_loopw [30] (fun iv wr => ∃ j : Nat, j ≤ 4 ∧ iv = .int .i64 j ∧ Blk wr (w.heap.size + 1) 109 #[.int .u8 (x0.toNat : Int), .int .u16 (C : Int), .int .u32 ((beVal ((l.drop 4).take j) : Nat) : Int)] ∧ Blk wr w.heap.size 109 #[.int .u8 0, .int .u16 0, .int .u32 0] ∧ Below w.heap.size w wr) (fun iv _ => 4 - (intOf iv).toNat)
      case atStart => exact ⟨0, by omega, rfl, XH, XR, hbw⟩
      case round =>
        clear XH XR hbw
        obtain ⟨j, hj, rfl, hX, hR, hbr⟩ := hrel
        have q0 : (0 : Int) ≤ (j : Int) := by omega
        by_cases hlt : j < 4
        · have q1 : (j : Int) < 4 := by omega
          obtain ⟨b, hb4, cb⟩ := HY.out (4 + j) (by omega)
          have hN := Lib.hid (hdN_take hb4)
          have cb' : wr.cell? (ad.add (4 + j)) = some (.int .u8 (b.toNat : Int)) := (hbr.cell (p := ad.add (4 + j)) (by rw [block_of_add]; omega)).trans cb
          have hU := beVal_lt_of (l := (l.drop 4).take j) (n := 3) (by rw [List.length_take]; omega)
          have hor := Lib.hid (or_u32 (beVal ((l.drop 4).take j)) b (by omega))
          obtain ⟨U, hUe⟩ : ∃ U, beVal ((l.drop 4).take j) = U := ⟨_, rfl⟩
          rw [hUe] at hX hN hor hU
          have c2 := hX.cell 2
          have f2 := hX.frozen 2
          have xb : (b.toNat : Int) ≤ 255 := by have := b.toNat_lt; omega
          have xb0 : (0 : Int) ≤ (b.toNat : Int) := by omega
          have HX := Lib.hid hX
          have hs4 := Lib.hid (hX.set_ 2 (.int .u32 (bits .or .u32 (IntKind.u32.wrap ((U : Int) * 256)) (b.toNat : Int)))).drew
          clear hb4 cb hU hUe hX
          go_wp2
          go_region
          go_wp2
          go_roundw
          case rel => exact ⟨j + 1, by omega, by go_num, by rw [hN.out, ← hor.out]; exact hs4.out, (hR.far (by simp) _).drew, (hbr.setCell (by simp) _).drew⟩
          case measure => simp [intOf]; omega
        · obtain rfl : j = 4 := by omega
          have c0 := hX.cell 0; have c1 := hX.cell 1; have c2 := hX.cell 2
          have r0 := hR.cell 0; have r1 := hR.cell 1; have r2 := hR.cell 2
          have f0 := hR.frozen 0; have f1 := hR.frozen 1; have f2 := hR.frozen 2
          have HU : Hid (hdN l = beVal ((l.drop 4).take 4)) := Lib.hid rfl
          go_wp2
          exact bodyPost_ret (v := .tuple #[.agg #[.int .u8 (x0.toNat : Int), .int .u16 (C : Int), .int .u32 ((beVal ((l.drop 4).take 4) : Nat) : Int)], .bool true]) (by simp [results, Try.results59, go_sem, r0, r1, r2]) rfl ⟨by rw [HH.out.1, HH.out.2, HU.out], by repeat (first | exact hbr | refine Below.setCell ?_ (show w.heap.size ≤ w.heap.size from Nat.le_refl _) _)⟩
end
end Go.Proofs.Ytdimkeoncgjegaa
