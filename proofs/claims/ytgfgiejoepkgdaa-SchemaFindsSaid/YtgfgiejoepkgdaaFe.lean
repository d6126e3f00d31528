/-
  Kinds, Find.
-/
import Derived.Test.YtgfgiejoepkgdaaFd
set_option linter.unusedSimpArgs false
set_option linter.unusedVariables false
namespace Go.Proofs.Ytgfgiejoepkgdaa
open Go.RowKit

def kB (c : Cl) : UInt8 := UInt8.ofNat c.k.toNat
theorem kB_u {c : Cl} (h : c.ok) : c.k = ((kB c).toNat : Int) := by
  have h0 := h.2.1; have h1 := h.2.2
  unfold kB
  rw [UInt8.toNat_ofNat']
  omega
@[reducible] def Tb.agg (t : Tb) : Value := .agg #[.string t.nm, .slice t.A t.n t.c, .int .u32 t.f, .int .i64 t.r, .int .i64 t.p]
/-- The kinds of a table's columns. -/
def RetKinds (w : World) (l : List UInt8) (e : Ending) (w' : World) : Prop := ∃ A c, e = .returned (.slice A l.length c) ∧ Own w' w.heap.size (.slice A l.length c) l ∧ Below w.heap.size w w'
set_option maxHeartbeats 1000000 in
theorem kinds_any (t : Tb) (w : World) (ht : TbIn w w.heap.size t) (hn : t.n ≤ 3000) : Calls Try.prog 6 #[t.agg] w (RetKinds w (t.cols.map kB)) := by
  obtain ⟨hz0, hz1, hcr, hcs⟩ := ht
  have hln : t.cols.length = t.n := by have := hcr.1; rw [vC_len] at this; omega
  obtain ⟨nm, A, n, c, f, rr, p, cols⟩ := t
  simp only at hcr hcs hln hn
  have nI : (n : Int) ≤ 3000 := by omega
  have HC := Lib.hid (And.intro hcr (And.intro hcs hln))
  clear hz0 hz1 hcr hcs hln
  go_enter Try.func6, Try.ntmps6
  go_wp2
  go_loopw [3, 9] (fun u v wr => ∃ k : Nat, k ≤ n ∧ v = .int .i64 k ∧ Own wr w.heap.size u ((cols.take k).map kB) ∧ Below w.heap.size w wr) (fun _ v _ => n - (intOf v).toNat)
  case atStart => exact ⟨0, by omega, rfl, Own.nil _ _, ball (Below.refl _ _) _⟩
  case round =>
    obtain ⟨k, hk, rfl, own, hb⟩ := hrel
    have k0 : (0 : Int) ≤ (k : Int) := by omega
    by_cases hkn : k < n
    · have k1 : (k : Int) < (n : Int) := by omega
      obtain ⟨ad, q, rfl, hab, hq, f0, f1, f2, f3⟩ := (HC.out.1.below hb).cl_ hkn
      have hqok := HC.out.2.1 q (List.mem_of_getElem? hq)
      have hu := kB_u hqok
      have htk : (cols.take (k + 1)).map kB = (cols.take k).map kB ++ [kB q] := by rw [List.take_add_one, hq]; simp
      have hlk : ((cols.take k).map kB).length = k := by rw [List.length_map, List.length_take]; have := HC.out.2.2; omega
      have HQ := Lib.hid (And.intro htk (And.intro hlk hu))
      have hbz := hb.size
      clear hqok hu htk hlk hq
      go_wp2_with (at_builtin; refine wpList_pushB rfl _ _ rfl w.heap.size _ ((cols.take k).map kB) (kB q) _ rfl (own.alloc _) _ rfl (by simp) HQ.out.2.2 (by rw [HQ.out.2.1]; omega) (by simp; omega) ?_; intro v2 w2 own2 kp2)
      exact ⟨⟨k + 1, by omega, by go_num, by rw [HQ.out.1]; exact own2, kp2.below _ _ (Nat.le_refl _) (ball hb _)⟩, by simp [intOf]; omega⟩
    · obtain rfl : k = n := by omega
      have hlk : ((cols.take k).map kB) = cols.map kB := by rw [List.take_of_length_le (by have := HC.out.2.2; omega)]
      rw [hlk] at own
      obtain ⟨A2, c2, rfl, _⟩ := own.form
      have HO := Lib.hid (And.intro own hb)
      clear own hb hlk
      go_wp2
      go_ret
      exact ⟨A2, c2, rfl, HO.out.1, HO.out.2⟩
theorem Blk.newAt12 {w : World} {t : TypeId} {cs : Array Value} {g : Nat} (h : g = w.heap.size) : Blk (w.alloc (.cells cs t)) g t cs := by subst h; exact Blk.new _ _ _
theorem beq_bytes12 (a b : ByteArray) (h : a.toList = b.toList) : a = b := by
  rw [ByteArray.toList_eq, ByteArray.toList_eq] at h
  obtain ⟨⟨a⟩⟩ := a
  obtain ⟨⟨b⟩⟩ := b
  simp at h
  rw [h]
/-- The first table of a name; -1, if there is none. -/
def fstT (nm : ByteArray) : List Tb → Nat → Int
  | [], _ => -1
  | t :: r, k => if t.nm = nm then k else fstT nm r (k + 1)
theorem fstT_at {nm : ByteArray} {l : List Tb} {k : Nat} {t : Tb} (h : l[k]? = some t) : fstT nm (l.drop k) k = if t.nm = nm then (k : Int) else fstT nm (l.drop (k + 1)) (k + 1) := by
  have hk : k < l.length := (List.getElem?_eq_some_iff.1 h).1
  rw [List.drop_eq_getElem_cons hk]
  rw [List.getElem?_eq_getElem hk] at h
  injection h with h
  rw [h]
  rfl
theorem nm_cases (a b : ByteArray) : (a = b ∧ (a.toList == b.toList) = true) ∨ (a ≠ b ∧ (a.toList == b.toList) = false) := by
  by_cases h : a = b
  · exact .inl ⟨h, by rw [h]; simp⟩
  · refine .inr ⟨h, ?_⟩
    simp only [beq_eq_false_iff_ne]
    exact fun e => h (beq_bytes12 a b e)
set_option maxHeartbeats 1000000 in
theorem idx_any (A : Option Addr) (n c : Nat) (l : List Tb) (nm : ByteArray) (g : Nat) (w : World) (hr : Reads w w.heap.size 5 A n (vTb l)) (hn : n ≤ 2199023255552) (hg : w.cell? ⟨g, 0, none⟩ = some (.string nm)) (hgl : g < w.heap.size) :
    Calls Try.prog 10 #[.slice A n c, .func (.func 11) #[] #[.pointer (some ⟨g, 0, none⟩)]] w fun e w' => e = .returned (.int .i64 (fstT nm l 0)) ∧ Below w.heap.size w w' := by
  have hln : l.length = n := by have := hr.1; rw [vTb_len] at this; omega
  have nI : (n : Int) ≤ 2199023255552 := by omega
  have HR := Lib.hid (And.intro hr (And.intro hg hln))
  clear hr hg hln hn
  go_enter Try.func10, Try.ntmps10
  go_wp2
  go_loopw [8] (fun v wr => ∃ k : Nat, k ≤ n ∧ v = .int .i64 k ∧ Below w.heap.size w wr ∧ fstT nm l 0 = fstT nm (l.drop k) k) (fun v _ => n - (intOf v).toNat)
  case atStart => exact ⟨0, by omega, rfl, Below.refl _ _, rfl⟩
  case round =>
    obtain ⟨k, hk, rfl, hb, hf⟩ := hrel
    have HF := Lib.hid (And.intro hb hf)
    have k0 : (0 : Int) ≤ (k : Int) := by omega
    have hgr : wr.cell? ⟨g, 0, none⟩ = some (.string nm) := (hb.cell (p := ⟨g, 0, none⟩) hgl).trans HR.out.2.1
    by_cases hkn : k < n
    · have k1 : (k : Int) < (n : Int) := by omega
      obtain ⟨ad, t, rfl, hab, ht, d0, d1, d2, d3, d4⟩ := (HR.out.1.below hb).tb_ hkn
      have hst := fstT_at (nm := nm) ht
      have hgl2 : g < wr.heap.size := by have := hb.size; omega
      have hgr' : ∀ o, (wr.alloc o).cell? ⟨g, 0, none⟩ = some (.string nm) := fun o => Lib.cell?_alloc_some _ hgr
      clear hb hf ht
      rcases nm_cases t.nm nm with ⟨h1, h2⟩ | ⟨h1, h2⟩
      · rw [if_pos h1] at hst
        have HS := Lib.hid hst
        clear hst h1
        go_wp2
        go_ret
        exact ⟨by rw [HF.out.2, HS.out]; rfl, ball HF.out.1 _⟩
      · rw [if_neg h1] at hst
        have HS := Lib.hid hst
        clear hst h1
        go_wp2
        exact ⟨⟨k + 1, by omega, by go_num, ball HF.out.1 _, by rw [HF.out.2, HS.out]⟩, by simp [intOf]; omega⟩
    · obtain rfl : k = n := by omega
      have he : fstT nm (l.drop k) k = -1 := by rw [List.drop_eq_nil_of_le (by have := HR.out.2.2; omega)]; rfl
      have HE := Lib.hid he
      clear he hf hb
      go_wp2
      go_ret
      exact ⟨by rw [HF.out.2, HE.out]; rfl, HF.out.1⟩
theorem find_any (A : Option Addr) (n c : Nat) (l : List Tb) (B : Value) (nm : ByteArray) (w : World) (hr : Reads w w.heap.size 5 A n (vTb l)) (hn : n ≤ 2199023255552) :
    Calls Try.prog 7 #[.agg #[.slice A n c, B], .string nm] w (RetB w (.int .i64 (fstT nm l 0))) := by
  have hb : Below w.heap.size w ((w.alloc (.cells #[.slice A n c, B] 25)).alloc (.cells #[.string nm] 9)) := ball (ball (Below.refl _ _) _) _
  have I := idx_any A n c l nm (w.heap.size + 1) ((w.alloc (.cells #[.slice A n c, B] 25)).alloc (.cells #[.string nm] 9)) ((hr.below hb).more hb.size) hn (by
    have h := (Blk.newAt12 (w := w.alloc (.cells #[.slice A n c, B] 25)) (t := 9) (cs := #[.string nm]) (g := w.heap.size + 1) (by simp)).cell 0
    exact h) (by simp)
  have HI := Lib.hid (And.intro I hb)
  clear I hb hr hn
  go_enter Try.func7, Try.ntmps7
  go_wp2_with fail
  refine HI.out.1.mono ?_
  rintro e w1 ⟨rfl, hb1⟩
  go_wp2
  go_ret
  exact ⟨rfl, bto0 HI.out.2 hb1⟩
end Go.Proofs.Ytgfgiejoepkgdaa
