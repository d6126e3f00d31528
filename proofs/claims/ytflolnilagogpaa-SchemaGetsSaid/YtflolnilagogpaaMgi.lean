/-
  Several texts in one: Ih.
-/
import Derived.Test.YtflolnilagogpaaMgh
/-
  The reference's Put.
-/
namespace Go.Proofs.Ytflolnilagogpaa
section
set_option linter.unusedSimpArgs false
set_option linter.unusedVariables false
open Go.RowKit

def putL (ts : List PT) (i : Nat) : List UInt8 := oneB ts.length ++ (ts.take i).flatMap tabB
def headL (t : PT) (k : Nat) : List UInt8 := txtB t.nm ++ oneB t.cols.length ++ (t.cols.take k).flatMap colB
def putX (ts : List PT) (xs : List PX) (i : Nat) : List UInt8 := putL ts ts.length ++ oneB xs.length ++ (xs.take i).flatMap idxB
def hdX (x : PX) (k : Nat) : List UInt8 := txtB x.nm ++ oneB x.tb ++ oneB x.cs.length ++ (x.cs.take k).flatMap oneB
def hdZ (x : PX) (k : Nat) : List UInt8 := hdX x x.cs.length ++ fourB x.root ++ fourB x.lv ++ fourB x.hi ++ (x.ds.take k).flatMap fourB
theorem headL_len {t : PT} (h : MayT t) (k : Nat) (hk : k ≤ 16) : (headL t k).length ≤ 600 := by
  have h1 := nb_facts h.1
  have h2 := flat_le colB 34 (t.cols.take k) (fun c hc => by
    obtain ⟨i, hi, he⟩ := List.mem_iff_getElem.1 (List.mem_of_mem_take hc)
    exact col_len (h.2.2.2.2.2.2 i hi c (by rw [List.getElem?_eq_getElem hi, he])).1)
  have h3 : (t.cols.take k).length ≤ 16 := by rw [List.length_take]; omega
  unfold headL
  simp only [List.length_append, txt_len, one_len]
  omega
theorem hdX_len {ts : List PT} {x : PX} (h : MayX ts x) (k : Nat) : (hdX x k).length ≤ 50 := by
  have h1 := nb_facts h.1
  have h2 := flat_le oneB 1 (x.cs.take k) (fun c hc => Nat.le_refl _)
  have h3 := h.2.2.2.2.1
  have h4 : (x.cs.take k).length ≤ 2 := by rw [List.length_take]; omega
  unfold hdX
  simp only [List.length_append, txt_len, one_len]
  omega
theorem hdZ_len {ts : List PT} {x : PX} (h : MayX ts x) (k : Nat) : (hdZ x k).length ≤ 100 := by
  have h1 := hdX_len h x.cs.length
  have h2 := flat_le fourB 4 (x.ds.take k) (fun c hc => by rw [four_len]; omega)
  have h3 := h.2.2.2.2.1
  have h5 := h.2.2.2.2.2.1
  have h4 : (x.ds.take k).length ≤ 2 := by rw [List.length_take]; omega
  unfold hdZ
  simp only [List.length_append, four_len]
  omega
theorem flat_take {α : Type} (f : α → List UInt8) {l : List α} {i : Nat} {a : α} (h : l[i]? = some a) : (l.take (i + 1)).flatMap f = (l.take i).flatMap f ++ f a := by
  rw [List.take_add_one, h]
  simp
theorem take_le {α : Type} (f : α → List UInt8) (K : Nat) (l : List α) (i : Nat) (h : ∀ a ∈ l, (f a).length ≤ K) (hi : i ≤ 16) : ((l.take i).flatMap f).length ≤ K * 16 := by
  have h1 := flat_le f K (l.take i) fun a ha => h a (List.mem_of_mem_take ha)
  have h2 : (l.take i).length ≤ 16 := by rw [List.length_take]; omega
  exact Nat.le_trans h1 (Nat.mul_le_mul_left K h2)
theorem str_le {l : List UInt8} {n : Nat} (h : l.length ≤ n) : (str l).size ≤ n := by rw [str_size]; exact h
/-- Three strings put together. -/
theorem sum3 {a b c : ByteArray} (ha : a.size ≤ 20000) (hb : b.size ≤ 20000) (hc : c.size ≤ 20000) : ¬ 9223372036854775807 < a.size + b.size ∧ ¬ 9223372036854775807 < a.size + b.size + c.size := by omega
theorem sum4 {a b c d : ByteArray} (ha : a.size ≤ 20000) (hb : b.size ≤ 20000) (hc : c.size ≤ 20000) (hd : d.size ≤ 20000) : ¬ 9223372036854775807 < a.size + b.size ∧ ¬ 9223372036854775807 < a.size + b.size + c.size ∧ ¬ 9223372036854775807 < a.size + b.size + c.size + d.size := by omega
theorem sum5 {a b c d e : ByteArray} (ha : a.size ≤ 20000) (hb : b.size ≤ 20000) (hc : c.size ≤ 20000) (hd : d.size ≤ 20000) (he : e.size ≤ 20000) : ¬ 9223372036854775807 < a.size + b.size ∧ ¬ 9223372036854775807 < a.size + b.size + c.size ∧ ¬ 9223372036854775807 < a.size + b.size + c.size + d.size ∧ ¬ 9223372036854775807 < a.size + b.size + c.size + d.size + e.size := by omega
theorem str_app (a b : List UInt8) : str a ++ str b = str (a ++ b) := str_append a b
set_option maxRecDepth 100000 in
set_option maxHeartbeats 8000000 in
theorem rput_any (A : Option Addr) (n c : Nat) (l : List Tb) (B : Option Addr) (m d : Nat) (r : List Ix) (w : World) (hk : BkIn w A n c l B m d r) (hmay : MayB (pbk l r)) :
    Calls Try.prog 14 #[.agg #[.slice A n c, .slice B m d]] w (RetB w (.string (str (bookB (pbk l r))))) := by
  have hlp : (l.map Tb.pt).length = n := by rw [List.length_map]; exact hk.ln
  have hrp : (r.map Ix.px).length = m := by rw [List.length_map]; exact hk.rn
  have n16 : n ≤ 16 := by have := hmay.1; change (l.map Tb.pt).length ≤ 16 at this; omega
  have m16 : m ≤ 16 := by have := hmay.2.1; change (r.map Ix.px).length ≤ 16 at this; omega
  have nI : (n : Int) ≤ 16 := by omega
  have mI : (m : Int) ≤ 16 := by omega
  have MT : ∀ i t, (l.map Tb.pt)[i]? = some t → MayT t := fun i t h => (hmay.2.2.1 i (List.getElem?_eq_some_iff.1 h).1 t h).1
  have MX : ∀ i x, (r.map Ix.px)[i]? = some x → MayX (l.map Tb.pt) x := fun i x h => (hmay.2.2.2 i (List.getElem?_eq_some_iff.1 h).1 x h).1
  have LT : ∀ i, i ≤ 16 → (str (putL (l.map Tb.pt) i)).size ≤ 6500 := fun i hi => str_le (by
    unfold putL
    have := take_le tabB 400 (l.map Tb.pt) i (fun t ht => by
      obtain ⟨j, hj, he⟩ := List.mem_iff_getElem.1 ht
      exact tab_len (MT j t (by rw [List.getElem?_eq_getElem hj, he]))) hi
    rw [List.length_append, one_len]; omega)
  have LX : ∀ i, i ≤ 16 → (str (putX (l.map Tb.pt) (r.map Ix.px) i)).size ≤ 8200 := fun i hi => str_le (by
    unfold putX
    have h0 := LT (l.map Tb.pt).length (by omega)
    rw [str_size] at h0
    have := take_le idxB 100 (r.map Ix.px) i (fun x hx => by
      obtain ⟨j, hj, he⟩ := List.mem_iff_getElem.1 hx
      exact idx_len (MX j x (by rw [List.getElem?_eq_getElem hj, he]))) hi
    simp only [List.length_append, one_len]; omega)
  have HC := Lib.hid (And.intro hk (And.intro hlp (And.intro hrp (And.intro MT (And.intro MX (And.intro LT LX))))))
  have ON : Hid (∀ W : World, Calls Try.prog 28 #[.int .i64 (n : Int)] W (RetB W (.string (str (putL (l.map Tb.pt) 0))))) := Lib.hid fun W => by
    have h := one_any (n : Int) (by omega) (by omega) W
    rwa [show oneB (n : Int) = putL (l.map Tb.pt) 0 from by unfold putL; rw [hlp]; simp] at h
  clear hk hlp hrp MT MX LT LX hmay
  go_enter Try.func14, Try.ntmps14
  go_wp2_with fail
  refine (ON.out _).mono ?_
  rintro e w1 ⟨rfl, hb1⟩
  have hbk1 : Blk w1 w.heap.size 25 #[.slice A n c, .slice B m d] := (Blk.new _ _ _).below hb1 (by simp)
  have hbw1 := bto0 (ball (Below.refl w.heap.size w) (.cells #[.slice A n c, .slice B m d] 25)) hb1
  have a0 : w1.cell? ⟨w.heap.size, 0, none⟩ = some (.slice A n c) := hbk1.cell 0
  have a1 : w1.cell? ⟨w.heap.size, 1, none⟩ = some (.slice B m d) := hbk1.cell 1
  have HB1 := Lib.hid (And.intro hbw1 hbk1)
  clear hb1 hbk1 hbw1 ON
  go_wp2
  go_loopw [3, 19] (fun u v wr => ∃ i : Nat, i ≤ n ∧ u = .string (str (putL (l.map Tb.pt) i)) ∧ v = .int .i64 i ∧ Below w.heap.size w wr ∧ Blk wr w.heap.size 25 #[.slice A n c, .slice B m d]) (fun _ v _ => n - (intOf v).toNat)
  case atStart => exact ⟨0, by omega, rfl, rfl, HB1.out.1, HB1.out.2⟩
  case round =>
    obtain ⟨wo, rfl⟩ : ∃ wo : World, wo = wr := ⟨_, rfl⟩
    obtain ⟨i, hi, rfl, rfl, hb, hbk⟩ := hrel
    have q0 : (0 : Int) ≤ (i : Int) := by omega
    have b0 : wo.cell? ⟨w.heap.size, 0, none⟩ = some (.slice A n c) := hbk.cell 0
    have b1 : wo.cell? ⟨w.heap.size, 1, none⟩ = some (.slice B m d) := hbk.cell 1
    have blt := hbk.lt
    clear a0 a1
    by_cases hlt : i < n
    · have q1 : (i : Int) < (n : Int) := by omega
      obtain ⟨ad, q, hA, hab, hq, d0, d1, d2, d3, d4⟩ := (HC.out.1.below hb).hr.tb_ hlt
      subst hA
      have hpq : (l.map Tb.pt)[i]? = some q.pt := by rw [List.getElem?_map, hq]; rfl
      have hmt := HC.out.2.2.2.1 i _ hpq
      have hq0 := (HC.out.1.hl q (List.mem_of_getElem? hq)).1
      have hqn : q.cols.length = q.n := by have := hq0.2.2.1.1; rw [vC_len] at this; omega
      have qn8 : q.n ≤ 8 := by have := hmt.2.2.1; change (q.cols.map Cl.pc).length ≤ 8 at this; rw [List.length_map] at this; omega
      have qnI : (q.n : Int) ≤ 8 := by omega
      have nms : q.nm.size ≤ 24 := (nb_facts hmt.1).2
      have hpl : (q.pt.cols.length : Int) = q.n := by show ((q.cols.map Cl.pc).length : Int) = _; rw [List.length_map, hqn]
      have TN : Hid (∀ W : World, Calls Try.prog 29 #[.string q.nm] W (RetB W (.string (str (txtB q.nm.data.toList))))) := Lib.hid fun W => text_any q.nm nms W
      have OC : Hid (∀ W : World, Calls Try.prog 28 #[.int .i64 (q.n : Int)] W (RetB W (.string (str (oneB (q.n : Int)))))) := Lib.hid fun W => one_any (q.n : Int) (by omega) (by omega) W
      have FF : Hid (∀ W : World, Calls Try.prog 30 #[.int .i64 q.f] W (RetB W (.string (str (fourB q.f))))) := Lib.hid fun W => four_any q.f hmt.2.2.2.1 W
      have FR : Hid (∀ W : World, Calls Try.prog 30 #[.int .i64 q.r] W (RetB W (.string (str (fourB q.r))))) := Lib.hid fun W => four_any q.r hmt.2.2.2.2.1 W
      have FP : Hid (∀ W : World, Calls Try.prog 30 #[.int .i64 q.p] W (RetB W (.string (str (fourB q.p))))) := Lib.hid fun W => four_any q.p hmt.2.2.2.2.2.1 W
      have HQ := Lib.hid (And.intro hpq (And.intro hb (And.intro hbk (And.intro hmt (And.intro hq0 (And.intro hqn hpl))))))
      have LI := HC.out.2.2.2.2.2.1 i (by omega)
      obtain ⟨s0, hs0⟩ : ∃ s0, str (putL (l.map Tb.pt) i) = s0 := ⟨_, rfl⟩
      obtain ⟨s1, hs1⟩ : ∃ s1, str (txtB q.nm.data.toList) = s1 := ⟨_, rfl⟩
      obtain ⟨s2, hs2⟩ : ∃ s2, str (oneB (q.n : Int)) = s2 := ⟨_, rfl⟩
      rw [hs0] at LI ⊢
      rw [hs1] at TN
      rw [hs2] at OC
      have z1 : s1.size ≤ 20000 := by rw [← hs1]; exact str_le (by rw [txt_len]; have : q.nm.data.toList.length = q.nm.size := rfl; omega)
      have z2 : s2.size ≤ 20000 := by rw [← hs2]; exact str_le (by rw [one_len]; omega)
      obtain ⟨y1, y2⟩ := sum3 (show s0.size ≤ 20000 by omega) z1 z2
      have hH0 : s0 ++ s1 ++ s2 = str (putL (l.map Tb.pt) i ++ headL q.pt 0) := by
        rw [← hs0, ← hs1, ← hs2, str_append, str_append]
        unfold headL
        rw [hpl]
        simp [Tb.pt]
      have HH0 := Lib.hid hH0
      have HS0 := Lib.hid (And.intro hs0 LI)
      clear hpq hb hbk hmt hq0 hqn hq hs0 hs1 hs2 hH0 z1 z2 LI nms hpl
      have hB : Blk (wo.alloc (.cells #[.string q.nm, .slice q.A q.n q.c, .int .u32 q.f, .int .i64 q.r, .int .i64 q.p] 44)) wo.heap.size 44 #[.string q.nm, .slice q.A q.n q.c, .int .u32 q.f, .int .i64 q.r, .int .i64 q.p] := Blk.new _ _ _
      have hS : Hid (∀ W, Below (wo.alloc (.cells #[.string q.nm, .slice q.A q.n q.c, .int .u32 q.f, .int .i64 q.r, .int .i64 q.p] 44)).heap.size (wo.alloc (.cells #[.string q.nm, .slice q.A q.n q.c, .int .u32 q.f, .int .i64 q.r, .int .i64 q.p] 44)) W → W.cell? ⟨wo.heap.size, 0, none⟩ = some (.string q.nm) ∧ W.cell? ⟨wo.heap.size, 1, none⟩ = some (.slice q.A q.n q.c) ∧ W.cell? ⟨wo.heap.size, 2, none⟩ = some (.int .u32 q.f) ∧ W.cell? ⟨wo.heap.size, 3, none⟩ = some (.int .i64 q.r) ∧ W.cell? ⟨wo.heap.size, 4, none⟩ = some (.int .i64 q.p) ∧ Below (wo.alloc (.cells #[.string q.nm, .slice q.A q.n q.c, .int .u32 q.f, .int .i64 q.r, .int .i64 q.p] 44)).heap.size (wo.alloc (.cells #[.string q.nm, .slice q.A q.n q.c, .int .u32 q.f, .int .i64 q.r, .int .i64 q.p] 44)) W) := Lib.hid fun W hW => by
        have b := hB.below hW (by (try simp) <;> omega)
        exact ⟨b.cell 0, b.cell 1, b.cell 2, b.cell 3, b.cell 4, hW⟩
      have HBq := Lib.hid hB
      clear hB
      go_wp2_with fail
      go_region_held3 (fun W => W.cell? ⟨wo.heap.size, 0, none⟩ = some (.string q.nm) ∧ W.cell? ⟨wo.heap.size, 1, none⟩ = some (.slice q.A q.n q.c) ∧ W.cell? ⟨wo.heap.size, 2, none⟩ = some (.int .u32 q.f) ∧ W.cell? ⟨wo.heap.size, 3, none⟩ = some (.int .i64 q.r) ∧ W.cell? ⟨wo.heap.size, 4, none⟩ = some (.int .i64 q.p) ∧ Below (wo.alloc (.cells #[.string q.nm, .slice q.A q.n q.c, .int .u32 q.f, .int .i64 q.r, .int .i64 q.p] 44)).heap.size (wo.alloc (.cells #[.string q.nm, .slice q.A q.n q.c, .int .u32 q.f, .int .i64 q.r, .int .i64 q.p] 44)) W)
        (first | exact hS.out _ (by with_reducible repeat (first | exact Below.refl _ _ | exact hb3 | exact hb2 | refine bto0 ?_ hb3 | refine bto0 ?_ hb2 | refine Below.drew ?_ | refine bdr ?_ _ | refine ball ?_ _)) | assumption)
        (first
          | (go_at_call 29; (with_reducible refine (TN.out _).mono ?_); rintro e w2 ⟨rfl, hb2⟩)
          | (go_at_call 28; (with_reducible refine (OC.out _).mono ?_); rintro e w3 ⟨rfl, hb3⟩))
      have bX : Below (wo.alloc (.cells #[.string q.nm, .slice q.A q.n q.c, .int .u32 q.f, .int .i64 q.r, .int .i64 q.p] 44)).heap.size (wo.alloc (.cells #[.string q.nm, .slice q.A q.n q.c, .int .u32 q.f, .int .i64 q.r, .int .i64 q.p] 44)) w3 := (by with_reducible repeat (first | exact Below.refl _ _ | exact hb3 | exact hb2 | refine bto0 ?_ hb3 | refine bto0 ?_ hb2 | refine Below.drew ?_ | refine bdr ?_ _ | refine ball ?_ _))
      have bo3 : Below wo.heap.size wo w3 := bto0 (ball (Below.refl _ _) _) bX
      have bk3 := HQ.out.2.2.1.below bo3 blt
      have bq3 := HBq.out.below bX (by simp)
      have t1 : w3.cell? ⟨wo.heap.size, 1, none⟩ = some (.slice q.A q.n q.c) := bq3.cell 1
      have H3 := Lib.hid (And.intro bo3 (And.intro bk3 bq3))
      have blt3 : w.heap.size < w3.heap.size := bk3.lt
      have wlt3 : wo.heap.size < w3.heap.size := bq3.lt
      clear bX bo3 bk3 bq3 hb2 hb3 hS TN OC b0 b1 d0 d1 d2 d3 d4 y1 y2
      go_wp2
      go_loopw [3, 40] (fun u v wr => ∃ k : Nat, k ≤ q.n ∧ u = .string (str (putL (l.map Tb.pt) i ++ headL q.pt k)) ∧ v = .int .i64 k ∧ Below w3.heap.size w3 wr) (fun _ v _ => q.n - (intOf v).toNat)
      case atStart => exact ⟨0, by omega, by rw [HH0.out], rfl, Below.refl _ _⟩
      case round =>
        obtain ⟨wi, rfl⟩ : ∃ wo : World, wo = wr := ⟨_, rfl⟩
        obtain ⟨k, hk, rfl, rfl, hb⟩ := hrel
        have r0 : (0 : Int) ≤ (k : Int) := by omega
        have bwi : Below w.heap.size w wi := bto0 (bto0 HQ.out.2.1 H3.out.1) hb
        have bqi := H3.out.2.2.below hb wlt3
        have t1 : wi.cell? ⟨wo.heap.size, 1, none⟩ = some (.slice q.A q.n q.c) := bqi.cell 1
        have LK : (str (putL (l.map Tb.pt) i ++ headL q.pt k)).size ≤ 7200 := by
          have h1 := HS0.out.2
          rw [← HS0.out.1, str_size] at h1
          have h2 := headL_len HQ.out.2.2.2.1 k (by omega)
          rw [str_size, List.length_append]; omega
        obtain ⟨v0, hv0⟩ : ∃ s, str (putL (l.map Tb.pt) i ++ headL q.pt k) = s := ⟨_, rfl⟩
        rw [hv0] at LK ⊢
        by_cases hkn : k < q.n
        · have r1 : (k : Int) < (q.n : Int) := by omega
          obtain ⟨ad2, p, hA2, hab2, hp, f0, f1, f2, f3⟩ := (HQ.out.2.2.2.2.1.2.2.1.below bwi).cl_ hkn
          have hpp : (q.cols.map Cl.pc)[k]? = some p.pc := by rw [List.getElem?_map, hp]; rfl
          have hok := (HQ.out.2.2.2.1.2.2.2.2.2.2 k (by show k < (q.cols.map Cl.pc).length; exact (List.getElem?_eq_some_iff.1 hpp).1) _ hpp).1
          rw [hA2] at t1
          clear hA2
          have pk1 : (1 : Int) ≤ p.k := hok.2.1.1
          have pk3 : p.k ≤ 3 := hok.2.1.2
          have CN : Hid (∀ W : World, Calls Try.prog 29 #[.string p.nm] W (RetB W (.string (str (txtB p.nm.data.toList))))) := Lib.hid fun W => text_any p.nm (nb_facts hok.1).2 W
          have wpk : IntKind.i64.wrap p.k = p.k := Go.IntWalk.i64_in _ ⟨by omega, by omega⟩
          have CK : Hid (∀ W : World, Calls Try.prog 28 #[.int .i64 p.k] W (RetB W (.string (str (oneB p.k))))) := Lib.hid fun W => one_any p.k (by omega) (by omega) W
          have CD : Hid (∀ W : World, Calls Try.prog 30 #[.int .i64 p.d] W (RetB W (.string (str (fourB p.d))))) := Lib.hid fun W => four_any p.d hok.2.2.1 W
          have CU : Hid (∀ W : World, Calls Try.prog 30 #[.int .i64 p.u] W (RetB W (.string (str (fourB p.u))))) := Lib.hid fun W => four_any p.u hok.2.2.2 W
          have nms : p.nm.size ≤ 24 := (nb_facts hok.1).2
          have x1 : (str (txtB p.nm.data.toList)).size ≤ 20000 := str_le (by rw [txt_len]; have : p.nm.data.toList.length = p.nm.size := rfl; omega)
          have x2 : (str (oneB p.k)).size ≤ 20000 := str_le (by rw [one_len]; omega)
          have x3 : (str (fourB p.d)).size ≤ 20000 := str_le (by rw [four_len]; omega)
          have x4 : (str (fourB p.u)).size ≤ 20000 := str_le (by rw [four_len]; omega)
          have hE : v0 ++ str (txtB p.nm.data.toList) ++ str (oneB p.k) ++ str (fourB p.d) ++ str (fourB p.u) = str (putL (l.map Tb.pt) i ++ headL q.pt (k + 1)) := by
            have h1 : headL q.pt (k + 1) = headL q.pt k ++ colB p.pc := by
              unfold headL
              rw [flat_take colB (show q.pt.cols[k]? = some p.pc from hpp)]
              simp only [List.append_assoc]
            rw [← hv0, str_append, str_append, str_append, str_append, h1]
            unfold colB Cl.pc
            simp only [List.append_assoc]
          obtain ⟨v1, hv1⟩ : ∃ s, str (txtB p.nm.data.toList) = s := ⟨_, rfl⟩
          rw [hv1] at CN
          rw [hv1] at x1
          rw [hv1] at hE
          obtain ⟨v2, hv2⟩ : ∃ s, str (oneB p.k) = s := ⟨_, rfl⟩
          rw [hv2] at CK
          rw [hv2] at x2
          rw [hv2] at hE
          obtain ⟨v3, hv3⟩ : ∃ s, str (fourB p.d) = s := ⟨_, rfl⟩
          rw [hv3] at CD
          rw [hv3] at x3
          rw [hv3] at hE
          obtain ⟨v4, hv4⟩ : ∃ s, str (fourB p.u) = s := ⟨_, rfl⟩
          rw [hv4] at CU
          rw [hv4] at x4
          rw [hv4] at hE
          obtain ⟨y1, y2, y3, y4⟩ := sum5 (show v0.size ≤ 20000 by omega) x1 x2 x3 x4
          have HE := Lib.hid hE
          have HI := Lib.hid hb
          clear hE hv0 hv1 hv2 hv3 hv4 x1 x2 x3 x4 LK hok hpp hp hb bqi nms
          have hBc : Blk (wi.alloc (.cells #[.string p.nm, .int .u8 p.k, .int .i64 p.d, .int .i64 p.u] 46)) wi.heap.size 46 #[.string p.nm, .int .u8 p.k, .int .i64 p.d, .int .i64 p.u] := Blk.new _ _ _
          have hSc : Hid (∀ W, Below (wi.alloc (.cells #[.string p.nm, .int .u8 p.k, .int .i64 p.d, .int .i64 p.u] 46)).heap.size (wi.alloc (.cells #[.string p.nm, .int .u8 p.k, .int .i64 p.d, .int .i64 p.u] 46)) W → W.cell? ⟨wi.heap.size, 0, none⟩ = some (.string p.nm) ∧ W.cell? ⟨wi.heap.size, 1, none⟩ = some (.int .u8 p.k) ∧ W.cell? ⟨wi.heap.size, 2, none⟩ = some (.int .i64 p.d) ∧ W.cell? ⟨wi.heap.size, 3, none⟩ = some (.int .i64 p.u) ∧ Below (wi.alloc (.cells #[.string p.nm, .int .u8 p.k, .int .i64 p.d, .int .i64 p.u] 46)).heap.size (wi.alloc (.cells #[.string p.nm, .int .u8 p.k, .int .i64 p.d, .int .i64 p.u] 46)) W) := Lib.hid fun W hW => by
            have b := hBc.below hW (by (try simp) <;> omega)
            exact ⟨b.cell 0, b.cell 1, b.cell 2, b.cell 3, hW⟩
          clear hBc
          go_wp2_with fail
          go_region_held3 (fun W => W.cell? ⟨wi.heap.size, 0, none⟩ = some (.string p.nm) ∧ W.cell? ⟨wi.heap.size, 1, none⟩ = some (.int .u8 p.k) ∧ W.cell? ⟨wi.heap.size, 2, none⟩ = some (.int .i64 p.d) ∧ W.cell? ⟨wi.heap.size, 3, none⟩ = some (.int .i64 p.u) ∧ Below (wi.alloc (.cells #[.string p.nm, .int .u8 p.k, .int .i64 p.d, .int .i64 p.u] 46)).heap.size (wi.alloc (.cells #[.string p.nm, .int .u8 p.k, .int .i64 p.d, .int .i64 p.u] 46)) W)
            (first | exact hSc.out _ (by with_reducible repeat (first | exact Below.refl _ _ | exact hb7 | exact hb6 | exact hb5 | exact hb4 | refine bto0 ?_ hb7 | refine bto0 ?_ hb6 | refine bto0 ?_ hb5 | refine bto0 ?_ hb4 | refine Below.drew ?_ | refine bdr ?_ _ | refine ball ?_ _)) | assumption)
            (first
              | (go_at_call 29; (with_reducible refine (CN.out _).mono ?_); rintro e w4 ⟨rfl, hb4⟩)
              | (go_at_call 28; (with_reducible refine (CK.out _).mono ?_); rintro e w5 ⟨rfl, hb5⟩)
              | (go_at_call 30; (with_reducible refine (CD.out _).mono ?_); rintro e w6 ⟨rfl, hb6⟩)
              | (go_at_call 30; (with_reducible refine (CU.out _).mono ?_); rintro e w7 ⟨rfl, hb7⟩))
          have bX : Below wi.heap.size wi w7 := bto0 (ball (Below.refl _ _) _) (by with_reducible repeat (first | exact Below.refl _ _ | exact hb7 | exact hb6 | exact hb5 | exact hb4 | refine bto0 ?_ hb7 | refine bto0 ?_ hb6 | refine bto0 ?_ hb5 | refine bto0 ?_ hb4 | refine Below.drew ?_ | refine bdr ?_ _ | refine ball ?_ _))
          go_wp2
          exact ⟨⟨k + 1, by omega, by rw [HE.out], by go_num, bto0 HI.out bX⟩, by simp [intOf]; omega⟩
        · obtain rfl : k = q.n := by omega
          have x1 : (str (fourB q.f)).size ≤ 20000 := str_le (by rw [four_len]; omega)
          have x2 : (str (fourB q.r)).size ≤ 20000 := str_le (by rw [four_len]; omega)
          have x3 : (str (fourB q.p)).size ≤ 20000 := str_le (by rw [four_len]; omega)
          have wqf : IntKind.i64.wrap q.f = q.f := Go.IntWalk.i64_in _ (by have := num31_iff.1 HQ.out.2.2.2.1.2.2.2.1; change 0 ≤ q.f ∧ q.f < 2147483648 at this; omega)
          have hE : v0 ++ str (fourB q.f) ++ str (fourB q.r) ++ str (fourB q.p) = str (putL (l.map Tb.pt) (i + 1)) := by
            have h1 : putL (l.map Tb.pt) (i + 1) = putL (l.map Tb.pt) i ++ tabB q.pt := by
              unfold putL
              rw [flat_take tabB HQ.out.1]
              simp only [List.append_assoc]
            have h2 : headL q.pt q.n = txtB q.pt.nm ++ oneB q.pt.cols.length ++ q.pt.cols.flatMap colB := by
              unfold headL
              rw [List.take_of_length_le (by show (q.cols.map Cl.pc).length ≤ q.n; rw [List.length_map, HQ.out.2.2.2.2.2.1]; exact Nat.le_refl _)]
            rw [← hv0, str_append, str_append, str_append, h1, h2]
            unfold tabB Tb.pt
            simp only [List.append_assoc]
          obtain ⟨v1, hv1⟩ : ∃ s, str (fourB q.f) = s := ⟨_, rfl⟩
          rw [hv1] at FF
          rw [hv1] at x1
          rw [hv1] at hE
          obtain ⟨v2, hv2⟩ : ∃ s, str (fourB q.r) = s := ⟨_, rfl⟩
          rw [hv2] at FR
          rw [hv2] at x2
          rw [hv2] at hE
          obtain ⟨v3, hv3⟩ : ∃ s, str (fourB q.p) = s := ⟨_, rfl⟩
          rw [hv3] at FP
          rw [hv3] at x3
          rw [hv3] at hE
          obtain ⟨y1, y2, y3⟩ := sum4 (show v0.size ≤ 20000 by omega) x1 x2 x3
          have HE := Lib.hid hE
          have HI := Lib.hid hb
          have hBt := bqi
          have wltt : wo.heap.size < wi.heap.size := bqi.lt
          clear hE hv0 hv1 hv2 hv3 x1 x2 x3 LK hb bqi
          have hSt : Hid (∀ W, Below wi.heap.size wi W → W.cell? ⟨wo.heap.size, 0, none⟩ = some (.string q.nm) ∧ W.cell? ⟨wo.heap.size, 1, none⟩ = some (.slice q.A q.n q.c) ∧ W.cell? ⟨wo.heap.size, 2, none⟩ = some (.int .u32 q.f) ∧ W.cell? ⟨wo.heap.size, 3, none⟩ = some (.int .i64 q.r) ∧ W.cell? ⟨wo.heap.size, 4, none⟩ = some (.int .i64 q.p) ∧ Below wi.heap.size wi W) := Lib.hid fun W hW => by
            have b := hBt.below hW (by (try simp) <;> omega)
            exact ⟨b.cell 0, b.cell 1, b.cell 2, b.cell 3, b.cell 4, hW⟩
          clear hBt
          go_wp2_with fail
          go_region_held3 (fun W => W.cell? ⟨wo.heap.size, 0, none⟩ = some (.string q.nm) ∧ W.cell? ⟨wo.heap.size, 1, none⟩ = some (.slice q.A q.n q.c) ∧ W.cell? ⟨wo.heap.size, 2, none⟩ = some (.int .u32 q.f) ∧ W.cell? ⟨wo.heap.size, 3, none⟩ = some (.int .i64 q.r) ∧ W.cell? ⟨wo.heap.size, 4, none⟩ = some (.int .i64 q.p) ∧ Below wi.heap.size wi W)
            (first | exact hSt.out _ (by with_reducible repeat (first | exact Below.refl _ _ | exact hb6 | exact hb5 | exact hb4 | refine bto0 ?_ hb6 | refine bto0 ?_ hb5 | refine bto0 ?_ hb4 | refine Below.drew ?_ | refine bdr ?_ _ | refine ball ?_ _)) | assumption)
            (first
              | (go_at_call 30; (with_reducible refine (FF.out _).mono ?_); rintro e w4 ⟨rfl, hb4⟩)
              | (go_at_call 30; (with_reducible refine (FR.out _).mono ?_); rintro e w5 ⟨rfl, hb5⟩)
              | (go_at_call 30; (with_reducible refine (FP.out _).mono ?_); rintro e w6 ⟨rfl, hb6⟩))
          have bX : Below wi.heap.size wi w6 := (by with_reducible repeat (first | exact Below.refl _ _ | exact hb6 | exact hb5 | exact hb4 | refine bto0 ?_ hb6 | refine bto0 ?_ hb5 | refine bto0 ?_ hb4 | refine Below.drew ?_ | refine bdr ?_ _ | refine ball ?_ _))
          have bo6 := bto0 (bto0 H3.out.1 HI.out) bX
          go_wp2
          exact ⟨⟨i + 1, by omega, by rw [HE.out], by go_num, bto0 HQ.out.2.1 bo6, HQ.out.2.2.1.below bo6 blt⟩, by simp [intOf]; omega⟩
    · obtain rfl : n = i := by omega
      have HB := Lib.hid (And.intro hb hbk)
      have ON : Hid (∀ W : World, Calls Try.prog 28 #[.int .i64 (m : Int)] W (RetB W (.string (str (oneB (m : Int)))))) := Lib.hid fun W => one_any (m : Int) (by omega) (by omega) W
      have LI := HC.out.2.2.2.2.2.1 n (by omega)
      have x1 : (str (oneB (m : Int))).size ≤ 20000 := str_le (by rw [one_len]; omega)
      have hE : str (putL (l.map Tb.pt) n) ++ str (oneB (m : Int)) = str (putX (l.map Tb.pt) (r.map Ix.px) 0) := by
        rw [str_append]
        unfold putX
        rw [HC.out.2.1, HC.out.2.2.1]
        simp
      obtain ⟨v0, hv0⟩ : ∃ s, str (putL (l.map Tb.pt) n) = s := ⟨_, rfl⟩
      obtain ⟨v1, hv1⟩ : ∃ s, str (oneB (m : Int)) = s := ⟨_, rfl⟩
      rw [hv0] at LI hE ⊢
      rw [hv1] at ON x1 hE
      have y1 : ¬ 9223372036854775807 < v0.size + v1.size := by omega
      have HE := Lib.hid hE
      clear hE hv0 hv1 LI x1 hb
      go_wp2_with fail
      refine (ON.out _).mono ?_
      rintro e w2 ⟨rfl, hb2⟩
      have hbk2 := hbk.below hb2 blt
      have a0 : w2.cell? ⟨w.heap.size, 0, none⟩ = some (.slice A n c) := hbk2.cell 0
      have a1 : w2.cell? ⟨w.heap.size, 1, none⟩ = some (.slice B m d) := hbk2.cell 1
      have HB2 := Lib.hid (And.intro (bto0 HB.out.1 hb2) hbk2)
      clear b0 b1 hbk hbk2 hb2 ON blt
      go_wp2
      go_loopw [3, 91] (fun u v wr => ∃ i : Nat, i ≤ m ∧ u = .string (str (putX (l.map Tb.pt) (r.map Ix.px) i)) ∧ v = .int .i64 i ∧ Below w.heap.size w wr ∧ Blk wr w.heap.size 25 #[.slice A n c, .slice B m d]) (fun _ v _ => m - (intOf v).toNat)
      case atStart => exact ⟨0, by omega, by first | rw [HE.out] | rfl, rfl, HB2.out.1, HB2.out.2⟩
      case round =>
        clear q0
        obtain ⟨wo, rfl⟩ : ∃ wo : World, wo = wr := ⟨_, rfl⟩
        obtain ⟨i, hi, rfl, rfl, hb, hbk⟩ := hrel
        have q0 : (0 : Int) ≤ (i : Int) := by omega
        have b0 : wo.cell? ⟨w.heap.size, 0, none⟩ = some (.slice A n c) := hbk.cell 0
        have b1 : wo.cell? ⟨w.heap.size, 1, none⟩ = some (.slice B m d) := hbk.cell 1
        have blt := hbk.lt
        clear a0 a1
        by_cases hlt : i < m
        · have q1 : (i : Int) < (m : Int) := by omega
          obtain ⟨ad, q, hA, hab, hq, d0, d1, d2, d3, d4, d5, d6⟩ := (HC.out.1.below hb).hx.ix_ hlt
          subst hA
          have hpq : (r.map Ix.px)[i]? = some q.px := by rw [List.getElem?_map, hq]; rfl
          have hmt := HC.out.2.2.2.2.1 i _ hpq
          have hq0 := HC.out.1.hix q (List.mem_of_getElem? hq)
          have hqn : q.cs.length = q.n := by have := hq0.2.1.1; rw [vI64_len] at this; omega
          have hqm : q.ds.length = q.m := by have := hq0.2.2.1.1; rw [vI64_len] at this; omega
          have qn2 : q.n ≤ 2 := by have := hmt.2.2.2.2.1; change q.cs.length ≤ 2 at this; omega
          have qm2 : q.m ≤ 2 := by have := hmt.2.2.2.2.2.1; change q.ds.length = q.cs.length at this; omega
          have qnI : (q.n : Int) ≤ 2 := by omega
          have qmI : (q.m : Int) ≤ 2 := by omega
          have tb0 : 0 ≤ q.tb := hmt.2.1
          have tb1 : q.tb < 16 := by have := hmt.2.2.1; change q.tb < ((l.map Tb.pt).length : Int) at this; rw [HC.out.2.1] at this; omega
          have nms : q.nm.size ≤ 24 := (nb_facts hmt.1).2
          have TN : Hid (∀ W : World, Calls Try.prog 29 #[.string q.nm] W (RetB W (.string (str (txtB q.nm.data.toList))))) := Lib.hid fun W => text_any q.nm nms W
          have OT : Hid (∀ W : World, Calls Try.prog 28 #[.int .i64 q.tb] W (RetB W (.string (str (oneB q.tb))))) := Lib.hid fun W => one_any q.tb (by omega) (by omega) W
          have OC : Hid (∀ W : World, Calls Try.prog 28 #[.int .i64 (q.n : Int)] W (RetB W (.string (str (oneB (q.n : Int)))))) := Lib.hid fun W => one_any (q.n : Int) (by omega) (by omega) W
          have FF : Hid (∀ W : World, Calls Try.prog 30 #[.int .i64 q.root] W (RetB W (.string (str (fourB q.root))))) := Lib.hid fun W => four_any q.root hmt.2.2.2.2.2.2.2.2.1 W
          have FR : Hid (∀ W : World, Calls Try.prog 30 #[.int .i64 q.lv] W (RetB W (.string (str (fourB q.lv))))) := Lib.hid fun W => four_any q.lv hmt.2.2.2.2.2.2.2.2.2.1 W
          have FP : Hid (∀ W : World, Calls Try.prog 30 #[.int .i64 q.hi] W (RetB W (.string (str (fourB q.hi))))) := Lib.hid fun W => four_any q.hi hmt.2.2.2.2.2.2.2.2.2.2 W
          have HQ := Lib.hid (And.intro hpq (And.intro hb (And.intro hbk (And.intro hmt (And.intro hq0 (And.intro hqn hqm))))))
          have LI := HC.out.2.2.2.2.2.2 i (by omega)
          obtain ⟨s0, hs0⟩ : ∃ s0, str (putX (l.map Tb.pt) (r.map Ix.px) i) = s0 := ⟨_, rfl⟩
          obtain ⟨s1, hs1⟩ : ∃ s1, str (txtB q.nm.data.toList) = s1 := ⟨_, rfl⟩
          obtain ⟨s2, hs2⟩ : ∃ s2, str (oneB q.tb) = s2 := ⟨_, rfl⟩
          obtain ⟨s3, hs3⟩ : ∃ s3, str (oneB (q.n : Int)) = s3 := ⟨_, rfl⟩
          rw [hs0] at LI ⊢
          rw [hs1] at TN
          rw [hs2] at OT
          rw [hs3] at OC
          have z1 : s1.size ≤ 20000 := by rw [← hs1]; exact str_le (by rw [txt_len]; have : q.nm.data.toList.length = q.nm.size := rfl; omega)
          have z2 : s2.size ≤ 20000 := by rw [← hs2]; exact str_le (by rw [one_len]; omega)
          have z3 : s3.size ≤ 20000 := by rw [← hs3]; exact str_le (by rw [one_len]; omega)
          obtain ⟨y1, y2, y3⟩ := sum4 (show s0.size ≤ 20000 by omega) z1 z2 z3
          have hH0 : s0 ++ s1 ++ s2 ++ s3 = str (putX (l.map Tb.pt) (r.map Ix.px) i ++ hdX q.px 0) := by
            rw [← hs0, ← hs1, ← hs2, ← hs3, str_append, str_append, str_append]
            unfold hdX
            rw [show (q.px.cs.length : Int) = q.n from by show (q.cs.length : Int) = _; rw [hqn]]
            simp [Ix.px]
          have HH0 := Lib.hid hH0
          have HS0 := Lib.hid (And.intro hs0 LI)
          clear hpq hb hbk hmt hq0 hqn hqm hq hs0 hs1 hs2 hs3 hH0 z1 z2 z3 LI nms
          have hB : Blk (wo.alloc (.cells #[.string q.nm, .int .i64 q.tb, .slice q.A q.n q.c, .int .u32 q.root, .int .i64 q.lv, .int .i64 q.hi, .slice q.B q.m q.e] 49)) wo.heap.size 49 #[.string q.nm, .int .i64 q.tb, .slice q.A q.n q.c, .int .u32 q.root, .int .i64 q.lv, .int .i64 q.hi, .slice q.B q.m q.e] := Blk.new _ _ _
          have hS : Hid (∀ W, Below (wo.alloc (.cells #[.string q.nm, .int .i64 q.tb, .slice q.A q.n q.c, .int .u32 q.root, .int .i64 q.lv, .int .i64 q.hi, .slice q.B q.m q.e] 49)).heap.size (wo.alloc (.cells #[.string q.nm, .int .i64 q.tb, .slice q.A q.n q.c, .int .u32 q.root, .int .i64 q.lv, .int .i64 q.hi, .slice q.B q.m q.e] 49)) W → W.cell? ⟨wo.heap.size, 0, none⟩ = some (.string q.nm) ∧ W.cell? ⟨wo.heap.size, 1, none⟩ = some (.int .i64 q.tb) ∧ W.cell? ⟨wo.heap.size, 2, none⟩ = some (.slice q.A q.n q.c) ∧ W.cell? ⟨wo.heap.size, 3, none⟩ = some (.int .u32 q.root) ∧ W.cell? ⟨wo.heap.size, 4, none⟩ = some (.int .i64 q.lv) ∧ W.cell? ⟨wo.heap.size, 5, none⟩ = some (.int .i64 q.hi) ∧ W.cell? ⟨wo.heap.size, 6, none⟩ = some (.slice q.B q.m q.e) ∧ Below (wo.alloc (.cells #[.string q.nm, .int .i64 q.tb, .slice q.A q.n q.c, .int .u32 q.root, .int .i64 q.lv, .int .i64 q.hi, .slice q.B q.m q.e] 49)).heap.size (wo.alloc (.cells #[.string q.nm, .int .i64 q.tb, .slice q.A q.n q.c, .int .u32 q.root, .int .i64 q.lv, .int .i64 q.hi, .slice q.B q.m q.e] 49)) W) := Lib.hid fun W hW => by
            have b := hB.below hW (by (try simp) <;> omega)
            exact ⟨b.cell 0, b.cell 1, b.cell 2, b.cell 3, b.cell 4, b.cell 5, b.cell 6, hW⟩
          have HBq := Lib.hid hB
          clear hB
          go_wp2_with fail
          go_region_held3 (fun W => W.cell? ⟨wo.heap.size, 0, none⟩ = some (.string q.nm) ∧ W.cell? ⟨wo.heap.size, 1, none⟩ = some (.int .i64 q.tb) ∧ W.cell? ⟨wo.heap.size, 2, none⟩ = some (.slice q.A q.n q.c) ∧ W.cell? ⟨wo.heap.size, 3, none⟩ = some (.int .u32 q.root) ∧ W.cell? ⟨wo.heap.size, 4, none⟩ = some (.int .i64 q.lv) ∧ W.cell? ⟨wo.heap.size, 5, none⟩ = some (.int .i64 q.hi) ∧ W.cell? ⟨wo.heap.size, 6, none⟩ = some (.slice q.B q.m q.e) ∧ Below (wo.alloc (.cells #[.string q.nm, .int .i64 q.tb, .slice q.A q.n q.c, .int .u32 q.root, .int .i64 q.lv, .int .i64 q.hi, .slice q.B q.m q.e] 49)).heap.size (wo.alloc (.cells #[.string q.nm, .int .i64 q.tb, .slice q.A q.n q.c, .int .u32 q.root, .int .i64 q.lv, .int .i64 q.hi, .slice q.B q.m q.e] 49)) W)
            (first | exact hS.out _ (by with_reducible repeat (first | exact Below.refl _ _ | exact hb5 | exact hb4 | exact hb3 | refine bto0 ?_ hb5 | refine bto0 ?_ hb4 | refine bto0 ?_ hb3 | refine Below.drew ?_ | refine bdr ?_ _ | refine ball ?_ _)) | assumption)
            (first
              | (go_at_call 29; (with_reducible refine (TN.out _).mono ?_); rintro e w3 ⟨rfl, hb3⟩)
              | (go_at_call 28; (with_reducible refine (OT.out _).mono ?_); rintro e w4 ⟨rfl, hb4⟩)
              | (go_at_call 28; (with_reducible refine (OC.out _).mono ?_); rintro e w5 ⟨rfl, hb5⟩))
          have bX : Below (wo.alloc (.cells #[.string q.nm, .int .i64 q.tb, .slice q.A q.n q.c, .int .u32 q.root, .int .i64 q.lv, .int .i64 q.hi, .slice q.B q.m q.e] 49)).heap.size (wo.alloc (.cells #[.string q.nm, .int .i64 q.tb, .slice q.A q.n q.c, .int .u32 q.root, .int .i64 q.lv, .int .i64 q.hi, .slice q.B q.m q.e] 49)) w5 := (by with_reducible repeat (first | exact Below.refl _ _ | exact hb5 | exact hb4 | exact hb3 | refine bto0 ?_ hb5 | refine bto0 ?_ hb4 | refine bto0 ?_ hb3 | refine Below.drew ?_ | refine bdr ?_ _ | refine ball ?_ _))
          have bo3 : Below wo.heap.size wo w5 := bto0 (ball (Below.refl _ _) _) bX
          have bk3 := HQ.out.2.2.1.below bo3 blt
          have bq3 := HBq.out.below bX (by simp)
          have t2 : w5.cell? ⟨wo.heap.size, 2, none⟩ = some (.slice q.A q.n q.c) := bq3.cell 2
          have H3 := Lib.hid (And.intro bo3 (And.intro bk3 bq3))
          have blt3 : w.heap.size < w5.heap.size := bk3.lt
          have wlt3 : wo.heap.size < w5.heap.size := bq3.lt
          clear bX bo3 bk3 bq3 hb3 hb4 hb5 hS TN OC OT b0 b1 d0 d1 d2 d3 d4 d5 d6 y1 y2 y3
          go_wp2
          go_loopw [3, 116] (fun u v wr => ∃ k : Nat, k ≤ q.n ∧ u = .string (str (putX (l.map Tb.pt) (r.map Ix.px) i ++ hdX q.px k)) ∧ v = .int .i64 k ∧ Below w5.heap.size w5 wr) (fun _ v _ => q.n - (intOf v).toNat)
          case atStart => exact ⟨0, by omega, by rw [HH0.out], rfl, Below.refl _ _⟩
          case round =>
            obtain ⟨wi, rfl⟩ : ∃ wo : World, wo = wr := ⟨_, rfl⟩
            obtain ⟨k, hk, rfl, rfl, hb⟩ := hrel
            have r0 : (0 : Int) ≤ (k : Int) := by omega
            have bwi : Below w.heap.size w wi := bto0 (bto0 HQ.out.2.1 H3.out.1) hb
            have bqi := H3.out.2.2.below hb wlt3
            have LK : (str (putX (l.map Tb.pt) (r.map Ix.px) i ++ hdX q.px k)).size ≤ 9000 := by
              have h1 := HS0.out.2
              rw [← HS0.out.1, str_size] at h1
              have h2 := hdX_len HQ.out.2.2.2.1 k
              rw [str_size, List.length_append]; omega
            obtain ⟨v0, hv0⟩ : ∃ s, str (putX (l.map Tb.pt) (r.map Ix.px) i ++ hdX q.px k) = s := ⟨_, rfl⟩
            rw [hv0] at LK ⊢
            clear t2
            by_cases hkn : k < q.n
            · have r1 : (k : Int) < (q.n : Int) := by omega
              have t2 : wi.cell? ⟨wo.heap.size, 2, none⟩ = some (.slice q.A q.n q.c) := bqi.cell 2
              obtain ⟨ad2, z, hA2, hab2, hz, f0⟩ := (HQ.out.2.2.2.2.1.2.1.below bwi).i64_ hkn
              have hzb : 0 ≤ z ∧ z < 2147483648 := by
                have h1 := HQ.out.2.2.2.1.2.2.2.2.2.2.1
                have hml : q.tb.toNat < (l.map Tb.pt).length := by rw [HC.out.2.1]; have := HQ.out.2.2.2.1.2.2.1; change q.tb < ((l.map Tb.pt).length : Int) at this; rw [HC.out.2.1] at this; omega
                have h2 := h1 _ (List.getElem?_eq_getElem hml) k z (q.ds[k]'(by rw [HQ.out.2.2.2.2.2.2]; have := HQ.out.2.2.2.1.2.2.2.2.2.1; change q.ds.length = q.cs.length at this; rw [HQ.out.2.2.2.2.2.1, HQ.out.2.2.2.2.2.2] at this; omega)) hz (List.getElem?_eq_getElem _)
                have h3 := (HC.out.2.2.2.1 _ _ (List.getElem?_eq_getElem hml)).2.2.1
                omega
              rw [hA2] at t2
              clear hA2
              have CZ : Hid (∀ W : World, Calls Try.prog 28 #[.int .i64 z] W (RetB W (.string (str (oneB z))))) := Lib.hid fun W => one_any z hzb.1 hzb.2 W
              have x1 : (str (oneB z)).size ≤ 20000 := str_le (by rw [one_len]; omega)
              have hE : v0 ++ str (oneB z) = str (putX (l.map Tb.pt) (r.map Ix.px) i ++ hdX q.px (k + 1)) := by
                have h1 : hdX q.px (k + 1) = hdX q.px k ++ oneB z := by
                  unfold hdX
                  rw [flat_take oneB (show q.px.cs[k]? = some z from hz)]
                  simp only [List.append_assoc]
                rw [← hv0, str_append, h1, List.append_assoc]
              obtain ⟨v1, hv1⟩ : ∃ s, str (oneB z) = s := ⟨_, rfl⟩
              rw [hv1] at CZ
              rw [hv1] at x1
              rw [hv1] at hE
              have y1 : ¬ 9223372036854775807 < v0.size + v1.size := by omega
              have HE := Lib.hid hE
              have HI := Lib.hid hb
              clear hE hv0 hv1 x1 LK hz hzb hb bqi
              go_wp2_with fail
              refine (CZ.out _).mono ?_
              rintro e w6 ⟨rfl, hb6⟩
              go_wp2
              exact ⟨⟨k + 1, by omega, by rw [HE.out], by go_num, bto0 HI.out hb6⟩, by simp [intOf]; omega⟩
            · obtain rfl : k = q.n := by omega
              have x1 : (str (fourB q.root)).size ≤ 20000 := str_le (by rw [four_len]; omega)
              have x2 : (str (fourB q.lv)).size ≤ 20000 := str_le (by rw [four_len]; omega)
              have x3 : (str (fourB q.hi)).size ≤ 20000 := str_le (by rw [four_len]; omega)
              have wqf : IntKind.i64.wrap q.root = q.root := Go.IntWalk.i64_in _ (by have := num31_iff.1 HQ.out.2.2.2.1.2.2.2.2.2.2.2.2.1; change 0 ≤ q.root ∧ q.root < 2147483648 at this; omega)
              have hE : v0 ++ str (fourB q.root) ++ str (fourB q.lv) ++ str (fourB q.hi) = str (putX (l.map Tb.pt) (r.map Ix.px) i ++ hdZ q.px 0) := by
                rw [← hv0, str_append, str_append, str_append]
                unfold hdZ
                rw [show q.px.cs.length = q.n from HQ.out.2.2.2.2.2.1]
                simp [Ix.px]
              obtain ⟨v1, hv1⟩ : ∃ s, str (fourB q.root) = s := ⟨_, rfl⟩
              rw [hv1] at FF
              rw [hv1] at x1
              rw [hv1] at hE
              obtain ⟨v2, hv2⟩ : ∃ s, str (fourB q.lv) = s := ⟨_, rfl⟩
              rw [hv2] at FR
              rw [hv2] at x2
              rw [hv2] at hE
              obtain ⟨v3, hv3⟩ : ∃ s, str (fourB q.hi) = s := ⟨_, rfl⟩
              rw [hv3] at FP
              rw [hv3] at x3
              rw [hv3] at hE
              obtain ⟨y1, y2, y3⟩ := sum4 (show v0.size ≤ 20000 by omega) x1 x2 x3
              have HE := Lib.hid hE
              have HI := Lib.hid hb
              have hBt := bqi
              have wltt : wo.heap.size < wi.heap.size := bqi.lt
              clear hE hv0 hv1 hv2 hv3 x1 x2 x3 LK hb
              have hSt : Hid (∀ W, Below wi.heap.size wi W → W.cell? ⟨wo.heap.size, 0, none⟩ = some (.string q.nm) ∧ W.cell? ⟨wo.heap.size, 1, none⟩ = some (.int .i64 q.tb) ∧ W.cell? ⟨wo.heap.size, 2, none⟩ = some (.slice q.A q.n q.c) ∧ W.cell? ⟨wo.heap.size, 3, none⟩ = some (.int .u32 q.root) ∧ W.cell? ⟨wo.heap.size, 4, none⟩ = some (.int .i64 q.lv) ∧ W.cell? ⟨wo.heap.size, 5, none⟩ = some (.int .i64 q.hi) ∧ W.cell? ⟨wo.heap.size, 6, none⟩ = some (.slice q.B q.m q.e) ∧ Below wi.heap.size wi W) := Lib.hid fun W hW => by
                have b := hBt.below hW (by (try simp) <;> omega)
                exact ⟨b.cell 0, b.cell 1, b.cell 2, b.cell 3, b.cell 4, b.cell 5, b.cell 6, hW⟩
              clear hBt
              have HBi := Lib.hid bqi
              clear bqi
              go_wp2_with fail
              go_region_held3 (fun W => W.cell? ⟨wo.heap.size, 0, none⟩ = some (.string q.nm) ∧ W.cell? ⟨wo.heap.size, 1, none⟩ = some (.int .i64 q.tb) ∧ W.cell? ⟨wo.heap.size, 2, none⟩ = some (.slice q.A q.n q.c) ∧ W.cell? ⟨wo.heap.size, 3, none⟩ = some (.int .u32 q.root) ∧ W.cell? ⟨wo.heap.size, 4, none⟩ = some (.int .i64 q.lv) ∧ W.cell? ⟨wo.heap.size, 5, none⟩ = some (.int .i64 q.hi) ∧ W.cell? ⟨wo.heap.size, 6, none⟩ = some (.slice q.B q.m q.e) ∧ Below wi.heap.size wi W)
                (first | exact hSt.out _ (by with_reducible repeat (first | exact Below.refl _ _ | exact hb8 | exact hb7 | exact hb6 | refine bto0 ?_ hb8 | refine bto0 ?_ hb7 | refine bto0 ?_ hb6 | refine Below.drew ?_ | refine bdr ?_ _ | refine ball ?_ _)) | assumption)
                (first
                  | (go_at_call 30; (with_reducible refine (FF.out _).mono ?_); rintro e w6 ⟨rfl, hb6⟩)
                  | (go_at_call 30; (with_reducible refine (FR.out _).mono ?_); rintro e w7 ⟨rfl, hb7⟩)
                  | (go_at_call 30; (with_reducible refine (FP.out _).mono ?_); rintro e w8 ⟨rfl, hb8⟩))
              have bX : Below wi.heap.size wi w8 := (by with_reducible repeat (first | exact Below.refl _ _ | exact hb8 | exact hb7 | exact hb6 | refine bto0 ?_ hb8 | refine bto0 ?_ hb7 | refine bto0 ?_ hb6 | refine Below.drew ?_ | refine bdr ?_ _ | refine ball ?_ _))
              have bo8 : Below wo.heap.size wo w8 := bto0 (bto0 H3.out.1 HI.out) bX
              have hlt8 : wo.heap.size < wi.heap.size := HBi.out.lt
              have bq8 := HBi.out.below bX hlt8
              have wlt8 : wo.heap.size < w8.heap.size := bq8.lt
              have t6 : w8.cell? ⟨wo.heap.size, 6, none⟩ = some (.slice q.B q.m q.e) := bq8.cell 6
              have H8 := Lib.hid (And.intro bo8 bq8)
              clear bX bo8 bq8 hSt hb6 hb7 hb8 y1 y2 y3
              go_wp2
              go_loopw [3, 145] (fun u v wr => ∃ k : Nat, k ≤ q.m ∧ u = .string (str (putX (l.map Tb.pt) (r.map Ix.px) i ++ hdZ q.px k)) ∧ v = .int .i64 k ∧ Below w8.heap.size w8 wr) (fun _ v _ => q.m - (intOf v).toNat)
              case atStart => exact ⟨0, by omega, by rw [HE.out], rfl, Below.refl _ _⟩
              case round =>
                obtain ⟨wj, rfl⟩ : ∃ wo : World, wo = wr := ⟨_, rfl⟩
                obtain ⟨k, hk, rfl, rfl, hb⟩ := hrel
                have r0 : (0 : Int) ≤ (k : Int) := by omega
                have bwj : Below w.heap.size w wj := bto0 (bto0 HQ.out.2.1 H8.out.1) hb
                have bqj := H8.out.2.below hb wlt8
                have LK : (str (putX (l.map Tb.pt) (r.map Ix.px) i ++ hdZ q.px k)).size ≤ 9000 := by
                  have h1 := HS0.out.2
                  rw [← HS0.out.1, str_size] at h1
                  have h2 := hdZ_len HQ.out.2.2.2.1 k
                  rw [str_size, List.length_append]; omega
                obtain ⟨v0, hv0⟩ : ∃ s, str (putX (l.map Tb.pt) (r.map Ix.px) i ++ hdZ q.px k) = s := ⟨_, rfl⟩
                rw [hv0] at LK ⊢
                clear t6
                by_cases hkn : k < q.m
                · have r1 : (k : Int) < (q.m : Int) := by omega
                  have t6 : wj.cell? ⟨wo.heap.size, 6, none⟩ = some (.slice q.B q.m q.e) := bqj.cell 6
                  obtain ⟨ad2, z, hA2, hab2, hz, f0⟩ := (HQ.out.2.2.2.2.1.2.2.1.below bwj).i64_ hkn
                  have hzb : num31 z = true := by
                    have h1 := HQ.out.2.2.2.1.2.2.2.2.2.2.1
                    have hml : q.tb.toNat < (l.map Tb.pt).length := by rw [HC.out.2.1]; have := HQ.out.2.2.2.1.2.2.1; change q.tb < ((l.map Tb.pt).length : Int) at this; rw [HC.out.2.1] at this; omega
                    exact (h1 _ (List.getElem?_eq_getElem hml) k (q.cs[k]'(by rw [HQ.out.2.2.2.2.2.1]; have := HQ.out.2.2.2.1.2.2.2.2.2.1; change q.ds.length = q.cs.length at this; rw [HQ.out.2.2.2.2.2.1, HQ.out.2.2.2.2.2.2] at this; omega)) z (List.getElem?_eq_getElem _) hz).2
                  rw [hA2] at t6
                  clear hA2
                  have CZ : Hid (∀ W : World, Calls Try.prog 30 #[.int .i64 z] W (RetB W (.string (str (fourB z))))) := Lib.hid fun W => four_any z hzb W
                  have x1 : (str (fourB z)).size ≤ 20000 := str_le (by rw [four_len]; omega)
                  have hE : v0 ++ str (fourB z) = str (putX (l.map Tb.pt) (r.map Ix.px) i ++ hdZ q.px (k + 1)) := by
                    have h1 : hdZ q.px (k + 1) = hdZ q.px k ++ fourB z := by
                      unfold hdZ
                      rw [flat_take fourB (show q.px.ds[k]? = some z from hz)]
                      simp only [List.append_assoc]
                    rw [← hv0, str_append, h1, List.append_assoc]
                  obtain ⟨v1, hv1⟩ : ∃ s, str (fourB z) = s := ⟨_, rfl⟩
                  rw [hv1] at CZ
                  rw [hv1] at x1
                  rw [hv1] at hE
                  have y1 : ¬ 9223372036854775807 < v0.size + v1.size := by omega
                  have HE2 := Lib.hid hE
                  have HI2 := Lib.hid hb
                  clear hE hv0 hv1 x1 LK hz hzb hb bqj
                  go_wp2_with fail
                  refine (CZ.out _).mono ?_
                  rintro e w9 ⟨rfl, hb9⟩
                  go_wp2
                  exact ⟨⟨k + 1, by omega, by rw [HE2.out], by go_num, bto0 HI2.out hb9⟩, by simp [intOf]; omega⟩
                · obtain rfl : k = q.m := by omega
                  have hE : v0 = str (putX (l.map Tb.pt) (r.map Ix.px) (i + 1)) := by
                    have h1 : putX (l.map Tb.pt) (r.map Ix.px) (i + 1) = putX (l.map Tb.pt) (r.map Ix.px) i ++ idxB q.px := by
                      unfold putX
                      rw [flat_take idxB HQ.out.1]
                      simp only [List.append_assoc]
                    have h2 : hdZ q.px q.m = idxB q.px := by
                      unfold hdZ hdX idxB
                      rw [List.take_of_length_le (Nat.le_refl q.px.cs.length), List.take_of_length_le (l := q.px.ds) (by show q.ds.length ≤ q.m; rw [HQ.out.2.2.2.2.2.2]; exact Nat.le_refl _)]
                    rw [← hv0, h1, h2]
                  have HE3 := Lib.hid hE
                  have bo9 := bto0 H8.out.1 hb
                  have H9 := Lib.hid (And.intro (bto0 HQ.out.2.1 bo9) (HQ.out.2.2.1.below bo9 blt))
                  clear hE hv0 LK bqj bo9
                  go_wp2
                  exact ⟨⟨i + 1, by omega, by rw [HE3.out], by go_num, H9.out.1, H9.out.2⟩, by simp [intOf]; omega⟩
        · obtain rfl : m = i := by omega
          have hE : putX (l.map Tb.pt) (r.map Ix.px) m = bookB (pbk l r) := by
            unfold putX bookB putL pbk
            rw [List.take_of_length_le (Nat.le_refl _), List.take_of_length_le (by rw [HC.out.2.2.1]; exact Nat.le_refl _)]
          have HE3 := Lib.hid hE
          have HB3 := Lib.hid hb
          clear hE hb hbk
          go_wp2
          go_ret
          exact ⟨by rw [← HE3.out]; rfl, HB3.out⟩
end
end Go.Proofs.Ytflolnilagogpaa
