/-
  Several texts in one: It Il Iu.
-/
import Derived.Test.YtflolnilagogpaaMgi
import Derived.Test.YtflolnilagogpaaMgj
import Derived.Test.YtflolnilagogpaaMgm
import Derived.Test.YtflolnilagogpaaMge
/-
  The program's putTable.
-/
namespace Go.Proofs.Ytflolnilagogpaa
section
set_option linter.unusedSimpArgs false
set_option linter.unusedVariables false
open Go.RowKit

theorem Keeps.low {base : Nat} {w w' : World} (h : Keeps base w w') : Below base w w' := h.below base w (Nat.le_refl _) ⟨rfl, rfl, rfl, Nat.le_refl _, fun _ _ => rfl⟩
theorem u8_of {z : Int} (h0 : 0 ≤ z) (h1 : z ≤ 255) : z = ((UInt8.ofNat z.toNat).toNat : Int) ∧ IntKind.u8.wrap z = ((UInt8.ofNat z.toNat).toNat : Int) := by
  rw [u8_nat, IntKind.wrap_u8]
  omega
set_option maxRecDepth 100000 in
set_option maxHeartbeats 4000000 in
theorem putTable_any (sv : Value) (l : List UInt8) (t : Tb) (w : World) (base : Nat) (hown : Own w base sv l) (hb : base ≤ w.heap.size) (hlen : l.length ≤ 10000) (hcr : Reads w base 4 t.A t.n (vC t.cols)) (hm : MayT t.pt) :
    Calls Try.prog 17 #[sv, t.agg] w (RetOwn w base (l ++ tabB t.pt)) := by
  obtain ⟨nm, A, n, c, f, rr, p, cols⟩ := t
  simp only at hcr
  have hln : cols.length = n := by have := hcr.1; rw [vC_len] at this; omega
  have hlp : (cols.map Cl.pc).length = n := by rw [List.length_map]; exact hln
  have n8 : n ≤ 8 := by have := hm.2.2.1; change (cols.map Cl.pc).length ≤ 8 at this; omega
  have nI : (n : Int) ≤ 8 := by omega
  have nms : nm.size ≤ 24 := (nb_facts hm.1).2
  have wf : IntKind.i64.wrap f = f := Go.IntWalk.i64_in _ (by have := num31_iff.1 hm.2.2.2.1; change 0 ≤ f ∧ f < 2147483648 at this; omega)
  have hn8 := u8_of (z := (n : Int)) (by omega) (by omega)
  have HC := Lib.hid (And.intro hcr (And.intro hm (And.intro hln (And.intro hlp (And.intro nms (And.intro hlen hn8))))))
  have HH : ∀ k, (headL ⟨nm.data.toList, cols.map Cl.pc, f, rr, p⟩ k).length ≤ 600 ∨ 16 < k := fun k => by
    by_cases h : k ≤ 16
    · exact .inl (headL_len hm k h)
    · exact .inr (by omega)
  have HLN := Lib.hid HH
  clear hcr hm hln hlp nms hlen hn8 HH
  go_enter Try.func17, Try.ntmps17
  go_wp2_with fail
  refine (putText_any sv l nm _ base (hown.alloc _) (by simp; omega) HC.out.2.2.2.2.1 (by have := HC.out.2.2.2.2.2.1; omega)).mono ?_
  rintro e w1 ⟨v1, rfl, own1, kp1⟩
  have K1 : Keeps base w w1 := (Keeps.alloc_ hb _).trans kp1
  have B1 : Blk w1 w.heap.size 44 #[.string nm, .slice A n c, .int .u32 f, .int .i64 rr, .int .i64 p] := kp1.blk _ _ _ (by decide) (Blk.new _ _ _)
  have c1 : w1.cell? ⟨w.heap.size, 1, none⟩ = some (.slice A n c) := B1.cell 1
  have H1 := Lib.hid (And.intro own1 (And.intro K1 B1))
  have hb1 := Nat.le_trans hb K1.size
  have lt1 := B1.lt
  clear hown kp1 own1 K1 B1
  go_wp2_with (at_builtin; refine wpList_pushB rfl _ _ rfl base v1 (l ++ txtB nm.data.toList) (UInt8.ofNat (n : Int).toNat) _ (by first | rfl | (simp; done)) H1.out.1 _ (by first | rfl | (simp; done)) (by simp) (by first | exact HC.out.2.2.2.2.2.2.1 | exact HC.out.2.2.2.2.2.2.2) (by have := HC.out.2.2.2.2.2.1; have := HC.out.2.2.2.2.1; rw [List.length_append, txt_len]; have : nm.data.toList.length = nm.size := rfl; omega) hb1 ?_; intro v2 w2 own2 kp2; have B2 := kp2.blk _ _ _ (by decide) H1.out.2.2; have c2 : w2.cell? ⟨w.heap.size, 1, none⟩ = some (.slice A n c) := B2.cell 1; have H2 := Lib.hid (And.intro own2 (And.intro (H1.out.2.1.trans kp2) B2)))
  have hb2 := Nat.le_trans hb H2.out.2.1.size
  go_loopw [0, 21] (fun bv iv wr => ∃ k : Nat, k ≤ n ∧ iv = .int .i64 k ∧ Own wr base bv (l ++ headL ⟨nm.data.toList, cols.map Cl.pc, f, rr, p⟩ k) ∧ Keeps base w wr ∧ Blk wr w.heap.size 44 #[.string nm, .slice A n c, .int .u32 f, .int .i64 rr, .int .i64 p]) (fun _ iv _ => n - (intOf iv).toNat)
  case atStart =>
    refine ⟨0, by omega, rfl, ?_, H2.out.2.1, H2.out.2.2⟩
    have h := H2.out.1
    have e : l ++ txtB nm.data.toList ++ [UInt8.ofNat (n : Int).toNat] = l ++ headL ⟨nm.data.toList, cols.map Cl.pc, f, rr, p⟩ 0 := by
      unfold headL oneB
      rw [show ((cols.map Cl.pc).length : Int) = (n : Int) from by rw [HC.out.2.2.2.1]]
      simp
    rwa [e] at h
  case round =>
    clear c1 c2
    obtain ⟨wo, rfl⟩ : ∃ wo : World, wo = wr := ⟨_, rfl⟩
    obtain ⟨k, hk, rfl, own, kp, hbk⟩ := hrel
    have q0 : (0 : Int) ≤ (k : Int) := by omega
    have hbo := Nat.le_trans hb kp.size
    have d1 : wo.cell? ⟨w.heap.size, 1, none⟩ = some (.slice A n c) := hbk.cell 1
    have blt := hbk.lt
    by_cases hlt : k < n
    · have q1 : (k : Int) < (n : Int) := by omega
      obtain ⟨ad, q, hA, hab, hq, f0, f1, f2, f3⟩ := (HC.out.1.below kp.low).cl_ hlt
      subst hA
      have hpq : (cols.map Cl.pc)[k]? = some q.pc := by rw [List.getElem?_map, hq]; rfl
      have hok := (HC.out.2.1.2.2.2.2.2.2 k (by rw [show (Tb.pt ⟨nm, some ad, n, c, f, rr, p, cols⟩).cols.length = n from HC.out.2.2.2.1]; exact hlt) _ hpq).1
      have hqk := u8_of (z := q.k) (by have := hok.2.1.1; change 1 ≤ q.k at this; omega) (by have := hok.2.1.2; change q.k ≤ 3 at this; omega)
      have hll : (l ++ headL ⟨nm.data.toList, cols.map Cl.pc, f, rr, p⟩ k).length ≤ 10600 := by
        have := HC.out.2.2.2.2.2.1
        rcases HLN.out k with h | h
        · rw [List.length_append]; omega
        · omega
      have hst : l ++ headL ⟨nm.data.toList, cols.map Cl.pc, f, rr, p⟩ (k + 1) = l ++ headL ⟨nm.data.toList, cols.map Cl.pc, f, rr, p⟩ k ++ txtB q.nm.data.toList ++ [UInt8.ofNat q.k.toNat] ++ [q.d, q.u].flatMap fourB := by
        unfold headL
        rw [flat_take colB hpq]
        unfold colB oneB Cl.pc
        simp
      have HQ := Lib.hid (And.intro hok (And.intro hqk (And.intro hll (And.intro hst (And.intro own (And.intro kp hbk))))))
      clear hpq hq hok hqk hll hst own kp hbk
      go_wp2_with fail
      refine (putText_any _ _ q.nm _ base (HQ.out.2.2.2.2.1.alloc _) (by simp; omega) (nb_facts HQ.out.1.1).2 (by have := HQ.out.2.2.1; omega)).mono ?_
      rintro e w3 ⟨v3, rfl, own3, kp3⟩
      have K3 : Keeps base w w3 := HQ.out.2.2.2.2.2.1.trans ((Keeps.alloc_ hbo _).trans kp3)
      have B3 := kp3.blk _ _ _ (by decide) (HQ.out.2.2.2.2.2.2.alloc (.cells #[.string q.nm, .int .u8 q.k, .int .i64 q.d, .int .i64 q.u] 46))
      have C3 := kp3.blk _ _ _ (by decide) (Blk.new wo 46 #[.string q.nm, .int .u8 q.k, .int .i64 q.d, .int .i64 q.u])
      have g1 : w3.cell? ⟨wo.heap.size, 1, none⟩ = some (.int .u8 q.k) := C3.cell 1
      have H3 := Lib.hid (And.intro own3 (And.intro K3 (And.intro B3 C3)))
      have hb3 := Nat.le_trans hb K3.size
      clear own3 K3 B3 C3 kp3 f0 f1 f2 f3
      go_wp2_with (at_builtin; refine wpList_pushB rfl _ _ rfl base v3 _ (UInt8.ofNat q.k.toNat) _ (by first | rfl | (simp; done)) H3.out.1 _ (by first | rfl | (simp; done)) (by simp) (by first | exact HQ.out.2.1.1 | exact HQ.out.2.1.2) (by have := HQ.out.2.2.1; have := (nb_facts HQ.out.1.1).2; change q.nm.data.toList.length ≤ 24 at this; rw [List.length_append, txt_len]; omega) hb3 ?_; intro v4 w4 own4 kp4; have B4 := kp4.blk _ _ _ (by decide) H3.out.2.2.1; have C4 := kp4.blk _ _ _ (by decide) H3.out.2.2.2; have g2 : w4.cell? ⟨wo.heap.size, 2, none⟩ = some (.int .i64 q.d) := C4.cell 2; have g3 : w4.cell? ⟨wo.heap.size, 3, none⟩ = some (.int .i64 q.u) := C4.cell 3; have H4 := Lib.hid (And.intro own4 (And.intro (H3.out.2.1.trans kp4) B4)); clear own4 kp4 B4 C4)
      have hb4 := Nat.le_trans hb H4.out.2.1.size
      refine (putNumbers_any v4 _ (some ⟨w4.heap.size, 0, none⟩) 2 2 [q.d, q.u] _ base (H4.out.1.alloc _) (by simp; omega) (by have := HQ.out.2.2.1; have := (nb_facts HQ.out.1.1).2; change q.nm.data.toList.length ≤ 24 at this; rw [List.length_append, List.length_append, txt_len]; simp only [List.length_cons, List.length_nil]; omega) (by omega) (fun W kW => ⟨_, reads_blk (kW.blk _ _ _ (by decide) (Blk.new _ _ _)) rfl rfl⟩) (by
        intro z hz
        simp only [List.mem_cons, List.not_mem_nil, or_false] at hz
        rcases hz with rfl | rfl
        · exact HQ.out.1.2.2.1
        · exact HQ.out.1.2.2.2)).mono ?_
      rintro e w5 ⟨v5, rfl, own5, kp5⟩
      have H5 := Lib.hid (And.intro own5 (And.intro (H4.out.2.1.trans ((Keeps.alloc_ hb4 _).trans kp5)) (kp5.blk _ _ _ (by decide) (H4.out.2.2.alloc (.cells #[.int .i64 q.d, .int .i64 q.u] 3)))))
      clear own5 kp5 g1 g2 g3
      go_wp2
      exact ⟨⟨k + 1, by omega, by go_num, by rw [HQ.out.2.2.2.1]; exact H5.out.1, H5.out.2.1, H5.out.2.2⟩, by simp [intOf]; omega⟩
    · obtain rfl : k = n := by omega
      have d2 : wo.cell? ⟨w.heap.size, 2, none⟩ = some (.int .u32 f) := hbk.cell 2
      have d3 : wo.cell? ⟨w.heap.size, 3, none⟩ = some (.int .i64 rr) := hbk.cell 3
      have d4 : wo.cell? ⟨w.heap.size, 4, none⟩ = some (.int .i64 p) := hbk.cell 4
      have f0 : (0 : Int) ≤ f := by have := num31_iff.1 HC.out.2.1.2.2.2.1; change 0 ≤ f ∧ f < 2147483648 at this; omega
      have f1 : f ≤ 4294967295 := by have := num31_iff.1 HC.out.2.1.2.2.2.1; change 0 ≤ f ∧ f < 2147483648 at this; omega
      have hst : l ++ tabB ⟨nm.data.toList, cols.map Cl.pc, f, rr, p⟩ = l ++ headL ⟨nm.data.toList, cols.map Cl.pc, f, rr, p⟩ k ++ [f, rr, p].flatMap fourB := by
        unfold tabB headL
        rw [List.take_of_length_le (by rw [HC.out.2.2.2.1]; exact Nat.le_refl _)]
        simp
      have hll : (l ++ headL ⟨nm.data.toList, cols.map Cl.pc, f, rr, p⟩ k).length ≤ 10600 := by
        have := HC.out.2.2.2.2.2.1
        rcases HLN.out k with h | h
        · rw [List.length_append]; omega
        · omega
      have HQ := Lib.hid (And.intro hst (And.intro hll (And.intro own kp)))
      clear hst hll own kp hbk
      go_wp2_with fail
      refine (putNumbers_any _ _ (some ⟨wo.heap.size, 0, none⟩) 3 3 [f, rr, p] _ base (HQ.out.2.2.1.alloc _) (by simp; omega) (by have := HQ.out.2.1; omega) (by omega) (fun W kW => ⟨_, reads_blk (kW.blk _ _ _ (by decide) (Blk.new _ _ _)) rfl rfl⟩) (by
        intro z hz
        simp only [List.mem_cons, List.not_mem_nil, or_false] at hz
        rcases hz with rfl | rfl | rfl
        · exact HC.out.2.1.2.2.2.1
        · exact HC.out.2.1.2.2.2.2.1
        · exact HC.out.2.1.2.2.2.2.2.1)).mono ?_
      rintro e w5 ⟨v5, rfl, own5, kp5⟩
      have H5 := Lib.hid (And.intro own5 (HQ.out.2.2.2.trans ((Keeps.alloc_ hbo _).trans kp5)))
      clear own5 kp5
      go_wp2
      go_ret
      exact ⟨v5, rfl, by rw [show (Tb.pt ⟨nm, A, k, c, f, rr, p, cols⟩) = ⟨nm.data.toList, cols.map Cl.pc, f, rr, p⟩ from rfl, HQ.out.1]; exact H5.out.1, H5.out.2⟩
end
end Go.Proofs.Ytflolnilagogpaa
/-
  Books out of bytes, plain: what is written is read.
-/
namespace Go.Proofs.Ytflolnilagogpaa
section
set_option linter.unusedSimpArgs false
set_option linter.unusedVariables false
open Go.RowKit

abbrev Got (α : Type) := Option (α × List UInt8)
def gOne (l : List UInt8) : Got Nat := match l with
  | [] => none
  | b :: r => some (b.toNat, r)
def gTake (n : Nat) (l : List UInt8) : Got (List UInt8) := if n ≤ l.length then some (l.take n, l.drop n) else none
def gFour (l : List UInt8) : Got Nat := match gTake 4 l with
  | none => none
  | some (a, r) => some (beVal a, r)
def gText (l : List UInt8) : Got (List UInt8) := match gOne l with
  | none => none
  | some (n, r) => gTake n r
def gMany {α : Type} (g : List UInt8 → Got α) : Nat → List UInt8 → Got (List α)
  | 0, l => some ([], l)
  | n + 1, l => match g l with
    | none => none
    | some (a, r) => match gMany g n r with
      | none => none
      | some (t, r) => some (a :: t, r)
def gInt (g : List UInt8 → Got Nat) (l : List UInt8) : Got Int := match g l with
  | none => none
  | some (n, r) => some ((n : Int), r)
def gCol (l : List UInt8) : Got PC := match gText l with
  | none => none
  | some (s, r) => match gInt gOne r with
    | none => none
    | some (k, r) => match gInt gFour r with
      | none => none
      | some (d, r) => match gInt gFour r with
        | none => none
        | some (u, r) => some (⟨s, k, d, u⟩, r)
def gNums3 (l : List UInt8) : Got (Int × Int × Int) := match gInt gFour l with
  | none => none
  | some (a, r) => match gInt gFour r with
    | none => none
    | some (b, r) => match gInt gFour r with
      | none => none
      | some (c, r) => some ((a, b, c), r)
def gTab (l : List UInt8) : Got PT := match gText l with
  | none => none
  | some (s, r) => match gOne r with
    | none => none
    | some (n, r) => match gMany gCol n r with
      | none => none
      | some (cs, r) => match gNums3 r with
        | none => none
        | some ((a, b, c), r) => some (⟨s, cs, a, b, c⟩, r)
def gIdx (l : List UInt8) : Got PX := match gText l with
  | none => none
  | some (s, r) => match gInt gOne r with
    | none => none
    | some (tb, r) => match gOne r with
      | none => none
      | some (n, r) => match gMany (gInt gOne) n r with
        | none => none
        | some (cs, r) => match gNums3 r with
          | none => none
          | some ((a, b, c), r) => match gMany (gInt gFour) n r with
            | none => none
            | some (ds, r) => some (⟨s, tb, cs, a, b, c, ds⟩, r)
def gBook (l : List UInt8) : Got PB := match gOne l with
  | none => none
  | some (n, r) => match gMany gTab n r with
    | none => none
    | some (ts, r) => match gOne r with
      | none => none
      | some (m, r) => match gMany gIdx m r with
        | none => none
        | some (xs, r) => some (⟨ts, xs⟩, r)
theorem gOne_put {z : Int} (h0 : 0 ≤ z) (h1 : z < 256) (r : List UInt8) : gOne (oneB z ++ r) = some (z.toNat, r) := by
  unfold oneB gOne
  simp only [List.cons_append, List.nil_append, Option.some.injEq, Prod.mk.injEq, and_true]
  rw [UInt8.toNat_ofNat']
  omega
theorem gInt_one {z : Int} (h0 : 0 ≤ z) (h1 : z < 256) (r : List UInt8) : gInt gOne (oneB z ++ r) = some (z, r) := by
  unfold gInt
  rw [gOne_put h0 h1]
  simp only [Option.some.injEq, Prod.mk.injEq, and_true]
  omega
theorem gTake_put (s r : List UInt8) : gTake s.length (s ++ r) = some (s, r) := by
  unfold gTake
  rw [if_pos (by rw [List.length_append]; omega), List.take_left' rfl, List.drop_left' rfl]
theorem gInt_four {z : Int} (h : num31 z = true) (r : List UInt8) : gInt gFour (fourB z ++ r) = some (z, r) := by
  obtain ⟨h0, h1⟩ := num31_iff.1 h
  unfold gInt gFour
  have h4 : (fourB z).length = 4 := by unfold fourB; exact be_len 4 _
  have ht := gTake_put (fourB z) r
  rw [h4] at ht
  rw [ht]
  have hv : beVal (fourB z) = z.toNat := by
    unfold fourB
    rw [beVal_be]
    omega
  simp only [hv, Option.some.injEq, Prod.mk.injEq, and_true]
  omega
theorem gText_put {s : List UInt8} (h : s.length ≤ 255) (r : List UInt8) : gText (txtB s ++ r) = some (s, r) := by
  unfold gText txtB gOne
  simp only [List.cons_append]
  rw [show (UInt8.ofNat s.length).toNat = s.length from by rw [UInt8.toNat_ofNat']; omega]
  exact gTake_put s r
theorem gMany_put {α : Type} {g : List UInt8 → Got α} {f : α → List UInt8} : ∀ (l : List α), (∀ a ∈ l, ∀ r, g (f a ++ r) = some (a, r)) → ∀ r, gMany g l.length (l.flatMap f ++ r) = some (l, r) := by
  intro l
  induction l with
  | nil => intro _ r; rfl
  | cons a t ih =>
    intro h r
    rw [List.length_cons, List.flatMap_cons, List.append_assoc]
    unfold gMany
    rw [h a (by simp)]
    simp only
    rw [ih (fun b hb => h b (by simp [hb])) r]
theorem gCol_put {c : PC} (h : OkC c) (r : List UInt8) : gCol (colB c ++ r) = some (c, r) := by
  have h1 := nb_facts h.1
  unfold gCol colB
  simp only [List.append_assoc]
  rw [gText_put (by omega)]
  simp only
  rw [gInt_one (by have := h.2.1; omega) (by have := h.2.1; omega)]
  simp only
  rw [gInt_four h.2.2.1]
  simp only
  rw [gInt_four h.2.2.2]
theorem gNums3_put {a b c : Int} (ha : num31 a = true) (hb : num31 b = true) (hc : num31 c = true) (r : List UInt8) : gNums3 (fourB a ++ (fourB b ++ (fourB c ++ r))) = some ((a, b, c), r) := by
  unfold gNums3
  rw [gInt_four ha]
  simp only
  rw [gInt_four hb]
  simp only
  rw [gInt_four hc]
theorem gTab_put {t : PT} (h : MayT t) (r : List UInt8) : gTab (tabB t ++ r) = some (t, r) := by
  have h1 := nb_facts h.1
  unfold gTab tabB
  simp only [List.append_assoc]
  rw [gText_put (by omega)]
  simp only
  rw [gOne_put (by omega) (by have := h.2.2.1; omega)]
  simp only [Int.toNat_natCast]
  rw [gMany_put t.cols (fun c hc r => by
    obtain ⟨i, hi, he⟩ := List.mem_iff_getElem.1 hc
    exact gCol_put (h.2.2.2.2.2.2 i hi c (by rw [List.getElem?_eq_getElem hi, he])).1 r)]
  simp only
  rw [gNums3_put h.2.2.2.1 h.2.2.2.2.1 h.2.2.2.2.2.1]
theorem MayX.row {ts : List PT} {x : PX} (h : MayX ts x) (h8 : ∀ t ∈ ts, t.cols.length ≤ 8) : (∀ c ∈ x.cs, 0 ≤ c ∧ c < 256) ∧ ∀ d ∈ x.ds, num31 d = true := by
  have hml : x.tb.toNat < ts.length := by have := h.2.1; have := h.2.2.1; omega
  have ht := List.getElem?_eq_getElem hml
  have h9 := h8 _ (List.getElem_mem hml)
  have hlen := h.2.2.2.2.2.1
  constructor
  · intro c hc
    obtain ⟨i, hi, he⟩ := List.mem_iff_getElem.1 hc
    have h3 := (h.2.2.2.2.2.2.1 _ ht i c _ (by rw [List.getElem?_eq_getElem hi, he]) (List.getElem?_eq_getElem (show i < x.ds.length by omega))).1
    omega
  · intro d hd
    obtain ⟨i, hi, he⟩ := List.mem_iff_getElem.1 hd
    exact (h.2.2.2.2.2.2.1 _ ht i _ d (List.getElem?_eq_getElem (show i < x.cs.length by omega)) (by rw [List.getElem?_eq_getElem hi, he])).2
theorem gIdx_put {ts : List PT} {x : PX} (h : MayX ts x) (hn : ts.length ≤ 16) (h8 : ∀ t ∈ ts, t.cols.length ≤ 8) (r : List UInt8) : gIdx (idxB x ++ r) = some (x, r) := by
  have h1 := nb_facts h.1
  obtain ⟨hc, hd⟩ := h.row h8
  unfold gIdx idxB
  simp only [List.append_assoc]
  rw [gText_put (by omega)]
  simp only
  rw [gInt_one h.2.1 (by have := h.2.2.1; omega)]
  simp only
  rw [gOne_put (by omega) (by have := h.2.2.2.2.1; omega)]
  simp only [Int.toNat_natCast]
  rw [gMany_put x.cs (fun c h r => gInt_one (hc c h).1 (hc c h).2 r)]
  simp only
  rw [gNums3_put h.2.2.2.2.2.2.2.2.1 h.2.2.2.2.2.2.2.2.2.1 h.2.2.2.2.2.2.2.2.2.2]
  simp only
  rw [← h.2.2.2.2.2.1, gMany_put x.ds (fun d h r => gInt_four (hd d h) r)]
theorem gBook_put {b : PB} (h : MayB b) (r : List UInt8) : gBook (bookB b ++ r) = some (b, r) := by
  have h8 : ∀ t ∈ b.ts, t.cols.length ≤ 8 := fun t ht => by
    obtain ⟨i, hi, he⟩ := List.mem_iff_getElem.1 ht
    exact (h.2.2.1 i hi t (by rw [List.getElem?_eq_getElem hi, he])).1.2.2.1
  unfold gBook bookB
  simp only [List.append_assoc]
  rw [gOne_put (by omega) (by have := h.1; omega)]
  simp only [Int.toNat_natCast]
  rw [gMany_put b.ts (fun t ht r => by
    obtain ⟨i, hi, he⟩ := List.mem_iff_getElem.1 ht
    exact gTab_put (h.2.2.1 i hi t (by rw [List.getElem?_eq_getElem hi, he])).1 r)]
  simp only
  rw [gOne_put (by omega) (by have := h.2.1; omega)]
  simp only [Int.toNat_natCast]
  rw [gMany_put b.xs (fun x hx r => by
    obtain ⟨i, hi, he⟩ := List.mem_iff_getElem.1 hx
    exact gIdx_put (h.2.2.2 i hi x (by rw [List.getElem?_eq_getElem hi, he])).1 h.1 h8 r)]
theorem bookB_inj {a b : PB} (ha : MayB a) (hb : MayB b) : bookB a = bookB b ↔ a = b := by
  refine ⟨fun h => ?_, fun h => by rw [h]⟩
  have h1 := gBook_put ha []
  rw [h, gBook_put hb []] at h1
  exact (Prod.mk.inj (Option.some.inj h1)).1.symm
end
end Go.Proofs.Ytflolnilagogpaa
/-
  The program's putIndex.
-/
namespace Go.Proofs.Ytflolnilagogpaa
section
set_option linter.unusedSimpArgs false
set_option linter.unusedVariables false
open Go.RowKit

set_option maxRecDepth 100000 in
set_option maxHeartbeats 4000000 in
theorem putIndex_any (sv : Value) (l : List UInt8) (x : Ix) (ts : List PT) (w : World) (base : Nat) (hown : Own w base sv l) (hb : base ≤ w.heap.size) (hlen : l.length ≤ 10000) (hcs : Reads w base 1 x.A x.n (vI64 x.cs)) (hds : Reads w base 1 x.B x.m (vI64 x.ds)) (hm : MayX ts x.px)
    (hrow : (∀ c ∈ x.cs, 0 ≤ c ∧ c < 256) ∧ ∀ d ∈ x.ds, num31 d = true) (htb : x.tb < 256) :
    Calls Try.prog 18 #[sv, x.agg] w (RetOwn w base (l ++ idxB x.px)) := by
  obtain ⟨nm, tb, A, n, c, root, lv, hi, B, m, e', cs, ds⟩ := x
  simp only at hcs hds hrow htb
  have hcl : cs.length = n := by have := hcs.1; rw [vI64_len] at this; omega
  have hdl : ds.length = m := by have := hds.1; rw [vI64_len] at this; omega
  have n2 : n ≤ 2 := by have := hm.2.2.2.2.1; change cs.length ≤ 2 at this; omega
  have m2 : m ≤ 2 := by have := hm.2.2.2.2.2.1; change ds.length = cs.length at this; omega
  have nI : (n : Int) ≤ 2 := by omega
  have nms : nm.size ≤ 24 := (nb_facts hm.1).2
  have r31 := num31_iff.1 hm.2.2.2.2.2.2.2.2.1
  change 0 ≤ root ∧ root < 2147483648 at r31
  have f0 : (0 : Int) ≤ root := r31.1
  have f1 : root ≤ 4294967295 := by omega
  have wf : IntKind.i64.wrap root = root := Go.IntWalk.i64_in _ (by omega)
  have t0 : 0 ≤ tb := hm.2.1
  have hn8 := u8_of (z := (n : Int)) (by omega) (by omega)
  have ht8 := u8_of (z := tb) t0 (by omega)
  have HC := Lib.hid (And.intro hcs (And.intro hds (And.intro hm (And.intro hrow (And.intro hcl (And.intro hdl (And.intro nms (And.intro hlen (And.intro hn8 ht8)))))))))
  have HX := Lib.hid fun k => hdX_len hm k
  clear hcs hds hm hrow hcl hdl nms hlen hn8 ht8 r31
  go_enter Try.func18, Try.ntmps18
  go_wp2_with fail
  refine (putText_any sv l nm _ base (hown.alloc _) (by simp; omega) HC.out.2.2.2.2.2.2.1 (by have := HC.out.2.2.2.2.2.2.2.1; omega)).mono ?_
  rintro e w1 ⟨v1, rfl, own1, kp1⟩
  have K1 : Keeps base w w1 := (Keeps.alloc_ hb _).trans kp1
  have B1 : Blk w1 w.heap.size 49 #[.string nm, .int .i64 tb, .slice A n c, .int .u32 root, .int .i64 lv, .int .i64 hi, .slice B m e'] := kp1.blk _ _ _ (by decide) (Blk.new _ _ _)
  have c1 : w1.cell? ⟨w.heap.size, 1, none⟩ = some (.int .i64 tb) := B1.cell 1
  have c2 : w1.cell? ⟨w.heap.size, 2, none⟩ = some (.slice A n c) := B1.cell 2
  have H1 := Lib.hid (And.intro own1 (And.intro K1 B1))
  have hb1 := Nat.le_trans hb K1.size
  have lt1 := B1.lt
  clear hown kp1 own1 K1 B1
  have hbl : [Value.int .u8 tb, Value.int .u8 (n : Int)] = bL [UInt8.ofNat tb.toNat, UInt8.ofNat (n : Int).toNat] := by
    show _ = [Value.int .u8 ((UInt8.ofNat tb.toNat).toNat : Int), Value.int .u8 ((UInt8.ofNat (n : Int).toNat).toNat : Int)]
    rw [← HC.out.2.2.2.2.2.2.2.2.1.1, ← HC.out.2.2.2.2.2.2.2.2.2.1]
  have HBL := Lib.hid hbl
  clear hbl
  go_wp2_with (at_builtin; refine wpList_appR (w := w1.alloc _) rfl _ _ rfl base v1 (l ++ txtB nm.data.toList) [UInt8.ofNat tb.toNat, UInt8.ofNat (n : Int).toNat] (some ⟨w1.heap.size, 0, none⟩) 2 2 (w1.heap.size + 1) (by first | rfl | (simp; done)) (H1.out.1.alloc _) (by first | rfl | (simp; done)) (by rw [← HBL.out]; exact reads_new w1 _ _ rfl rfl) (by have := HC.out.2.2.2.2.2.2.2.1; have := HC.out.2.2.2.2.2.2.1; rw [List.length_append, txt_len]; have : nm.data.toList.length = nm.size := rfl; simp; omega) (by simp; omega) ?_; intro v2 w2 own2 kp2; have K2 := H1.out.2.1.trans ((Keeps.alloc_ hb1 _).trans kp2); have B2 := kp2.blk _ _ _ (by decide) (H1.out.2.2.alloc (.cells #[.int .u8 tb, .int .u8 (n : Int)] 5)); have c2' : w2.cell? ⟨w.heap.size, 2, none⟩ = some (.slice A n c) := B2.cell 2; have H2 := Lib.hid (And.intro own2 (And.intro K2 B2)); clear kp2 K2 B2)
  go_loopw [0, 24] (fun bv iv wr => ∃ k : Nat, k ≤ n ∧ iv = .int .i64 k ∧ Own wr base bv (l ++ hdX ⟨nm.data.toList, tb, cs, root, lv, hi, ds⟩ k) ∧ Keeps base w wr ∧ Blk wr w.heap.size 49 #[.string nm, .int .i64 tb, .slice A n c, .int .u32 root, .int .i64 lv, .int .i64 hi, .slice B m e']) (fun _ iv _ => n - (intOf iv).toNat)
  case atStart =>
    refine ⟨0, by omega, rfl, ?_, H2.out.2.1, H2.out.2.2⟩
    have h := H2.out.1
    have e : l ++ txtB nm.data.toList ++ [UInt8.ofNat tb.toNat, UInt8.ofNat (n : Int).toNat] = l ++ hdX ⟨nm.data.toList, tb, cs, root, lv, hi, ds⟩ 0 := by
      unfold hdX oneB
      rw [show (cs.length : Int) = (n : Int) from by rw [HC.out.2.2.2.2.1]]
      simp
    rwa [e] at h
  case round =>
    clear c1 c2 c2'
    obtain ⟨wo, rfl⟩ : ∃ wo : World, wo = wr := ⟨_, rfl⟩
    obtain ⟨k, hk, rfl, own, kp, hbk⟩ := hrel
    have q0 : (0 : Int) ≤ (k : Int) := by omega
    have hbo := Nat.le_trans hb kp.size
    have d2 : wo.cell? ⟨w.heap.size, 2, none⟩ = some (.slice A n c) := hbk.cell 2
    have blt := hbk.lt
    have hll : (l ++ hdX ⟨nm.data.toList, tb, cs, root, lv, hi, ds⟩ k).length ≤ 10100 := by
      have := HC.out.2.2.2.2.2.2.2.1
      have := HX.out k
      change (hdX ⟨nm.data.toList, tb, cs, root, lv, hi, ds⟩ k).length ≤ 50 at this
      rw [List.length_append]; omega
    by_cases hlt : k < n
    · have q1 : (k : Int) < (n : Int) := by omega
      obtain ⟨ad, z, hA, hab, hz, f2⟩ := (HC.out.1.below kp.low).i64_ hlt
      subst hA
      have hzz := HC.out.2.2.2.1.1 z (List.mem_of_getElem? hz)
      have z0 := hzz.1
      have z1 : z ≤ 255 := by omega
      have hqk := u8_of z0 z1
      have hst : l ++ hdX ⟨nm.data.toList, tb, cs, root, lv, hi, ds⟩ (k + 1) = l ++ hdX ⟨nm.data.toList, tb, cs, root, lv, hi, ds⟩ k ++ [UInt8.ofNat z.toNat] := by
        unfold hdX
        rw [flat_take oneB (show cs[k]? = some z from hz)]
        unfold oneB
        simp
      have HQ := Lib.hid (And.intro hqk (And.intro hll (And.intro hst (And.intro own (And.intro kp hbk)))))
      clear hz hzz hqk hll hst own kp hbk
      go_wp2_with (at_builtin; refine wpList_pushB rfl _ _ rfl base _ _ (UInt8.ofNat z.toNat) _ (by first | rfl | (simp; done)) HQ.out.2.2.2.1 _ (by first | rfl | (simp; done)) (by simp) (by first | exact HQ.out.1.1 | exact HQ.out.1.2) (by have := HQ.out.2.1; omega) hbo ?_; intro v4 w4 own4 kp4)
      exact ⟨⟨k + 1, by omega, by go_num, by rw [HQ.out.2.2.1]; exact own4, HQ.out.2.2.2.2.1.trans kp4, kp4.blk _ _ _ (by decide) HQ.out.2.2.2.2.2⟩, by simp [intOf]; omega⟩
    · obtain rfl : k = n := by omega
      have d3 : wo.cell? ⟨w.heap.size, 3, none⟩ = some (.int .u32 root) := hbk.cell 3
      have d4 : wo.cell? ⟨w.heap.size, 4, none⟩ = some (.int .i64 lv) := hbk.cell 4
      have d5 : wo.cell? ⟨w.heap.size, 5, none⟩ = some (.int .i64 hi) := hbk.cell 5
      have HQ := Lib.hid (And.intro hll (And.intro own (And.intro kp hbk)))
      clear hll own kp hbk
      go_wp2_with fail
      refine (putNumbers_any _ _ (some ⟨wo.heap.size, 0, none⟩) 3 3 [root, lv, hi] _ base (HQ.out.2.1.alloc _) (by simp; omega) (by have := HQ.out.1; omega) (by omega) (fun W kW => ⟨_, reads_blk (kW.blk _ _ _ (by decide) (Blk.new _ _ _)) rfl rfl⟩) (by
        intro z hz
        simp only [List.mem_cons, List.not_mem_nil, or_false] at hz
        rcases hz with rfl | rfl | rfl
        · exact HC.out.2.2.1.2.2.2.2.2.2.2.2.1
        · exact HC.out.2.2.1.2.2.2.2.2.2.2.2.2.1
        · exact HC.out.2.2.1.2.2.2.2.2.2.2.2.2.2)).mono ?_
      rintro e w5 ⟨v5, rfl, own5, kp5⟩
      have K5 := HQ.out.2.2.1.trans ((Keeps.alloc_ hbo _).trans kp5)
      have B5 := kp5.blk _ _ _ (by decide) (HQ.out.2.2.2.alloc (.cells #[.int .i64 root, .int .i64 lv, .int .i64 hi] 3))
      have g6 : w5.cell? ⟨w.heap.size, 6, none⟩ = some (.slice B m e') := B5.cell 6
      have H5 := Lib.hid (And.intro own5 K5)
      have hb5 := Nat.le_trans hb K5.size
      clear own5 kp5 K5 B5 d2 d3 d4 d5
      go_wp2_with fail
      refine (putNumbers_any v5 _ B m e' ds _ base H5.out.1 hb5 (by have := HQ.out.1; rw [List.length_append]; have h4 := four_flat [root, lv, hi]; simp only [List.length_cons, List.length_nil] at h4; omega) (by omega) (fun W kW => ⟨_, HC.out.2.1.below (H5.out.2.trans kW).low⟩) HC.out.2.2.2.1.2).mono ?_
      rintro e w6 ⟨v6, rfl, own6, kp6⟩
      have hst : l ++ idxB ⟨nm.data.toList, tb, cs, root, lv, hi, ds⟩ = l ++ hdX ⟨nm.data.toList, tb, cs, root, lv, hi, ds⟩ k ++ [root, lv, hi].flatMap fourB ++ ds.flatMap fourB := by
        unfold idxB hdX
        rw [List.take_of_length_le (by rw [HC.out.2.2.2.2.1]; exact Nat.le_refl _)]
        simp
      have H6 := Lib.hid (And.intro own6 (And.intro (H5.out.2.trans kp6) hst))
      clear own6 kp6 hst
      go_wp2
      go_ret
      exact ⟨v6, rfl, by rw [show (Ix.px ⟨nm, tb, A, k, c, root, lv, hi, B, m, e', cs, ds⟩) = ⟨nm.data.toList, tb, cs, root, lv, hi, ds⟩ from rfl, H6.out.2.2]; exact H6.out.1, H6.out.2.1⟩
end
end Go.Proofs.Ytflolnilagogpaa
