/-
  The program's Put.
-/
import Derived.Test.YtflolnilagogpaaIu
set_option linter.unusedSimpArgs false
set_option linter.unusedVariables false
namespace Go.Proofs.Ytflolnilagogpaa
open Go.RowKit

/-- What Put answers of a book that may be. -/
def RetBook (w : World) (l : List UInt8) (e : Ending) (w' : World) : Prop := ∃ A n c, e = .returned (.tuple #[.slice A n c, .int .i64 0]) ∧ Own w' w.heap.size (.slice A n c) l ∧ Below w.heap.size w w'
theorem putL_len {ts : List PT} (h : ∀ t ∈ ts, MayT t) (i : Nat) (hi : i ≤ 16) : (putL ts i).length ≤ 6500 := by
  unfold putL
  have := take_le tabB 400 ts i (fun t ht => tab_len (h t ht)) hi
  rw [List.length_append, one_len]; omega
theorem putX_len {ts : List PT} {xs : List PX} (h : ∀ t ∈ ts, MayT t) (hx : ∀ x ∈ xs, MayX ts x) (hn : ts.length ≤ 16) (i : Nat) (hi : i ≤ 16) : (putX ts xs i).length ≤ 8200 := by
  unfold putX
  have h0 := putL_len h ts.length hn
  have := take_le idxB 100 xs i (fun x hx' => idx_len (hx x hx')) hi
  simp only [List.length_append, one_len]; omega
set_option maxRecDepth 100000 in
set_option maxHeartbeats 4000000 in
theorem put_any (A : Option Addr) (n c : Nat) (l : List Tb) (B : Option Addr) (m d : Nat) (r : List Ix) (w : World) (hk : BkIn w A n c l B m d r) (hmay : MayB (pbk l r)) :
    Calls Try.prog 8 #[.agg #[.slice A n c, .slice B m d]] w (RetBook w (bookB (pbk l r))) := by
  have hlp : (l.map Tb.pt).length = n := by rw [List.length_map]; exact hk.ln
  have hrp : (r.map Ix.px).length = m := by rw [List.length_map]; exact hk.rn
  have n16 : n ≤ 16 := by have := hmay.1; change (l.map Tb.pt).length ≤ 16 at this; omega
  have m16 : m ≤ 16 := by have := hmay.2.1; change (r.map Ix.px).length ≤ 16 at this; omega
  have nI : (n : Int) ≤ 16 := by omega
  have mI : (m : Int) ≤ 16 := by omega
  have MT : ∀ t ∈ l.map Tb.pt, MayT t := fun t ht => by
    obtain ⟨i, hi, he⟩ := List.mem_iff_getElem.1 ht
    exact (hmay.2.2.1 i hi t (by show (l.map Tb.pt)[i]? = some t; rw [List.getElem?_eq_getElem hi, he])).1
  have MX : ∀ x ∈ r.map Ix.px, MayX (l.map Tb.pt) x := fun x hx => by
    obtain ⟨i, hi, he⟩ := List.mem_iff_getElem.1 hx
    exact (hmay.2.2.2 i hi x (by show (r.map Ix.px)[i]? = some x; rw [List.getElem?_eq_getElem hi, he])).1
  have hn8 := u8_of (z := (n : Int)) (by omega) (by omega)
  have hm8 := u8_of (z := (m : Int)) (by omega) (by omega)
  have MAY : Hid (∀ W, Below w.heap.size w W → Calls Try.prog 11 #[.agg #[.slice A n c, .slice B m d]] W (RetB W (.bool true))) := Lib.hid fun W hW => (may_any A n c l B m d r W (hk.below hW)).mono fun e w' ⟨b, he, hi, hb⟩ => ⟨by rw [he, hi.2 hmay], hb⟩
  have HC := Lib.hid (And.intro hk (And.intro hlp (And.intro hrp (And.intro MT (And.intro MX (And.intro hn8 hm8))))))
  clear hk hlp hrp MT MX hmay hn8 hm8
  go_enter Try.func8, Try.ntmps8
  go_wp2_with fail
  refine (MAY.out _ (ball (Below.refl _ _) _)).mono ?_
  rintro e w1 ⟨rfl, hb1⟩
  have hbk1 : Blk w1 w.heap.size 25 #[.slice A n c, .slice B m d] := (Blk.new _ _ _).below hb1 (by simp)
  have hbw1 := bto0 (ball (Below.refl w.heap.size w) (.cells #[.slice A n c, .slice B m d] 25)) hb1
  have a0 : w1.cell? ⟨w.heap.size, 0, none⟩ = some (.slice A n c) := hbk1.cell 0
  have a1 : w1.cell? ⟨w.heap.size, 1, none⟩ = some (.slice B m d) := hbk1.cell 1
  have a0' : ∀ o, (w1.alloc o).cell? ⟨w.heap.size, 0, none⟩ = some (.slice A n c) := fun o => Lib.cell?_alloc_some _ a0
  have own1 : Own (w1.alloc (.cells #[.int .u8 (n : Int)] 5)) w1.heap.size (.slice (some ⟨w1.heap.size, 0, none⟩) 1 1) (putL (l.map Tb.pt) 0) := by
    have h : Own (w1.alloc (.cells #[.int .u8 (n : Int)] 5)) w1.heap.size (.slice (some ⟨w1.heap.size, 0, none⟩) 1 1) [UInt8.ofNat (n : Int).toNat] := Own.new (l := [UInt8.ofNat (n : Int).toNat]) (by
      have e : (#[.int .u8 (n : Int)] : Array Value) = bV [UInt8.ofNat (n : Int).toNat] := by
        show _ = #[Value.int .u8 ((UInt8.ofNat (n : Int).toNat).toNat : Int)]
        rw [← HC.out.2.2.2.2.2.1.1]
      rw [← e]
      exact Blk.new _ _ _) (by simp [maxLen]) (Nat.le_refl _) rfl
    have e2 : putL (l.map Tb.pt) 0 = [UInt8.ofNat (n : Int).toNat] := by unfold putL oneB; rw [HC.out.2.1]; simp
    rwa [e2]
  have H1 := Lib.hid (And.intro hbw1 (And.intro hbk1 (And.intro own1 (HC.out.1.below hbw1))))
  have lt1 := hbk1.lt
  clear hb1 hbk1 hbw1 own1 MAY
  go_wp2
  go_loopw [4, 20] (fun u v wr => ∃ i : Nat, i ≤ n ∧ v = .int .i64 i ∧ Own wr w1.heap.size u (putL (l.map Tb.pt) i) ∧ Keeps w1.heap.size w1 wr) (fun _ v _ => n - (intOf v).toNat)
  case atStart => exact ⟨0, by omega, rfl, H1.out.2.2.1, Keeps.alloc_ (Nat.le_refl _) _⟩
  case round =>
    obtain ⟨wo, rfl⟩ : ∃ wo : World, wo = wr := ⟨_, rfl⟩
    obtain ⟨i, hi, rfl, own, kp⟩ := hrel
    have q0 : (0 : Int) ≤ (i : Int) := by omega
    have hbk := kp.blk _ _ _ (by decide) H1.out.2.1
    have b0 : wo.cell? ⟨w.heap.size, 0, none⟩ = some (.slice A n c) := hbk.cell 0
    have b1 : wo.cell? ⟨w.heap.size, 1, none⟩ = some (.slice B m d) := hbk.cell 1
    have hbo := kp.size
    clear a0 a1 a0'
    by_cases hlt : i < n
    · have q1 : (i : Int) < (n : Int) := by omega
      obtain ⟨ad, q, hA, hab, hq, d0, d1, d2, d3, d4⟩ := (H1.out.2.2.2.hr.below kp.low).tb_ hlt
      subst hA
      have hpq : (l.map Tb.pt)[i]? = some q.pt := by rw [List.getElem?_map, hq]; rfl
      have hmt := HC.out.2.2.2.1 _ (List.mem_of_getElem? hpq)
      have hq0 := (H1.out.2.2.2.hl q (List.mem_of_getElem? hq)).1.2.2.1.below kp.low
      have hst : putL (l.map Tb.pt) (i + 1) = putL (l.map Tb.pt) i ++ tabB q.pt := by unfold putL; rw [flat_take tabB hpq]; simp only [List.append_assoc]
      have hll := putL_len HC.out.2.2.2.1 i (by omega)
      have HQ := Lib.hid (And.intro hmt (And.intro hq0 (And.intro hst (And.intro hll (And.intro own kp)))))
      clear hpq hmt hq0 hst hll own kp hq hbk
      go_wp2_with fail
      refine (putTable_any _ _ q _ w1.heap.size (HQ.out.2.2.2.2.1.alloc _) (by simp; omega) (by have := HQ.out.2.2.2.1; omega) (HQ.out.2.1.below (⟨rfl, rfl, rfl, by simp, fun g hg => Below.heap_alloc _ _ _ (by omega)⟩)) HQ.out.1).mono ?_
      rintro e w2 ⟨v2, rfl, own2, kp2⟩
      have H2 := Lib.hid (And.intro own2 (HQ.out.2.2.2.2.2.trans ((Keeps.alloc_ hbo _).trans kp2)))
      clear own2 kp2
      go_wp2
      exact ⟨⟨i + 1, by omega, by go_num, by rw [HQ.out.2.2.1]; exact H2.out.1, H2.out.2⟩, by simp [intOf]; omega⟩
    · obtain rfl : n = i := by omega
      have hll := putL_len HC.out.2.2.2.1 n (by omega)
      have H3 := Lib.hid (And.intro own (And.intro kp (And.intro hbk hll)))
      have hlt3 := hbk.lt
      clear own kp hbk hll
      go_wp2_with (at_builtin; refine wpList_pushB rfl _ _ rfl w1.heap.size _ (putL (l.map Tb.pt) n) (UInt8.ofNat (m : Int).toNat) _ (by first | rfl | (simp; done)) H3.out.1 _ (by first | rfl | (simp; done)) (by simp) (by first | exact HC.out.2.2.2.2.2.2.1 | exact HC.out.2.2.2.2.2.2.2) (by have := H3.out.2.2.2; omega) hbo ?_; intro v4 w4 own4 kp4; have B4 := kp4.blk _ _ _ (by decide) H3.out.2.2.1; have c4 : w4.cell? ⟨w.heap.size, 1, none⟩ = some (.slice B m d) := B4.cell 1; have H4 := Lib.hid (And.intro own4 (H3.out.2.1.trans kp4)); clear own4 kp4 B4)
      obtain ⟨w9, rfl⟩ : ∃ w9 : World, w9 = wo := ⟨_, rfl⟩
      go_loopw [4, 38] (fun u v wr => ∃ i : Nat, i ≤ m ∧ v = .int .i64 i ∧ Own wr w1.heap.size u (putX (l.map Tb.pt) (r.map Ix.px) i) ∧ Keeps w1.heap.size w1 wr) (fun _ v _ => m - (intOf v).toNat)
      case atStart =>
        refine ⟨0, by omega, rfl, ?_, H4.out.2⟩
        have h := H4.out.1
        have e : putL (l.map Tb.pt) n ++ [UInt8.ofNat (m : Int).toNat] = putX (l.map Tb.pt) (r.map Ix.px) 0 := by
          unfold putX oneB
          rw [HC.out.2.1, HC.out.2.2.1]
          simp
        rwa [e] at h
      case round =>
        clear b0 b1 c4 hi q0
        obtain ⟨wo, rfl⟩ : ∃ wo : World, wo = wr := ⟨_, rfl⟩
        obtain ⟨i, hi, rfl, own, kp⟩ := hrel
        have q0 : (0 : Int) ≤ (i : Int) := by omega
        have hbk := kp.blk _ _ _ (by decide) H1.out.2.1
        have b1 : wo.cell? ⟨w.heap.size, 1, none⟩ = some (.slice B m d) := hbk.cell 1
        have hbo := kp.size
        by_cases hlt : i < m
        · have q1 : (i : Int) < (m : Int) := by omega
          obtain ⟨ad, q, hA, hab, hq, d0, d1, d2, d3, d4, d5, d6⟩ := (H1.out.2.2.2.hx.below kp.low).ix_ hlt
          subst hA
          have hpq : (r.map Ix.px)[i]? = some q.px := by rw [List.getElem?_map, hq]; rfl
          have hmt := HC.out.2.2.2.2.1 _ (List.mem_of_getElem? hpq)
          have hq0 := H1.out.2.2.2.hix q (List.mem_of_getElem? hq)
          have hst : putX (l.map Tb.pt) (r.map Ix.px) (i + 1) = putX (l.map Tb.pt) (r.map Ix.px) i ++ idxB q.px := by unfold putX; rw [flat_take idxB hpq]; simp only [List.append_assoc]
          have hll := putX_len HC.out.2.2.2.1 HC.out.2.2.2.2.1 (by rw [HC.out.2.1]; omega) i (by omega)
          have hrow := hmt.row (fun t ht => (HC.out.2.2.2.1 t ht).2.2.1)
          have htb : q.tb < 256 := by have := hmt.2.2.1; change q.tb < ((l.map Tb.pt).length : Int) at this; rw [HC.out.2.1] at this; omega
          have hbl : Below w1.heap.size w1 (wo.alloc (.cells #[.string q.nm, .int .i64 q.tb, .slice q.A q.n q.c, .int .u32 q.root, .int .i64 q.lv, .int .i64 q.hi, .slice q.B q.m q.e] 49)) := ball kp.low _
          have HQ := Lib.hid (And.intro hmt (And.intro (hq0.2.1.below hbl) (And.intro (hq0.2.2.1.below hbl) (And.intro hst (And.intro hll (And.intro hrow (And.intro htb (And.intro own kp))))))))
          clear hpq hmt hq0 hst hll hrow htb own kp hq hbk hbl
          go_wp2_with fail
          refine (putIndex_any _ _ q (l.map Tb.pt) _ w1.heap.size (HQ.out.2.2.2.2.2.2.2.1.alloc _) (by simp; omega) (by have := HQ.out.2.2.2.2.1; omega) HQ.out.2.1 HQ.out.2.2.1 HQ.out.1 HQ.out.2.2.2.2.2.1 HQ.out.2.2.2.2.2.2.1).mono ?_
          rintro e w2 ⟨v2, rfl, own2, kp2⟩
          have H2 := Lib.hid (And.intro own2 (HQ.out.2.2.2.2.2.2.2.2.trans ((Keeps.alloc_ hbo _).trans kp2)))
          clear own2 kp2
          go_wp2
          exact ⟨⟨i + 1, by omega, by go_num, by rw [HQ.out.2.2.2.1]; exact H2.out.1, H2.out.2⟩, by simp [intOf]; omega⟩
        · obtain rfl : m = i := by omega
          have hE : putX (l.map Tb.pt) (r.map Ix.px) m = bookB (pbk l r) := by
            unfold putX bookB putL pbk
            rw [List.take_of_length_le (Nat.le_refl _), List.take_of_length_le (by rw [HC.out.2.2.1]; exact Nat.le_refl _)]
          rw [hE] at own
          obtain ⟨A2, c2, rfl, _⟩ := own.form
          have H9 := Lib.hid (And.intro own kp)
          clear own kp hE hbk
          go_wp2
          go_ret2
          exact ⟨A2, _, c2, rfl, H9.out.1.less H1.out.1.size, bto0 H1.out.1 H9.out.2.low⟩
theorem put_no (A : Option Addr) (n c : Nat) (l : List Tb) (B : Option Addr) (m d : Nat) (r : List Ix) (w : World) (hk : BkIn w A n c l B m d r) (hmay : ¬ MayB (pbk l r)) :
    Calls Try.prog 8 #[.agg #[.slice A n c, .slice B m d]] w (RetB w (.tuple #[.slice none 0 0, .int .i64 1])) := by
  have MAY : Hid (∀ W, Below w.heap.size w W → Calls Try.prog 11 #[.agg #[.slice A n c, .slice B m d]] W (RetB W (.bool false))) := Lib.hid fun W hW => (may_any A n c l B m d r W (hk.below hW)).mono fun e w' ⟨b, he, hi, hb⟩ => ⟨by rw [he]; cases b; rfl; exact absurd (hi.1 rfl) hmay, hb⟩
  clear hk hmay
  go_enter Try.func8, Try.ntmps8
  go_wp2_with fail
  refine (MAY.out _ (ball (Below.refl _ _) _)).mono ?_
  rintro e w1 ⟨rfl, hb1⟩
  have hbw := bto0 (ball (Below.refl w.heap.size w) (.cells #[.slice A n c, .slice B m d] 25)) hb1
  clear hb1
  go_wp2
  go_ret2
  exact ⟨rfl, hbw⟩
end Go.Proofs.Ytflolnilagogpaa
