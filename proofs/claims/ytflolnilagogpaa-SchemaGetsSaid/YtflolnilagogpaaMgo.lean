/-
  Several texts in one: Iv Sl Iw.
-/
import Derived.Test.YtflolnilagogpaaMgn
import Derived.Test.YtflolnilagogpaaMgc
import Derived.Test.YtflolnilagogpaaProg
import Derived.Laws.Slices
import Derived.KernelRfl
/-
  The program's Put.
-/
namespace Go.Proofs.Ytflolnilagogpaa
section
set_option linter.unusedSimpArgs false
set_option linter.unusedVariables false
open Go.RowKit

/-- What Put answers of a book that may be. -/
def RetBook (w : World) (l : List UInt8) (e : Ending) (w' : World) : Prop := ∃ A n c, e = .returned (.tuple #[.slice A n c, .int .i64 0]) ∧ Own w' w.heap.size (.slice A n c) l ∧ Below w.heap.size w w'
theorem putL_len {ts : List PT} (h : ∀ t ∈ ts, MayT t) (i : Nat) (hi : i ≤ 16) : (putL ts i).length ≤ 6500 := by
  unfold putL
  have := take_le tabB 400 ts i (fun t ht => tab_len (h t ht)) hi
  rw [List.length_append, one_len]; omega
theorem putX_len {ts : List PT} {xs : List PX} (h : ∀ t ∈ ts, MayT t) (hx : ∀ x ∈ xs, MayX ts x) (hn : ts.length ≤ 16) (i : Nat) (hi : i ≤ 16) : (putX ts xs i).length ≤ 8200 := by
  unfold putX
  have h0 := putL_len h ts.length hn
  have := take_le idxB 100 xs i (fun x hx' => idx_len (hx x hx')) hi
  simp only [List.length_append, one_len]; omega
set_option maxRecDepth 100000 in
set_option maxHeartbeats 4000000 in
theorem put_any (A : Option Addr) (n c : Nat) (l : List Tb) (B : Option Addr) (m d : Nat) (r : List Ix) (w : World) (hk : BkIn w A n c l B m d r) (hmay : MayB (pbk l r)) :
    Calls Try.prog 8 #[.agg #[.slice A n c, .slice B m d]] w (RetBook w (bookB (pbk l r))) := by
  have hlp : (l.map Tb.pt).length = n := by rw [List.length_map]; exact hk.ln
  have hrp : (r.map Ix.px).length = m := by rw [List.length_map]; exact hk.rn
  have n16 : n ≤ 16 := by have := hmay.1; change (l.map Tb.pt).length ≤ 16 at this; omega
  have m16 : m ≤ 16 := by have := hmay.2.1; change (r.map Ix.px).length ≤ 16 at this; omega
  have nI : (n : Int) ≤ 16 := by omega
  have mI : (m : Int) ≤ 16 := by omega
  have MT : ∀ t ∈ l.map Tb.pt, MayT t := fun t ht => by
    obtain ⟨i, hi, he⟩ := List.mem_iff_getElem.1 ht
    exact (hmay.2.2.1 i hi t (by show (l.map Tb.pt)[i]? = some t; rw [List.getElem?_eq_getElem hi, he])).1
  have MX : ∀ x ∈ r.map Ix.px, MayX (l.map Tb.pt) x := fun x hx => by
    obtain ⟨i, hi, he⟩ := List.mem_iff_getElem.1 hx
    exact (hmay.2.2.2 i hi x (by show (r.map Ix.px)[i]? = some x; rw [List.getElem?_eq_getElem hi, he])).1
  have hn8 := u8_of (z := (n : Int)) (by omega) (by omega)
  have hm8 := u8_of (z := (m : Int)) (by omega) (by omega)
  have MAY : Hid (∀ W, Below w.heap.size w W → Calls Try.prog 11 #[.agg #[.slice A n c, .slice B m d]] W (RetB W (.bool true))) := Lib.hid fun W hW => (may_any A n c l B m d r W (hk.below hW)).mono fun e w' ⟨b, he, hi, hb⟩ => ⟨by rw [he, hi.2 hmay], hb⟩
  have HC := Lib.hid (And.intro hk (And.intro hlp (And.intro hrp (And.intro MT (And.intro MX (And.intro hn8 hm8))))))
  clear hk hlp hrp MT MX hmay hn8 hm8
  go_enter Try.func8, Try.ntmps8
  go_wp2_with fail
  refine (MAY.out _ (ball (Below.refl _ _) _)).mono ?_
  rintro e w1 ⟨rfl, hb1⟩
  have hbk1 : Blk w1 w.heap.size 25 #[.slice A n c, .slice B m d] := (Blk.new _ _ _).below hb1 (by simp)
  have hbw1 := bto0 (ball (Below.refl w.heap.size w) (.cells #[.slice A n c, .slice B m d] 25)) hb1
  have a0 : w1.cell? ⟨w.heap.size, 0, none⟩ = some (.slice A n c) := hbk1.cell 0
  have a1 : w1.cell? ⟨w.heap.size, 1, none⟩ = some (.slice B m d) := hbk1.cell 1
  have a0' : ∀ o, (w1.alloc o).cell? ⟨w.heap.size, 0, none⟩ = some (.slice A n c) := fun o => Lib.cell?_alloc_some _ a0
  have own1 : Own (w1.alloc (.cells #[.int .u8 (n : Int)] 5)) w1.heap.size (.slice (some ⟨w1.heap.size, 0, none⟩) 1 1) (putL (l.map Tb.pt) 0) := by
    have h : Own (w1.alloc (.cells #[.int .u8 (n : Int)] 5)) w1.heap.size (.slice (some ⟨w1.heap.size, 0, none⟩) 1 1) [UInt8.ofNat (n : Int).toNat] := Own.new (l := [UInt8.ofNat (n : Int).toNat]) (by
      have e : (#[.int .u8 (n : Int)] : Array Value) = bV [UInt8.ofNat (n : Int).toNat] := by
        show _ = #[Value.int .u8 ((UInt8.ofNat (n : Int).toNat).toNat : Int)]
        rw [← HC.out.2.2.2.2.2.1.1]
      rw [← e]
      exact Blk.new _ _ _) (by simp [maxLen]) (Nat.le_refl _) rfl
    have e2 : putL (l.map Tb.pt) 0 = [UInt8.ofNat (n : Int).toNat] := by unfold putL oneB; rw [HC.out.2.1]; simp
    rwa [e2]
  have H1 := Lib.hid (And.intro hbw1 (And.intro hbk1 (And.intro own1 (HC.out.1.below hbw1))))
  have lt1 := hbk1.lt
  clear hb1 hbk1 hbw1 own1 MAY
  go_wp2
  go_loopw [4, 20] (fun u v wr => ∃ i : Nat, i ≤ n ∧ v = .int .i64 i ∧ Own wr w1.heap.size u (putL (l.map Tb.pt) i) ∧ Keeps w1.heap.size w1 wr) (fun _ v _ => n - (intOf v).toNat)
  case atStart => exact ⟨0, by omega, rfl, H1.out.2.2.1, Keeps.alloc_ (Nat.le_refl _) _⟩
  case round =>
    obtain ⟨wo, rfl⟩ : ∃ wo : World, wo = wr := ⟨_, rfl⟩
    obtain ⟨i, hi, rfl, own, kp⟩ := hrel
    have q0 : (0 : Int) ≤ (i : Int) := by omega
    have hbk := kp.blk _ _ _ (by decide) H1.out.2.1
    have b0 : wo.cell? ⟨w.heap.size, 0, none⟩ = some (.slice A n c) := hbk.cell 0
    have b1 : wo.cell? ⟨w.heap.size, 1, none⟩ = some (.slice B m d) := hbk.cell 1
    have hbo := kp.size
    clear a0 a1 a0'
    by_cases hlt : i < n
    · have q1 : (i : Int) < (n : Int) := by omega
      obtain ⟨ad, q, hA, hab, hq, d0, d1, d2, d3, d4⟩ := (H1.out.2.2.2.hr.below kp.low).tb_ hlt
      subst hA
      have hpq : (l.map Tb.pt)[i]? = some q.pt := by rw [List.getElem?_map, hq]; rfl
      have hmt := HC.out.2.2.2.1 _ (List.mem_of_getElem? hpq)
      have hq0 := (H1.out.2.2.2.hl q (List.mem_of_getElem? hq)).1.2.2.1.below kp.low
      have hst : putL (l.map Tb.pt) (i + 1) = putL (l.map Tb.pt) i ++ tabB q.pt := by unfold putL; rw [flat_take tabB hpq]; simp only [List.append_assoc]
      have hll := putL_len HC.out.2.2.2.1 i (by omega)
      have HQ := Lib.hid (And.intro hmt (And.intro hq0 (And.intro hst (And.intro hll (And.intro own kp)))))
      clear hpq hmt hq0 hst hll own kp hq hbk
      go_wp2_with fail
      refine (putTable_any _ _ q _ w1.heap.size (HQ.out.2.2.2.2.1.alloc _) (by simp; omega) (by have := HQ.out.2.2.2.1; omega) (HQ.out.2.1.below (⟨rfl, rfl, rfl, by simp, fun g hg => Below.heap_alloc _ _ _ (by omega)⟩)) HQ.out.1).mono ?_
      rintro e w2 ⟨v2, rfl, own2, kp2⟩
      have H2 := Lib.hid (And.intro own2 (HQ.out.2.2.2.2.2.trans ((Keeps.alloc_ hbo _).trans kp2)))
      clear own2 kp2
      go_wp2
      exact ⟨⟨i + 1, by omega, by go_num, by rw [HQ.out.2.2.1]; exact H2.out.1, H2.out.2⟩, by simp [intOf]; omega⟩
    · obtain rfl : n = i := by omega
      have hll := putL_len HC.out.2.2.2.1 n (by omega)
      have H3 := Lib.hid (And.intro own (And.intro kp (And.intro hbk hll)))
      have hlt3 := hbk.lt
      clear own kp hbk hll
      go_wp2_with (at_builtin; refine wpList_pushB rfl _ _ rfl w1.heap.size _ (putL (l.map Tb.pt) n) (UInt8.ofNat (m : Int).toNat) _ (by first | rfl | (simp; done)) H3.out.1 _ (by first | rfl | (simp; done)) (by simp) (by first | exact HC.out.2.2.2.2.2.2.1 | exact HC.out.2.2.2.2.2.2.2) (by have := H3.out.2.2.2; omega) hbo ?_; intro v4 w4 own4 kp4; have B4 := kp4.blk _ _ _ (by decide) H3.out.2.2.1; have c4 : w4.cell? ⟨w.heap.size, 1, none⟩ = some (.slice B m d) := B4.cell 1; have H4 := Lib.hid (And.intro own4 (H3.out.2.1.trans kp4)); clear own4 kp4 B4)
      obtain ⟨w9, rfl⟩ : ∃ w9 : World, w9 = wo := ⟨_, rfl⟩
      go_loopw [4, 38] (fun u v wr => ∃ i : Nat, i ≤ m ∧ v = .int .i64 i ∧ Own wr w1.heap.size u (putX (l.map Tb.pt) (r.map Ix.px) i) ∧ Keeps w1.heap.size w1 wr) (fun _ v _ => m - (intOf v).toNat)
      case atStart =>
        refine ⟨0, by omega, rfl, ?_, H4.out.2⟩
        have h := H4.out.1
        have e : putL (l.map Tb.pt) n ++ [UInt8.ofNat (m : Int).toNat] = putX (l.map Tb.pt) (r.map Ix.px) 0 := by
          unfold putX oneB
          rw [HC.out.2.1, HC.out.2.2.1]
          simp
        rwa [e] at h
      case round =>
        clear b0 b1 c4 hi q0
        obtain ⟨wo, rfl⟩ : ∃ wo : World, wo = wr := ⟨_, rfl⟩
        obtain ⟨i, hi, rfl, own, kp⟩ := hrel
        have q0 : (0 : Int) ≤ (i : Int) := by omega
        have hbk := kp.blk _ _ _ (by decide) H1.out.2.1
        have b1 : wo.cell? ⟨w.heap.size, 1, none⟩ = some (.slice B m d) := hbk.cell 1
        have hbo := kp.size
        by_cases hlt : i < m
        · have q1 : (i : Int) < (m : Int) := by omega
          obtain ⟨ad, q, hA, hab, hq, d0, d1, d2, d3, d4, d5, d6⟩ := (H1.out.2.2.2.hx.below kp.low).ix_ hlt
          subst hA
          have hpq : (r.map Ix.px)[i]? = some q.px := by rw [List.getElem?_map, hq]; rfl
          have hmt := HC.out.2.2.2.2.1 _ (List.mem_of_getElem? hpq)
          have hq0 := H1.out.2.2.2.hix q (List.mem_of_getElem? hq)
          have hst : putX (l.map Tb.pt) (r.map Ix.px) (i + 1) = putX (l.map Tb.pt) (r.map Ix.px) i ++ idxB q.px := by unfold putX; rw [flat_take idxB hpq]; simp only [List.append_assoc]
          have hll := putX_len HC.out.2.2.2.1 HC.out.2.2.2.2.1 (by rw [HC.out.2.1]; omega) i (by omega)
          have hrow := hmt.row (fun t ht => (HC.out.2.2.2.1 t ht).2.2.1)
          have htb : q.tb < 256 := by have := hmt.2.2.1; change q.tb < ((l.map Tb.pt).length : Int) at this; rw [HC.out.2.1] at this; omega
          have hbl : Below w1.heap.size w1 (wo.alloc (.cells #[.string q.nm, .int .i64 q.tb, .slice q.A q.n q.c, .int .u32 q.root, .int .i64 q.lv, .int .i64 q.hi, .slice q.B q.m q.e] 49)) := ball kp.low _
          have HQ := Lib.hid (And.intro hmt (And.intro (hq0.2.1.below hbl) (And.intro (hq0.2.2.1.below hbl) (And.intro hst (And.intro hll (And.intro hrow (And.intro htb (And.intro own kp))))))))
          clear hpq hmt hq0 hst hll hrow htb own kp hq hbk hbl
          go_wp2_with fail
          refine (putIndex_any _ _ q (l.map Tb.pt) _ w1.heap.size (HQ.out.2.2.2.2.2.2.2.1.alloc _) (by simp; omega) (by have := HQ.out.2.2.2.2.1; omega) HQ.out.2.1 HQ.out.2.2.1 HQ.out.1 HQ.out.2.2.2.2.2.1 HQ.out.2.2.2.2.2.2.1).mono ?_
          rintro e w2 ⟨v2, rfl, own2, kp2⟩
          have H2 := Lib.hid (And.intro own2 (HQ.out.2.2.2.2.2.2.2.2.trans ((Keeps.alloc_ hbo _).trans kp2)))
          clear own2 kp2
          go_wp2
          exact ⟨⟨i + 1, by omega, by go_num, by rw [HQ.out.2.2.2.1]; exact H2.out.1, H2.out.2⟩, by simp [intOf]; omega⟩
        · obtain rfl : m = i := by omega
          have hE : putX (l.map Tb.pt) (r.map Ix.px) m = bookB (pbk l r) := by
            unfold putX bookB putL pbk
            rw [List.take_of_length_le (Nat.le_refl _), List.take_of_length_le (by rw [HC.out.2.2.1]; exact Nat.le_refl _)]
          rw [hE] at own
          obtain ⟨A2, c2, rfl, _⟩ := own.form
          have H9 := Lib.hid (And.intro own kp)
          clear own kp hE hbk
          go_wp2
          go_ret2
          exact ⟨A2, _, c2, rfl, H9.out.1.less H1.out.1.size, bto0 H1.out.1 H9.out.2.low⟩
theorem put_no (A : Option Addr) (n c : Nat) (l : List Tb) (B : Option Addr) (m d : Nat) (r : List Ix) (w : World) (hk : BkIn w A n c l B m d r) (hmay : ¬ MayB (pbk l r)) :
    Calls Try.prog 8 #[.agg #[.slice A n c, .slice B m d]] w (RetB w (.tuple #[.slice none 0 0, .int .i64 1])) := by
  have MAY : Hid (∀ W, Below w.heap.size w W → Calls Try.prog 11 #[.agg #[.slice A n c, .slice B m d]] W (RetB W (.bool false))) := Lib.hid fun W hW => (may_any A n c l B m d r W (hk.below hW)).mono fun e w' ⟨b, he, hi, hb⟩ => ⟨by rw [he]; cases b; rfl; exact absurd (hi.1 rfl) hmay, hb⟩
  clear hk hmay
  go_enter Try.func8, Try.ntmps8
  go_wp2_with fail
  refine (MAY.out _ (ball (Below.refl _ _) _)).mono ?_
  rintro e w1 ⟨rfl, hb1⟩
  have hbw := bto0 (ball (Below.refl w.heap.size w) (.cells #[.slice A n c, .slice B m d] 25)) hb1
  clear hb1
  go_wp2
  go_ret2
  exact ⟨rfl, hbw⟩
end
end Go.Proofs.Ytflolnilagogpaa
/-
  Cuts of a slice of bytes that reads as a list: equations for the walk, and what the cut reads as.
-/
namespace Go.Proofs.Ytflolnilagogpaa
section
open Go.RowKit

theorem Try.elemB : Try.prog.elem 28 = 5 := by kernel_rfl
theorem Try.sizeB (W : World) : (Go.sizeOf 5).run Try.prog W = .ok 1 W := by kernel_rfl
theorem map_add0 (A : Option Addr) : A.map (fun x => x.add 0) = A := by cases A <;> simp [Addr.add]
section
variable {w0 : World} {B : Nat} {A : Option Addr} {n c : Nat} {l : List UInt8}
theorem Try.sliceB : Try.prog.underlying 28 = some (.slice (Try.prog.elem 28)) := by rw [Try.elemB]; exact Try.underlying28
/-- s[i:]. -/
theorem cutb_lo (k : IntKind) (i : Nat) (x : Int) (hx : x = i) (h : i ≤ n) (hc : n ≤ c) : ∃ A', (∀ W, (Instr.slice 28 (.slice A n c) (some (.int k x)) none none).run Try.prog W = .ok (.slice A' (n - i) (c - i)) W) ∧
    (∀ W B l, Reads W B 1 A n (bL l) → Reads W B 1 A' (n - i) (bL (l.drop i))) := by
  subst hx
  refine ⟨if c = i then A else A.map (·.add (i * 1)), fun W => ?_, fun W B l hr => ?_⟩
  · rw [run_slice_l W 28 A n c Try.sliceB k (i : Int) (by omega) (by omega), Try.elemB, Try.sizeB]
    simp [sliced, Result.andThen]
  · have := hr.cut (k := i) (cap := c) h hc
    rw [Nat.mul_one] at this ⊢
    have e : bL (l.drop i) = (bL l).drop i := by simp [bL, List.map_drop]
    rw [e]
    exact this
/-- s[:j]. -/
theorem cutb_hi (k : IntKind) (j : Nat) (x : Int) (hx : x = j) (h : j ≤ n) (hc : n ≤ c) : ∃ A', (∀ W, (Instr.slice 28 (.slice A n c) none (some (.int k x)) none).run Try.prog W = .ok (.slice A' j c) W) ∧
    (∀ W B l, Reads W B 1 A n (bL l) → Reads W B 1 A' j (bL (l.take j))) := by
  subst hx
  refine ⟨A, fun W => ?_, fun W B l hr => ?_⟩
  · rw [run_slice_h W 28 A n c Try.sliceB k (j : Int) (by omega) (by omega), Try.elemB, Try.sizeB]
    simp [sliced, Result.andThen, map_add0]
  · have := hr.takec j h
    rw [Nat.mul_one] at this
    have e : bL (l.take j) = (bL l).take j := by simp [bL, List.map_take]
    rw [e]
    exact this
/-- s[i:j]. -/
theorem cutb_mid (k k' : IntKind) (i j : Nat) (x y : Int) (hx : x = i) (hy : y = j) (h0 : i ≤ j) (h : j ≤ n) (hc : n ≤ c) : ∃ A', (∀ W, (Instr.slice 28 (.slice A n c) (some (.int k x)) (some (.int k' y)) none).run Try.prog W = .ok (.slice A' (j - i) (c - i)) W) ∧
    (∀ W B l, Reads W B 1 A n (bL l) → Reads W B 1 A' (j - i) (bL ((l.drop i).take (j - i)))) := by
  subst hx hy
  refine ⟨if c = i then A else A.map (·.add (i * 1)), fun W => ?_, fun W B l hr => ?_⟩
  · rw [run_slice_lh W 28 A n c Try.sliceB k k' (i : Int) (j : Int) (by omega) (by omega) (by omega), Try.elemB, Try.sizeB]
    simp [sliced, Result.andThen]
  · have h1 := hr.cut (k := i) (cap := c) (by omega) hc
    have h2 := h1.takec (j - i) (by omega)
    rw [Nat.mul_one, Nat.mul_one] at h2
    have e : bL ((l.drop i).take (j - i)) = ((bL l).drop i).take (j - i) := by simp [bL, List.map_drop, List.map_take]
    rw [e, Nat.mul_one]
    exact h2
theorem Reads.byte {w : World} {k : Nat} (hr : Reads w B 1 A n (bL l)) (hk : k < n) : ∃ ad b, A = some ad ∧ ad.block < B ∧ l[k]? = some b ∧ w.cell? (ad.add k) = some (.int .u8 (b.toNat : Int)) := by
  obtain ⟨ad, u, e, hb, hu, hc⟩ := hr.at_ hk
  unfold bL at hu
  rw [List.getElem?_map] at hu
  obtain ⟨b, h1, rfl⟩ := Option.map_eq_some_iff.1 hu
  exact ⟨ad, b, e, hb, h1, hc⟩
theorem Reads.bytes_len {w : World} (hr : Reads w B 1 A n (bL l)) : l.length = n := by have := hr.1; rw [bL_len] at this; omega
end
end
end Go.Proofs.Ytflolnilagogpaa
/-
  The reader of a book's writing: what stays but its own block; take.
-/
namespace Go.Proofs.Ytflolnilagogpaa
section
set_option linter.unusedSimpArgs false
set_option linter.unusedVariables false
open Go.RowKit

theorem but_refl (w : World) (g : Nat) : w.grownBy w (some g) := ⟨rfl, rfl, rfl, Nat.le_refl _, fun _ _ _ => rfl⟩
theorem but_trans {a b c : World} {g : Nat} (h : a.grownBy b (some g)) (k : b.grownBy c (some g)) : a.grownBy c (some g) :=
  ⟨k.os.trans h.os, k.tape.trans h.tape, k.output.trans h.output, Nat.le_trans h.size k.size, fun i hi hne => (k.block i (Nat.lt_of_lt_of_le hi h.size) hne).trans (h.block i hi hne)⟩
theorem but_below {a b : World} {g : Nat} (h : Below a.heap.size a b) : a.grownBy b (some g) := ⟨h.os, h.tape, h.output, h.size, fun i hi _ => h.block i hi⟩
theorem but_set (w : World) (g i : Nat) (u : Value) : w.grownBy (w.setCell ⟨g, i, none⟩ u) (some g) := by
  have h := (Below.refl 0 w).setCell (p := ⟨g, i, none⟩) (Nat.zero_le _) u
  refine ⟨h.os, h.tape, h.output, h.size, fun k _ hne => ?_⟩
  exact Below.heap_setCell _ _ _ _ (fun e => hne (by rw [e]))
theorem cell_but {a b : World} {g : Nat} (h : a.grownBy b (some g)) {p : Addr} {v : Value} (hp : a.cell? p = some v) (hne : p.block ≠ g) : b.cell? p = some v := by
  have hb := h.block p.block (cell_block hp) (by simpa using hne)
  unfold World.cell? at hp ⊢
  rw [hb]
  exact hp

theorem but_alloc (w : World) (g : Nat) (o : Obj) : w.grownBy (w.alloc o) (some g) := but_below ((Below.refl _ _).alloc (Nat.le_refl _) o)
theorem reads_but {w w' : World} {g B sz n : Nat} {A : Option Addr} {xs : List Value} (h : w.grownBy w' (some g)) (hr : Reads w B sz A n xs) (hB : B ≤ g) : Reads w' B sz A n xs := by
  refine ⟨hr.1, fun hn => ?_⟩
  obtain ⟨ad, e, hb, hc⟩ := hr.2 hn
  exact ⟨ad, e, hb, fun j u hj => cell_but h (hc j u hj) (by rw [block_of_add]; omega)⟩
/-- A reader's state: what is left, and whether something wasn't there. -/
def Rd (w : World) (g B : Nat) (r : List UInt8) (sh : Bool) : Prop := ∃ A m c, Blk w g 59 #[.slice A m c, .bool sh] ∧ Reads w B 1 A m (bL r) ∧ m ≤ c ∧ B ≤ g
theorem Rd.but {w w' : World} {g g' B : Nat} {r : List UInt8} {sh : Bool} (h : Rd w g B r sh) (hb : w.grownBy w' (some g')) (hne : g ≠ g') (hB : B ≤ g') : Rd w' g B r sh := by
  obtain ⟨A, m, c, h1, h2, h3, h4⟩ := h
  exact ⟨A, m, c, h1.grown hb (by simpa using hne), reads_but hb h2 hB, h3, h4⟩
def tk (r : List UInt8) (k : Nat) : List UInt8 := if r.length < k then List.replicate k 0 else r.take k
def dr (r : List UInt8) (k : Nat) : List UInt8 := if r.length < k then [] else r.drop k
theorem tk_len (r : List UInt8) (k : Nat) : (tk r k).length = k := by
  unfold tk; split
  · simp
  · rw [List.length_take]; omega
def RetTk (w : World) (g B : Nat) (r : List UInt8) (sh : Bool) (k : Nat) (e : Ending) (w' : World) : Prop :=
  ∃ A' c', e = .returned (.slice A' k c') ∧ k ≤ c' ∧ Reads w' w'.heap.size 1 A' k (bL (tk r k)) ∧ Rd w' g B (dr r k) (sh || decide (r.length < k)) ∧ w.grownBy w' (some g) ∧ (0 < k → ∀ ad, A' = some ad → ad.block ≠ g)
theorem zeros_cells (k : Nat) : madeCells #[.int .u8 0] k = bV (List.replicate k 0) := by
  apply Array.ext
  · simp [bV_size, size_madeCells]
  · intro j h1 h2
    have hj : j < k := by simpa [size_madeCells] using h1
    have : (bV (List.replicate k 0))[j]? = some (.int .u8 ((0 : UInt8).toNat : Int)) := bV_at (by simp [hj])
    rw [Array.getElem?_eq_getElem h2] at this
    rw [Option.some.inj this]
    simp [madeCells, Nat.mod_one]

set_option maxHeartbeats 2000000 in
theorem take_any (g B : Nat) (r : List UInt8) (sh : Bool) (k : Nat) (w : World) (h : Rd w g B r sh) (hk : k ≤ 100000) :
    Calls Try.prog 46 #[.pointer (some ⟨g, 0, none⟩), .int .i64 k] w (RetTk w g B r sh k) := by
  obtain ⟨A, m, c, hX, hr, hmc, hB⟩ := h
  have hl := hr.bytes_len
  have c0 : w.cell? ⟨g, 0, none⟩ = some (.slice A m c) := hX.cell 0
  have c1 : w.cell? ⟨g, 1, none⟩ = some (.bool sh) := hX.cell 1
  have f0 := hX.frozen 0
  have f1 := hX.frozen 1
  have k0 : (0 : Int) ≤ (k : Int) := by omega
  by_cases hs : m < k
  · obtain ⟨i0, hi0, hz0, hs0, hy0⟩ := int_info8 Try.infoB
    have mk0 : ∀ W, (Instr.makeSlice 28 (.int .i64 (k : Int)) (.int .i64 (k : Int))).run Try.prog W = .ok (.slice (some ⟨W.heap.size, 0, none⟩) k k) (W.alloc (.cells (bV (List.replicate k 0)) 5)) := by
      intro W
      have h := run_make (P := Try.prog) W 28 5 i0 (.int .u8 0) Try.underlying28 hi0 hz0 .i64 .i64 k k (by omega) (by omega) (by rw [hy0]; omega) (by omega)
      rw [hs0] at h
      rw [← zeros_cells k]
      simp only [Int.toNat_natCast, Nat.mul_one] at h
      exact h
    clear hi0 hz0 hs0 hy0
    have hsI : (m : Int) < (k : Int) := by omega
    have h1 := but_set w g 1 (.bool true)
    have h2 := but_set (w.setCell ⟨g, 1, none⟩ (.bool true)) g 0 (.slice none 0 0)
    have h3 := but_alloc ((w.setCell ⟨g, 1, none⟩ (.bool true)).setCell ⟨g, 0, none⟩ (.slice none 0 0)) g (.cells (bV (List.replicate k 0)) 5)
    have HB := Lib.hid (but_trans (but_trans h1 h2) h3)
    have X3 := Lib.hid (((hX.set_ 1 (.bool true)).set_ 0 (.slice none 0 0)).alloc (.cells (bV (List.replicate k 0)) 5))
    have hgl := hX.lt
    have htk : tk r k = List.replicate k 0 := by unfold tk; rw [if_pos (by omega)]
    have hdr : dr r k = [] := by unfold dr; rw [if_pos (by omega)]
    have hd : decide (r.length < k) = true := by simp; omega
    have HT := Lib.hid (And.intro htk (And.intro hdr hd))
    have hRr : Hid (∀ W : World, Reads (W.alloc (.cells (bV (List.replicate k 0)) 5)) (W.alloc (.cells (bV (List.replicate k 0)) 5)).heap.size 1 (some ⟨W.heap.size, 0, none⟩) k (bL (List.replicate k 0))) := Lib.hid fun W => (reads_new W (bV (List.replicate k 0)) 5 (by rw [bV_toList]) (by rw [bL_len]; simp)).more (by simp)
    clear h1 h2 h3 htk hdr hd hr
    go_enter Try.func46, Try.ntmps46
    go_wp2
    go_ret
    exact ⟨_, _, rfl, Nat.le_refl _, by rw [HT.out.1]; simpa using hRr.out ((w.setCell ⟨g, 1, none⟩ (.bool true)).setCell ⟨g, 0, none⟩ (.slice none 0 0)), by rw [HT.out.2.1, HT.out.2.2, Bool.or_true]; exact ⟨none, 0, 0, X3.out, Reads.none_, Nat.le_refl _, hB⟩, HB.out, fun _ ad h => by
      cases h
      simp [World.setCell]
      omega⟩
  · have hs' : k ≤ m := by omega
    have hsI : (k : Int) ≤ (m : Int) := by omega
    obtain ⟨A1, hc1, hr1⟩ := cutb_hi (A := A) (n := m) (c := c) .i64 k (k : Int) rfl hs' hmc
    obtain ⟨A2, hc2, hr2⟩ := cutb_lo (A := A) (n := m) (c := c) .i64 k (k : Int) rfl hs' hmc
    have htk : tk r k = r.take k := by unfold tk; rw [if_neg (by omega)]
    have hdr : dr r k = r.drop k := by unfold dr; rw [if_neg (by omega)]
    have hd : decide (r.length < k) = false := by simp; omega
    have HT := Lib.hid (And.intro htk (And.intro hdr hd))
    have HR := Lib.hid (And.intro (hr1 w B r hr) (hr2 w B r hr))
    have HX := Lib.hid hX
    clear hr1 hr2 htk hdr hd
    go_enter Try.func46, Try.ntmps46
    go_wp2
    go_ret
    exact ⟨A1, c, rfl, by omega, by rw [HT.out.1]; exact (reads_but (but_set _ _ _ _) HR.out.1 hB).more (by have := HX.out.lt; simp [World.setCell]; omega), by rw [HT.out.2.1, HT.out.2.2, Bool.or_false]; exact ⟨A2, m - k, c - k, HX.out.set_ 0 _, reads_but (but_set _ _ _ _) HR.out.2 hB, by omega, hB⟩, but_set _ _ _ _, fun h0 ad h => by
      obtain ⟨ad', e1, h2, _⟩ := HR.out.1.2 h0
      rw [e1] at h
      cases h
      omega⟩
end
end Go.Proofs.Ytflolnilagogpaa
