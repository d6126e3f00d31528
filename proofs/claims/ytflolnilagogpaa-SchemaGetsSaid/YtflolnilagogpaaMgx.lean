/-
  Several texts in one: Fc Fd Ik.
-/
import Derived.Test.YtflolnilagogpaaMgd
import Derived.Test.YtflolnilagogpaaMgc
import Derived.Test.YtflolnilagogpaaMgm
import Derived.Deep.DeepCutAuto
/-
  The chapter's example: Put of a book with nothing in it; names.
-/
namespace Go.Proofs.Ytflolnilagogpaa
section
set_option linter.unusedSimpArgs false
set_option linter.unusedVariables false
open Go.RowKit

theorem differ_nil (w : World) : Calls Try.prog 21 #[.slice none 0 0] w (RetB w (.bool true)) := by
  go_enter Try.func21, Try.ntmps21
  go_wp2
  go_loop [7] (fun v => v = .int .i64 0) (fun _ => 0)
  case atStart => exact rfl
  case round =>
    subst hrel
    go_wp2
    go_ret
    exact ⟨rfl, by with_reducible repeat (first | exact Below.refl _ _ | refine bdr ?_ _ | refine Below.drew ?_ | refine ball ?_ _)⟩
theorem may_nil (w : World) : Calls Try.prog 11 #[.agg #[.slice none 0 0, .slice none 0 0]] w (RetB w (.bool true)) := by
  have D := Lib.hid fun W => differ_nil W
  go_enter Try.func11, Try.ntmps11
  go_wp2
  go_loop [3, 21] (fun u v => u = .slice none 0 0 ∧ v = .int .i64 0) (fun _ _ => 0)
  case atStart => exact ⟨rfl, rfl⟩
  case round =>
    obtain ⟨rfl, rfl⟩ := hrel
    go_wp2_with fail
    refine (D.out _).mono ?_
    rintro e w1 ⟨rfl, hb1⟩
    have X1 := (Blk.new w 25 #[.slice none 0 0, .slice none 0 0]).below hb1 (by simp)
    have c0 := X1.cell 0
    have c1 := X1.cell 1
    go_wp2
    go_loop [3, 40] (fun u v => u = .slice none 0 0 ∧ v = .int .i64 0) (fun _ _ => 0)
    case atStart => exact ⟨rfl, rfl⟩
    case round =>
      obtain ⟨rfl, rfl⟩ := hrel
      go_wp2_with fail
      refine (D.out _).mono ?_
      rintro e w2 ⟨rfl, hb2⟩
      go_wp2
      go_ret
      exact ⟨rfl, bto0 (bto0 (ball (Below.refl _ _) _) hb1) hb2⟩
/-- A []byte of the call's own. -/
def RetPut (w : World) (e : Ending) (w' : World) : Prop := ∃ A c, e = .returned (.tuple #[.slice A 2 c, .int .i64 0]) ∧ Own w' w.heap.size (.slice A 2 c) [0, 0] ∧ Below w.heap.size w w'
theorem put_nil (w : World) : Calls Try.prog 8 #[.agg #[.slice none 0 0, .slice none 0 0]] w (RetPut w) := by
  have D := Lib.hid fun W => may_nil W
  go_enter Try.func8, Try.ntmps8
  go_wp2_with fail
  refine (D.out _).mono ?_
  rintro e w1 ⟨rfl, hb1⟩
  have X1 := (Blk.new w 25 #[.slice none 0 0, .slice none 0 0]).below hb1 (by simp)
  have c0 := X1.cell 0
  have c1 := X1.cell 1
  have hz1 := hb1.size
  have c0' : ∀ o, (w1.alloc o).cell? ⟨w.heap.size, 0, none⟩ = some (.slice none 0 0) := fun o => Lib.cell?_alloc_some _ c0
  have c1' : ∀ o, (w1.alloc o).cell? ⟨w.heap.size, 1, none⟩ = some (.slice none 0 0) := fun o => Lib.cell?_alloc_some _ c1
  have c1'' : ∀ o o2, ((w1.alloc o).alloc o2).cell? ⟨w.heap.size, 1, none⟩ = some (.slice none 0 0) := fun o o2 => Lib.cell?_alloc_some _ (Lib.cell?_alloc_some _ c1)
  have lt1 : w.heap.size < w1.heap.size := by have := hb1.size; simp at this; omega
  clear hz1
  have X1_ := Lib.hid X1
  have own1 : Own (w1.alloc (.cells #[.int .u8 0] 5)) w1.heap.size (.slice (some ⟨w1.heap.size, 0, none⟩) 1 1) [0] := Own.new (Blk.new _ _ _) (by simp [maxLen]) (Nat.le_refl _) rfl
  go_wp2
  go_loopw [4, 20] (fun u v wr => ∃ A c, u = .slice A 1 c ∧ v = .int .i64 0 ∧ Own wr w1.heap.size (.slice A 1 c) [0] ∧ Below w1.heap.size w1 wr) (fun _ _ _ => 0)
  case atStart => exact ⟨_, _, rfl, rfl, own1, (Below.refl _ _).alloc (Nat.le_refl _) _⟩
  case round =>
    obtain ⟨A, c, rfl, rfl, own, hb⟩ := hrel
    have X2 := X1.below hb lt1
    have d0 : wr.cell? ⟨w.heap.size, 0, none⟩ = some (.slice none 0 0) := X2.cell 0
    have d1 : wr.cell? ⟨w.heap.size, 1, none⟩ = some (.slice none 0 0) := X2.cell 1
    have hbz := hb.size
    clear own1 c0 c1 c0' c1' c1'' D X1
    have d1' : ∀ o, (wr.alloc o).cell? ⟨w.heap.size, 1, none⟩ = some (.slice none 0 0) := fun o => Lib.cell?_alloc_some _ d1
    go_wp2_with (at_builtin; refine wpList_pushB rfl _ _ rfl w1.heap.size (.slice A 1 c) [0] 0 _ rfl own _ rfl (by simp) rfl (by simp) hbz ?_; intro v2 w2 own2 kp2; have hb2 : Below w1.heap.size w1 w2 := kp2.below _ _ (Nat.le_refl _) hb; obtain ⟨A2, c2, hv2, hc2⟩ := own2.form; rw [show ([0] ++ [0] : List UInt8).length = 2 from rfl] at hv2; subst hv2; have X3 := X1_.out.below hb2 lt1; have e0 : w2.cell? ⟨w.heap.size, 0, none⟩ = some (.slice none 0 0) := X3.cell 0; have e1 : w2.cell? ⟨w.heap.size, 1, none⟩ = some (.slice none 0 0) := X3.cell 1)
    go_loop [4, 38] (fun u v => u = .slice A2 2 c2 ∧ v = .int .i64 0) (fun _ _ => 0)
    case atStart => exact ⟨rfl, rfl⟩
    case round =>
      obtain ⟨rfl, rfl⟩ := hrel
      go_wp2
      go_ret2
      exact ⟨A2, c2, rfl, own2.less (by omega), bto0 (bto0 (ball (Below.refl _ _) _) hb1) hb2⟩
end
end Go.Proofs.Ytflolnilagogpaa
/-
  The chapter's example; a book that is too great or not.
-/
namespace Go.Proofs.Ytflolnilagogpaa
section
set_option linter.unusedSimpArgs false
set_option linter.unusedVariables false
open Go.RowKit

theorem fixed12_any (w : World) : Calls Try.prog 7 #[] w (RetB w (.bool true)) := by
  have P := Lib.hid fun W => put_nil W
  have N1 : Hid (∀ W : World, Calls Try.prog 9 #[.string ⟨#[97, 95, 49]⟩] W fun e w' => e = .returned (.bool true) ∧ W = w') := Lib.hid fun W => by
    have h := name_any ⟨#[97, 95, 49]⟩ (by decide) W
    rwa [show nameB (⟨#[97, 95, 49]⟩ : ByteArray).data.toList = true from by decide] at h
  have N2 : Hid (∀ W : World, Calls Try.prog 9 #[.string ⟨#[95, 97]⟩] W fun e w' => e = .returned (.bool false) ∧ W = w') := Lib.hid fun W => by
    have h := name_any ⟨#[95, 97]⟩ (by decide) W
    rwa [show nameB (⟨#[95, 97]⟩ : ByteArray).data.toList = false from by decide] at h
  go_enter Try.func7, Try.ntmps7
  go_wp2_with fail
  refine (P.out _).mono ?_
  rintro e w1 ⟨A, c, rfl, own, hb1⟩
  have cv := conv_reads (P := Try.prog) own.reads.1 28 5 9 Try.underlying28 Try.underlying5 Try.underlying9 c
  have hs0 : str [0, 0] = ⟨#[0, 0]⟩ := rfl
  rw [hs0] at cv
  clear own hs0
  go_wp2_with (first
    | (go_at_call 9; (with_reducible refine (N1.out _).mono ?_); rintro e w' ⟨rfl, rfl⟩)
    | (go_at_call 9; (with_reducible refine (N2.out _).mono ?_); rintro e w' ⟨rfl, rfl⟩))
  go_ret
  exact ⟨rfl, hb1⟩
/-- Some truth: where it is not so, no table has more than 3000 columns. -/
def RetGr (w : World) (l : List Tb) (e : Ending) (w' : World) : Prop := ∃ b : Bool, e = .returned (.bool b) ∧ Below w.heap.size w w' ∧ (b = false → ∀ t ∈ l, t.n ≤ 3000)
theorem wrapI {z : Int} (h0 : 0 ≤ z) (h1 : z ≤ 100000000000000000) : wrap64 z = z := by unfold wrap64; omega
set_option maxHeartbeats 1000000 in
theorem great12_any (A : Option Addr) (n c : Nat) (l : List Tb) (B : Option Addr) (m d : Nat) (r : List Ix) (w : World) (hr : Reads w w.heap.size 5 A n (vTb l)) (hl : ∀ t ∈ l, TbIn w w.heap.size t) (hx : Reads w w.heap.size 7 B m (vIx r)) (hn : n ≤ 2199023255552) (hm : m ≤ maxLen) (hix : ∀ x ∈ r, x.ok) :
    Calls Try.prog 6 #[.agg #[.slice A n c, .slice B m d]] w (RetGr w l) := by
  have hln : l.length = n := by have := hr.1; rw [vTb_len] at this; omega
  unfold maxLen at hm
  have nI : (n : Int) ≤ 2199023255552 := by omega
  have mI : (m : Int) ≤ 9223372036854775807 := by omega
  have HR := Lib.hid (And.intro (hr.below (ball (Below.refl _ _) (.cells #[.slice A n c, .slice B m d] 25))) (And.intro hl (And.intro (hx.below (ball (Below.refl _ _) (.cells #[.slice A n c, .slice B m d] 25))) (ball (Below.refl w.heap.size w) (.cells #[.slice A n c, .slice B m d] 25)))))
  have HIX := Lib.hid hix
  have HX := Lib.hid hx
  have HLN := Lib.hid hln
  clear hn hm hr hl hx hix hln
  go_enter Try.func6, Try.ntmps6
  go_wp2
  go_loop [3, 10] (fun u v => ∃ (x : Int) (i : Nat), u = .int .i64 x ∧ i ≤ n ∧ v = .int .i64 i ∧ 0 ≤ x ∧ x ≤ 3001 * (i : Int) + 3000 ∧ ∀ j, j < i → ∀ t, l[j]? = some t → t.n ≤ 3000) (fun _ v => n - (intOf v).toNat)
  case atStart => exact ⟨0, 0, rfl, by omega, rfl, by omega, by omega, fun j hj => by omega⟩
  case round =>
    obtain ⟨x, i, rfl, hi, rfl, hx0, hx1, hall⟩ := hrel
    have HALL := Lib.hid hall
    clear hall
    have i0 : (0 : Int) ≤ (i : Int) := by omega
    by_cases hlt : i < n
    · have i1 : (i : Int) < (n : Int) := by omega
      obtain ⟨ad, t, rfl, hab, ht, d0, d1, d2, d3, d4⟩ := HR.out.1.tb_ hlt
      have htin := (HR.out.2.1 t (List.mem_of_getElem? ht)).under HR.out.2.2.2
      obtain ⟨hz0, ⟨hz1, hz2⟩, hcr, hcs⟩ := htin
      unfold maxLen at hz0 hz2
      have tn : (t.n : Int) ≤ 9223372036854775807 := by omega
      have ts : (t.nm.size : Int) ≤ 9223372036854775807 := by omega
      obtain ⟨X, hX⟩ : ∃ X, x + (1 + min (t.nm.size : Int) 3000) = X := ⟨_, rfl⟩
      have hX1 : 1 ≤ X ∧ X ≤ x + 3001 := by omega
      have hw : wrap64 (x + (1 + min (t.nm.size : Int) 3000)) = X := by rw [wrapI (by omega) (by omega)]; exact hX
      have HC := Lib.hid (And.intro hcr (And.intro hcs (And.intro hX1 (And.intro hx1 ht))))
      have HXe := Lib.hid hX
      clear hcr hcs hz0 hz1 hz2 d2 d3 d4 ht hX hX1
      go_wp2
      go_loop [3, 31] (fun u v => ∃ (y : Int) (k : Nat), u = .int .i64 y ∧ k ≤ t.n ∧ v = .int .i64 k ∧ ((k = 0 ∧ y = X) ∨ ((k : Int) ≤ y ∧ y ≤ 3000))) (fun _ v => t.n - (intOf v).toNat)
      case atStart => exact ⟨X, 0, by first | rw [hw] | rw [HXe.out], by omega, rfl, .inl ⟨rfl, rfl⟩⟩
      case round =>
        obtain ⟨y, k, rfl, hk, rfl, hy⟩ := hrel
        have k0 : (0 : Int) ≤ (k : Int) := by omega
        clear hw
        by_cases hkt : k < t.n
        · have k1 : (k : Int) < (t.n : Int) := by omega
          obtain ⟨ad2, q, hA2, hab2, hq, f0, f1, f2, f3⟩ := HC.out.1.cl_ hkt
          rw [hA2] at d1
          have hq0 := (HC.out.2.1 q (List.mem_of_getElem? hq)).1
          unfold maxLen at hq0
          have qs : (q.nm.size : Int) ≤ 9223372036854775807 := by omega
          obtain ⟨Y, hY⟩ : ∃ Y, y + (1 + min (q.nm.size : Int) 3000) = Y := ⟨_, rfl⟩
          have hX1 := HC.out.2.2.1
          have hy1 : 0 ≤ y ∧ y ≤ 10000000000000000 := by rcases hy with ⟨_, rfl⟩ | ⟨h1, h2⟩ <;> omega
          have hY1 : (k : Int) + 1 ≤ Y := by rcases hy with ⟨h1, rfl⟩ | ⟨h1, h2⟩ <;> omega
          have hw2 : wrap64 (y + (1 + min (q.nm.size : Int) 3000)) = Y := by rw [wrapI (by omega) (by omega)]; exact hY
          have HY := Lib.hid hY1
          clear f1 f2 f3 hq hq0 hY hX1 hy1 hY1 hy
          by_cases hgt : 3000 < Y
          · go_wp2
            go_ret
            exact ⟨true, rfl, ball (Below.refl _ _) _, fun h => by cases h⟩
          · have hgt' : Y ≤ 3000 := by omega
            go_wp2
            exact ⟨⟨Y, k + 1, by rw [hw2], by omega, by go_num, .inr ⟨by have := HY.out; omega, hgt'⟩⟩, by simp [intOf]; omega⟩
        · obtain rfl : k = t.n := by omega
          go_wp2
          have hX1 := HC.out.2.2.1
          refine ⟨⟨y, i + 1, rfl, by omega, by go_num, ?_, ?_, ?_⟩, by simp [intOf]; omega⟩
          · rcases hy with ⟨_, rfl⟩ | ⟨h1, h2⟩ <;> omega
          · rcases hy with ⟨_, rfl⟩ | ⟨h1, h2⟩ <;> omega
          · intro j hj t' ht'
            by_cases hji : j < i
            · exact HALL.out j hji t' ht'
            · obtain rfl : j = i := by omega
              rw [HC.out.2.2.2.2] at ht'
              injection ht' with ht'
              subst ht'
              rcases hy with ⟨h0, _⟩ | ⟨h1, h2⟩ <;> omega
    · obtain rfl : i = n := by omega
      have HF : Hid (∀ t ∈ l, t.n ≤ 3000) := Lib.hid fun t ht => by
        obtain ⟨j, hj, he⟩ := List.mem_iff_getElem.1 ht
        exact HALL.out j (by rw [← HLN.out]; exact hj) t (by rw [List.getElem?_eq_getElem hj, he])
      go_wp2
      go_loopw [3, 56] (fun u v wr => ∃ (y : Int) (k : Nat), u = .int .i64 y ∧ k ≤ m ∧ v = .int .i64 k ∧ Below w.heap.size w wr ∧ Blk wr w.heap.size 25 #[.slice A i c, .slice B m d]) (fun _ v _ => m - (intOf v).toNat)
      case atStart => exact ⟨_, 0, rfl, by omega, rfl, ball (Below.refl _ _) _, Blk.new _ _ _⟩
      case round =>
        obtain ⟨y, k, rfl, hk, rfl, hb, hbk⟩ := hrel
        have b0 : wr.cell? ⟨w.heap.size, 0, none⟩ = some (.slice A i c) := hbk.cell 0
        have b1 : wr.cell? ⟨w.heap.size, 1, none⟩ = some (.slice B m d) := hbk.cell 1
        have k0 : (0 : Int) ≤ (k : Int) := by omega
        by_cases hkm : k < m
        · have k1 : (k : Int) < (m : Int) := by omega
          obtain ⟨ad2, q, rfl, hab2, hq, f0, f1, f2, f3, f4, f5, f6⟩ := (HX.out.below hb).ix_ hkm
          have hq0 := HIX.out q (List.mem_of_getElem? hq)
          obtain ⟨z0, ⟨z1, z2⟩, ⟨z3, z4⟩⟩ := hq0
          unfold maxLen at z0 z2 z4
          have qs : (q.nm.size : Int) ≤ 9223372036854775807 := by omega
          have qn : (q.n : Int) ≤ 9223372036854775807 := by omega
          have qm : (q.m : Int) ≤ 9223372036854775807 := by omega
          have HB := Lib.hid (And.intro hb hbk)
          clear f1 f3 f4 f5 hq z0 z1 z2 z3 z4 hb hbk
          go_wp2
          go_quiet (fail)
          go_wp2
          · go_ret
            exact ⟨true, rfl, bdr HB.out.1 _, fun h => by cases h⟩
          · exact ⟨⟨_, k + 1, rfl, by omega, by go_num, bdr HB.out.1 _, HB.out.2.drewN _⟩, by simp [intOf]; omega⟩
        · obtain rfl : k = m := by omega
          go_wp2
          go_ret
          exact ⟨_, rfl, hb, fun _ => HF.out⟩
end
end Go.Proofs.Ytflolnilagogpaa
/-
  Same: of two books.
-/
namespace Go.Proofs.Ytflolnilagogpaa
section
set_option linter.unusedSimpArgs false
set_option linter.unusedVariables false
open Go.RowKit

set_option maxRecDepth 100000 in
set_option maxHeartbeats 2000000 in
theorem eqT_any (A : Option Addr) (n c : Nat) (l : List Tb) (B : Option Addr) (m d : Nat) (r : List Tb) (w : World) (hl : Reads w w.heap.size 5 A n (vTb l)) (hr : Reads w w.heap.size 5 B m (vTb r)) (hlo : ∀ t ∈ l, TbOk w w.heap.size t) (hro : ∀ t ∈ r, TbOk w w.heap.size t) (hn : n ≤ maxLen) (hm : m ≤ maxLen) :
    Calls Try.prog 31 #[.slice A n c, .slice B m d, .func (.func 32) #[] #[]] w (RetM w (l.map Tb.pt = r.map Tb.pt)) := by
  have hln : l.length = n := by have := hl.1; rw [vTb_len] at this; omega
  have hrn : r.length = m := by have := hr.1; rw [vTb_len] at this; omega
  unfold maxLen at hn hm
  have nI : (n : Int) ≤ 9223372036854775807 := by omega
  have mI : (m : Int) ≤ 9223372036854775807 := by omega
  have HC := Lib.hid (And.intro hl (And.intro hr (And.intro hln (And.intro hrn (And.intro hlo hro)))))
  clear hl hr hln hrn hn hm hlo hro
  by_cases hnm : n = m
  · subst hnm
    have e1 : ((n : Int) != (n : Int)) = false := by simp
    go_enter Try.func31, Try.ntmps31
    go_wp2
    go_loopw [17] (fun v wr => ∃ i : Nat, i ≤ n ∧ v = .int .i64 i ∧ Below w.heap.size w wr ∧ ∀ j, j < i → ∀ a b, (l.map Tb.pt)[j]? = some a → (r.map Tb.pt)[j]? = some b → a = b) (fun v _ => n - (intOf v).toNat)
    case atStart => exact ⟨0, by omega, rfl, Below.refl _ _, fun j hj => by omega⟩
    case round =>
      obtain ⟨wo, rfl⟩ : ∃ wo : World, wo = wr := ⟨_, rfl⟩
      obtain ⟨i, hi, rfl, hb, hg⟩ := hrel
      have q0 : (0 : Int) ≤ (i : Int) := by omega
      by_cases hlt : i < n
      · have q1 : (i : Int) < (n : Int) := by omega
        obtain ⟨ad, x, hA, hab, hx0, d0, d1, d2, d3, d4⟩ := (HC.out.1.below hb).tb_ hlt
        obtain ⟨ad2, y, hB, hab2, hy0, g0, g1, g2, g3, g4⟩ := (HC.out.2.1.below hb).tb_ hlt
        have hx : (l.map Tb.pt)[i]? = some (Tb.pt x) := by rw [List.getElem?_map, hx0]; rfl
        have hy : (r.map Tb.pt)[i]? = some (Tb.pt y) := by rw [List.getElem?_map, hy0]; rfl
        subst hA hB
        have SM : Hid (∀ W, Below wo.heap.size wo W → Calls Try.prog 32 #[x.agg, y.agg] W (RetM W (Tb.pt x = Tb.pt y))) := Lib.hid fun W hW => sameTable_any x y W (TbOk.mv (HC.out.2.2.2.2.1 x (List.mem_of_getElem? hx0)) (bto0 hb hW)) (TbOk.mv (HC.out.2.2.2.2.2 y (List.mem_of_getElem? hy0)) (bto0 hb hW))
        have g0' : ∀ o, (wo.alloc o).cell? (ad2.add (i * 5)) = some (.string y.nm) := fun o => Lib.cell?_alloc_some _ g0
        have g1' : ∀ o, (wo.alloc o).cell? ⟨(ad2.add (i * 5)).block, (ad2.add (i * 5)).off + 1, none⟩ = some (.slice y.A y.n y.c) := fun o => Lib.cell?_alloc_some _ g1
        have g2' : ∀ o, (wo.alloc o).cell? ⟨(ad2.add (i * 5)).block, (ad2.add (i * 5)).off + 2, none⟩ = some (.int .u32 y.f) := fun o => Lib.cell?_alloc_some _ g2
        have g3' : ∀ o, (wo.alloc o).cell? ⟨(ad2.add (i * 5)).block, (ad2.add (i * 5)).off + 3, none⟩ = some (.int .i64 y.r) := fun o => Lib.cell?_alloc_some _ g3
        have g4' : ∀ o, (wo.alloc o).cell? ⟨(ad2.add (i * 5)).block, (ad2.add (i * 5)).off + 4, none⟩ = some (.int .i64 y.p) := fun o => Lib.cell?_alloc_some _ g4
        have HG := Lib.hid (And.intro hx (And.intro hy (And.intro hb hg)))
        have hbz := hb.size
        have hwo : w.heap.size < wo.heap.size + 1 := by omega
        clear hx hy hb hg hx0 hy0
        go_wp2_with (first | (go_at_call 32; (with_reducible refine (SM.out _ (by with_reducible repeat (first | exact Below.refl _ _ | refine Below.drew ?_ | refine bdr ?_ _ | refine ball ?_ _))).mono ?_); rintro e w1 ⟨b, rfl, hbb, hb1⟩))
        · have hbf : b = false := by simpa using ‹(!b) = true›
          subst hbf
          go_ret
          exact ⟨false, rfl, ⟨fun h => (by cases h), fun h => (by
            have h1 := HG.out.1
            rw [h, HG.out.2.1] at h1
            exact absurd (hbb.2 (Option.some.inj h1).symm) (by decide))⟩, bto0 (bto0 HG.out.2.2.1 (by with_reducible repeat (first | exact Below.refl _ _ | refine Below.drew ?_ | refine bdr ?_ _ | refine ball ?_ _))) hb1⟩
        · have hbf : b = true := by simpa using ‹(!b) = false›
          subst hbf
          exact ⟨⟨i + 1, by omega, by go_num, bto0 (bto0 HG.out.2.2.1 (by with_reducible repeat (first | exact Below.refl _ _ | refine Below.drew ?_ | refine bdr ?_ _ | refine ball ?_ _))) hb1, fun j hj a b ha hb => by
            by_cases hji : j < i
            · exact HG.out.2.2.2 j hji a b ha hb
            · obtain rfl : j = i := by omega
              rw [HG.out.1] at ha
              rw [HG.out.2.1] at hb
              cases ha
              cases hb
              exact hbb.1 (by first | rfl | trivial)⟩, by simp [intOf]; omega⟩
      · obtain rfl : i = n := by omega
        have HL := Lib.hid (list_eq (by rw [List.length_map, List.length_map]; exact HC.out.2.2.1.trans HC.out.2.2.2.1.symm) fun j hj => hg j (by rw [List.length_map] at hj; rw [← HC.out.2.2.1]; exact hj))
        clear hg
        go_wp2
        go_ret
        exact ⟨true, rfl, ⟨fun _ => HL.out, fun _ => rfl⟩, hb⟩
  · have e1 : ((n : Int) != (m : Int)) = true := by simp; omega
    have HX : Hid (l.map Tb.pt ≠ r.map Tb.pt) := Lib.hid fun h => hnm (by have h1 := congrArg List.length h; rw [List.length_map, List.length_map] at h1; rw [← HC.out.2.2.1, ← HC.out.2.2.2.1]; exact h1)
    go_enter Try.func31, Try.ntmps31
    go_wp2
    go_ret
    exact ⟨false, rfl, ⟨fun h => (by cases h), fun h => absurd h HX.out⟩, Below.refl _ _⟩
set_option maxRecDepth 100000 in
set_option maxHeartbeats 2000000 in
theorem eqX_any (A : Option Addr) (n c : Nat) (l : List Ix) (B : Option Addr) (m d : Nat) (r : List Ix) (w : World) (hl : Reads w w.heap.size 7 A n (vIx l)) (hr : Reads w w.heap.size 7 B m (vIx r)) (hlo : ∀ t ∈ l, IxIn w w.heap.size t) (hro : ∀ t ∈ r, IxIn w w.heap.size t) (hn : n ≤ maxLen) (hm : m ≤ maxLen) :
    Calls Try.prog 33 #[.slice A n c, .slice B m d, .func (.func 34) #[] #[]] w (RetM w (l.map Ix.px = r.map Ix.px)) := by
  have hln : l.length = n := by have := hl.1; rw [vIx_len] at this; omega
  have hrn : r.length = m := by have := hr.1; rw [vIx_len] at this; omega
  unfold maxLen at hn hm
  have nI : (n : Int) ≤ 9223372036854775807 := by omega
  have mI : (m : Int) ≤ 9223372036854775807 := by omega
  have HC := Lib.hid (And.intro hl (And.intro hr (And.intro hln (And.intro hrn (And.intro hlo hro)))))
  clear hl hr hln hrn hn hm hlo hro
  by_cases hnm : n = m
  · subst hnm
    have e1 : ((n : Int) != (n : Int)) = false := by simp
    go_enter Try.func33, Try.ntmps33
    go_wp2
    go_loopw [17] (fun v wr => ∃ i : Nat, i ≤ n ∧ v = .int .i64 i ∧ Below w.heap.size w wr ∧ ∀ j, j < i → ∀ a b, (l.map Ix.px)[j]? = some a → (r.map Ix.px)[j]? = some b → a = b) (fun v _ => n - (intOf v).toNat)
    case atStart => exact ⟨0, by omega, rfl, Below.refl _ _, fun j hj => by omega⟩
    case round =>
      obtain ⟨wo, rfl⟩ : ∃ wo : World, wo = wr := ⟨_, rfl⟩
      obtain ⟨i, hi, rfl, hb, hg⟩ := hrel
      have q0 : (0 : Int) ≤ (i : Int) := by omega
      by_cases hlt : i < n
      · have q1 : (i : Int) < (n : Int) := by omega
        obtain ⟨ad, x, hA, hab, hx0, d0, d1, d2, d3, d4, d5, d6⟩ := (HC.out.1.below hb).ix_ hlt
        obtain ⟨ad2, y, hB, hab2, hy0, g0, g1, g2, g3, g4, g5, g6⟩ := (HC.out.2.1.below hb).ix_ hlt
        have hx : (l.map Ix.px)[i]? = some (Ix.px x) := by rw [List.getElem?_map, hx0]; rfl
        have hy : (r.map Ix.px)[i]? = some (Ix.px y) := by rw [List.getElem?_map, hy0]; rfl
        subst hA hB
        have SM : Hid (∀ W, Below wo.heap.size wo W → Calls Try.prog 34 #[x.agg, y.agg] W (RetM W (Ix.px x = Ix.px y))) := Lib.hid fun W hW => sameIndex_any x y W (IxIn.mv (HC.out.2.2.2.2.1 x (List.mem_of_getElem? hx0)) (bto0 hb hW)) (IxIn.mv (HC.out.2.2.2.2.2 y (List.mem_of_getElem? hy0)) (bto0 hb hW))
        have g0' : ∀ o, (wo.alloc o).cell? (ad2.add (i * 7)) = some (.string y.nm) := fun o => Lib.cell?_alloc_some _ g0
        have g1' : ∀ o, (wo.alloc o).cell? ⟨(ad2.add (i * 7)).block, (ad2.add (i * 7)).off + 1, none⟩ = some (.int .i64 y.tb) := fun o => Lib.cell?_alloc_some _ g1
        have g2' : ∀ o, (wo.alloc o).cell? ⟨(ad2.add (i * 7)).block, (ad2.add (i * 7)).off + 2, none⟩ = some (.slice y.A y.n y.c) := fun o => Lib.cell?_alloc_some _ g2
        have g3' : ∀ o, (wo.alloc o).cell? ⟨(ad2.add (i * 7)).block, (ad2.add (i * 7)).off + 3, none⟩ = some (.int .u32 y.root) := fun o => Lib.cell?_alloc_some _ g3
        have g4' : ∀ o, (wo.alloc o).cell? ⟨(ad2.add (i * 7)).block, (ad2.add (i * 7)).off + 4, none⟩ = some (.int .i64 y.lv) := fun o => Lib.cell?_alloc_some _ g4
        have g5' : ∀ o, (wo.alloc o).cell? ⟨(ad2.add (i * 7)).block, (ad2.add (i * 7)).off + 5, none⟩ = some (.int .i64 y.hi) := fun o => Lib.cell?_alloc_some _ g5
        have g6' : ∀ o, (wo.alloc o).cell? ⟨(ad2.add (i * 7)).block, (ad2.add (i * 7)).off + 6, none⟩ = some (.slice y.B y.m y.e) := fun o => Lib.cell?_alloc_some _ g6
        have HG := Lib.hid (And.intro hx (And.intro hy (And.intro hb hg)))
        have hbz := hb.size
        have hwo : w.heap.size < wo.heap.size + 1 := by omega
        clear hx hy hb hg hx0 hy0
        go_wp2_with (first | (go_at_call 34; (with_reducible refine (SM.out _ (by with_reducible repeat (first | exact Below.refl _ _ | refine Below.drew ?_ | refine bdr ?_ _ | refine ball ?_ _))).mono ?_); rintro e w1 ⟨b, rfl, hbb, hb1⟩))
        · have hbf : b = false := by simpa using ‹(!b) = true›
          subst hbf
          go_ret
          exact ⟨false, rfl, ⟨fun h => (by cases h), fun h => (by
            have h1 := HG.out.1
            rw [h, HG.out.2.1] at h1
            exact absurd (hbb.2 (Option.some.inj h1).symm) (by decide))⟩, bto0 (bto0 HG.out.2.2.1 (by with_reducible repeat (first | exact Below.refl _ _ | refine Below.drew ?_ | refine bdr ?_ _ | refine ball ?_ _))) hb1⟩
        · have hbf : b = true := by simpa using ‹(!b) = false›
          subst hbf
          exact ⟨⟨i + 1, by omega, by go_num, bto0 (bto0 HG.out.2.2.1 (by with_reducible repeat (first | exact Below.refl _ _ | refine Below.drew ?_ | refine bdr ?_ _ | refine ball ?_ _))) hb1, fun j hj a b ha hb => by
            by_cases hji : j < i
            · exact HG.out.2.2.2 j hji a b ha hb
            · obtain rfl : j = i := by omega
              rw [HG.out.1] at ha
              rw [HG.out.2.1] at hb
              cases ha
              cases hb
              exact hbb.1 (by first | rfl | trivial)⟩, by simp [intOf]; omega⟩
      · obtain rfl : i = n := by omega
        have HL := Lib.hid (list_eq (by rw [List.length_map, List.length_map]; exact HC.out.2.2.1.trans HC.out.2.2.2.1.symm) fun j hj => hg j (by rw [List.length_map] at hj; rw [← HC.out.2.2.1]; exact hj))
        clear hg
        go_wp2
        go_ret
        exact ⟨true, rfl, ⟨fun _ => HL.out, fun _ => rfl⟩, hb⟩
  · have e1 : ((n : Int) != (m : Int)) = true := by simp; omega
    have HX : Hid (l.map Ix.px ≠ r.map Ix.px) := Lib.hid fun h => hnm (by have h1 := congrArg List.length h; rw [List.length_map, List.length_map] at h1; rw [← HC.out.2.2.1, ← HC.out.2.2.2.1]; exact h1)
    go_enter Try.func33, Try.ntmps33
    go_wp2
    go_ret
    exact ⟨false, rfl, ⟨fun h => (by cases h), fun h => absurd h HX.out⟩, Below.refl _ _⟩
theorem same_any12 (A : Option Addr) (n c : Nat) (l : List Tb) (B : Option Addr) (m d : Nat) (r : List Ix) (A' : Option Addr) (n' c' : Nat) (l' : List Tb) (B' : Option Addr) (m' d' : Nat) (r' : List Ix) (w : World) (hk : BkIn w A n c l B m d r) (hk' : BkIn w A' n' c' l' B' m' d' r') :
    Calls Try.prog 15 #[.agg #[.slice A n c, .slice B m d], .agg #[.slice A' n' c', .slice B' m' d']] w (RetM w (pbk l r = pbk l' r')) := by
  have ET : Hid (∀ W, Below w.heap.size w W → Calls Try.prog 31 #[.slice A n c, .slice A' n' c', .func (.func 32) #[] #[]] W (RetM W (l.map Tb.pt = l'.map Tb.pt))) := Lib.hid fun W hW => eqT_any A n c l A' n' c' l' W (hk.below hW).hr (hk'.below hW).hr (hk.below hW).hl (hk'.below hW).hl (Nat.le_trans hk.hn.1 hk.hn.2) (Nat.le_trans hk'.hn.1 hk'.hn.2)
  have EX : Hid (∀ W, Below w.heap.size w W → Calls Try.prog 33 #[.slice B m d, .slice B' m' d', .func (.func 34) #[] #[]] W (RetM W (r.map Ix.px = r'.map Ix.px))) := Lib.hid fun W hW => eqX_any B m d r B' m' d' r' W (hk.below hW).hx (hk'.below hW).hx (hk.below hW).hix (hk'.below hW).hix (Nat.le_trans hk.hm.1 hk.hm.2) (Nat.le_trans hk'.hm.1 hk'.hm.2)
  have hE : pbk l r = pbk l' r' ↔ (l.map Tb.pt = l'.map Tb.pt ∧ r.map Ix.px = r'.map Ix.px) := by
    unfold pbk
    rw [PB.mk.injEq]
  have HE := Lib.hid hE
  clear hk hk' hE
  go_enter Try.func15, Try.ntmps15
  go_wp2_with fail
  refine (ET.out _ (by with_reducible repeat (first | exact Below.refl _ _ | refine ball ?_ _))).mono ?_
  rintro e w1 ⟨b, rfl, hbb, hb1⟩
  have hz1 := hb1.size
  (try simp at hz1)
  have P : Blk w1 (w.heap.size) 25 #[.slice A n c, .slice B m d] := blkOf hb1 (by (try simp) <;> omega) (by with_reducible repeat (first | exact Blk.newAt (by simp) | refine Blk.drew ?_ | refine Blk.alloc ?_ _))
  have P_0 : (w1).cell? ⟨w.heap.size, 0, none⟩ = some (.slice A n c) := P.cell 0
  have P_1 : (w1).cell? ⟨w.heap.size, 1, none⟩ = some (.slice B m d) := P.cell 1
  have Q : Blk w1 (w.heap.size + 1) 25 #[.slice A' n' c', .slice B' m' d'] := blkOf hb1 (by (try simp) <;> omega) (by with_reducible repeat (first | exact Blk.newAt (by simp) | refine Blk.drew ?_ | refine Blk.alloc ?_ _))
  have Q_0 : (w1).cell? ⟨w.heap.size + 1, 0, none⟩ = some (.slice A' n' c') := Q.cell 0
  have Q_1 : (w1).cell? ⟨w.heap.size + 1, 1, none⟩ = some (.slice B' m' d') := Q.cell 1
  have hbw : Below w.heap.size w w1 := bto0 (by with_reducible repeat (first | exact Below.refl _ _ | refine ball ?_ _)) hb1
  have HB := Lib.hid (And.intro hbb hbw)
  clear P Q hb1 hbb hbw
  cases b with
  | false =>
    go_wp2
    go_ret
    exact ⟨false, rfl, ⟨fun h => (by cases h), fun h => absurd (HB.out.1.2 (HE.out.1 h).1) (by decide)⟩, HB.out.2⟩
  | true =>
    go_wp2_with fail
    refine (EX.out _ HB.out.2).mono ?_
    rintro e w2 ⟨b, rfl, hbb, hb2⟩
    have HB2 := Lib.hid (And.intro hbb hb2)
    clear hbb hb2
    go_wp2
    go_ret
    exact ⟨b, rfl, ⟨fun h => HE.out.2 ⟨HB.out.1.1 (by first | rfl | trivial), HB2.out.1.1 h⟩, fun h => HB2.out.1.2 (HE.out.1 h).2⟩, bto0 HB.out.2 HB2.out.2⟩
end
end Go.Proofs.Ytflolnilagogpaa
