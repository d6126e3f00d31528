/-
  Several texts in one: Fd.
-/
import Derived.Test.YtgndebdoljnheaaGreatDoorMeav
import Derived.Test.YtgndebdoljnheaaGreatDoorMeaf
/-
  The chapter's example; a book that is too great or not.
-/
namespace Go.Proofs.YtgndebdoljnheaaGreatDoor
section
set_option linter.unusedSimpArgs false
set_option linter.unusedVariables false
open Go.RowKit

/-- Some truth: where it is not so, no table has more than 3000 columns. -/
def RetGr (w : World) (l : List Tb) (e : Ending) (w' : World) : Prop := ∃ b : Bool, e = .returned (.bool b) ∧ Below w.heap.size w w' ∧ (b = false → ∀ t ∈ l, t.n ≤ 3000)
theorem wrapI {z : Int} (h0 : 0 ≤ z) (h1 : z ≤ 100000000000000000) : wrap64 z = z := by unfold wrap64; omega
set_option maxHeartbeats 1000000 in
theorem great12_any (A : Option Addr) (n c : Nat) (l : List Tb) (B : Option Addr) (m d : Nat) (r : List Ix) (w : World) (hr : Reads w w.heap.size 5 A n (vTb l)) (hl : ∀ t ∈ l, TbIn w w.heap.size t) (hx : Reads w w.heap.size 7 B m (vIx r)) (hn : n ≤ 2199023255552) (hm : m ≤ maxLen) (hix : ∀ x ∈ r, x.ok) :
    Calls Tryz.prog 17 #[.agg #[.slice A n c, .slice B m d]] w (RetGr w l) := by
  have hln : l.length = n := by have := hr.1; rw [vTb_len] at this; omega
  unfold maxLen at hm
  have nI : (n : Int) ≤ 2199023255552 := by omega
  have mI : (m : Int) ≤ 9223372036854775807 := by omega
  have HR := Lib.hid (And.intro (hr.below (ball (Below.refl _ _) (.cells #[.slice A n c, .slice B m d] 60))) (And.intro hl (And.intro (hx.below (ball (Below.refl _ _) (.cells #[.slice A n c, .slice B m d] 60))) (ball (Below.refl w.heap.size w) (.cells #[.slice A n c, .slice B m d] 60)))))
  have HIX := Lib.hid hix
  have HX := Lib.hid hx
  have HLN := Lib.hid hln
  clear hn hm hr hl hx hix hln
  go_enter Tryz.func17, Tryz.ntmps17
  go_wp2
  go_loop [3, 10] (fun u v => ∃ (x : Int) (i : Nat), u = .int .i64 x ∧ i ≤ n ∧ v = .int .i64 i ∧ 0 ≤ x ∧ x ≤ 3001 * (i : Int) + 3000 ∧ ∀ j, j < i → ∀ t, l[j]? = some t → t.n ≤ 3000) (fun _ v => n - (intOf v).toNat)
  case atStart => exact ⟨0, 0, rfl, by omega, rfl, by omega, by omega, fun j hj => by omega⟩
  case round =>
    obtain ⟨x, i, rfl, hi, rfl, hx0, hx1, hall⟩ := hrel
    have HALL := Lib.hid hall
    clear hall
    have i0 : (0 : Int) ≤ (i : Int) := by omega
    by_cases hlt : i < n
    · have i1 : (i : Int) < (n : Int) := by omega
      obtain ⟨ad, t, rfl, hab, ht, d0, d1, d2, d3, d4⟩ := HR.out.1.tb_ hlt
      have htin := (HR.out.2.1 t (List.mem_of_getElem? ht)).under HR.out.2.2.2
      obtain ⟨hz0, ⟨hz1, hz2⟩, hcr, hcs⟩ := htin
      unfold maxLen at hz0 hz2
      have tn : (t.n : Int) ≤ 9223372036854775807 := by omega
      have ts : (t.nm.size : Int) ≤ 9223372036854775807 := by omega
      obtain ⟨X, hX⟩ : ∃ X, x + (1 + min (t.nm.size : Int) 3000) = X := ⟨_, rfl⟩
      have hX1 : 1 ≤ X ∧ X ≤ x + 3001 := by omega
      have hw : wrap64 (x + (1 + min (t.nm.size : Int) 3000)) = X := by rw [wrapI (by omega) (by omega)]; exact hX
      have HC := Lib.hid (And.intro hcr (And.intro hcs (And.intro hX1 (And.intro hx1 ht))))
      have HXe := Lib.hid hX
      clear hcr hcs hz0 hz1 hz2 d2 d3 d4 ht hX hX1
      go_wp2
      go_loop [3, 31] (fun u v => ∃ (y : Int) (k : Nat), u = .int .i64 y ∧ k ≤ t.n ∧ v = .int .i64 k ∧ ((k = 0 ∧ y = X) ∨ ((k : Int) ≤ y ∧ y ≤ 3000))) (fun _ v => t.n - (intOf v).toNat)
      case atStart => exact ⟨X, 0, by first | rw [hw] | rw [HXe.out], by omega, rfl, .inl ⟨rfl, rfl⟩⟩
      case round =>
        obtain ⟨y, k, rfl, hk, rfl, hy⟩ := hrel
        have k0 : (0 : Int) ≤ (k : Int) := by omega
        clear hw
        by_cases hkt : k < t.n
        · have k1 : (k : Int) < (t.n : Int) := by omega
          obtain ⟨ad2, q, hA2, hab2, hq, f0, f1, f2, f3⟩ := HC.out.1.cl_ hkt
          rw [hA2] at d1
          have hq0 := (HC.out.2.1 q (List.mem_of_getElem? hq)).1
          unfold maxLen at hq0
          have qs : (q.nm.size : Int) ≤ 9223372036854775807 := by omega
          obtain ⟨Y, hY⟩ : ∃ Y, y + (1 + min (q.nm.size : Int) 3000) = Y := ⟨_, rfl⟩
          have hX1 := HC.out.2.2.1
          have hy1 : 0 ≤ y ∧ y ≤ 10000000000000000 := by rcases hy with ⟨_, rfl⟩ | ⟨h1, h2⟩ <;> omega
          have hY1 : (k : Int) + 1 ≤ Y := by rcases hy with ⟨h1, rfl⟩ | ⟨h1, h2⟩ <;> omega
          have hw2 : wrap64 (y + (1 + min (q.nm.size : Int) 3000)) = Y := by rw [wrapI (by omega) (by omega)]; exact hY
          have HY := Lib.hid hY1
          clear f1 f2 f3 hq hq0 hY hX1 hy1 hY1 hy
          by_cases hgt : 3000 < Y
          · go_wp2
            go_ret
            exact ⟨true, rfl, ball (Below.refl _ _) _, fun h => by cases h⟩
          · have hgt' : Y ≤ 3000 := by omega
            go_wp2
            exact ⟨⟨Y, k + 1, by rw [hw2], by omega, by go_num, .inr ⟨by have := HY.out; omega, hgt'⟩⟩, by simp [intOf]; omega⟩
        · obtain rfl : k = t.n := by omega
          go_wp2
          have hX1 := HC.out.2.2.1
          refine ⟨⟨y, i + 1, rfl, by omega, by go_num, ?_, ?_, ?_⟩, by simp [intOf]; omega⟩
          · rcases hy with ⟨_, rfl⟩ | ⟨h1, h2⟩ <;> omega
          · rcases hy with ⟨_, rfl⟩ | ⟨h1, h2⟩ <;> omega
          · intro j hj t' ht'
            by_cases hji : j < i
            · exact HALL.out j hji t' ht'
            · obtain rfl : j = i := by omega
              rw [HC.out.2.2.2.2] at ht'
              injection ht' with ht'
              subst ht'
              rcases hy with ⟨h0, _⟩ | ⟨h1, h2⟩ <;> omega
    · obtain rfl : i = n := by omega
      have HF : Hid (∀ t ∈ l, t.n ≤ 3000) := Lib.hid fun t ht => by
        obtain ⟨j, hj, he⟩ := List.mem_iff_getElem.1 ht
        exact HALL.out j (by rw [← HLN.out]; exact hj) t (by rw [List.getElem?_eq_getElem hj, he])
      go_wp2
      go_loopw [3, 56] (fun u v wr => ∃ (y : Int) (k : Nat), u = .int .i64 y ∧ k ≤ m ∧ v = .int .i64 k ∧ Below w.heap.size w wr ∧ Blk wr w.heap.size 60 #[.slice A i c, .slice B m d]) (fun _ v _ => m - (intOf v).toNat)
      case atStart => exact ⟨_, 0, rfl, by omega, rfl, ball (Below.refl _ _) _, Blk.new _ _ _⟩
      case round =>
        obtain ⟨y, k, rfl, hk, rfl, hb, hbk⟩ := hrel
        have b0 : wr.cell? ⟨w.heap.size, 0, none⟩ = some (.slice A i c) := hbk.cell 0
        have b1 : wr.cell? ⟨w.heap.size, 1, none⟩ = some (.slice B m d) := hbk.cell 1
        have k0 : (0 : Int) ≤ (k : Int) := by omega
        by_cases hkm : k < m
        · have k1 : (k : Int) < (m : Int) := by omega
          obtain ⟨ad2, q, rfl, hab2, hq, f0, f1, f2, f3, f4, f5, f6⟩ := (HX.out.below hb).ix_ hkm
          have hq0 := HIX.out q (List.mem_of_getElem? hq)
          obtain ⟨z0, ⟨z1, z2⟩, ⟨z3, z4⟩⟩ := hq0
          unfold maxLen at z0 z2 z4
          have qs : (q.nm.size : Int) ≤ 9223372036854775807 := by omega
          have qn : (q.n : Int) ≤ 9223372036854775807 := by omega
          have qm : (q.m : Int) ≤ 9223372036854775807 := by omega
          have HB := Lib.hid (And.intro hb hbk)
          clear f1 f3 f4 f5 hq z0 z1 z2 z3 z4 hb hbk
          go_wp2
          go_quiet (fail)
          go_wp2
          · go_ret
            exact ⟨true, rfl, bdr HB.out.1 _, fun h => by cases h⟩
          · exact ⟨⟨_, k + 1, rfl, by omega, by go_num, bdr HB.out.1 _, HB.out.2.drewN _⟩, by simp [intOf]; omega⟩
        · obtain rfl : k = m := by omega
          go_wp2
          go_ret
          exact ⟨_, rfl, hb, fun _ => HF.out⟩
end
end Go.Proofs.YtgndebdoljnheaaGreatDoor
