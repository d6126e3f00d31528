/-
  Same: of two books.
-/
import Derived.Test.YtflolnilagogpaaIj
set_option linter.unusedSimpArgs false
set_option linter.unusedVariables false
namespace Go.Proofs.Ytflolnilagogpaa
open Go.RowKit

set_option maxRecDepth 100000 in
set_option maxHeartbeats 2000000 in
theorem eqT_any (A : Option Addr) (n c : Nat) (l : List Tb) (B : Option Addr) (m d : Nat) (r : List Tb) (w : World) (hl : Reads w w.heap.size 5 A n (vTb l)) (hr : Reads w w.heap.size 5 B m (vTb r)) (hlo : ∀ t ∈ l, TbOk w w.heap.size t) (hro : ∀ t ∈ r, TbOk w w.heap.size t) (hn : n ≤ maxLen) (hm : m ≤ maxLen) :
    Calls Try.prog 31 #[.slice A n c, .slice B m d, .func (.func 32) #[] #[]] w (RetM w (l.map Tb.pt = r.map Tb.pt)) := by
  have hln : l.length = n := by have := hl.1; rw [vTb_len] at this; omega
  have hrn : r.length = m := by have := hr.1; rw [vTb_len] at this; omega
  unfold maxLen at hn hm
  have nI : (n : Int) ≤ 9223372036854775807 := by omega
  have mI : (m : Int) ≤ 9223372036854775807 := by omega
  have HC := Lib.hid (And.intro hl (And.intro hr (And.intro hln (And.intro hrn (And.intro hlo hro)))))
  clear hl hr hln hrn hn hm hlo hro
  by_cases hnm : n = m
  · subst hnm
    have e1 : ((n : Int) != (n : Int)) = false := by simp
    go_enter Try.func31, Try.ntmps31
    go_wp2
    go_loopw [17] (fun v wr => ∃ i : Nat, i ≤ n ∧ v = .int .i64 i ∧ Below w.heap.size w wr ∧ ∀ j, j < i → ∀ a b, (l.map Tb.pt)[j]? = some a → (r.map Tb.pt)[j]? = some b → a = b) (fun v _ => n - (intOf v).toNat)
    case atStart => exact ⟨0, by omega, rfl, Below.refl _ _, fun j hj => by omega⟩
    case round =>
      obtain ⟨wo, rfl⟩ : ∃ wo : World, wo = wr := ⟨_, rfl⟩
      obtain ⟨i, hi, rfl, hb, hg⟩ := hrel
      have q0 : (0 : Int) ≤ (i : Int) := by omega
      by_cases hlt : i < n
      · have q1 : (i : Int) < (n : Int) := by omega
        obtain ⟨ad, x, hA, hab, hx0, d0, d1, d2, d3, d4⟩ := (HC.out.1.below hb).tb_ hlt
        obtain ⟨ad2, y, hB, hab2, hy0, g0, g1, g2, g3, g4⟩ := (HC.out.2.1.below hb).tb_ hlt
        have hx : (l.map Tb.pt)[i]? = some (Tb.pt x) := by rw [List.getElem?_map, hx0]; rfl
        have hy : (r.map Tb.pt)[i]? = some (Tb.pt y) := by rw [List.getElem?_map, hy0]; rfl
        subst hA hB
        have SM : Hid (∀ W, Below wo.heap.size wo W → Calls Try.prog 32 #[x.agg, y.agg] W (RetM W (Tb.pt x = Tb.pt y))) := Lib.hid fun W hW => sameTable_any x y W (TbOk.mv (HC.out.2.2.2.2.1 x (List.mem_of_getElem? hx0)) (bto0 hb hW)) (TbOk.mv (HC.out.2.2.2.2.2 y (List.mem_of_getElem? hy0)) (bto0 hb hW))
        have g0' : ∀ o, (wo.alloc o).cell? (ad2.add (i * 5)) = some (.string y.nm) := fun o => Lib.cell?_alloc_some _ g0
        have g1' : ∀ o, (wo.alloc o).cell? ⟨(ad2.add (i * 5)).block, (ad2.add (i * 5)).off + 1, none⟩ = some (.slice y.A y.n y.c) := fun o => Lib.cell?_alloc_some _ g1
        have g2' : ∀ o, (wo.alloc o).cell? ⟨(ad2.add (i * 5)).block, (ad2.add (i * 5)).off + 2, none⟩ = some (.int .u32 y.f) := fun o => Lib.cell?_alloc_some _ g2
        have g3' : ∀ o, (wo.alloc o).cell? ⟨(ad2.add (i * 5)).block, (ad2.add (i * 5)).off + 3, none⟩ = some (.int .i64 y.r) := fun o => Lib.cell?_alloc_some _ g3
        have g4' : ∀ o, (wo.alloc o).cell? ⟨(ad2.add (i * 5)).block, (ad2.add (i * 5)).off + 4, none⟩ = some (.int .i64 y.p) := fun o => Lib.cell?_alloc_some _ g4
        have HG := Lib.hid (And.intro hx (And.intro hy (And.intro hb hg)))
        have hbz := hb.size
        have hwo : w.heap.size < wo.heap.size + 1 := by omega
        clear hx hy hb hg hx0 hy0
        go_wp2_with (first | (go_at_call 32; (with_reducible refine (SM.out _ (by with_reducible repeat (first | exact Below.refl _ _ | refine Below.drew ?_ | refine bdr ?_ _ | refine ball ?_ _))).mono ?_); rintro e w1 ⟨b, rfl, hbb, hb1⟩))
        · have hbf : b = false := by simpa using ‹(!b) = true›
          subst hbf
          go_ret
          exact ⟨false, rfl, ⟨fun h => (by cases h), fun h => (by
            have h1 := HG.out.1
            rw [h, HG.out.2.1] at h1
            exact absurd (hbb.2 (Option.some.inj h1).symm) (by decide))⟩, bto0 (bto0 HG.out.2.2.1 (by with_reducible repeat (first | exact Below.refl _ _ | refine Below.drew ?_ | refine bdr ?_ _ | refine ball ?_ _))) hb1⟩
        · have hbf : b = true := by simpa using ‹(!b) = false›
          subst hbf
          exact ⟨⟨i + 1, by omega, by go_num, bto0 (bto0 HG.out.2.2.1 (by with_reducible repeat (first | exact Below.refl _ _ | refine Below.drew ?_ | refine bdr ?_ _ | refine ball ?_ _))) hb1, fun j hj a b ha hb => by
            by_cases hji : j < i
            · exact HG.out.2.2.2 j hji a b ha hb
            · obtain rfl : j = i := by omega
              rw [HG.out.1] at ha
              rw [HG.out.2.1] at hb
              cases ha
              cases hb
              exact hbb.1 (by first | rfl | trivial)⟩, by simp [intOf]; omega⟩
      · obtain rfl : i = n := by omega
        have HL := Lib.hid (list_eq (by rw [List.length_map, List.length_map]; exact HC.out.2.2.1.trans HC.out.2.2.2.1.symm) fun j hj => hg j (by rw [List.length_map] at hj; rw [← HC.out.2.2.1]; exact hj))
        clear hg
        go_wp2
        go_ret
        exact ⟨true, rfl, ⟨fun _ => HL.out, fun _ => rfl⟩, hb⟩
  · have e1 : ((n : Int) != (m : Int)) = true := by simp; omega
    have HX : Hid (l.map Tb.pt ≠ r.map Tb.pt) := Lib.hid fun h => hnm (by have h1 := congrArg List.length h; rw [List.length_map, List.length_map] at h1; rw [← HC.out.2.2.1, ← HC.out.2.2.2.1]; exact h1)
    go_enter Try.func31, Try.ntmps31
    go_wp2
    go_ret
    exact ⟨false, rfl, ⟨fun h => (by cases h), fun h => absurd h HX.out⟩, Below.refl _ _⟩
set_option maxRecDepth 100000 in
set_option maxHeartbeats 2000000 in
theorem eqX_any (A : Option Addr) (n c : Nat) (l : List Ix) (B : Option Addr) (m d : Nat) (r : List Ix) (w : World) (hl : Reads w w.heap.size 7 A n (vIx l)) (hr : Reads w w.heap.size 7 B m (vIx r)) (hlo : ∀ t ∈ l, IxIn w w.heap.size t) (hro : ∀ t ∈ r, IxIn w w.heap.size t) (hn : n ≤ maxLen) (hm : m ≤ maxLen) :
    Calls Try.prog 33 #[.slice A n c, .slice B m d, .func (.func 34) #[] #[]] w (RetM w (l.map Ix.px = r.map Ix.px)) := by
  have hln : l.length = n := by have := hl.1; rw [vIx_len] at this; omega
  have hrn : r.length = m := by have := hr.1; rw [vIx_len] at this; omega
  unfold maxLen at hn hm
  have nI : (n : Int) ≤ 9223372036854775807 := by omega
  have mI : (m : Int) ≤ 9223372036854775807 := by omega
  have HC := Lib.hid (And.intro hl (And.intro hr (And.intro hln (And.intro hrn (And.intro hlo hro)))))
  clear hl hr hln hrn hn hm hlo hro
  by_cases hnm : n = m
  · subst hnm
    have e1 : ((n : Int) != (n : Int)) = false := by simp
    go_enter Try.func33, Try.ntmps33
    go_wp2
    go_loopw [17] (fun v wr => ∃ i : Nat, i ≤ n ∧ v = .int .i64 i ∧ Below w.heap.size w wr ∧ ∀ j, j < i → ∀ a b, (l.map Ix.px)[j]? = some a → (r.map Ix.px)[j]? = some b → a = b) (fun v _ => n - (intOf v).toNat)
    case atStart => exact ⟨0, by omega, rfl, Below.refl _ _, fun j hj => by omega⟩
    case round =>
      obtain ⟨wo, rfl⟩ : ∃ wo : World, wo = wr := ⟨_, rfl⟩
      obtain ⟨i, hi, rfl, hb, hg⟩ := hrel
      have q0 : (0 : Int) ≤ (i : Int) := by omega
      by_cases hlt : i < n
      · have q1 : (i : Int) < (n : Int) := by omega
        obtain ⟨ad, x, hA, hab, hx0, d0, d1, d2, d3, d4, d5, d6⟩ := (HC.out.1.below hb).ix_ hlt
        obtain ⟨ad2, y, hB, hab2, hy0, g0, g1, g2, g3, g4, g5, g6⟩ := (HC.out.2.1.below hb).ix_ hlt
        have hx : (l.map Ix.px)[i]? = some (Ix.px x) := by rw [List.getElem?_map, hx0]; rfl
        have hy : (r.map Ix.px)[i]? = some (Ix.px y) := by rw [List.getElem?_map, hy0]; rfl
        subst hA hB
        have SM : Hid (∀ W, Below wo.heap.size wo W → Calls Try.prog 34 #[x.agg, y.agg] W (RetM W (Ix.px x = Ix.px y))) := Lib.hid fun W hW => sameIndex_any x y W (IxIn.mv (HC.out.2.2.2.2.1 x (List.mem_of_getElem? hx0)) (bto0 hb hW)) (IxIn.mv (HC.out.2.2.2.2.2 y (List.mem_of_getElem? hy0)) (bto0 hb hW))
        have g0' : ∀ o, (wo.alloc o).cell? (ad2.add (i * 7)) = some (.string y.nm) := fun o => Lib.cell?_alloc_some _ g0
        have g1' : ∀ o, (wo.alloc o).cell? ⟨(ad2.add (i * 7)).block, (ad2.add (i * 7)).off + 1, none⟩ = some (.int .i64 y.tb) := fun o => Lib.cell?_alloc_some _ g1
        have g2' : ∀ o, (wo.alloc o).cell? ⟨(ad2.add (i * 7)).block, (ad2.add (i * 7)).off + 2, none⟩ = some (.slice y.A y.n y.c) := fun o => Lib.cell?_alloc_some _ g2
        have g3' : ∀ o, (wo.alloc o).cell? ⟨(ad2.add (i * 7)).block, (ad2.add (i * 7)).off + 3, none⟩ = some (.int .u32 y.root) := fun o => Lib.cell?_alloc_some _ g3
        have g4' : ∀ o, (wo.alloc o).cell? ⟨(ad2.add (i * 7)).block, (ad2.add (i * 7)).off + 4, none⟩ = some (.int .i64 y.lv) := fun o => Lib.cell?_alloc_some _ g4
        have g5' : ∀ o, (wo.alloc o).cell? ⟨(ad2.add (i * 7)).block, (ad2.add (i * 7)).off + 5, none⟩ = some (.int .i64 y.hi) := fun o => Lib.cell?_alloc_some _ g5
        have g6' : ∀ o, (wo.alloc o).cell? ⟨(ad2.add (i * 7)).block, (ad2.add (i * 7)).off + 6, none⟩ = some (.slice y.B y.m y.e) := fun o => Lib.cell?_alloc_some _ g6
        have HG := Lib.hid (And.intro hx (And.intro hy (And.intro hb hg)))
        have hbz := hb.size
        have hwo : w.heap.size < wo.heap.size + 1 := by omega
        clear hx hy hb hg hx0 hy0
        go_wp2_with (first | (go_at_call 34; (with_reducible refine (SM.out _ (by with_reducible repeat (first | exact Below.refl _ _ | refine Below.drew ?_ | refine bdr ?_ _ | refine ball ?_ _))).mono ?_); rintro e w1 ⟨b, rfl, hbb, hb1⟩))
        · have hbf : b = false := by simpa using ‹(!b) = true›
          subst hbf
          go_ret
          exact ⟨false, rfl, ⟨fun h => (by cases h), fun h => (by
            have h1 := HG.out.1
            rw [h, HG.out.2.1] at h1
            exact absurd (hbb.2 (Option.some.inj h1).symm) (by decide))⟩, bto0 (bto0 HG.out.2.2.1 (by with_reducible repeat (first | exact Below.refl _ _ | refine Below.drew ?_ | refine bdr ?_ _ | refine ball ?_ _))) hb1⟩
        · have hbf : b = true := by simpa using ‹(!b) = false›
          subst hbf
          exact ⟨⟨i + 1, by omega, by go_num, bto0 (bto0 HG.out.2.2.1 (by with_reducible repeat (first | exact Below.refl _ _ | refine Below.drew ?_ | refine bdr ?_ _ | refine ball ?_ _))) hb1, fun j hj a b ha hb => by
            by_cases hji : j < i
            · exact HG.out.2.2.2 j hji a b ha hb
            · obtain rfl : j = i := by omega
              rw [HG.out.1] at ha
              rw [HG.out.2.1] at hb
              cases ha
              cases hb
              exact hbb.1 (by first | rfl | trivial)⟩, by simp [intOf]; omega⟩
      · obtain rfl : i = n := by omega
        have HL := Lib.hid (list_eq (by rw [List.length_map, List.length_map]; exact HC.out.2.2.1.trans HC.out.2.2.2.1.symm) fun j hj => hg j (by rw [List.length_map] at hj; rw [← HC.out.2.2.1]; exact hj))
        clear hg
        go_wp2
        go_ret
        exact ⟨true, rfl, ⟨fun _ => HL.out, fun _ => rfl⟩, hb⟩
  · have e1 : ((n : Int) != (m : Int)) = true := by simp; omega
    have HX : Hid (l.map Ix.px ≠ r.map Ix.px) := Lib.hid fun h => hnm (by have h1 := congrArg List.length h; rw [List.length_map, List.length_map] at h1; rw [← HC.out.2.2.1, ← HC.out.2.2.2.1]; exact h1)
    go_enter Try.func33, Try.ntmps33
    go_wp2
    go_ret
    exact ⟨false, rfl, ⟨fun h => (by cases h), fun h => absurd h HX.out⟩, Below.refl _ _⟩
theorem same_any12 (A : Option Addr) (n c : Nat) (l : List Tb) (B : Option Addr) (m d : Nat) (r : List Ix) (A' : Option Addr) (n' c' : Nat) (l' : List Tb) (B' : Option Addr) (m' d' : Nat) (r' : List Ix) (w : World) (hk : BkIn w A n c l B m d r) (hk' : BkIn w A' n' c' l' B' m' d' r') :
    Calls Try.prog 15 #[.agg #[.slice A n c, .slice B m d], .agg #[.slice A' n' c', .slice B' m' d']] w (RetM w (pbk l r = pbk l' r')) := by
  have ET : Hid (∀ W, Below w.heap.size w W → Calls Try.prog 31 #[.slice A n c, .slice A' n' c', .func (.func 32) #[] #[]] W (RetM W (l.map Tb.pt = l'.map Tb.pt))) := Lib.hid fun W hW => eqT_any A n c l A' n' c' l' W (hk.below hW).hr (hk'.below hW).hr (hk.below hW).hl (hk'.below hW).hl (Nat.le_trans hk.hn.1 hk.hn.2) (Nat.le_trans hk'.hn.1 hk'.hn.2)
  have EX : Hid (∀ W, Below w.heap.size w W → Calls Try.prog 33 #[.slice B m d, .slice B' m' d', .func (.func 34) #[] #[]] W (RetM W (r.map Ix.px = r'.map Ix.px))) := Lib.hid fun W hW => eqX_any B m d r B' m' d' r' W (hk.below hW).hx (hk'.below hW).hx (hk.below hW).hix (hk'.below hW).hix (Nat.le_trans hk.hm.1 hk.hm.2) (Nat.le_trans hk'.hm.1 hk'.hm.2)
  have hE : pbk l r = pbk l' r' ↔ (l.map Tb.pt = l'.map Tb.pt ∧ r.map Ix.px = r'.map Ix.px) := by
    unfold pbk
    rw [PB.mk.injEq]
  have HE := Lib.hid hE
  clear hk hk' hE
  go_enter Try.func15, Try.ntmps15
  go_wp2_with fail
  refine (ET.out _ (by with_reducible repeat (first | exact Below.refl _ _ | refine ball ?_ _))).mono ?_
  rintro e w1 ⟨b, rfl, hbb, hb1⟩
  have hz1 := hb1.size
  (try simp at hz1)
  have P : Blk w1 (w.heap.size) 25 #[.slice A n c, .slice B m d] := blkOf hb1 (by (try simp) <;> omega) (by with_reducible repeat (first | exact Blk.newAt (by simp) | refine Blk.drew ?_ | refine Blk.alloc ?_ _))
  have P_0 : (w1).cell? ⟨w.heap.size, 0, none⟩ = some (.slice A n c) := P.cell 0
  have P_1 : (w1).cell? ⟨w.heap.size, 1, none⟩ = some (.slice B m d) := P.cell 1
  have Q : Blk w1 (w.heap.size + 1) 25 #[.slice A' n' c', .slice B' m' d'] := blkOf hb1 (by (try simp) <;> omega) (by with_reducible repeat (first | exact Blk.newAt (by simp) | refine Blk.drew ?_ | refine Blk.alloc ?_ _))
  have Q_0 : (w1).cell? ⟨w.heap.size + 1, 0, none⟩ = some (.slice A' n' c') := Q.cell 0
  have Q_1 : (w1).cell? ⟨w.heap.size + 1, 1, none⟩ = some (.slice B' m' d') := Q.cell 1
  have hbw : Below w.heap.size w w1 := bto0 (by with_reducible repeat (first | exact Below.refl _ _ | refine ball ?_ _)) hb1
  have HB := Lib.hid (And.intro hbb hbw)
  clear P Q hb1 hbb hbw
  cases b with
  | false =>
    go_wp2
    go_ret
    exact ⟨false, rfl, ⟨fun h => (by cases h), fun h => absurd (HB.out.1.2 (HE.out.1 h).1) (by decide)⟩, HB.out.2⟩
  | true =>
    go_wp2_with fail
    refine (EX.out _ HB.out.2).mono ?_
    rintro e w2 ⟨b, rfl, hbb, hb2⟩
    have HB2 := Lib.hid (And.intro hbb hb2)
    clear hbb hb2
    go_wp2
    go_ret
    exact ⟨b, rfl, ⟨fun h => HE.out.2 ⟨HB.out.1.1 (by first | rfl | trivial), HB2.out.1.1 h⟩, fun h => HB2.out.1.2 (HE.out.1 h).2⟩, bto0 HB.out.2 HB2.out.2⟩
end Go.Proofs.Ytflolnilagogpaa
