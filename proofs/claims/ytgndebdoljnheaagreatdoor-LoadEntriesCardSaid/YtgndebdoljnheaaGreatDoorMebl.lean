/-
  Several texts in one: Me4.
-/
import Derived.Test.YtgndebdoljnheaaGreatDoorMeau
import Derived.Test.YtgndebdoljnheaaGreatDoorMebg
import Derived.Test.YtgndebdoljnheaaGreatDoorMead
import Derived.Test.YtgndebdoljnheaaGreatDoorMebc
/-
  The reference's Sorted: an insertion; what it gives is the sorted row.
-/
namespace Go.Proofs.YtgndebdoljnheaaGreatDoor
section
set_option linter.unusedSimpArgs false
set_option linter.unusedVariables false
open Go.RowKit Go.Lib

theorem Tryz.infoE13 : (Tryz.prog.info? 53).map (fun i => (i.zero, i.size, i.bytes)) = some (some (.agg #[.string ⟨#[]⟩, .int .u32 0, .int .u16 0]), 3, 24) := by kernel_rfl
theorem Tryz.elemE13 : Tryz.prog.elem 40 = 53 := by kernel_rfl
theorem Tryz.sliceE13 : Tryz.prog.underlying 40 = some (.slice (Tryz.prog.elem 40)) := by kernel_rfl
theorem vE_app (a b : List En) : vE (a ++ b) = vE a ++ vE b := by simp [vE]
theorem cells_oneE (x : En) : ∀ u ∈ x.cells, u.oneCell' = true := by
  intro u hu
  simp only [En.cells, List.mem_cons, List.not_mem_nil, or_false] at hu
  rcases hu with rfl | rfl | rfl <;> rfl
theorem vE_oneCell (l : List En) : ∀ u ∈ vE l, u.oneCell' = true := by
  intro u hu
  unfold vE at hu
  obtain ⟨x, _, hx⟩ := List.mem_flatMap.1 hu
  exact cells_oneE x u hx
theorem cutloE (A : Option Addr) (n c k : Nat) (h1 : k ≤ n) : ∃ A1 c1, (∀ W, (Instr.slice 40 (.slice A n c) (some (.int .i64 (k : Int))) none none).run Tryz.prog W = .ok (.slice A1 (n - k) c1) W) ∧ ∀ (w : World) (B : Nat) (l : List En), n ≤ c → Reads w B 3 A n (vE l) → Reads w B 3 A1 (n - k) (vE (l.drop k)) := by
  refine ⟨if c = k then A else A.map (·.add (k * 3)), c - k, fun W => ?_, ?_⟩
  · rw [run_slice_l W 40 A n c Tryz.sliceE13 .i64 (k : Int) (by omega) (by omega), Tryz.elemE13, sizeOf_En]
    simp only [sliced, Result.andThen, Int.toNat_natCast]
  · intro w B l hc hr
    have h := hr.cut h1 hc
    have e : (vE l).drop (k * 3) = vE (l.drop k) := by
      conv => lhs; rw [← List.take_append_drop k l, vE_app]
      have hl : (vE (l.take k)).length = k * 3 := by
        have := hr.1
        rw [vE_len] at this ⊢
        rw [List.length_take]
        congr 1
        omega
      rw [← hl, List.drop_left]
    rw [e] at h
    exact h
theorem cuthiE (A : Option Addr) (n c k : Nat) (h1 : k ≤ c) : ∀ W, (Instr.slice 40 (.slice A n c) none (some (.int .i64 (k : Int))) none).run Tryz.prog W = .ok (.slice A k c) W := by
  intro W
  rw [run_slice_h W 40 A n c Tryz.sliceE13 .i64 (k : Int) (by omega) (by omega), Tryz.elemE13, sizeOf_En]
  simp [sliced, Result.andThen, Addr.add]
theorem Reads.takeE {w : World} {B : Nat} {A : Option Addr} {n k : Nat} {l : List En} (hr : Reads w B 3 A n (vE l)) (hk : k ≤ n) : Reads w B 3 A k (vE (l.take k)) := by
  have hl : l.length = n := by have := hr.1; rw [vE_len] at this; omega
  refine ⟨by rw [vE_len, List.length_take]; congr 1; omega, fun h => ?_⟩
  obtain ⟨ad, hA, hb, hc⟩ := hr.2 (by omega)
  refine ⟨ad, hA, hb, fun j u hj => hc j u ?_⟩
  have hj' := lt_of_at hj
  have e : vE l = vE (l.take k) ++ vE (l.drop k) := by rw [← vE_app, List.take_append_drop]
  rw [e, List.getElem?_append_left hj']
  exact hj
theorem own_empty_dr (w : World) (e : TypeId) (size nq : Nat) : ((w.alloc (.cells #[] e)).drewN nq).ownsRow w.heap.size e size (.slice (some ⟨w.heap.size, 0, none⟩) 0 0) 0 [] := own_empty w e size (g := w.heap.size) rfl
theorem own_capE {w : World} {base : Nat} {e : TypeId} {size n : Nat} {v : Value} {xs : List Value} (h : w.ownsRow base e size v n xs) : ∃ A c, v = .slice A n c ∧ n ≤ c ∧ c ≤ maxLen := by
  rcases h.2 with ⟨rfl, h0⟩ | ⟨g, cap, cur, hv, hb, hg, hn, hc, _⟩
  · subst h0; exact ⟨none, 0, rfl, Nat.le_refl _, Nat.zero_le _⟩
  · exact ⟨_, _, hv, hn, hc⟩
/-- One is put into a row that rises, at its place. -/
theorem ins_put {S : List En} {k : Nat} {x : En} (hS : S.Pairwise fun a b => cmpE a b ≤ 0) (hlo : ∀ j, j < k → ∀ a, S[j]? = some a → cmpE a x ≤ 0) (hhi : ∀ a, S[k]? = some a → cmpE x a ≤ 0) :
    (S.take k ++ [x] ++ S.drop k).Pairwise (fun a b => cmpE a b ≤ 0) ∧ (S.take k ++ [x] ++ S.drop k).Perm (S ++ [x]) := by
  have hl : ∀ a ∈ S.take k, cmpE a x ≤ 0 := by
    intro a ha
    obtain ⟨j, hj, rfl⟩ := List.mem_iff_getElem.1 ha
    rw [List.length_take] at hj
    refine hlo j (by omega) _ ?_
    rw [List.getElem_take]
    exact List.getElem?_eq_getElem (by omega)
  have hd := hS.sublist (List.drop_sublist k S)
  have hh : ∀ b ∈ S.drop k, cmpE x b ≤ 0 := by
    intro b hb
    by_cases hk : k < S.length
    · rw [List.drop_eq_getElem_cons hk] at hb hd
      have h1 := hhi S[k] (List.getElem?_eq_getElem hk)
      rcases List.mem_cons.1 hb with rfl | hb
      · exact h1
      · exact cmpE_trans _ _ _ h1 ((List.pairwise_cons.1 hd).1 b hb)
    · rw [List.drop_eq_nil_of_le (by omega)] at hb; cases hb
  constructor
  · rw [List.append_assoc, List.pairwise_append]
    refine ⟨hS.sublist (List.take_sublist k S), ?_, ?_⟩
    · rw [List.singleton_append, List.pairwise_cons]
      exact ⟨hh, hd⟩
    · intro a ha b hb
      rcases List.mem_append.1 hb with hb | hb
      · obtain rfl := List.mem_singleton.1 hb
        exact hl a ha
      · exact cmpE_trans _ _ _ (hl a ha) (hh b hb)
  · conv => rhs; rw [← List.take_append_drop k S]
    rw [List.append_assoc, List.append_assoc]
    exact List.Perm.append_left _ (List.perm_append_comm (l₁ := [x]) (l₂ := S.drop k))
def RetSr (w : World) (l : List En) (e : Ending) (w' : World) : Prop := ∃ (A : Option Addr) (n c : Nat), e = .returned (.slice A n c) ∧ n = l.length ∧ n ≤ c ∧ c ≤ maxLen ∧ Reads w' w'.heap.size 3 A n (vE (sortE l)) ∧ Below w.heap.size w w'

set_option maxRecDepth 100000 in
set_option maxHeartbeats 16000000 in
theorem rsorted_any (A0 : Option Addr) (n0 c0 : Nat) (l : List En) (w : World) (hr : Reads w w.heap.size 3 A0 n0 (vE l)) (hn : n0 ≤ 2000) : Calls Tryz.prog 15 #[.slice A0 n0 c0] w (RetSr w l) := by
  have hl : l.length = n0 := by have := hr.1; rw [vE_len] at this; omega
  have Hl := Lib.hid hl
  clear hl
  have hnI : (n0 : Int) ≤ 2000 := by omega
  obtain ⟨i1, hi1, hz1, hs1, hy1⟩ := int_info8 Tryz.infoE13
  have hb0 : Below w.heap.size w (w.alloc (.cells #[] 53)) := ball (Below.refl _ _) _
  go_enter Tryz.func15, Tryz.ntmps15
  go_wp2
  go_loopw [3, 10] (fun u v wr => ∃ (i n c : Nat) (A : Option Addr) (S : List En), u = .slice A n c ∧ n ≤ c ∧ c ≤ maxLen ∧ v = .int .i64 i ∧ i ≤ n0 ∧ n = i ∧ Reads wr wr.heap.size 3 A n (vE S) ∧ S.Pairwise (fun a b => cmpE a b ≤ 0) ∧ S.Perm (l.take i) ∧ Below w.heap.size w wr) (fun _ v _ => n0 - (intOf v).toNat)
  case atStart => exact ⟨0, 0, 0, _, [], rfl, Nat.le_refl _, Nat.zero_le _, rfl, Nat.zero_le _, rfl, ⟨rfl, fun h => absurd h (by omega)⟩, List.Pairwise.nil, by simp, hb0⟩
  case round =>
    obtain ⟨i, n, c, A, S, rfl, hnc, hcm, rfl, hi, hni, hrS, hup, hpm, hb⟩ := hrel
    have q0 : (0 : Int) ≤ (i : Int) := by omega
    have HS := Lib.hid (And.intro hrS (And.intro hup (And.intro hpm hb)))
    have hSl : S.length = n := by have := hrS.1; rw [vE_len] at this; omega
    have HSl := Lib.hid hSl
    have nI : (n : Int) ≤ 2000 := by omega
    have Hni := Lib.hid hni
    unfold maxLen at hcm
    clear hni
    clear hrS hup hpm hSl
    by_cases hlt : i < n0
    · have q1 : (i : Int) < (n0 : Int) := by omega
      obtain ⟨ad, x, rfl, hab, hx, dx0, dx1, dx2⟩ := (hr.below hb).ent hlt
      have hdx : ad.block < wr.heap.size := by have := hb.size; omega
      have HX := Lib.hid hx
      clear hx hb
      have HC := Lib.hid fun (y : En) W => lessE_any x y W
      have HD : Hid (∀ W, Below wr.heap.size wr W → W.cell? (ad.add (i * 3)) = some (.string x.s) ∧ W.cell? ⟨(ad.add (i * 3)).block, (ad.add (i * 3)).off + 1, none⟩ = some (.int .u32 x.p) ∧ W.cell? ⟨(ad.add (i * 3)).block, (ad.add (i * 3)).off + 2, none⟩ = some (.int .u16 x.q)) := Lib.hid fun W hW => by
        refine ⟨(hW.cell ?_).trans dx0, (hW.cell ?_).trans dx1, (hW.cell ?_).trans dx2⟩ <;> (simp only [block_of_add]; exact hdx)
      go_wp2_with fail
      obtain ⟨wo, hwo⟩ : ∃ wo : World, wo = wr := ⟨_, rfl⟩
      rw [← hwo] at HS HD ⊢
      clear hwo dx0 dx1 dx2
      go_loopw [5] (fun u wr => ∃ (k : Nat), u = .int .i64 k ∧ k ≤ n ∧ (∀ j, j < k → ∀ a, S[j]? = some a → cmpE a x ≤ 0) ∧ Below wo.heap.size wo wr) (fun u _ => n - (intOf u).toNat)
      case atStart => exact ⟨0, rfl, Nat.zero_le _, fun j hj => by omega, Below.refl _ _⟩
      case round =>
        obtain ⟨k, rfl, hkn, hlo, hbi⟩ := hrel
        have k0' : (0 : Int) ≤ (k : Int) := by omega
        have HI := Lib.hid (And.intro hlo hbi)
        clear hlo
        by_cases hk : k < n
        · have k1 : (k : Int) < (n : Int) := by omega
          obtain ⟨ad2, y, rfl, hab2, hy, e0, e1, e2⟩ := (HS.out.1.below hbi).ent hk
          have hdx2 : ad2.block < wr.heap.size := by have := hbi.size; omega
          have HY := Lib.hid hy
          clear hy
          have hS2 : Hid (∀ W, Below wr.heap.size wr W → W.cell? (ad.add (i * 3)) = some (.string x.s) ∧ W.cell? ⟨(ad.add (i * 3)).block, (ad.add (i * 3)).off + 1, none⟩ = some (.int .u32 x.p) ∧ W.cell? ⟨(ad.add (i * 3)).block, (ad.add (i * 3)).off + 2, none⟩ = some (.int .u16 x.q) ∧ W.cell? (ad2.add (k * 3)) = some (.string y.s) ∧ W.cell? ⟨(ad2.add (k * 3)).block, (ad2.add (k * 3)).off + 1, none⟩ = some (.int .u32 y.p) ∧ W.cell? ⟨(ad2.add (k * 3)).block, (ad2.add (k * 3)).off + 2, none⟩ = some (.int .u16 y.q) ∧ Below wr.heap.size wr W) := by
            refine Lib.hid fun W hW => ?_
            obtain ⟨g0, g1, g2⟩ := HD.out W (hbi.trans (hW.mono hbi.size))
            refine ⟨g0, g1, g2, (hW.cell ?_).trans e0, (hW.cell ?_).trans e1, (hW.cell ?_).trans e2, hW⟩ <;> (simp only [block_of_add]; exact hdx2)
          obtain ⟨g0, g1, g2⟩ := HD.out wr hbi
          clear hbi
          have HCy := Lib.hid (HC.out y)
          have HLc := Lib.hid (lessE_cmp x y)
          obtain ⟨b, hbq⟩ : ∃ b, lessE x y = b := ⟨_, rfl⟩
          rw [hbq] at HCy HLc
          clear hbq
          unfold En.agg at HCy
          go_wp2_with fail
          refine wp_region_held_drew (S := (fun W => W.cell? (ad.add (i * 3)) = some (.string x.s) ∧ W.cell? ⟨(ad.add (i * 3)).block, (ad.add (i * 3)).off + 1, none⟩ = some (.int .u32 x.p) ∧ W.cell? ⟨(ad.add (i * 3)).block, (ad.add (i * 3)).off + 2, none⟩ = some (.int .u16 x.q) ∧ W.cell? (ad2.add (k * 3)) = some (.string y.s) ∧ W.cell? ⟨(ad2.add (k * 3)).block, (ad2.add (k * 3)).off + 1, none⟩ = some (.int .u32 y.p) ∧ W.cell? ⟨(ad2.add (k * 3)).block, (ad2.add (k * 3)).off + 2, none⟩ = some (.int .u16 y.q) ∧ Below wr.heap.size wr W)) (by kernel_rfl) (by exact hS2.out _ (Below.drew (Below.refl _ _))) (fun hHeld => ?_)
          try dsimp only at hHeld
          refine wpAnyH_take (i := 0) (v := ?_) rfl (by kernel_rfl) (by kernel_rfl) (by kernel_rfl) (fun _ _ _ h => h) (Or.inl ⟨rfl, ?_⟩) hHeld ?_
          rotate_left
          focus (intro wx hSw; (try dsimp only at hSw); (try go_split_ands); go_simp; (try with_reducible rfl))
          try simp only [Act.put, List.getElem_toArray, List.getElem_cons_succ, List.getElem_cons_zero, List.setIfInBounds_toArray, List.set_cons_zero, List.set_cons_succ]
          refine wpAnyH_take (i := 1) (v := ?_) rfl (by kernel_rfl) (by kernel_rfl) (by kernel_rfl) (fun _ _ _ h => h) (Or.inl ⟨rfl, ?_⟩) hHeld ?_
          rotate_left
          focus (intro wx hSw; (try dsimp only at hSw); (try go_split_ands); go_simp; (try with_reducible rfl))
          try simp only [Act.put, List.getElem_toArray, List.getElem_cons_succ, List.getElem_cons_zero, List.setIfInBounds_toArray, List.set_cons_zero, List.set_cons_succ]
          refine wpAnyH_take (i := 2) (v := ?_) rfl (by kernel_rfl) (by kernel_rfl) (by kernel_rfl) (fun _ _ _ h => h) (Or.inl ⟨rfl, ?_⟩) hHeld ?_
          rotate_left
          focus (intro wx hSw; (try dsimp only at hSw); (try go_split_ands); go_simp; (try with_reducible rfl))
          try simp only [Act.put, List.getElem_toArray, List.getElem_cons_succ, List.getElem_cons_zero, List.setIfInBounds_toArray, List.set_cons_zero, List.set_cons_succ]
          refine wpAnyH_take (i := 3) (v := ?_) rfl (by kernel_rfl) (by kernel_rfl) (by kernel_rfl) (fun _ _ _ h => h) (Or.inl ⟨rfl, ?_⟩) hHeld ?_
          rotate_left
          focus (intro wx hSw; (try dsimp only at hSw); (try go_split_ands); go_simp; (try with_reducible rfl))
          try simp only [Act.put, List.getElem_toArray, List.getElem_cons_succ, List.getElem_cons_zero, List.setIfInBounds_toArray, List.set_cons_zero, List.set_cons_succ]
          refine wpAnyH_take (i := 4) (v := ?_) rfl (by kernel_rfl) (by kernel_rfl) (by kernel_rfl) (fun _ _ _ h => h) (Or.inl ⟨rfl, ?_⟩) hHeld ?_
          rotate_left
          focus (intro wx hSw; (try dsimp only at hSw); (try go_split_ands); go_simp; (try with_reducible rfl))
          try simp only [Act.put, List.getElem_toArray, List.getElem_cons_succ, List.getElem_cons_zero, List.setIfInBounds_toArray, List.set_cons_zero, List.set_cons_succ]
          refine wpAnyH_take (i := 5) (v := ?_) rfl (by kernel_rfl) (by kernel_rfl) (by kernel_rfl) (fun _ _ _ h => h) (Or.inl ⟨rfl, ?_⟩) hHeld ?_
          rotate_left
          focus (intro wx hSw; (try dsimp only at hSw); (try go_split_ands); go_simp; (try with_reducible rfl))
          try simp only [Act.put, List.getElem_toArray, List.getElem_cons_succ, List.getElem_cons_zero, List.setIfInBounds_toArray, List.set_cons_zero, List.set_cons_succ]
          refine wpAnyH_take (i := 6) (v := ?_) rfl (by kernel_rfl) (by kernel_rfl) (by kernel_rfl) (fun _ _ _ h => h) (Or.inl ⟨rfl, ?_⟩) hHeld ?_
          rotate_left
          focus (intro wx hSw; (try dsimp only at hSw); (try go_split_ands); go_simp; (try with_reducible rfl))
          try simp only [Act.put, List.getElem_toArray, List.getElem_cons_succ, List.getElem_cons_zero, List.setIfInBounds_toArray, List.set_cons_zero, List.set_cons_succ]
          refine wpAnyH_take (i := 7) (v := ?_) rfl (by kernel_rfl) (by kernel_rfl) (by kernel_rfl) (fun _ _ _ h => h) (Or.inl ⟨rfl, ?_⟩) hHeld ?_
          rotate_left
          focus (intro wx hSw; (try dsimp only at hSw); (try go_split_ands); go_simp; (try with_reducible rfl))
          try simp only [Act.put, List.getElem_toArray, List.getElem_cons_succ, List.getElem_cons_zero, List.setIfInBounds_toArray, List.set_cons_zero, List.set_cons_succ]
          refine wpAnyH_take (i := 8) (v := ?_) rfl (by kernel_rfl) (by kernel_rfl) (by kernel_rfl) (fun _ _ _ h => h) (Or.inl ⟨rfl, ?_⟩) hHeld ?_
          rotate_left
          focus (intro wx hSw; (try dsimp only at hSw); (try go_split_ands); go_simp; (try with_reducible rfl))
          try simp only [Act.put, List.getElem_toArray, List.getElem_cons_succ, List.getElem_cons_zero, List.setIfInBounds_toArray, List.set_cons_zero, List.set_cons_succ]
          refine wpAnyH_take (i := 9) (v := ?_) rfl (by kernel_rfl) (by kernel_rfl) (by kernel_rfl) (fun _ _ _ h => h) (Or.inl ⟨rfl, ?_⟩) hHeld ?_
          rotate_left
          focus (intro wx hSw; (try dsimp only at hSw); (try go_split_ands); go_simp; (try with_reducible rfl))
          try simp only [Act.put, List.getElem_toArray, List.getElem_cons_succ, List.getElem_cons_zero, List.setIfInBounds_toArray, List.set_cons_zero, List.set_cons_succ]
          refine wpAnyH_take (i := 10) (v := ?_) rfl (by kernel_rfl) (by kernel_rfl) (by kernel_rfl) (fun _ _ _ h => h) (Or.inl ⟨rfl, ?_⟩) hHeld ?_
          rotate_left
          focus (intro wx hSw; (try dsimp only at hSw); (try go_split_ands); go_simp; (try with_reducible rfl))
          try simp only [Act.put, List.getElem_toArray, List.getElem_cons_succ, List.getElem_cons_zero, List.setIfInBounds_toArray, List.set_cons_zero, List.set_cons_succ]
          refine wpAnyH_take (i := 11) (v := ?_) rfl (by kernel_rfl) (by kernel_rfl) (by kernel_rfl) (fun _ _ _ h => h) (Or.inl ⟨rfl, ?_⟩) hHeld ?_
          rotate_left
          focus (intro wx hSw; (try dsimp only at hSw); (try go_split_ands); go_simp; (try with_reducible rfl))
          try simp only [Act.put, List.getElem_toArray, List.getElem_cons_succ, List.getElem_cons_zero, List.setIfInBounds_toArray, List.set_cons_zero, List.set_cons_succ]
          refine wpAnyH_take (i := 12) (v := ?_) rfl (by kernel_rfl) (by kernel_rfl) (by kernel_rfl) (fun _ _ _ h => h) (Or.inl ⟨rfl, ?_⟩) hHeld ?_
          rotate_left
          focus (intro wx hSw; (try dsimp only at hSw); (try go_split_ands); go_simp; (try with_reducible rfl))
          try simp only [Act.put, List.getElem_toArray, List.getElem_cons_succ, List.getElem_cons_zero, List.setIfInBounds_toArray, List.set_cons_zero, List.set_cons_succ]
          refine wpAnyH_ready (rs := [13]) (by kernel_rfl) (by simp) (AllReadyH.cons rfl (fun K hK => ?_) AllReadyH.nil)
          go_simp
          (with_reducible refine (HCy.out _).mono ?_); rintro e w1 ⟨rfl, hb1⟩
          go_wp2_with fail
          refine hK.out _ _ ?_ (fun hHeld => ?_)
          · ((try dsimp only); (try dsimp only at hHeld); (first | exact hS2.out _ (by (with_reducible repeat (first | exact Below.refl _ _ | exact hb1 | refine bto0 ?_ hb1 | refine bdr ?_ _ | refine Below.drew ?_ | refine ball ?_ _))) | assumption))
          clear hK K
          try dsimp only at hHeld
          try simp only [Act.put, List.getElem_toArray, List.getElem_cons_succ, List.getElem_cons_zero, List.setIfInBounds_toArray, List.set_cons_zero, List.set_cons_succ]
          refine wpAnyH_take (i := 14) (v := ?_) rfl (by kernel_rfl) (by kernel_rfl) (by kernel_rfl) (fun _ _ _ h => h) (Or.inl ⟨rfl, ?_⟩) hHeld ?_
          rotate_left
          focus (intro wx hSw; (try dsimp only at hSw); (try go_split_ands); go_simp; (try with_reducible rfl))
          try simp only [Act.put, List.getElem_toArray, List.getElem_cons_succ, List.getElem_cons_zero, List.setIfInBounds_toArray, List.set_cons_zero, List.set_cons_succ]
          refine wpAnyH_take (i := 15) (v := ?_) rfl (by kernel_rfl) (by kernel_rfl) (by kernel_rfl) (fun _ _ _ h => h) (Or.inl ⟨rfl, ?_⟩) hHeld ?_
          rotate_left
          focus (intro wx hSw; (try dsimp only at hSw); (try go_split_ands); go_simp; (try with_reducible rfl))
          try simp only [Act.put, List.getElem_toArray, List.getElem_cons_succ, List.getElem_cons_zero, List.setIfInBounds_toArray, List.set_cons_zero, List.set_cons_succ]
          refine wpAnyH_done (by kernel_rfl) ?_ _
          have hbw0 : Below wr.heap.size wr w1 := by (with_reducible repeat (first | exact Below.refl _ _ | exact hb1 | refine bto0 ?_ hb1 | refine bdr ?_ _ | refine Below.drew ?_ | refine ball ?_ _))
          have hbw1 : Below wo.heap.size wo w1 := HI.out.2.trans (hbw0.mono HI.out.2.size)
          clear hb1 hbw0
          cases b
          · have hge : cmpE y x ≤ 0 := by have h1 := HLc.out.symm; have h2 := cmpE_swap x y; have := of_decide_eq_false h1; omega
            have hlo' : ∀ j, j < k + 1 → ∀ a, S[j]? = some a → cmpE a x ≤ 0 := fun j hj a ha => by
              by_cases hjk : j < k
              · exact HI.out.1 j hjk a ha
              · obtain rfl : j = k := by omega
                rw [HY.out] at ha
                injection ha with ha
                rw [← ha]
                exact hge
            have HLO := Lib.hid hlo'
            clear hlo' hge
            go_wp2
            refine ⟨⟨k + 1, by go_num, by omega, HLO.out, hbw1⟩, by simp [intOf]; omega⟩
          · have hhi : ∀ a, S[k]? = some a → cmpE x a ≤ 0 := fun a ha => by
              rw [HY.out] at ha
              injection ha with ha
              rw [← ha]
              have := of_decide_eq_true HLc.out.symm
              omega
            have HPT := Lib.hid (ins_put HS.out.2.1 HI.out.1 hhi)
            clear hhi
            obtain ⟨A1, c1, hcut, hlo1⟩ := cutloE (some ad2) n c k hkn
            obtain ⟨m, hm⟩ : ∃ m, n - k = m := ⟨_, rfl⟩
            rw [hm] at hcut hlo1
            have hhi1 := cuthiE (some ad2) n c k (by omega)
            have HL1 := Lib.hid hlo1
            clear hlo1
            have HE := Lib.hid (own_empty w1 53 3 (g := w1.heap.size) rfl)
            have hzr := hbw1.size
            have mk : m ≤ 2000 := by omega
            have kk : k ≤ 2000 := by omega
            have mk1 : k + 1 + m ≤ 2001 := by omega
            go_wp2_with (first
              | (at_builtin; refine wpList_append_any _ rfl (.tmp 32) (.tmp 35) 40 rfl w1.heap.size 53 i1 _ 3 24 Tryz.underlying40 hi1 hz1 hs1 hy1 rfl (by decide) _ 0 [] rfl HE.out _ (some ad2) k c (vE (S.take k)) rfl (Reads.takeE (HS.out.1.below (ball hbw1 _)) hkn) (vE_oneCell _) (by unfold maxLen; omega) (by omega) (by simp) ?_; intro v7 w7 own7 hg7 _; simp only [Nat.zero_add, List.nil_append] at own7; obtain ⟨A7, c7, rfl, hc7⟩ := own_form own7; have hb7 : Below wo.heap.size wo w7 := (ball hbw1 _).grown hg7 (by simp; omega) (fun g hgg => by (have := (HE.out.lt g hgg).1; omega)); obtain ⟨d70, d71, d72⟩ := HD.out w7 hb7; have hbr7 : Below w1.heap.size w1 w7 := (ball (Below.refl _ _) _).grown hg7 (by simp) (fun g hgg => (HE.out.lt g hgg).1); have hz7 := hbr7.size)
              | (at_builtin; refine wpList_pushR (news := x.cells) rfl (.tmp 37) (.tmp 42) 40 rfl w1.heap.size 53 i1 _ 3 24 Tryz.underlying40 hi1 hz1 hs1 hy1 rfl (by decide) (.slice A7 k c7) k _ (by first | rfl | (simp [Act.eval, Act.put]; done)) own7 rfl _ (by first | rfl | (simp [Act.eval, Act.put]; done)) (by first | rfl | simp) rfl (cells_oneE x) (by omega) (by omega) hz7 ?_; intro v8 w8 own8 hg8 _; obtain ⟨A8, c8, rfl, hc8⟩ := own_form own8; have hb8 : Below wo.heap.size wo w8 := (ball hb7 _).grown hg8 (by simp; omega) (fun g hgg => by (have := (own7.lt g hgg).1; omega)); have hz8 : w1.heap.size ≤ w8.heap.size := (by have := hg8.size; simp at this; omega); have r8 := HL1.out w8 _ S hnc (HS.out.1.below hb8))
              | (at_builtin; refine wpList_append_any _ rfl (.tmp 44) (.tmp 47) 40 rfl w1.heap.size 53 i1 _ 3 24 Tryz.underlying40 hi1 hz1 hs1 hy1 rfl (by decide) (.slice A8 (k + 1) c8) (k + 1) _ rfl own8 _ A1 m c1 (vE (S.drop k)) rfl r8 (vE_oneCell _) (by unfold maxLen; omega) (by omega) hz8 ?_; intro v9 w9 own9 hg9 _; obtain ⟨A9, c9, rfl, hc9, hm9⟩ := own_capE own9; have hb9 : Below wo.heap.size wo w9 := hb8.grown hg9 (by omega) (fun g hgg => by (have := (own8.lt g hgg).1; omega)))
              | fail)
            have e9 : vE (S.take k) ++ x.cells ++ vE (S.drop k) = vE (S.take k ++ [x] ++ S.drop k) := by simp [vE]
            rw [e9] at own9
            refine ⟨⟨i + 1, k + 1 + m, c9, A9, S.take k ++ [x] ++ S.drop k, rfl, hc9, hm9, by go_num, by omega, by have := Hni.out; omega, Reads.of_own own9, HPT.out.1, HPT.out.2.trans ?_, bto0 HS.out.2.2.2 hb9⟩, by simp [intOf]; omega⟩
            rw [List.take_add_one, HX.out]
            exact HS.out.2.2.1.append_right _
        · have k1 : ¬ (k : Int) < (n : Int) := by omega
          have hhi : ∀ a, S[k]? = some a → cmpE x a ≤ 0 := fun a ha => by rw [List.getElem?_eq_none (by rw [HSl.out]; omega)] at ha; cases ha
          have HPT := Lib.hid (ins_put HS.out.2.1 HI.out.1 hhi)
          clear hhi
          obtain ⟨g0, g1, g2⟩ := HD.out wr hbi
          clear hbi
          go_wp2_with fail
          go_quiet (fail)
          obtain ⟨A1, c1, hcut, hlo1⟩ := cutloE A n c k hkn
          obtain ⟨m, hm⟩ : ∃ m, n - k = m := ⟨_, rfl⟩
          rw [hm] at hcut hlo1
          have hhi1 := cuthiE A n c k (by omega)
          have HL1 := Lib.hid hlo1
          clear hlo1
          have HE := Lib.hid (fun nq => own_empty_dr wr 53 3 nq)
          have hzr := HI.out.2.size
          have mk : m ≤ 2000 := by omega
          have kk : k ≤ 2000 := by omega
          have mk1 : k + 1 + m ≤ 2001 := by omega
          go_wp2_with (first
            | (at_builtin; refine wpList_append_any _ rfl (.tmp 32) (.tmp 35) 40 rfl wr.heap.size 53 i1 _ 3 24 Tryz.underlying40 hi1 hz1 hs1 hy1 rfl (by decide) _ 0 [] rfl (HE.out _) _ A k c (vE (S.take k)) rfl (Reads.takeE (HS.out.1.below (bdr (ball HI.out.2 _) _)) hkn) (vE_oneCell _) (by unfold maxLen; omega) (by omega) (by simp) ?_; intro v7 w7 own7 hg7 _; simp only [Nat.zero_add, List.nil_append] at own7; obtain ⟨A7, c7, rfl, hc7⟩ := own_form own7; have hb7 : Below wo.heap.size wo w7 := (bdr (ball HI.out.2 _) _).grown hg7 (by simp; omega) (fun g hgg => by (have := ((HE.out 0).lt g hgg).1; omega)); obtain ⟨d70, d71, d72⟩ := HD.out w7 hb7; have hbr7 : Below wr.heap.size wr w7 := (bdr (ball (Below.refl _ _) _) _).grown hg7 (by simp) (fun g hgg => ((HE.out 0).lt g hgg).1); have hz7 := hbr7.size)
            | (at_builtin; refine wpList_pushR (news := x.cells) rfl (.tmp 37) (.tmp 42) 40 rfl wr.heap.size 53 i1 _ 3 24 Tryz.underlying40 hi1 hz1 hs1 hy1 rfl (by decide) (.slice A7 k c7) k _ (by first | rfl | (simp [Act.eval, Act.put]; done)) own7 rfl _ (by first | rfl | (simp [Act.eval, Act.put]; done)) (by first | rfl | simp) rfl (cells_oneE x) (by omega) (by omega) hz7 ?_; intro v8 w8 own8 hg8 _; obtain ⟨A8, c8, rfl, hc8⟩ := own_form own8; have hb8 : Below wo.heap.size wo w8 := (ball hb7 _).grown hg8 (by simp; omega) (fun g hgg => by (have := (own7.lt g hgg).1; omega)); have hz8 : wr.heap.size ≤ w8.heap.size := (by have := hg8.size; simp at this; omega); have r8 := HL1.out w8 _ S hnc (HS.out.1.below hb8))
            | (at_builtin; refine wpList_append_any _ rfl (.tmp 44) (.tmp 47) 40 rfl wr.heap.size 53 i1 _ 3 24 Tryz.underlying40 hi1 hz1 hs1 hy1 rfl (by decide) (.slice A8 (k + 1) c8) (k + 1) _ rfl own8 _ A1 m c1 (vE (S.drop k)) rfl r8 (vE_oneCell _) (by unfold maxLen; omega) (by omega) hz8 ?_; intro v9 w9 own9 hg9 _; obtain ⟨A9, c9, rfl, hc9, hm9⟩ := own_capE own9; have hb9 : Below wo.heap.size wo w9 := hb8.grown hg9 (by omega) (fun g hgg => by (have := (own8.lt g hgg).1; omega)))
            | fail)
          have e9 : vE (S.take k) ++ x.cells ++ vE (S.drop k) = vE (S.take k ++ [x] ++ S.drop k) := by simp [vE]
          rw [e9] at own9
          refine ⟨⟨i + 1, k + 1 + m, c9, A9, S.take k ++ [x] ++ S.drop k, rfl, hc9, hm9, by go_num, by omega, by have := Hni.out; omega, Reads.of_own own9, HPT.out.1, HPT.out.2.trans ?_, bto0 HS.out.2.2.2 hb9⟩, by simp [intOf]; omega⟩
          rw [List.take_add_one, HX.out]
          exact HS.out.2.2.1.append_right _
    · obtain rfl : i = n0 := by omega
      have q1 : ¬ ((i : Int) < (i : Int)) := by omega
      go_wp2
      go_ret
      have hT : l.take i = l := List.take_of_length_le (by rw [Hl.out]; exact Nat.le_refl _)
      have hq := eq_sortE (hT ▸ HS.out.2.2.1) HS.out.2.1
      exact ⟨A, n, c, rfl, by rw [Hl.out]; exact Hni.out, hnc, by unfold maxLen; omega, by rw [← hq]; exact HS.out.1, HS.out.2.2.2⟩
end
end Go.Proofs.YtgndebdoljnheaaGreatDoor
