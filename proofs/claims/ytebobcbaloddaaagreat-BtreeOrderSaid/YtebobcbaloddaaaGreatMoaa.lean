/-
  B1.
-/
namespace Go.Proofs.YtebobcbaloddaaaGreat
section
set_option linter.unusedSimpArgs false
set_option linter.unusedVariables false
section
variable {α : Type}
def ptK (f : α → Bool → Nat) (l : List α) : Nat → List (Nat × Nat) × Nat × Nat
 | 0 => ([], 0, 0)
 | k + 1 => match l[k]? with
   | none => ptK f l k
   | some x => if 504 < (ptK f l k).2.2 + f x (decide (k = (ptK f l k).2.1)) then ((ptK f l k).1 ++ [((ptK f l k).2.1, k)], k, f x true) else ((ptK f l k).1, (ptK f l k).2.1, (ptK f l k).2.2 + f x (decide (k = (ptK f l k).2.1)))
def ptE (n : Nat) (s : List (Nat × Nat) × Nat × Nat) : List (Nat × Nat) :=
 if s.1 ≠ [] ∧ s.2.1 + 1 = n then s.1.dropLast ++ [((s.1.getLastD (0, 0)).1, (s.1.getLastD (0, 0)).2 - 1), (s.2.1 - 1, n)] else s.1 ++ [(s.2.1, n)]
def ptL (f : α → Bool → Nat) (l : List α) : List (Nat × Nat) := ptE l.length (ptK f l l.length)
def seg (l : List α) (g : Nat × Nat) : List α := (l.take g.2).drop g.1
def szL (f : α → Bool → Nat) : List α → Nat
 | [] => 0
 | x :: r => f x true + (r.map fun y => f y false).sum
def Chn : Nat → List (Nat × Nat) → Nat → Prop
 | a, [], c => a = c
 | a, g :: r, c => g.1 = a ∧ a < g.2 ∧ Chn g.2 r c
theorem Chn.snoc : ∀ {a b c : Nat} {gs : List (Nat × Nat)}, Chn a gs b → b < c → Chn a (gs ++ [(b, c)]) c
 | _, _, _, [], h, hc => ⟨h.symm, by cases h; exact hc, rfl⟩
 | _, _, _, g :: gs, ⟨h1, h2, h3⟩, hc => ⟨h1, h2, Chn.snoc h3 hc⟩
theorem Chn.le : ∀ {a c : Nat} {gs : List (Nat × Nat)}, Chn a gs c → a ≤ c
 | _, _, [], h => by cases h; exact Nat.le_refl _
 | _, _, g :: gs, ⟨_, h2, h3⟩ => by have := Chn.le h3; omega
theorem Chn.split : ∀ {a c : Nat} {gs : List (Nat × Nat)}, Chn a gs c → gs ≠ [] → ∃ b, gs = gs.dropLast ++ [(b, c)] ∧ Chn a gs.dropLast b ∧ b < c
 | _, _, [], _, h => absurd rfl h
 | a, c, [g], ⟨h1, h2, h3⟩, _ => by
   cases h3
   exact ⟨g.1, by simp, by rw [h1]; rfl, by omega⟩
 | a, c, g :: g' :: gs, ⟨h1, h2, h3⟩, _ => by
   obtain ⟨b, e1, e2, e3⟩ := Chn.split h3 (by simp)
   exact ⟨b, by rw [List.dropLast_cons_of_ne_nil (by simp), List.cons_append, ← e1], by rw [List.dropLast_cons_of_ne_nil (by simp)]; exact ⟨h1, h2, e2⟩, e3⟩
theorem Chn.flat : ∀ {a c : Nat} {gs : List (Nat × Nat)} (l : List α), Chn a gs c → c ≤ l.length → (gs.map (seg l)).flatten = seg l (a, c)
 | a, _, [], l, h, hc => by cases h; simp [seg]
 | a, c, g :: gs, l, ⟨h1, h2, h3⟩, hc => by
   have ih := Chn.flat l h3 hc
   have hle := h3.le
   rw [List.map_cons, List.flatten_cons, ih]
   unfold seg
   obtain ⟨x, y⟩ := g
   simp only at *
   subst h1
   have e1 : (l.take c).drop x = ((l.take c).drop x).take (y - x) ++ ((l.take c).drop x).drop (y - x) := (List.take_append_drop _ _).symm
   rw [e1, List.drop_drop, List.take_drop, show x + (y - x) = y from by omega, List.take_take, Nat.min_eq_left hle]
theorem seg_snoc {l : List α} {a k : Nat} {x : α} (h : l[k]? = some x) (ha : a ≤ k) : seg l (a, k + 1) = seg l (a, k) ++ [x] := by
 unfold seg
 have hk := (List.getElem?_eq_some_iff.1 h).1
 rw [List.take_add_one, h, List.drop_append, List.length_take, Nat.min_eq_left (by omega), Option.toList_some, show a - k = 0 from by omega, List.drop_zero]
theorem seg_self (l : List α) (k : Nat) : seg l (k, k) = [] := by
 unfold seg
 rw [List.drop_eq_nil_of_le]
 rw [List.length_take]
 exact Nat.min_le_left _ _
theorem seg_len {l : List α} {g : Nat × Nat} (h : g.2 ≤ l.length) : (seg l g).length = g.2 - g.1 := by
 unfold seg; rw [List.length_drop, List.length_take, Nat.min_eq_left h]
theorem seg_all (l : List α) : seg l (0, l.length) = l := by unfold seg; simp
theorem szL_snoc (f : α → Bool → Nat) (l : List α) (x : α) : szL f (l ++ [x]) = szL f l + f x (decide (l.length = 0)) := by
 cases l with
 | nil => simp [szL]
 | cons y r => simp [szL]; omega
structure PtI (f : α → Bool → Nat) (l : List α) (m k : Nat) (s : List (Nat × Nat) × Nat × Nat) : Prop where
 ch : Chn 0 s.1 s.2.1
 lt : (k = 0 → s = ([], 0, 0)) ∧ (0 < k → s.2.1 < k)
 sz : s.2.2 = szL f (seg l (s.2.1, k))
 ok : s.2.2 ≤ 504
 cl : ∀ g ∈ s.1, szL f (seg l g) ≤ 504 ∧ g.1 + m ≤ g.2 ∧ g.2 ≤ k
structure PtF (f : α → Bool → Nat) (l : List α) (m : Nat) : Prop where
 one : ∀ x ∈ l, f x true ≤ 504
 two : ∀ x ∈ l, ∀ y ∈ l, f x true + f y false ≤ 504
 few : ∀ s : List α, (∀ x ∈ s, x ∈ l) → s.length < m → ∀ y ∈ l, szL f s + f y (decide (s.length = 0)) ≤ 504
 m2 : 2 ≤ m
 m3 : m ≤ 3
theorem mem_seg {l : List α} {g : Nat × Nat} {x : α} (h : x ∈ seg l g) : x ∈ l := List.mem_of_mem_take (List.mem_of_mem_drop h)
theorem ptI {f : α → Bool → Nat} {l : List α} {m : Nat} (hF : PtF f l m) : ∀ k : Nat, k ≤ l.length → PtI f l m k (ptK f l k)
 | 0, _ => ⟨rfl, ⟨fun _ => rfl, fun h => absurd h (by omega)⟩, by simp [ptK, seg, szL], by simp [ptK], by simp [ptK]⟩
 | k + 1, hk => by
   have ih := ptI hF k (by omega)
   have hx : l[k]? = some (l[k]'(by omega)) := List.getElem?_eq_getElem (by omega)
   obtain ⟨x, hx'⟩ : ∃ x, l[k]'(by omega) = x := ⟨_, rfl⟩
   rw [hx'] at hx
   have hmem : x ∈ l := List.mem_of_getElem? hx
   have hble : (ptK f l k).2.1 ≤ k := by
    rcases Nat.eq_zero_or_pos k with h0 | h0
    · rw [ih.lt.1 h0]; exact Nat.zero_le _
    · exact Nat.le_of_lt (ih.lt.2 h0)
   have hsl : (seg l ((ptK f l k).2.1, k)).length = k - (ptK f l k).2.1 := seg_len (by simp; omega)
   have hdec : decide (k = (ptK f l k).2.1) = decide ((seg l ((ptK f l k).2.1, k)).length = 0) := by
    rw [hsl]; rw [decide_eq_decide]; omega
   unfold ptK
   rw [hx]
   simp only
   by_cases h : 504 < (ptK f l k).2.2 + f x (decide (k = (ptK f l k).2.1))
   · rw [if_pos h]
     have hm : (ptK f l k).2.1 + m ≤ k := by
      rcases Nat.lt_or_ge (seg l ((ptK f l k).2.1, k)).length m with hlt | hge
      · have := hF.few (seg l ((ptK f l k).2.1, k)) (fun y hy => mem_seg hy) hlt x hmem
        rw [← hdec, ← ih.sz] at this
        omega
      · rw [hsl] at hge; have := hF.m2; omega
     have := hF.m2
     refine ⟨Chn.snoc ih.ch (by omega), ⟨fun h0 => absurd h0 (by omega), fun _ => by simp⟩, ?_, hF.one x hmem, ?_⟩
     · show f x true = szL f (seg l (k, k + 1))
       rw [seg_snoc hx (Nat.le_refl _), seg_self]; simp [szL]
     · intro g hg
       rcases List.mem_append.1 hg with h1 | h1
       · have := ih.cl g h1; exact ⟨this.1, this.2.1, by omega⟩
       · rw [List.mem_singleton] at h1
         subst h1
         exact ⟨by rw [← ih.sz]; exact ih.ok, hm, by simp⟩
   · rw [if_neg h]
     refine ⟨ih.ch, ⟨fun h0 => absurd h0 (by omega), fun _ => by show (ptK f l k).2.1 < k + 1; omega⟩, ?_, by show (ptK f l k).2.2 + _ ≤ 504; omega, fun g hg => ?_⟩
     · show (ptK f l k).2.2 + f x _ = szL f (seg l ((ptK f l k).2.1, k + 1))
       rw [seg_snoc hx hble, szL_snoc, ← hdec, ← ih.sz]
     · have := ih.cl g hg; exact ⟨this.1, this.2.1, by omega⟩
theorem ptL_ok {f : α → Bool → Nat} {l : List α} {m : Nat} (hF : PtF f l m) (hmono : ∀ s : List α, ∀ x, szL f s ≤ szL f (s ++ [x])) (hl : l ≠ []) :
 Chn 0 (ptL f l) l.length ∧ (∀ g ∈ ptL f l, szL f (seg l g) ≤ 504 ∧ g.2 ≤ l.length) ∧ ((ptL f l).length = 1 ∨ ∀ g ∈ ptL f l, g.1 + (m - 1) ≤ g.2) := by
 have I := ptI hF l.length (Nat.le_refl _)
 have hn : 0 < l.length := List.length_pos_iff.2 hl
 have hb := I.lt.2 hn
 have hm2 := hF.m2
 have hm3 := hF.m3
 unfold ptL ptE
 generalize ptK f l l.length = s at *
 obtain ⟨gs, b, u⟩ := s
 simp only at *
 by_cases hc : gs ≠ [] ∧ b + 1 = l.length
 · rw [if_pos hc]
   obtain ⟨b0, e1, e2, e3⟩ := Chn.split I.ch hc.1
   simp only at e1 e2 e3
   have hlast : gs.getLastD (0, 0) = (b0, b) := by rw [e1]; simp
   have hg0 := I.cl (b0, b) (by rw [e1]; simp)
   simp only at hg0
   rw [hlast]
   simp only
   have hch1 : Chn 0 (gs.dropLast ++ [(b0, b - 1)]) (b - 1) := Chn.snoc e2 (by omega)
   have hch2 : Chn 0 ((gs.dropLast ++ [(b0, b - 1)]) ++ [(b - 1, l.length)]) l.length := Chn.snoc hch1 (by omega)
   rw [List.append_assoc] at hch2
   refine ⟨hch2, ?_, .inr ?_⟩
   · intro g hg
     rcases List.mem_append.1 hg with h1 | h1
     · have := I.cl g (by rw [e1]; exact List.mem_append_left _ h1)
       exact ⟨this.1, this.2.2⟩
     · simp only [List.mem_cons, List.not_mem_nil, or_false] at h1
       rcases h1 with rfl | rfl
       · refine ⟨?_, by simp; omega⟩
         obtain ⟨y, hy⟩ : ∃ y, l[b - 1]? = some y := ⟨_, List.getElem?_eq_getElem (by omega)⟩
         have h2 := seg_snoc (a := b0) hy (by omega)
         rw [show b - 1 + 1 = b from by omega] at h2
         have := hmono (seg l (b0, b - 1)) y
         rw [← h2] at this
         exact Nat.le_trans this hg0.1
       · refine ⟨?_, Nat.le_refl _⟩
         obtain ⟨y, hy⟩ : ∃ y, l[b - 1]? = some y := ⟨_, List.getElem?_eq_getElem (by omega)⟩
         obtain ⟨z, hz⟩ : ∃ z, l[b]? = some z := ⟨_, List.getElem?_eq_getElem (by omega)⟩
         have h2 := seg_snoc (a := b - 1) hy (Nat.le_refl _)
         rw [show b - 1 + 1 = b from by omega] at h2
         have h3 := seg_snoc (a := b - 1) hz (by omega)
         rw [h2, seg_self] at h3
         rw [← hc.2, h3]
         simpa [szL] using hF.two y (List.mem_of_getElem? hy) z (List.mem_of_getElem? hz)
   · intro g hg
     rcases List.mem_append.1 hg with h1 | h1
     · have := I.cl g (by rw [e1]; exact List.mem_append_left _ h1)
       omega
     · simp only [List.mem_cons, List.not_mem_nil, or_false] at h1
       rcases h1 with rfl | rfl
       · simp only; omega
       · simp only
         have := hg0.2.1
         omega
 · rw [if_neg hc]
   refine ⟨Chn.snoc I.ch hb, ?_, ?_⟩
   · intro g hg
     rcases List.mem_append.1 hg with h1 | h1
     · have := I.cl g h1; exact ⟨this.1, this.2.2⟩
     · rw [List.mem_singleton] at h1
       subst h1
       exact ⟨by rw [← I.sz]; exact I.ok, Nat.le_refl _⟩
   · by_cases hg : gs = []
     · left; simp [hg]
     · right
       intro g hg'
       rcases List.mem_append.1 hg' with h1 | h1
       · have := I.cl g h1; omega
       · rw [List.mem_singleton] at h1
         subst h1
         simp only
         have : b + 1 ≠ l.length := fun e => hc ⟨hg, e⟩
         omega
end
end
end Go.Proofs.YtebobcbaloddaaaGreat
