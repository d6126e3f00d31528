/-
  B2.
-/
import Derived.Test.YtebobcbaloddaaaGreatMobl
import Derived.Test.YtebobcbaloddaaaGreatMoaa
import Derived.Test.YtebobcbaloddaaaGreatMobe
namespace Go.Proofs.YtebobcbaloddaaaGreat
section
set_option linter.unusedSimpArgs false
set_option linter.unusedVariables false
open Go.RowKit Go.Maps
def tkP : Nat → List Bool → List Nat × List Bool × Bool
 | 0, T => ([], T, true)
 | k + 1, T => if (tkP k T).2.2 then (match freeI (tkP k T).2.1 with
   | some i => ((tkP k T).1 ++ [i], (tkP k T).2.1.set i true, true)
   | none => ((tkP k T).1, (tkP k T).2.1, false)) else tkP k T
theorem freeI_some {T : List Bool} {i : Nat} (h : freeI T = some i) : T[i]? = some false ∧ i < T.length ∧ ∀ j : Nat, j < i → T[j]? = some true := by
 rcases freeI_cases T with ⟨i', h1, h2, h3⟩ | ⟨h1, _⟩
 · rw [h] at h1
   injection h1 with h1
   subst h1
   exact ⟨h2, lt_of_at h2, h3⟩
 · rw [h] at h1; cases h1
theorem freeI_none {T : List Bool} (h : freeI T = none) : ∀ j : Nat, j < T.length → T[j]? = some true := by
 rcases freeI_cases T with ⟨i', h1, _, _⟩ | ⟨_, h2⟩
 · rw [h] at h1; cases h1
 · exact h2
structure TkI (T : List Bool) (k : Nat) (s : List Nat × List Bool × Bool) : Prop where
 len : s.2.1.length = T.length
 full : s.2.2 = true → s.1.length = k
 at_ : ∀ i p : Nat, s.1[i]? = some p → T[p]? = some false ∧ s.2.1[p]? = some true ∧ p < T.length
 up : ∀ j : Nat, T[j]? = some true → s.2.1[j]? = some true
 only : ∀ j : Nat, j ∉ s.1 → s.2.1[j]? = T[j]?
 nodup : s.1.Nodup
 few : s.2.2 = false → ∀ j : Nat, j < T.length → s.2.1[j]? = some true
 le : s.1.length ≤ k
theorem tkI (T : List Bool) : ∀ k, TkI T k (tkP k T)
 | 0 => ⟨rfl, fun _ => rfl, fun i p h => by simp [tkP] at h, fun _ h => h, fun _ _ => rfl, List.nodup_nil, fun h => (by cases h), Nat.le_refl _⟩
 | k + 1 => by
   have ih := tkI T k
   unfold tkP
   by_cases ho : (tkP k T).2.2 = true
   · rw [if_pos ho]
     cases hf : freeI (tkP k T).2.1 with
     | some i =>
       obtain ⟨f1, f2, f3⟩ := freeI_some hf
       have hni : i ∉ (tkP k T).1 := by
        intro hm
        obtain ⟨m, hm⟩ := List.getElem?_of_mem hm
        have := (ih.at_ m i hm).2.1
        rw [f1] at this
        cases this
       have hTi : T[i]? = some false := by rw [← ih.only i hni]; exact f1
       refine ⟨by simp [ih.len], fun _ => by simp [ih.full ho], fun j p hp => ?_, fun j hj => ?_, fun j hj => ?_, ?_, fun h => (by cases h), by simp [ih.full ho]⟩
       · simp only at hp ⊢
         rw [List.getElem?_append] at hp
         split at hp
         · obtain ⟨a, b, c⟩ := ih.at_ j p hp
           refine ⟨a, ?_, c⟩
           by_cases hip : i = p
           · subst hip; rw [List.getElem?_set_self f2]
           · rw [List.getElem?_set_ne hip]; exact b
         · have : p = i := by
            have := List.mem_of_getElem? hp
            simpa using this
           subst this
           exact ⟨hTi, by rw [List.getElem?_set_self f2], by rw [← ih.len]; exact f2⟩
       · simp only
         by_cases hij : i = j
         · subst hij; rw [List.getElem?_set_self f2]
         · rw [List.getElem?_set_ne hij]; exact ih.up j hj
       · simp only [List.mem_append, List.mem_singleton, not_or] at hj ⊢
         rw [List.getElem?_set_ne (fun e => hj.2 e.symm)]
         exact ih.only j hj.1
       · simp only
         rw [List.nodup_append]
         refine ⟨ih.nodup, by simp, ?_⟩
         intro a ha b hb
         rw [List.mem_singleton] at hb
         subst hb
         rintro rfl
         exact hni ha
     | none =>
       refine ⟨ih.len, fun h => (by cases h), ih.at_, ih.up, ih.only, ih.nodup, fun _ j hj => freeI_none hf j (by rw [ih.len]; exact hj), Nat.le_succ_of_le ih.le⟩
   · rw [if_neg ho]
     exact ⟨ih.len, fun h => absurd h ho, ih.at_, ih.up, ih.only, ih.nodup, ih.few, Nat.le_succ_of_le ih.le⟩
abbrev Kd := Nat × En
def fE (x : En) (_ : Bool) : Nat := 8 + x.s.size
def fC (c : Kd) (first : Bool) : Nat := if first then 4 else 12 + c.2.s.size
def enZ : En := ⟨⟨#[]⟩, 0, 0⟩
def lfK (l : List En) (gs : List (Nat × Nat)) (pg : List Nat) : Nat → List (List UInt8) → List (List UInt8)
 | 0, ps => ps
 | k + 1, ps => (lfK l gs pg k ps).set (pg.getD k 0) (leafL (pg.getD (k + 1) 0) (seg l (gs.getD k (0, 0))))
def lfLv (l : List En) (gs : List (Nat × Nat)) (pg : List Nat) (k : Nat) : List Kd := (List.range k).map fun i => (pg.getD i 0, ((seg l (gs.getD i (0, 0))).head?).getD enZ)
def inPg : List Kd → List UInt8
 | [] => []
 | c :: r => innL c.1 (r.map fun c => (c.2, c.1)) r.length
def inK (l : List Kd) (gs : List (Nat × Nat)) (pg : List Nat) : Nat → List (List UInt8) → List (List UInt8)
 | 0, ps => ps
 | k + 1, ps => (inK l gs pg k ps).set (pg.getD k 0) (inPg (seg l (gs.getD k (0, 0))))
def inLv (l : List Kd) (gs : List (Nat × Nat)) (pg : List Nat) (k : Nat) : List Kd := (List.range k).map fun i => (pg.getD i 0, (((seg l (gs.getD i (0, 0))).head?).map Prod.snd).getD enZ)
abbrev Lev := List (List UInt8) × List Bool × Option (List Kd)
def lfP (l : List En) (ps : List (List UInt8)) (T : List Bool) : Lev :=
 if (tkP (ptL fE l).length T).2.2 then (lfK l (ptL fE l) (tkP (ptL fE l).length T).1 (ptL fE l).length ps, (tkP (ptL fE l).length T).2.1, some (lfLv l (ptL fE l) (tkP (ptL fE l).length T).1 (ptL fE l).length)) else (ps, (tkP (ptL fE l).length T).2.1, none)
def inP' (l : List Kd) (ps : List (List UInt8)) (T : List Bool) : Lev :=
 if (tkP (ptL fC l).length T).2.2 then (inK l (ptL fC l) (tkP (ptL fC l).length T).1 (ptL fC l).length ps, (tkP (ptL fC l).length T).2.1, some (inLv l (ptL fC l) (tkP (ptL fC l).length T).1 (ptL fC l).length)) else (ps, (tkP (ptL fC l).length T).2.1, none)
abbrev Bd := List (List UInt8) × List Bool × Option Nat
def upP : Nat → Lev → Bd
 | _, (ps, T, none) => (ps, T, none)
 | 0, (ps, T, some lv) => (ps, T, none)
 | f + 1, (ps, T, some lv) => if lv.length ≤ 1 then (ps, T, some ((lv.head?.map Prod.fst).getD 0)) else upP f (inP' lv ps T)
def bdP (l : List En) (ps : List (List UInt8)) (T : List Bool) : Bd := upP (l.length + 2) (lfP l ps T)
theorem ptF_E {l : List En} (h : ∀ x ∈ l, x.s.size ≤ 200) : PtF fE l 2 := by
 refine ⟨fun x hx => ?_, fun x hx y hy => ?_, fun s hs hl y hy => ?_, Nat.le_refl _, by omega⟩
 · have := h x hx; unfold fE; omega
 · have := h x hx; have := h y hy; unfold fE; omega
 · have := h y hy
   match s, hl with
   | [], _ => simp [szL, fE]; omega
   | [x], _ => have := h x (hs x (by simp)); simp [szL, fE]; omega
theorem ptF_C {l : List Kd} (h : ∀ x ∈ l, x.2.s.size ≤ 200) : PtF fC l 3 := by
 refine ⟨fun x hx => ?_, fun x hx y hy => ?_, fun s hs hl y hy => ?_, by omega, Nat.le_refl _⟩
 · have := h x hx; simp [fC]
 · have := h x hx; have := h y hy; simp [fC]; omega
 · have := h y hy
   match s, hl with
   | [], _ => simp [szL, fC]
   | [x], _ => have := h x (hs x (by simp)); simp [szL, fC]; omega
   | [x, z], _ => have := h x (hs x (by simp)); have := h z (hs z (by simp)); simp [szL, fC]; omega
def riseP (l : List En) : Prop := l.Pairwise fun a b => cmpE a b < 0
theorem cmpE_lt_trans {a b c : En} (h1 : cmpE a b < 0) (h2 : cmpE b c < 0) : cmpE a c < 0 := by
 by_cases h : cmpE a c < 0
 · exact h
 · have h3 : cmpE c a ≤ 0 := by have := cmpE_swap a c; omega
   have h4 := cmpE_trans c a b h3 (by omega)
   have := cmpE_swap b c
   omega
theorem rise_iff : ∀ l : List En, riseE l = true ↔ riseP l
 | [] => by simp [riseE, riseP]
 | [a] => by simp [riseE, riseP]
 | a :: b :: r => by
   have ih := rise_iff (b :: r)
   have e1 : riseE (a :: b :: r) = (decide (cmpE a b < 0) && riseE (b :: r)) := rfl
   have e2 : riseP (a :: b :: r) = List.Pairwise (fun a b => cmpE a b < 0) (a :: b :: r) := rfl
   rw [e1, e2, Bool.and_eq_true, decide_eq_true_eq, List.pairwise_cons]
   constructor
   · rintro ⟨h1, h2⟩
     have h3 := ih.1 h2
     refine ⟨fun x hx => ?_, h3⟩
     rcases List.mem_cons.1 hx with rfl | hx
     · exact h1
     · exact cmpE_lt_trans h1 ((List.pairwise_cons.1 h3).1 x hx)
   · rintro ⟨h1, h2⟩
     exact ⟨h1 b (by simp), ih.2 h2⟩
end
end Go.Proofs.YtebobcbaloddaaaGreat
