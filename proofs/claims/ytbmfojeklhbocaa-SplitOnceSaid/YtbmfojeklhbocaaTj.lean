/-
  Split: rows of numbers that lie beside each other; the parts of conditions (plain).
-/
import Derived.Test.YtbmfojeklhbocaaTi
import Derived.Maps.AppendAt
set_option linter.unusedSimpArgs false
set_option linter.unusedVariables false
namespace Go.Proofs.Ytbmfojeklhbocaa
open Go.RowKit

/-- Rows of numbers of the call's own, none of which shares its block with another one. -/
structure Rws (w : World) (B : Nat) (rs : List (Value × List Nat)) : Prop where
  own : ∀ (i : Nat) (r : Value × List Nat), rs[i]? = some r → w.ownsRow B 3 1 r.1 r.2.length (vI r.2)
  apart : ∀ (i j : Nat) (r s : Value × List Nat), rs[i]? = some r → rs[j]? = some s → i ≠ j → r.1.ownBlock = none ∨ r.1.ownBlock ≠ s.1.ownBlock
theorem Rws.keep {w w' : World} {B : Nat} {rs : List (Value × List Nat)} (h : Rws w B rs) (row : Option Nat) (hg : w.grownBy w' row) (hr : ∀ (i : Nat) (r : Value × List Nat), rs[i]? = some r → r.1.ownBlock = none ∨ r.1.ownBlock ≠ row) : Rws w' B rs :=
  ⟨fun i r hi => (h.own i r hi).kept hg (hr i r hi), h.apart⟩
theorem Rws.below {w w' : World} {B : Nat} {rs : List (Value × List Nat)} (h : Rws w B rs) (hb : Below w.heap.size w w') : Rws w' B rs :=
  ⟨fun i r hi => own_below (h.own i r hi) hb, h.apart⟩
theorem Rws.alloc {w : World} {B : Nat} {rs : List (Value × List Nat)} (h : Rws w B rs) (o : Obj) : Rws (w.alloc o) B rs := ⟨fun i r hi => (h.own i r hi).alloc o, h.apart⟩
theorem Rws.far {w : World} {B : Nat} {rs : List (Value × List Nat)} (h : Rws w B rs) {g : Nat} {t : TypeId} {cs : Array Value} (hb : Blk w g t cs) (hne : 3 ≠ t) (j : Nat) (u : Value) : Rws (w.setCell ⟨g, j, none⟩ u) B rs := by
  refine ⟨fun i r hi => ?_, h.apart⟩
  exact (h.own i r hi).kept (row := some g) ⟨rfl, rfl, rfl, by simp [World.setCell], fun k hk hkg => Below.heap_setCell w _ u k (fun e' => hkg (by rw [e'])) ⟩ (.inr fun e' => own_blk_ne (h.own i r hi) hb hne e')
theorem Rws.put {w w' : World} {B m : Nat} {rs : List (Value × List Nat)} {r0 : Value × List Nat} {v' : Value} {l' : List Nat} (h : Rws w B rs) (hm : rs[m]? = some r0) (row : Option Nat) (hrow : row = none ∨ row = r0.1.ownBlock) (hg : w.grownBy w' row)
    (hv : w'.ownsRow B 3 1 v' l'.length (vI l')) (hB : v'.ownBlock = none ∨ v'.ownBlock = r0.1.ownBlock ∨ ∃ k, v'.ownBlock = some k ∧ w.heap.size ≤ k) : Rws w' B (rs.set m (v', l')) := by
  have hlt := lt_of_at hm
  have ap : ∀ (j : Nat) (s : Value × List Nat), rs[j]? = some s → m ≠ j → (v'.ownBlock = none ∨ v'.ownBlock ≠ s.1.ownBlock) ∧ (s.1.ownBlock = none ∨ s.1.ownBlock ≠ v'.ownBlock) := by
    intro j s hj hne
    rcases hB with e | e | ⟨k, e, hk⟩
    · rw [e]
      refine ⟨.inl rfl, ?_⟩
      cases s.1.ownBlock with
      | none => exact .inl rfl
      | some q => exact .inr (by simp)
    · rw [e]
      exact ⟨h.apart m j r0 s hm hj hne, h.apart j m s r0 hj hm (Ne.symm hne)⟩
    · have hs : s.1.ownBlock ≠ some k := by
        intro e2
        have := ((h.own j s hj).lt k e2).2
        omega
      rw [e]
      exact ⟨.inr (Ne.symm hs), .inr hs⟩
  refine ⟨fun i r hi => ?_, fun i j r s hi hj hne => ?_⟩
  · by_cases hmi : m = i
    · subst hmi
      rw [List.getElem?_set_self hlt] at hi
      injection hi with hi
      subst hi
      exact hv
    · rw [List.getElem?_set_ne hmi] at hi
      refine (h.own i r hi).kept hg ?_
      rcases hrow with e | e
      · rw [e]
        cases r.1.ownBlock with
        | none => exact .inl rfl
        | some q => exact .inr (by simp)
      · rw [e]; exact h.apart i m r r0 hi hm (Ne.symm hmi)
  · by_cases hmi : m = i
    · subst hmi
      rw [List.getElem?_set_self hlt] at hi
      injection hi with hi
      subst hi
      rw [List.getElem?_set_ne hne] at hj
      exact (ap j s hj hne).1
    · rw [List.getElem?_set_ne hmi] at hi
      by_cases hmj : m = j
      · subst hmj
        rw [List.getElem?_set_self hlt] at hj
        injection hj with hj
        subst hj
        exact (ap i r hi hmi).2
      · rw [List.getElem?_set_ne hmj] at hj
        exact h.apart i j r s hi hj hne

/-- One number more behind one of such rows: what is known of it, and of all others. -/
theorem wpList_pushR {P : Program} {w : World} {ops : Array Oper} {rest : List Oper} {o : Oper} {a : Act} {Q : Exit → Act → World → Prop} {news : List Value} {arr : Array Value} (hgd : o.guard = none) (s x : Operand) (t : TypeId)
    (ho : o.op = .call { callee := .builtin .append, args := #[s, x], argTypes := #[t, t] })
    (base : Nat) (e : TypeId) (i : TypeInfo) (z : Value) (size bytes : Nat) (ht : P.underlying t = some (.slice e)) (hi : P.info? e = some i) (hz : i.zero = some z)
    (hsize : i.size = size) (hby : i.bytes = bytes) (hzs : z.cells.size = size) (hsz : 0 < size)
    (v : Value) (n : Nat) (xs : List Value) (hs : a.eval s = v) (hown : w.ownsRow base e size v n xs)
    (harr : arr = news.toArray) (g : Nat) (hx : a.eval x = .slice (some ⟨g, 0, none⟩) 1 1) (hg : g = w.heap.size) (hl : news.length = size) (h1 : ∀ u ∈ news, u.oneCell' = true)
    (h63 : n + 1 ≤ 1000000000) (hbytes : bytes ≤ 10000) (hbase : base ≤ w.heap.size)
    (h : ∀ v' w', w'.ownsRow base e size v' (n + 1) (xs ++ news) → (w.alloc (.cells arr e)).grownBy w' v.ownBlock → (v'.ownBlock = v.ownBlock ∨ v'.ownBlock = some (w.heap.size + 1)) → wpList P ops Q rest (a.put o.dst v') w') : wpList P ops Q (o :: rest) a (w.alloc (.cells arr e)) := by
  subst hg
  subst harr
  have hb : (n + 1) * bytes ≤ 1000000000 * 10000 := Nat.mul_le_mul h63 hbytes
  refine wpList_append_own_at _ hgd s x t ho base e i z size bytes ht hi hz hsize hby hzs hsz v n xs hs (hown.alloc _) ⟨w.heap.size, 0, none⟩ 1 1 news hx (by rw [hl]; omega) ?_ h1 (by unfold maxLen; omega) (by omega) (by simp; omega) fun v' w' h2 h3 _ h5 => h v' w' h2 h3 (by simpa using h5)
  intro j u hj
  rw [add_head, World.cell?_alloc_at _ _ _ _ rfl]
  simpa using hj
/-- The same, as one step of a region that draws its order. -/
theorem wp_pushR {P : Program} {w : World} {o : Oper} {a : Act} {K : Act → World → Prop} {Q : Exit → Act → World → Prop} {news : List Value} {arr : Array Value} (s x : Operand) (t : TypeId)
    (ho : o.op = .call { callee := .builtin .append, args := #[s, x], argTypes := #[t, t] })
    (base : Nat) (e : TypeId) (i : TypeInfo) (z : Value) (size bytes : Nat) (ht : P.underlying t = some (.slice e)) (hi : P.info? e = some i) (hz : i.zero = some z)
    (hsize : i.size = size) (hby : i.bytes = bytes) (hzs : z.cells.size = size) (hsz : 0 < size)
    (v : Value) (n : Nat) (xs : List Value) (hs : a.eval s = v) (hown : w.ownsRow base e size v n xs)
    (harr : arr = news.toArray) (g : Nat) (hx : a.eval x = .slice (some ⟨g, 0, none⟩) 1 1) (hg : g = w.heap.size) (hl : news.length = size) (h1 : ∀ u ∈ news, u.oneCell' = true)
    (h63 : n + 1 ≤ 1000000000) (hbytes : bytes ≤ 10000) (hbase : base ≤ w.heap.size)
    (h : ∀ v' w', w'.ownsRow base e size v' (n + 1) (xs ++ news) → (w.alloc (.cells arr e)).grownBy w' v.ownBlock → (v'.ownBlock = v.ownBlock ∨ v'.ownBlock = some (w.heap.size + 1)) → K (a.put o.dst v') w') : o.wp P a (w.alloc (.cells arr e)) K Q := by
  subst hg
  subst harr
  have hb : (n + 1) * bytes ≤ 1000000000 * 10000 := Nat.mul_le_mul h63 hbytes
  have hnews : ∀ j u, news[j]? = some u → (w.alloc (.cells news.toArray e)).cell? ((⟨w.heap.size, 0, none⟩ : Addr).add j) = some u := by
    intro j u hj
    rw [add_head, World.cell?_alloc_at _ _ _ _ rfl]
    simpa using hj
  obtain ⟨v', w', hr, h2, h3, h4, h5⟩ := run_append_own_at (P := P) (w.alloc (.cells news.toArray e)) base t o.type e i z size bytes ht hi hz hsize hby hzs hsz v n xs (hown.alloc _) ⟨w.heap.size, 0, none⟩ 1 1 news (by rw [hl]; omega) hnews h1 (by unfold maxLen; omega) (by omega) (by simp; omega)
  unfold Oper.wp execOp
  simp only [ho, resolve, invoke, builtin, Sem.run_bind, Sem.run_pure, Result.andThen_ok, List.map_toArray, List.map_cons, List.map_nil, hs, hx, hr]
  exact h _ _ h2 h3 (by simpa using h5)

/-- The same, where the region draws. -/
theorem step_pushR {P : Program} {w : World} {ops : Array Oper} {o : Oper} {a : Act} {K : Act → World → Prop} {Q : Exit → Act → World → Prop} {E : Prop} {news : List Value} {arr : Array Value} (hgd : o.guard = none) (s x : Operand) (t : TypeId)
    (ho : o.op = .call { callee := .builtin .append, args := #[s, x], argTypes := #[t, t] })
    (base : Nat) (e : TypeId) (i : TypeInfo) (z : Value) (size bytes : Nat) (ht : P.underlying t = some (.slice e)) (hi : P.info? e = some i) (hz : i.zero = some z)
    (hsize : i.size = size) (hby : i.bytes = bytes) (hzs : z.cells.size = size) (hsz : 0 < size)
    (v : Value) (n : Nat) (xs : List Value) (hs : a.eval s = v) (hown : w.ownsRow base e size v n xs)
    (harr : arr = news.toArray) (g : Nat) (hx : a.eval x = .slice (some ⟨g, 0, none⟩) 1 1) (hg : g = w.heap.size) (hl : news.length = size) (h1 : ∀ u ∈ news, u.oneCell' = true)
    (h63 : n + 1 ≤ 1000000000) (hbytes : bytes ≤ 10000) (hbase : base ≤ w.heap.size)
    (h : ∀ v' w', w'.ownsRow base e size v' (n + 1) (xs ++ news) → (w.alloc (.cells arr e)).grownBy w' v.ownBlock → (v'.ownBlock = v.ownBlock ∨ v'.ownBlock = some (w.heap.size + 1)) → K (a.put o.dst v') w') : if Region.wanted o (yielded ops a.tmps) = true then Oper.wp P o a (w.alloc (.cells arr e)) K Q else E := by
  have hw : Region.wanted o (yielded ops a.tmps) = true := by simp [Region.wanted, hgd]
  rw [if_pos hw]
  exact wp_pushR s x t ho base e i z size bytes ht hi hz hsize hby hzs hsz v n xs hs hown harr g hx hg hl h1 h63 hbytes hbase h

/-- A condition's set, of so many tables. -/
def stN (f K : Nat) (t : Tm) : Nat := usT f t &&& (2 ^ K - 1)
/-- The part that a set belongs to: 0: none, 1: of several tables, 2 and more: of one. -/
def clN (s : Nat) : Nat := if s = 0 then 0 else match onlyN s with | some j => 2 + j | none => 1
def clT (f K : Nat) (t : Tm) : Nat := clN (stN f K t)
def prt (c : Tm → Nat) (K : Nat) (l : List Tm) (k : Nat) : List (List Nat) := (List.range (2 + K)).map fun m => idxK (fun t => c t == m) l k
theorem prt_len (c : Tm → Nat) (K : Nat) (l : List Tm) (k : Nat) : (prt c K l k).length = 2 + K := by simp [prt]
theorem prt_at (c : Tm → Nat) (K : Nat) (l : List Tm) (k m : Nat) (hm : m < 2 + K) : (prt c K l k)[m]? = some (idxK (fun t => c t == m) l k) := by
  unfold prt; rw [List.getElem?_map, List.getElem?_range hm]; rfl
theorem prt_zero (c : Tm → Nat) (K : Nat) (l : List Tm) : prt c K l 0 = List.replicate (2 + K) [] := by
  unfold prt idxK
  apply List.ext_getElem?
  intro m
  rw [List.getElem?_map, List.getElem?_replicate]
  by_cases hm : m < 2 + K
  · rw [List.getElem?_range hm, if_pos hm]; rfl
  · rw [if_neg hm, List.getElem?_eq_none (by simp; omega)]; rfl
theorem prt_succ {c : Tm → Nat} {K : Nat} {l : List Tm} {k : Nat} {v : Tm} (hv : l[k]? = some v) : prt c K l (k + 1) = (prt c K l k).set (c v) (idxK (fun t => c t == c v) l k ++ [k]) := by
  apply List.ext_getElem?
  intro m
  by_cases hm : m < 2 + K
  · rw [prt_at _ _ _ _ _ hm, idxK_succ _ _ _ _ hv]
    by_cases hc : c v = m
    · subst hc
      rw [List.getElem?_set_self (by rw [prt_len]; exact hm)]
      simp
    · rw [List.getElem?_set_ne hc, prt_at _ _ _ _ _ hm]
      simp [hc]
  · rw [List.getElem?_eq_none (by rw [prt_len]; omega), List.getElem?_eq_none (by rw [List.length_set, prt_len]; omega)]
theorem onlyN_some {s j : Nat} (h : onlyN s = some j) : s = 2 ^ j ∧ j < 31 := by
  unfold onlyN at h
  have h1 := List.find?_some h
  have h2 := List.mem_of_find?_eq_some h
  exact ⟨by simpa using h1, by simpa using h2⟩
theorem stN_lt (f K : Nat) (t : Tm) : stN f K t < 2 ^ K := by
  have h : stN f K t ≤ 2 ^ K - 1 := Nat.and_le_right
  have := Nat.one_le_two_pow (n := K)
  omega
theorem clT_lt (f K : Nat) (t : Tm) : clT f K t < 2 + K := by
  unfold clT clN
  split
  · omega
  · split
    · rename_i j hj
      have h1 := (onlyN_some hj).1
      have h2 := stN_lt f K t
      rw [h1] at h2
      have := (Nat.pow_lt_pow_iff_right (by omega)).1 h2
      omega
    · omega

/-- What a join has beside its number. -/
abbrev JT := Int × Int × Int × Int
def jnH (a b : TmH) : JT := if b.tb < a.tb then (b.tb, a.tb, b.cl, a.cl) else (a.tb, b.tb, a.cl, b.cl)
def jnT : Tm → Option JT
  | .mk h _ _ _ [a, b] => if h.k = 4 ∧ h.op = ⟨#[61]⟩ ∧ a.h.k = 2 ∧ b.h.k = 2 then some (jnH a.h b.h) else none
  | _ => none
def jC (x : Nat × JT) : List Value := [.int .i64 (x.1 : Int), .int .i64 x.2.1, .int .i64 x.2.2.1, .int .i64 x.2.2.2.1, .int .i64 x.2.2.2.2]
def vJ (l : List (Nat × JT)) : List Value := l.flatMap jC
theorem vJ_len (l : List (Nat × JT)) : (vJ l).length = l.length * 5 := flat_len _ 5 l fun v _ => rfl
theorem vJ_at {l : List (Nat × JT)} {k : Nat} {v : Nat × JT} (h : l[k]? = some v) (j : Nat) (hj : j < 5) : (vJ l)[k * 5 + j]? = (jC v)[j]? := flat_at jC 5 l k v j (fun _ _ => rfl) h hj
theorem vJ_app (a b : List (Nat × JT)) : vJ (a ++ b) = vJ a ++ vJ b := by simp [vJ]
theorem vJ_one (x : Nat × JT) : vJ [x] = jC x := by simp [vJ]
theorem jC_oneCell (x : Nat × JT) : ∀ u ∈ jC x, u.oneCell' = true := by
  intro u hu
  simp only [jC, List.mem_cons, List.not_mem_nil, or_false] at hu
  rcases hu with rfl | rfl | rfl | rfl | rfl <;> rfl
def jsB (c : Tm → Nat) (i : Nat) (t : Tm) : Option (Nat × JT) := if c t = 1 then (jnT t).map fun x => (i, x) else none
def jsK (c : Tm → Nat) (l : List Tm) (k : Nat) : List (Nat × JT) := (List.range k).filterMap fun i => (l[i]?).bind (jsB c i)
theorem jsK_succ {c : Tm → Nat} {l : List Tm} {k : Nat} {v : Tm} (hv : l[k]? = some v) : jsK c l (k + 1) = jsK c l k ++ (jsB c k v).toList := by
  unfold jsK
  rw [List.range_succ, List.filterMap_append]
  congr 1
  rw [List.filterMap_cons, List.filterMap_nil, hv, Option.bind_some]
  cases jsB c k v <;> rfl
theorem jsK_len (c : Tm → Nat) (l : List Tm) (k : Nat) : (jsK c l k).length ≤ k := by
  unfold jsK
  have := List.length_filterMap_le (fun i => (l[i]?).bind (jsB c i)) (List.range k)
  simpa using this
end Go.Proofs.Ytbmfojeklhbocaa
