/-
  Pool: the reference's row of pages.
-/
import Derived.Test.YtcpbkaeilmabaaaPh
import Derived.Test.YtcpbkaeilmabaaaDu
import Derived.Test.YtcpbkaeilmabaaaEb
import Derived.ArgAppend
namespace Go.Proofs.Ytcpbkaeilmabaaa
set_option linter.unusedSimpArgs false
set_option linter.unusedVariables false
open Go.RowKit Go.Maps

def uL (P : List Nat) : List Value := P.map fun p => .int .u32 (p : Nat)
theorem uL_len (P : List Nat) : (uL P).length = P.length := List.length_map _
theorem uL_snoc (P : List Nat) (p : Nat) : uL P ++ [.int .u32 (p : Nat)] = uL (P ++ [p]) := by simp [uL]
theorem pgL_uL (K : List Fr) : pgL K = uL (pgs K) := by unfold pgL pgs uL; rw [List.map_map]; rfl
theorem setCells_one (w : World) (b o : Nat) (v : Value) : w.setCells b o [v] = w.setCell ⟨b, o, none⟩ v := rfl
/-- A row of pages in blocks of their own type. -/
def RU (w : World) (A : Option Addr) (n : Nat) (P : List Nat) : Prop := Reads w w.heap.size 1 A n (uL P) ∧ ∀ ad, A = some ad → ∃ cs, Blk w ad.block 34 cs
theorem RU.same {w w' : World} {A : Option Addr} {n : Nat} {P : List Nat} (h : RU w A n P) (hs : w.heap.size ≤ w'.heap.size) (he : ∀ g cs, Blk w g 34 cs → w'.heap[g]? = w.heap[g]?) : RU w' A n P :=
  ⟨(h.1.same_ fun ad hA _ => by obtain ⟨cs, hc⟩ := h.2 ad hA; exact he _ cs hc).more hs, fun ad hA => by obtain ⟨cs, hc⟩ := h.2 ad hA; exact ⟨cs, (he _ cs hc).trans hc⟩⟩
theorem RU.below {w w' : World} {A : Option Addr} {n : Nat} {P : List Nat} (h : RU w A n P) (hb : Below w.heap.size w w') : RU w' A n P :=
  h.same hb.size fun g cs hc => hb.block g hc.lt
theorem RU.far {w : World} {A : Option Addr} {n : Nat} {P : List Nat} (h : RU w A n P) {g : Nat} {t : TypeId} {cs : Array Value} (hX : Blk w g t cs) (ht : 34 ≠ t) (j : Nat) (v : Value) : RU (w.setCell ⟨g, j, none⟩ v) A n P :=
  h.same (by simp [World.setCell]) fun g' cs' hc => Below.heap_setCell _ _ _ _ (hc.ne_ hX ht)
theorem RU.of_own {w : World} {base n c : Nat} {A : Option Addr} {P : List Nat} (h : w.ownsRow base 34 1 (.slice A n c) n (uL P)) : RU w A n P :=
  ⟨Reads.of_own h, by
    rintro ad rfl
    rcases h.2 with ⟨e, _⟩ | ⟨g, cap, cur, e, hb, hg, _⟩
    · injection e with e; cases e
    · injection e with e
      injection e with e
      subst e
      exact ⟨cur, hg⟩⟩
/-- An append to what is left of a row of the call's own. -/
theorem run_push_cut {w : World} {g o n c : Nat} {cur : Array Value} {xs : List Value} {t ty e : TypeId} {i : TypeInfo} {z : Value} {bytes : Nat} (ht : Try.prog.underlying t = some (.slice e)) (hi : Try.prog.info? e = some i) (hz : i.zero = some z)
    (hsize : i.size = 1) (hby : i.bytes = bytes) (hzs : z.cells.size = 1) (hg : Blk w g e cur) (hxl : xs.length = n) (hxs : ∀ (j : Nat) (u : Value), xs[j]? = some u → cur[o + j]? = some u) (hfit : n < c → o + c ≤ cur.size) (hnc : n ≤ c) (u : Value) (h1 : u.oneCell' = true)
    (h63 : n + 1 ≤ 1000000000) (hbytes : bytes ≤ 10000) :
    ∃ A c' w', (Builtin.append_ #[t, t] ty #[.slice (some ⟨g, o, none⟩) n c, .slice (some ⟨w.heap.size, 0, none⟩) 1 1]).run Try.prog (w.alloc (.cells #[u] e)) = .ok (.slice A (n + 1) c') w' ∧ Reads w' w'.heap.size 1 A (n + 1) (xs ++ [u]) ∧ (∀ ad, A = some ad → ∃ cs, Blk w' ad.block e cs) ∧ (w.alloc (.cells #[u] e)).grownBy w' (some g) := by
  have hb : (n + 1) * bytes ≤ 1000000000 * 10000 := Nat.mul_le_mul h63 hbytes
  have hg' : Blk (w.alloc (.cells #[u] e)) g e cur := hg.alloc _
  have hnews : ∀ (j : Nat) (v : Value), [u][j]? = some v → (w.alloc (.cells #[u] e)).cell? ((⟨w.heap.size, 0, none⟩ : Addr).add j) = some v := cell_one_new w u e
  have add_ : ∀ (j : Nat), (⟨g, o, none⟩ : Addr).add j = ⟨g, o + j, none⟩ := fun j => by unfold Addr.add; split <;> simp_all
  by_cases hc : n < c
  · have hsz := hfit hc
    have hrun := run_append_room_cells (P := Try.prog) (w.alloc (.cells #[u] e)) t ty e i ht hi g o n c ⟨w.heap.size, 0, none⟩ 1 1 [u] (by rw [hsize]; rfl) hnews (by intro y hy; rw [List.mem_singleton] at hy; subst hy; exact h1) (by omega)
      (fun j hj => by rw [hsize, hg'.cell, Array.getElem?_eq_getElem (by simp at hj; omega)]; rfl) (fun j hj => hg'.frozen _)
    rw [setCells_one, hsize, Nat.mul_one] at hrun
    refine ⟨_, _, _, hrun, ⟨by rw [List.length_append, hxl]; simp, fun _ => ⟨⟨g, o, none⟩, rfl, by have := hg'.lt; simpa [World.setCell] using this, fun j v hv => ?_⟩⟩, ?_, ?_⟩
    · rw [add_, (hg'.set_ (o + n) u).cell]
      by_cases hj : j < n
      · rw [List.getElem?_append_left (by omega)] at hv
        rw [Array.getElem?_setIfInBounds_ne (by omega)]
        exact hxs j v hv
      · rw [List.getElem?_append_right (by omega)] at hv
        have hjl := lt_of_at hv
        simp at hjl
        have : j = n := by omega
        subst this
        rw [hxl, Nat.sub_self] at hv
        rw [Array.getElem?_setIfInBounds_self_of_lt (by omega)]
        exact hv
    · rintro ad h
      injection h with h
      subst h
      exact ⟨_, hg'.set_ _ _⟩
    · exact ⟨rfl, rfl, rfl, by simp [World.setCell], fun k hk hne => Below.heap_setCell _ _ _ _ (fun e' => hne (by rw [e']))⟩
  · have hcn : c = n := by omega
    obtain ⟨v', w', hrun, r1, r2⟩ := run_append_arg_grows (P := Try.prog) (w.alloc (.cells #[u] e)) t ty e i z 1 bytes ht hi hz hsize hby hzs (by decide) ⟨g, o, none⟩ n c xs (by rw [hxl, Nat.mul_one]) (fun j v hv => by rw [add_, hg'.cell]; exact hxs j v hv) ⟨w.heap.size, 0, none⟩ 1 1 [u] rfl hnews (by omega) (by unfold maxLen; omega) (by omega)
    obtain ⟨A', c', rfl, hc'⟩ := own_form r1
    refine ⟨A', c', w', hrun, Reads.of_own r1, ?_, ⟨r2.os, r2.tape, r2.output, r2.size, fun k hk _ => r2.block k hk (by simp)⟩⟩
    rintro ad rfl
    rcases r1.2 with ⟨e', _⟩ | ⟨g', cap, cur', e', _, hg', _⟩
    · injection e' with e'; cases e'
    · injection e' with e'
      injection e' with e'
      subst e'
      exact ⟨cur', hg'⟩
theorem wpList_push_cut {w : World} {ops : Array Oper} {rest : List Oper} {o : Oper} {a : Act} {Q : Exit → Act → World → Prop} (hgd : o.guard = none) (s x : Operand) (t : TypeId)
    (ho : o.op = .call { callee := .builtin .append, args := #[s, x], argTypes := #[t, t] })
    {g off n c : Nat} {cur : Array Value} {xs : List Value} {e : TypeId} {i : TypeInfo} {z : Value} {bytes : Nat} (ht : Try.prog.underlying t = some (.slice e)) (hi : Try.prog.info? e = some i) (hz : i.zero = some z)
    (hsize : i.size = 1) (hby : i.bytes = bytes) (hzs : z.cells.size = 1) (hg : Blk w g e cur) (hxl : xs.length = n) (hxs : ∀ (j : Nat) (u : Value), xs[j]? = some u → cur[off + j]? = some u) (hfit : n < c → off + c ≤ cur.size) (hnc : n ≤ c) (u : Value) (h1 : u.oneCell' = true)
    (h63 : n + 1 ≤ 1000000000) (hbytes : bytes ≤ 10000) (hs : a.eval s = .slice (some ⟨g, off, none⟩) n c) (gx : Nat) (hx : a.eval x = .slice (some ⟨gx, 0, none⟩) 1 1) (hgx : gx = w.heap.size)
    (h : ∀ A c' w', Reads w' w'.heap.size 1 A (n + 1) (xs ++ [u]) → (∀ ad, A = some ad → ∃ cs, Blk w' ad.block e cs) → (w.alloc (.cells #[u] e)).grownBy w' (some g) → wpList Try.prog ops Q rest (a.put o.dst (.slice A (n + 1) c')) w') : wpList Try.prog ops Q (o :: rest) a (w.alloc (.cells #[u] e)) := by
  subst hgx
  refine wpList_plain hgd fun K hK' => ?_
  obtain ⟨A, c', w', hrun, k1, k2, k3⟩ := run_push_cut (ty := o.type) ht hi hz hsize hby hzs hg hxl hxs hfit hnc u h1 h63 hbytes
  unfold Oper.wp
  simp [execOp, ho, resolve, invoke, builtin, hs, hx, hrun, Result.andThen]
  exact hK' _ _ (h A c' w' k1 k2 k3)
end Go.Proofs.Ytcpbkaeilmabaaa
