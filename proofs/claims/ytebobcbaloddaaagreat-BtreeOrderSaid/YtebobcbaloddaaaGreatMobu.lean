/-
  B47 B48 B49.
-/
import Derived.Test.YtebobcbaloddaaaGreatMobs
import Derived.Laws.CopyOwn
import Derived.Lib.AppendZerosOnto
import Derived.Lib.Overlaps
import Derived.Deep.RegionLaw
import Derived.Deep.DeepCutAuto
namespace Go.Proofs.YtebobcbaloddaaaGreat
section
set_option linter.unusedSimpArgs false
set_option linter.unusedVariables false
open Go.RowKit Go.Maps
section
variable {P : Program}
theorem run_copyS (w : World) (dT sT ty elem : TypeId) (sz g o dLen dCap : Nat) (a : Addr) (sLen sCap k : Nat) (cur : Array Value) (t : TypeId) (cs : List Value)
 (hu : P.underlying dT = some (.slice elem)) (hs : (P.info? elem).map (·.size) = some sz)
 (hg : w.heap[g]? = some (.cells cur t (0, 0))) (hk : k = Nat.min sLen dLen) (hn : cs.length = k * sz)
 (hsrc : ∀ j v, cs[j]? = some v → w.cell? (a.add j) = some v) (hfit : o + cs.length ≤ cur.size) (h1 : ∀ v ∈ cs, v.oneCell' = true) :
 (Builtin.copy_ #[dT, sT] ty #[.slice (some ⟨g, o, none⟩) dLen dCap, .slice (some a) sLen sCap]).run P w =
  .ok (goInt k) (w.setRow g (cur.toList.take o ++ cs ++ cur.toList.drop (o + cs.length)).toArray) := by
 have hl := run_loadCells_list (P := P) w a cs hsrc
 have hst := run_storeCells_at P g o t cs 0 cur w hg (by simpa using hfit) h1
 cases hq : P.info? elem with
 | none => simp [hq] at hs
 | some i =>
   have hi : i.size = sz := by simpa [hq] using hs
   have hm : Nat.min sLen dLen * sz = cs.length := by rw [hn, hk]
   simp [Builtin.copy_, run_underlying hu, Builtin.lenOf, Builtin.firstCells, sizeOf, typeInfo, hq, hi, ← hk, ← hn, hl, hst]
theorem wp_copyS {w : World} {o : Oper} {a : Act} {K : Act → World → Prop} {Q : Exit → Act → World → Prop} (d s : Operand) (dT sT : TypeId)
 (ho : o.op = .call { callee := .builtin .copy, args := #[d, s], argTypes := #[dT, sT] }) (elem : TypeId) (sz : Nat) (hu : P.underlying dT = some (.slice elem)) (hsz : (P.info? elem).map (·.size) = some sz)
 (g off dLen dCap : Nat) (ad : Addr) (sLen sCap k : Nat) (hd : a.eval d = .slice (some ⟨g, off, none⟩) dLen dCap) (hs : a.eval s = .slice (some ad) sLen sCap)
 (cur : Array Value) (t : TypeId) (hg : w.heap[g]? = some (.cells cur t (0, 0))) (cs : List Value) (hk : k = Nat.min sLen dLen) (hn : cs.length = k * sz)
 (hsrc : ∀ j v, cs[j]? = some v → w.cell? (ad.add j) = some v) (hfit : off + cs.length ≤ cur.size) (h1 : ∀ v ∈ cs, v.oneCell' = true)
 (h : ∀ w', w' = w.setRow g (cur.toList.take off ++ cs ++ cur.toList.drop (off + cs.length)).toArray → K (a.put o.dst (goInt k)) w') : o.wp P a w K Q := by
 have hrun := run_copyS (P := P) w dT sT o.type elem sz g off dLen dCap ad sLen sCap k cur t cs hu hsz hg hk hn hsrc hfit h1
 unfold Oper.wp
 simp [execOp, ho, resolve, invoke, builtin, hd, hs, hrun, Result.andThen]
 exact h _ (by simp)
theorem wpList_copyS {w : World} {ops : Array Oper} {rest : List Oper} {o : Oper} {a : Act} {Q : Exit → Act → World → Prop} (hgd : o.guard = none) (d s : Operand) (dT sT : TypeId)
 (ho : o.op = .call { callee := .builtin .copy, args := #[d, s], argTypes := #[dT, sT] }) (elem : TypeId) (sz : Nat) (hu : P.underlying dT = some (.slice elem)) (hsz : (P.info? elem).map (·.size) = some sz)
 (g off dLen dCap : Nat) (ad : Addr) (sLen sCap k : Nat) (hd : a.eval d = .slice (some ⟨g, off, none⟩) dLen dCap) (hs : a.eval s = .slice (some ad) sLen sCap)
 (cur : Array Value) (t : TypeId) (hg : w.heap[g]? = some (.cells cur t (0, 0))) (cs : List Value) (hk : k = Nat.min sLen dLen) (hn : cs.length = k * sz)
 (hsrc : ∀ j v, cs[j]? = some v → w.cell? (ad.add j) = some v) (hfit : off + cs.length ≤ cur.size) (h1 : ∀ v ∈ cs, v.oneCell' = true)
 (h : ∀ w', w' = w.setRow g (cur.toList.take off ++ cs ++ cur.toList.drop (off + cs.length)).toArray → wpList P ops Q rest (a.put o.dst (goInt k)) w') : wpList P ops Q (o :: rest) a w :=
 wpList_plain hgd fun _ hK => wp_copyS d s dT sT ho elem sz hu hsz g off dLen dCap ad sLen sCap k hd hs cur t hg cs hk hn hsrc hfit h1 fun w' e => hK _ _ (h w' e)
theorem step_copyS {w : World} {ops : Array Oper} {o : Oper} {a : Act} {K : Act → World → Prop} {Q : Exit → Act → World → Prop} {E : Prop} (hgd : o.guard = none) (d s : Operand) (dT sT : TypeId)
 (ho : o.op = .call { callee := .builtin .copy, args := #[d, s], argTypes := #[dT, sT] }) (elem : TypeId) (sz : Nat) (hu : P.underlying dT = some (.slice elem)) (hsz : (P.info? elem).map (·.size) = some sz)
 (g off dLen dCap : Nat) (ad : Addr) (sLen sCap k : Nat) (hd : a.eval d = .slice (some ⟨g, off, none⟩) dLen dCap) (hs : a.eval s = .slice (some ad) sLen sCap)
 (cur : Array Value) (t : TypeId) (hg : w.heap[g]? = some (.cells cur t (0, 0))) (cs : List Value) (hk : k = Nat.min sLen dLen) (hn : cs.length = k * sz)
 (hsrc : ∀ j v, cs[j]? = some v → w.cell? (ad.add j) = some v) (hfit : off + cs.length ≤ cur.size) (h1 : ∀ v ∈ cs, v.oneCell' = true)
 (h : ∀ w', w' = w.setRow g (cur.toList.take off ++ cs ++ cur.toList.drop (off + cs.length)).toArray → K (a.put o.dst (goInt k)) w') : if Region.wanted o (yielded ops a.tmps) = true then Oper.wp P o a w K Q else E := by
 have hw : Region.wanted o (yielded ops a.tmps) = true := by simp [Region.wanted, hgd]
 rw [if_pos hw]
 exact wp_copyS d s dT sT ho elem sz hu hsz g off dLen dCap ad sLen sCap k hd hs cur t hg cs hk hn hsrc hfit h1 h
theorem wpList_zerosG {w : World} {ops : Array Oper} {rest : List Oper} {o : Oper} {a : Act} {Q : Exit → Act → World → Prop} (hgd : o.guard = none) (s x : Operand) (t tn : TypeId)
 (ho : o.op = .call { callee := .builtin .append, args := #[s, x], argTypes := #[t, tn] }) (e : TypeId) (i : TypeInfo) (z : Value) (kq kn : IntKind) (ht : P.underlying t = some (.slice e)) (htn : P.underlying tn = some (.int kn)) (hi : P.info? e = some i) (hz : i.zero = some z)
 (base : Option Addr) (sLen sCap : Nat) (hs : a.eval s = .slice base sLen sCap) (olds : List Value) (hold : (Builtin.firstCells i.size sLen (.slice base sLen sCap)).run P w.drew = .ok olds.toArray w.drew)
 (k : Nat) (hx : a.eval x = .int kq (k : Int)) (h0 : 0 < k) (hsz : 0 < i.size) (hg : sCap < sLen + k) (h63 : ((sLen + k : Nat) : Int) ≤ 9223372036854775807) (h48 : k * i.bytes ≤ 281474976710656) (hfit : Builtin.nextslicecap (sLen + k) sCap * i.bytes ≤ 281474976710656)
 (h : wpList P ops Q rest (a.put o.dst (.slice (some ⟨w.heap.size, 0, none⟩) (sLen + k) (grownCap w (sLen + k) sCap e))) (w.drew.alloc (.cells (olds.toArray ++ Builtin.zeroCells z.cells k ++ Builtin.zeroCells z.cells (grownCap w (sLen + k) sCap e - (sLen + k))) e))) : wpList P ops Q (o :: rest) a w := by
 refine wpList_plain hgd fun K hK => ?_
 have hrun := Lib.run_append_grow_zeros (P := P) w t tn o.type e i z kq kn ht htn hi hz base sLen sCap olds hold k h0 hsz hg h63 h48 hfit
 unfold Oper.wp execOp
 simp only [ho, resolve, invoke, builtin, Sem.run_bind, Sem.run_pure, Result.andThen_ok, List.map_toArray, List.map_cons, List.map_nil, hs, hx, hrun]
 exact hK _ _ h
theorem wpList_zerosM {w : World} {ops : Array Oper} {rest : List Oper} {o : Oper} {a : Act} {Q : Exit → Act → World → Prop} (hgd : o.guard = none) (s x : Operand) (t tn : TypeId)
 (ho : o.op = .call { callee := .builtin .append, args := #[s, x], argTypes := #[t, tn] }) (e : TypeId) (i : TypeInfo) (z : Value) (kq kn : IntKind) (ht : P.underlying t = some (.slice e)) (htn : P.underlying tn = some (.int kn)) (hi : P.info? e = some i) (hz : i.zero = some z)
 (hzs : z.cells.size = i.size) (hszp : 0 < i.size) (b sLen sCap : Nat) (hs : a.eval s = .slice (some ⟨b, 0, none⟩) sLen sCap) (olds : List Value) (hol : olds.length = sLen * i.size) (hsrc : ∀ j v, olds[j]? = some v → w.cell? ((⟨b, 0, none⟩ : Addr).add j) = some v)
 (k m : Nat) (hx : a.eval x = .int kq (k : Int)) (h0 : 0 < k) (hm : sLen + k = m) (hg : sCap < m) (h63 : m ≤ 1000000) (hby : i.bytes ≤ 1000)
 (h : ∀ (G : Nat) (row : Array Value), m ≤ G → G ≤ maxLen → row.size = G * i.size → row.toList.take (sLen * i.size) = olds → wpList P ops Q rest (a.put o.dst (.slice (some ⟨w.heap.size, 0, none⟩) m G)) (w.drew.alloc (.cells row e))) : wpList P ops Q (o :: rest) a w := by
 subst hm
 have hb : (sLen + k) * i.bytes ≤ 1000000 * 1000 := Nat.mul_le_mul h63 hby
 have hk : k * i.bytes ≤ 1000000 * 1000 := Nat.mul_le_mul (by omega) hby
 have hG := grownCap_ge w (sLen + k) sCap e
 have hGm := grownCap_le_maxLen w (sLen + k) sCap e (by unfold maxLen; omega)
 have hzc : ∀ n, (Builtin.zeroCells z.cells n).size = n * i.size := fun n => by simp [Builtin.zeroCells, hzs]
 refine wpList_zerosG hgd s x t tn ho e i z kq kn ht htn hi hz (some ⟨b, 0, none⟩) sLen sCap hs olds (run_firstCells_some (P := P) w.drew i.size sLen ⟨b, 0, none⟩ sLen sCap olds hol hsrc) k hx h0 hszp hg (by omega) (by omega) (growslice_fits hg (by omega)) ?_
 refine h _ _ hG hGm ?_ ?_
 · simp only [Array.size_append, hzc, List.size_toArray, hol]
   rw [← Nat.add_mul, ← Nat.add_mul]
   congr 1; omega
 · rw [← hol]
   simp
end
end
end Go.Proofs.YtebobcbaloddaaaGreat
namespace Go.Proofs.YtebobcbaloddaaaGreat
section
set_option linter.unusedSimpArgs false
set_option linter.unusedVariables false
open Go.RowKit Go.Maps
def RetIn (w : World) (base : Nat) (e : TypeId) (sz : Nat) (A : Option Addr) (n c : Nat) (ys : List Value) (e' : Ending) (w' : World) : Prop :=
 ∃ A' c', e' = .returned (.slice A' (n + 1) c') ∧ w'.ownsRow base e sz (.slice A' (n + 1) c') (n + 1) ys ∧ EvT (fun b => A.map Addr.block = some b) w w' ∧ ∀ b, A'.map Addr.block = some b → A.map Addr.block = some b ∨ w.heap.size ≤ b
theorem ownB (A : Option Addr) (n c : Nat) : (Value.slice A n c).ownBlock = A.map Addr.block := by cases A <;> rfl
set_option maxRecDepth 100000 in
set_option maxHeartbeats 8000000 in
theorem insE_end {w : World} {base n c g : Nat} {A : Option Addr} {xs news : List Value} (ho : w.ownsRow base 37 3 (.slice A n c) n xs) (hn : n ≤ 100000) (hbase : base ≤ w.heap.size) (hx : Blk w g 37 news.toArray) (hl : news.length = 3) (h1 : ∀ u ∈ xs ++ news, u.oneCell' = true) :
 Calls Tryz.prog 31 #[.slice A n c, .int .i64 (n : Int), .slice (some ⟨g, 0, none⟩) 1 1] w (RetIn w base 37 3 A n c (xs ++ news)) := by
 obtain ⟨i0, hi0, hz0, hs0, hy0⟩ := int_info8 Tryz.infoE
 obtain ⟨A', c', e', hnc⟩ := own_form ho
 injection e' with e1 _ e3
 subst e1; subst e3
 have hcm := own_cap ho
 have hrx : Reads w w.heap.size 3 (some ⟨g, 0, none⟩) 1 news := ⟨by rw [hl], fun _ => ⟨⟨g, 0, none⟩, rfl, hx.lt, fun j v hj => by
  have := hx.cell j
  rw [add_head, this]
  simpa using hj⟩⟩
 have HO := Lib.hid (And.intro ho (And.intro hrx h1))
 have n0 : (0 : Int) ≤ (n : Int) := by omega
 have hncI : (n : Int) ≤ (c : Int) := by omega
 have hcI : (c : Int) ≤ 9223372036854775807 := by unfold maxLen at hcm; omega
 have hw : IntKind.i64.wrap (n : Int) = (n : Int) := IntWalk.i64_in _ (by omega)
 clear ho hx hrx h1
 go_enter Tryz.func31, Tryz.ntmps31
 go_wp2_with (at_builtin; go_loud (refine wpList_append_any _ rfl (.tmp 23) (.tmp 24) 22 rfl base 37 i0 _ 3 24 Tryz.underlying22 hi0 hz0 hs0 hy0 rfl (by decide) _ n xs rfl HO.out.1 _ (some ⟨g, 0, none⟩) 1 1 news rfl HO.out.2.1 (fun u hu => HO.out.2.2 u (List.mem_append_right _ hu)) (by unfold maxLen; omega) (by omega) hbase ?_); intro v6 w6 ho6 hg6 hv6; obtain ⟨A6, c6, rfl, hc6⟩ := own_form ho6; have hg7 : w.grownBy w6 (Value.slice A n c).ownBlock := hg6; have hv7 : (Value.slice A6 (n + 1) c6).ownBlock = (Value.slice A n c).ownBlock ∨ (Value.slice A6 (n + 1) c6).ownBlock = some w.heap.size := hv6; rw [ownB] at hg7; rw [ownB, ownB] at hv7; have H6 := Lib.hid (And.intro ho6 (And.intro hg7 hv7)); clear ho6 hg6 hv6 hg7 hv7)
 all_goals (
  go_ret
  refine ⟨A6, c6, rfl, H6.out.1, EvT.of_grown H6.out.2.1 (fun b e => .inl e), fun b e => ?_⟩
  rcases H6.out.2.2 with h | h
  · exact .inl (h.symm.trans e)
  · have h2 := h.symm.trans e
    injection h2 with h2
    exact .inr (by omega))
end
end Go.Proofs.YtebobcbaloddaaaGreat
namespace Go.Proofs.YtebobcbaloddaaaGreat
section
set_option linter.unusedSimpArgs false
set_option linter.unusedVariables false
open Go.RowKit Go.Maps
set_option maxRecDepth 100000 in
set_option maxHeartbeats 8000000 in
theorem insN_end {w : World} {base n c g : Nat} {A : Option Addr} {xs news : List Value} (ho : w.ownsRow base 30 1 (.slice A n c) n xs) (hn : n ≤ 100000) (hbase : base ≤ w.heap.size) (hx : Blk w g 30 news.toArray) (hl : news.length = 1) (h1 : ∀ u ∈ xs ++ news, u.oneCell' = true) :
 Calls Tryz.prog 69 #[.slice A n c, .int .i64 (n : Int), .slice (some ⟨g, 0, none⟩) 1 1] w (RetIn w base 30 1 A n c (xs ++ news)) := by
 obtain ⟨i0, hi0, hz0, hs0, hy0⟩ := int_info8 Tryz.infoN
 obtain ⟨A', c', e', hnc⟩ := own_form ho
 injection e' with e1 _ e3
 subst e1; subst e3
 have hcm := own_cap ho
 have hrx : Reads w w.heap.size 1 (some ⟨g, 0, none⟩) 1 news := ⟨by rw [hl], fun _ => ⟨⟨g, 0, none⟩, rfl, hx.lt, fun j v hj => by
  have := hx.cell j
  rw [add_head, this]
  simpa using hj⟩⟩
 have HO := Lib.hid (And.intro ho (And.intro hrx h1))
 have n0 : (0 : Int) ≤ (n : Int) := by omega
 have hncI : (n : Int) ≤ (c : Int) := by omega
 have hcI : (c : Int) ≤ 9223372036854775807 := by unfold maxLen at hcm; omega
 have hw : IntKind.i64.wrap (n : Int) = (n : Int) := IntWalk.i64_in _ (by omega)
 clear ho hx hrx h1
 go_enter Tryz.func69, Tryz.ntmps69
 go_wp2_with (at_builtin; go_loud (refine wpList_append_any _ rfl (.tmp 23) (.tmp 24) 73 rfl base 30 i0 _ 1 4 Tryz.underlying73 hi0 hz0 hs0 hy0 rfl (by decide) _ n xs rfl HO.out.1 _ (some ⟨g, 0, none⟩) 1 1 news rfl HO.out.2.1 (fun u hu => HO.out.2.2 u (List.mem_append_right _ hu)) (by unfold maxLen; omega) (by omega) hbase ?_); intro v6 w6 ho6 hg6 hv6; obtain ⟨A6, c6, rfl, hc6⟩ := own_form ho6; have hg7 : w.grownBy w6 (Value.slice A n c).ownBlock := hg6; have hv7 : (Value.slice A6 (n + 1) c6).ownBlock = (Value.slice A n c).ownBlock ∨ (Value.slice A6 (n + 1) c6).ownBlock = some w.heap.size := hv6; rw [ownB] at hg7; rw [ownB, ownB] at hv7; have H6 := Lib.hid (And.intro ho6 (And.intro hg7 hv7)); clear ho6 hg6 hv6 hg7 hv7)
 all_goals (
  go_ret
  refine ⟨A6, c6, rfl, H6.out.1, EvT.of_grown H6.out.2.1 (fun b e => .inl e), fun b e => ?_⟩
  rcases H6.out.2.2 with h | h
  · exact .inl (h.symm.trans e)
  · have h2 := h.symm.trans e
    injection h2 with h2
    exact .inr (by omega))
end
end Go.Proofs.YtebobcbaloddaaaGreat
