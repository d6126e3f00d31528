/-
  Several texts in one: Hq Hc.
-/
import Derived.Test.YtdimkeoncgjegaaMrag
import Derived.Test.YtdimkeoncgjegaaMrax
import Derived.OwnWalk
import Derived.BigRegion
import Derived.Deep.RegionLaw
/-
  Append of one element of several cells to a row of the call's own.
-/
namespace Go.Proofs.Ytdimkeoncgjegaa
section
set_option linter.unusedSimpArgs false
set_option linter.unusedVariables false
open Go.RowKit

theorem wp_pushR {P : Program} {w : World} {o : Oper} {a : Act} {K : Act → World → Prop} {Q : Exit → Act → World → Prop} {news : List Value} {arr : Array Value} (s x : Operand) (t : TypeId)
    (ho : o.op = .call { callee := .builtin .append, args := #[s, x], argTypes := #[t, t] })
    (base : Nat) (e : TypeId) (i : TypeInfo) (z : Value) (size bytes : Nat) (ht : P.underlying t = some (.slice e)) (hi : P.info? e = some i) (hz : i.zero = some z)
    (hsize : i.size = size) (hby : i.bytes = bytes) (hzs : z.cells.size = size) (hsz : 0 < size)
    (v : Value) (n : Nat) (xs : List Value) (hs : a.eval s = v) (hown : w.ownsRow base e size v n xs)
    (harr : arr = news.toArray) (g : Nat) (hx : a.eval x = .slice (some ⟨g, 0, none⟩) 1 1) (hg : g = w.heap.size) (hl : news.length = size) (h1 : ∀ u ∈ news, u.oneCell' = true)
    (h63 : n + 1 ≤ 1000000000) (hbytes : bytes ≤ 10000) (hbase : base ≤ w.heap.size)
    (h : ∀ v' w', w'.ownsRow base e size v' (n + 1) (xs ++ news) → (w.alloc (.cells arr e)).grownBy w' v.ownBlock → (v'.ownBlock = v.ownBlock ∨ v'.ownBlock = some (w.heap.size + 1)) → K (a.put o.dst v') w') : o.wp P a (w.alloc (.cells arr e)) K Q := by
  subst hg
  subst harr
  have hb : (n + 1) * bytes ≤ 1000000000 * 10000 := Nat.mul_le_mul h63 hbytes
  have hnews : ∀ j u, news[j]? = some u → (w.alloc (.cells news.toArray e)).cell? ((⟨w.heap.size, 0, none⟩ : Addr).add j) = some u := by
    intro j u hj
    rw [add_head, World.cell?_alloc_at _ _ _ _ rfl]
    simpa using hj
  obtain ⟨v', w', hr, h2, h3, h4, h5⟩ := run_append_own_at (P := P) (w.alloc (.cells news.toArray e)) base t o.type e i z size bytes ht hi hz hsize hby hzs hsz v n xs (hown.alloc _) ⟨w.heap.size, 0, none⟩ 1 1 news (by rw [hl]; omega) hnews h1 (by unfold maxLen; omega) (by omega) (by simp; omega)
  unfold Oper.wp execOp
  simp only [ho, resolve, invoke, builtin, Sem.run_bind, Sem.run_pure, Result.andThen_ok, List.map_toArray, List.map_cons, List.map_nil, hs, hx, hr]
  exact h _ _ h2 h3 (by simpa using h5)

/-- The same, where the region draws. -/
theorem step_pushR {P : Program} {w : World} {ops : Array Oper} {o : Oper} {a : Act} {K : Act → World → Prop} {Q : Exit → Act → World → Prop} {E : Prop} {news : List Value} {arr : Array Value} (hgd : o.guard = none) (s x : Operand) (t : TypeId)
    (ho : o.op = .call { callee := .builtin .append, args := #[s, x], argTypes := #[t, t] })
    (base : Nat) (e : TypeId) (i : TypeInfo) (z : Value) (size bytes : Nat) (ht : P.underlying t = some (.slice e)) (hi : P.info? e = some i) (hz : i.zero = some z)
    (hsize : i.size = size) (hby : i.bytes = bytes) (hzs : z.cells.size = size) (hsz : 0 < size)
    (v : Value) (n : Nat) (xs : List Value) (hs : a.eval s = v) (hown : w.ownsRow base e size v n xs)
    (harr : arr = news.toArray) (g : Nat) (hx : a.eval x = .slice (some ⟨g, 0, none⟩) 1 1) (hg : g = w.heap.size) (hl : news.length = size) (h1 : ∀ u ∈ news, u.oneCell' = true)
    (h63 : n + 1 ≤ 1000000000) (hbytes : bytes ≤ 10000) (hbase : base ≤ w.heap.size)
    (h : ∀ v' w', w'.ownsRow base e size v' (n + 1) (xs ++ news) → (w.alloc (.cells arr e)).grownBy w' v.ownBlock → (v'.ownBlock = v.ownBlock ∨ v'.ownBlock = some (w.heap.size + 1)) → K (a.put o.dst v') w') : if Region.wanted o (yielded ops a.tmps) = true then Oper.wp P o a (w.alloc (.cells arr e)) K Q else E := by
  have hw : Region.wanted o (yielded ops a.tmps) = true := by simp [Region.wanted, hgd]
  rw [if_pos hw]
  exact wp_pushR s x t ho base e i z size bytes ht hi hz hsize hby hzs hsz v n xs hs hown harr g hx hg hl h1 h63 hbytes hbase h

theorem wpList_pushR {P : Program} {w : World} {ops : Array Oper} {rest : List Oper} {o : Oper} {a : Act} {Q : Exit → Act → World → Prop} {news : List Value} {arr : Array Value} (hgd : o.guard = none) (s x : Operand) (t : TypeId)
    (ho : o.op = .call { callee := .builtin .append, args := #[s, x], argTypes := #[t, t] })
    (base : Nat) (e : TypeId) (i : TypeInfo) (z : Value) (size bytes : Nat) (ht : P.underlying t = some (.slice e)) (hi : P.info? e = some i) (hz : i.zero = some z)
    (hsize : i.size = size) (hby : i.bytes = bytes) (hzs : z.cells.size = size) (hsz : 0 < size)
    (v : Value) (n : Nat) (xs : List Value) (hs : a.eval s = v) (hown : w.ownsRow base e size v n xs)
    (harr : arr = news.toArray) (g : Nat) (hx : a.eval x = .slice (some ⟨g, 0, none⟩) 1 1) (hg : g = w.heap.size) (hl : news.length = size) (h1 : ∀ u ∈ news, u.oneCell' = true)
    (h63 : n + 1 ≤ 1000000000) (hbytes : bytes ≤ 10000) (hbase : base ≤ w.heap.size)
    (h : ∀ v' w', w'.ownsRow base e size v' (n + 1) (xs ++ news) → (w.alloc (.cells arr e)).grownBy w' v.ownBlock → (v'.ownBlock = v.ownBlock ∨ v'.ownBlock = some (w.heap.size + 1)) → wpList P ops Q rest (a.put o.dst v') w') : wpList P ops Q (o :: rest) a (w.alloc (.cells arr e)) :=
  wpList_plain hgd fun _ hK => wp_pushR s x t ho base e i z size bytes ht hi hz hsize hby hzs hsz v n xs hs hown harr g hx hg hl h1 h63 hbytes hbase fun v' w' h2 h3 h4 => hK _ _ (h v' w' h2 h3 h4)
end
end Go.Proofs.Ytdimkeoncgjegaa
/-
  Heap: the reference's Scan.
-/
namespace Go.Proofs.Ytdimkeoncgjegaa
section
set_option linter.unusedSimpArgs false
set_option linter.unusedVariables false
open Go.RowKit

/-- What the reference's Scan answers. -/
def RetRS (w : World) (R : List It × Nat × Int) (e : Ending) (w' : World) : Prop :=
  ∃ A c, e = .returned (.tuple #[.slice A R.1.length c, .int .i64 R.2.1, .int .i64 R.2.2]) ∧ Reads w' w'.heap.size 3 A R.1.length (iV R.1) ∧ Below w.heap.size w w'
theorem reads_empty (w : World) (t : TypeId) (size : Nat) {g : Nat} (hg : g = w.heap.size) : Reads (w.alloc (.cells #[] t)) (w.alloc (.cells #[] t)).heap.size size (some ⟨g, 0, none⟩) 0 [] := ⟨by simp, fun h => absurd h (by omega)⟩
theorem own_belowR2 {w w' : World} {base : Nat} {e : TypeId} {size n : Nat} {v : Value} {xs : List Value} (h : w.ownsRow base e size v n xs) (hb : Below w.heap.size w w') : w'.ownsRow base e size v n xs := own_kept_below h hb
/-- What another kind's block holds stays where a row of the call's own grows. -/
theorem blk_own_ne {w w' : World} {base : Nat} {e : TypeId} {size n : Nat} {v : Value} {xs : List Value} {g : Nat} {t : TypeId} {cs : Array Value} (h : w.ownsRow base e size v n xs) (hb : Blk w g t cs) (hg : w.grownBy w' v.ownBlock) (hne : e ≠ t) : Blk w' g t cs :=
  hb.grown hg fun e' => own_blk_ne h hb hne e'.symm
theorem reads_apart {w w' : World} {B size n : Nat} {A : Option Addr} {xs : List Value} {row : Option Nat} (h : Reads w B size A n xs) (hg : w.grownBy w' row) (hne : ∀ ad, A = some ad → row ≠ some ad.block) : Reads w' B size A n xs := by
  refine ⟨h.1, fun hn => ?_⟩
  obtain ⟨ad, e1, hb, hc⟩ := h.2 hn
  refine ⟨ad, e1, hb, fun j u hj => ?_⟩
  have hcu := hc j u hj
  have hk := hg.block (ad.add j).block (cell_block hcu) (by rw [block_of_add]; exact fun e => hne ad e1 e.symm)
  unfold World.cell? at hcu ⊢
  rw [hk]
  exact hcu
theorem itK_all (p : Nat) (rs : List (List UInt8)) (k : Nat) : ∀ x ∈ itK p rs k, x.p = p := by
  intro x hx
  unfold itK at hx
  obtain ⟨i, _, rfl⟩ := List.mem_map.1 hx
  rfl
set_option maxRecDepth 100000 in
set_option maxHeartbeats 8000000 in
theorem rscan_any {w : World} {n : Nat} (A : Option Addr) (c : Nat) (A2 : Option Addr) (c2 : Nat) (ps : List (List UInt8)) (hr : Reads w w.heap.size 1 A n (sL ps)) (hps : ps.length = n) (hf : Full ps) (hn : n ≤ 1000) (p0 : Nat) (hp0 : p0 ≤ 4294967295) :
    Calls Try.prog 20 #[.agg #[.slice A n c, .slice A2 n c2], .int .u32 p0] w (RetRS w (outH ps n p0 [] 0)) := by
  obtain ⟨i0, hi0, hz0, hs0, hy0⟩ := int_info8 Try.infoRI
  obtain ⟨R, hR⟩ : ∃ R, outH ps n p0 [] 0 = R := ⟨_, rfl⟩
  have HP := Lib.hid (And.intro hr (And.intro hps hf))
  have hb0 := ball (ball (Below.refl w.heap.size w) (.cells #[.slice A n c, .slice A2 n c2] 32)) (.cells #[] 73)
  have hX0 := (Blk.new w 32 #[.slice A n c, .slice A2 n c2]).alloc (.cells #[] 73)
  have hE0 := own_empty (w.alloc (.cells #[.slice A n c, .slice A2 n c2] 32)) 73 3 (g := w.heap.size + 1) (by simp)
  have H0 := Lib.hid (And.intro hb0 (And.intro hX0 hE0))
  have hnI : (n : Int) ≤ 1000 := by omega
  have HR := Lib.hid hR
  rw [hR]
  clear hb0 hX0 hE0 hr hps hf hR
  go_enter Try.func20, Try.ntmps20
  go_wp2
  go_loopw [7, 8, 9] (fun u7 u8 u9 wr => ∃ (f p k : Nat) (acc : List It), u8 = .int .u32 p ∧ u9 = .int .i64 ((k : Int) + 1) ∧ f + k = n ∧ p ≤ 4294967295 ∧ acc.length ≤ k * 126 ∧ wr.ownsRow (w.heap.size + 1) 73 3 u7 acc.length (iV acc) ∧ Blk wr w.heap.size 32 #[.slice A n c, .slice A2 n c2] ∧ Below w.heap.size w wr ∧ outH ps f p acc k = R) (fun _ _ u9 _ => n + 1 - (intOf u9).toNat)
  case atStart =>
    exact ⟨n, p0, 0, [], rfl, rfl, by omega, hp0, by simp, by simpa [iV] using H0.out.2.2, H0.out.2.1, H0.out.1, HR.out⟩
  case round =>
    obtain ⟨wo, rfl⟩ : ∃ wo : World, wo = wr := ⟨_, rfl⟩
    obtain ⟨f, p, k, acc, rfl, rfl, hfk, hp, hal, hown, hX, hb, hout⟩ := hrel
    have x0 : wo.cell? ⟨w.heap.size, 0, none⟩ = some (.slice A n c) := hX.cell 0
    have x1 : wo.cell? ⟨w.heap.size, 1, none⟩ = some (.slice A2 n c2) := hX.cell 1
    have k0 : (0 : Int) ≤ (k : Int) + 1 := by omega
    by_cases hf0 : f = 0
    · subst hf0
      have hRe : R = ([], 0, 2) := by rw [← hout]; rfl
      have e1 : decide ((k : Int) + 1 ≤ (n : Int)) = false := by simp; omega
      have HB := Lib.hid hb
      clear hout hX hown hb
      go_wp2
      go_ret3
      rw [hRe]
      exact ⟨_, _, rfl, reads_empty _ _ _ rfl, ball HB.out _⟩
    · obtain ⟨f, rfl⟩ : ∃ g, f = g + 1 := ⟨f - 1, by omega⟩
      have e1 : decide ((k : Int) + 1 ≤ (n : Int)) = true := by simp; omega
      have PG := Lib.hid (rpage_any A c A2 c2 ps ((HP.out.1.below hb).more hb.size) HP.out.2.1 HP.out.2.2 (by omega) p hp)
      have HO := Lib.hid hout
      have H1 := Lib.hid (And.intro hown (And.intro hX hb))
      clear hout hX hown hb
      go_wp2_with fail
      refine PG.out.mono ?_
      rintro e w1 (⟨E, hE, rfl, hb1⟩ | ⟨q, A3, c3, hq, hpg, rfl, hr3, hc3, hlo3, hb1⟩)
      · have hRe : R = ([], 0, E) := by
          rw [← HO.out]
          rcases hE with ⟨h1, rfl⟩ | ⟨q, h1, h2, rfl⟩
          · exact outH_none h1
          · exact outH_no h1 h2
        have e2 : (E != 0) = true := by rcases hE with ⟨h1, rfl⟩ | ⟨q, h1, h2, rfl⟩ <;> rfl
        have HB := Lib.hid (bto0 H1.out.2.2 hb1)
        clear hE hb1
        go_wp2
        go_ret3
        rw [hRe]
        exact ⟨_, _, rfl, reads_empty _ _ _ (by simp), ball (ball HB.out _) _⟩
      · have hC6 := (page_end hpg).2.1
        have RL : Hid (∀ k, k < hdC q → (recs q)[k]? = some (recK q k)) := fun k h => recs_at q h
        have hN2 := hdN_lt q (page_hd hpg).1
        have HO2 : Hid (outH ps (f + 1) p acc k = if hdN q = 0 then (acc ++ itK p (recs q) (hdC q), k + 1, 0) else outH ps f (hdN q) (acc ++ itK p (recs q) (hdC q)) (k + 1)) := by
          unfold Hid
          split
          · rename_i h; exact outH_end hq hpg h
          · rename_i h; exact outH_next hq hpg h
        obtain ⟨C, hC⟩ : ∃ C, hdC q = C := ⟨_, rfl⟩
        obtain ⟨N, hN⟩ : ∃ N, hdN q = N := ⟨_, rfl⟩
        obtain ⟨rs, hrs⟩ : ∃ rs, recs q = rs := ⟨_, rfl⟩
        rw [hC, hrs] at hr3
        rw [hC] at hc3 RL hC6
        rw [hrs] at RL
        rw [hN] at hN2
        rw [hC, hN, hrs] at HO2
        rw [hC, hN]
        have hown1 := own_belowR2 H1.out.1 hb1
        have hX1 := H1.out.2.1.below hb1 H1.out.2.1.lt
        have hPg := Blk.new w1 41 #[.int .u32 (N : Int), .slice A3 C c3]
        have H3 := Lib.hid (And.intro (bto0 H1.out.2.2 hb1) (And.intro hX1 (And.intro hown1 (And.intro hr3 hPg))))
        have hz1 := H1.out.2.1.lt
        have hz2 := hb1.size
        clear hb1 hr3 hown1 hX1 hPg hC hN hrs hq hpg
        go_wp2
        go_loopw [7, 35] (fun u7 u35 wr => ∃ i : Nat, i ≤ C ∧ u35 = .int .i64 i ∧ wr.ownsRow (w.heap.size + 1) 73 3 u7 (acc.length + i) (iV (acc ++ itK p rs i)) ∧ Blk wr w.heap.size 32 #[.slice A n c, .slice A2 n c2] ∧ Below w.heap.size w wr ∧ Reads wr w1.heap.size 1 A3 C (sL rs) ∧ Blk wr w1.heap.size 41 #[.int .u32 (N : Int), .slice A3 C c3] ∧ (∀ g, u7.ownBlock = some g → g < wo.heap.size ∨ w1.heap.size ≤ g) ∧ w1.heap.size ≤ wr.heap.size) (fun _ u35 _ => C - (intOf u35).toNat)
        case atStart => exact ⟨0, by omega, rfl, by simpa [itK] using World.ownsRow.alloc H3.out.2.2.1 _, H3.out.2.1.alloc _, ball H3.out.1 _, H3.out.2.2.2.1.alloc (Nat.le_refl _) _, H3.out.2.2.2.2, fun g e => .inl (World.ownsRow.lt H1.out.1 g e).2, by simp⟩
        case round =>
          obtain ⟨wi, rfl⟩ : ∃ wi : World, wi = wr := ⟨_, rfl⟩
          obtain ⟨i, hiC, rfl, hown, hX, hb, hrd, hPg, hob, hzw⟩ := hrel
          have i00 : (0 : Int) ≤ (i : Int) := by omega
          have y0 : wi.cell? ⟨w1.heap.size, 0, none⟩ = some (.int .u32 (N : Int)) := hPg.cell 0
          have y1 : wi.cell? ⟨w1.heap.size, 1, none⟩ = some (.slice A3 C c3) := hPg.cell 1
          by_cases hlt : i < C
          · have i1 : (i : Int) < (C : Int) := by omega
            have i2 : (i : Int) ≤ 65535 := by omega
            have hzi := hPg.lt
            obtain ⟨ad, r, rfl, hadb, hr2, hcell⟩ := hrd.text hlt
            have hrr : rs.getD i [] = r := by rw [List.getD_eq_getElem?_getD, hr2]; rfl
            have HL := Lib.hid (And.intro hown (And.intro hX (And.intro hb (And.intro hrd (And.intro hPg hrr)))))
            clear hown hX hb hrd hPg hrr
            go_wp2_with (at_builtin; refine wpList_pushR (news := [.int .u32 (p : Int), .int .u16 (i : Int), .string (str r)]) rfl (.tmp 38) (.tmp 49) 69 rfl (w.heap.size + 1) 73 i0 _ 3 24 Try.underlying69 hi0 hz0 hs0 hy0 rfl (by decide) u7 (acc.length + i) _ (by first | rfl | (simp [Act.eval, Act.put]; done)) HL.out.1 rfl _ (by first | rfl | (simp [Act.eval, Act.put]; done)) (by first | rfl | simp) rfl (by intro u hu; simp only [List.mem_cons, List.not_mem_nil, or_false] at hu; rcases hu with rfl | rfl | rfl <;> rfl) (by omega) (by omega) (by omega) ?_; intro v8 w8 own8 kp8 ob8)
            have oa := World.ownsRow.alloc HL.out.1 (.cells #[.int .u32 (p : Int), .int .u16 (i : Int), .string (str r)] 73)
            have ra := HL.out.2.2.2.1.alloc (o := .cells #[.int .u32 (p : Int), .int .u16 (i : Int), .string (str r)] 73) (by omega)
            refine ⟨⟨i + 1, by omega, rfl, ?_, blk_far_grown oa (HL.out.2.1.alloc _) kp8 (by omega), bgrow (ball HL.out.2.2.1 _) kp8 oa (by omega) (by simp; omega), ?_, ?_⟩, by simp [intOf]; omega⟩
            · rw [itK_succ, ← List.append_assoc, iV_snoc, HL.out.2.2.2.2.2]; exact own8
            · exact reads_apart ra kp8 (fun ad' e e2 => by injection e with e; subst e; have h1 := hlo3 _ rfl; rcases hob _ e2 with h2 | h2 <;> omega)
            · refine ⟨blk_own_ne oa (HL.out.2.2.2.2.1.alloc _) kp8 (by decide), fun g e => ?_, by have := kp8.size; simp at this; omega⟩
              rcases ob8 with h1 | h1
              · exact hob g (h1 ▸ e)
              · rw [h1] at e; injection e with e; omega
          · obtain rfl : C = i := by omega
            have HL := Lib.hid (And.intro hown (And.intro hX hb))
            have x0' : wi.cell? ⟨w.heap.size, 0, none⟩ = some (.slice A n c) := hX.cell 0
            by_cases hN0 : N = 0
            · subst hN0
              obtain ⟨A7, c7, rfl, hc7⟩ := own_form hown
              have hRe : Hid (R = (acc ++ itK p rs C, k + 1, 0)) := by unfold Hid; rw [← HO.out, HO2.out, if_pos rfl]
              clear hown hX hb hrd hPg
              go_wp2
              go_ret3
              rw [hRe.out]
              have e4 : (acc ++ itK p rs C).length = acc.length + C := by rw [List.length_append, itK_len]
              exact ⟨A7, c7, by rw [e4]; rfl, by rw [e4]; exact Reads.of_own HL.out.1, HL.out.2.2⟩
            · have e3 : ((N : Int) == 0) = false := by simp; omega
              have hRe : Hid (outH ps f N (acc ++ itK p rs C) (k + 1) = R) := by unfold Hid; rw [← HO.out, HO2.out, if_neg hN0]
              clear hown hX hb hrd hPg
              go_wp2
              have e4 : (acc ++ itK p rs C).length = acc.length + C := by rw [List.length_append, itK_len]
              exact ⟨⟨f, N, k + 1, acc ++ itK p rs C, rfl, by rw [show ((k + 1 : Nat) : Int) = (k : Int) + 1 from by omega], by omega, by omega, by rw [e4]; omega, by rw [e4]; exact HL.out.1, HL.out.2.1, HL.out.2.2, hRe.out⟩, by simp [intOf]; omega⟩
end
end Go.Proofs.Ytdimkeoncgjegaa
