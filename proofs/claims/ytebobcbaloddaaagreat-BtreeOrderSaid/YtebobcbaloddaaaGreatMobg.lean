/-
  Zj Zk Zm.
-/
import Derived.Test.YtebobcbaloddaaaGreatMobf
import Derived.Test.YtebobcbaloddaaaGreatMobe
import Derived.Deep.RegionLaw
import Derived.Lib.AppendZerosOnto
namespace Go.Proofs.YtebobcbaloddaaaGreat
section
set_option linter.unusedSimpArgs false
set_option linter.unusedVariables false
open Go.RowKit
theorem wpList_pushX {P : Program} {w : World} {ops : Array Oper} {rest : List Oper} {o : Oper} {a : Act} {Q : Exit → Act → World → Prop} {news : List Value} {arr : Array Value} (hgd : o.guard = none) (s x : Operand) (t : TypeId)
 (ho : o.op = .call { callee := .builtin .append, args := #[s, x], argTypes := #[t, t] })
 (base : Nat) (e : TypeId) (i : TypeInfo) (z : Value) (size bytes : Nat) (ht : P.underlying t = some (.slice e)) (hi : P.info? e = some i) (hz : i.zero = some z)
 (hsize : i.size = size) (hby : i.bytes = bytes) (hzs : z.cells.size = size) (hsz : 0 < size)
 (v : Value) (n : Nat) (xs : List Value) (hs : a.eval s = v) (hown : w.ownsRow base e size v n xs)
 (harr : arr = news.toArray) (g : Nat) (hx : a.eval x = .slice (some ⟨g, 0, none⟩) 1 1) (hg : g = w.heap.size) (hl : news.length = size) (h1 : ∀ u ∈ news, u.oneCell' = true)
 (h63 : n + 1 ≤ 1000000000) (hbytes : bytes ≤ 10000) (hbase : base ≤ w.heap.size)
 (h : ∀ v' w', w'.ownsRow base e size v' (n + 1) (xs ++ news) → (w.alloc (.cells arr e)).grownBy w' v.ownBlock → wpList P ops Q rest (a.put o.dst v') w') : wpList P ops Q (o :: rest) a (w.alloc (.cells arr e)) := by
 subst hg
 subst harr
 have hb : (n + 1) * bytes ≤ 1000000000 * 10000 := Nat.mul_le_mul h63 hbytes
 refine wpList_append_own _ hgd s x t ho base e i z size bytes ht hi hz hsize hby hzs hsz v n xs hs (hown.alloc _) ⟨w.heap.size, 0, none⟩ 1 1 news hx (by rw [hl]; omega) ?_ h1 (by unfold maxLen; omega) (by omega) (by simp; omega) fun v' w' h2 h3 _ => h v' w' h2 h3
 intro j u hj
 rw [add_head, World.cell?_alloc_at _ _ _ _ rfl]
 simpa using hj
theorem ownX_grown {w w' : World} {base base2 : Nat} {e e2 : TypeId} {size size2 n n2 : Nat} {v v2 : Value} {xs xs2 : List Value} {o : Obj} (h : w.ownsRow base e size v n xs) (h2 : w.ownsRow base2 e2 size2 v2 n2 xs2) (hne : e ≠ e2) (hg : (w.alloc o).grownBy w' v.ownBlock) : w'.ownsRow base2 e2 size2 v2 n2 xs2 := by
 refine (h2.alloc o).kept hg ?_
 rcases h2.2 with ⟨rfl, _⟩ | ⟨g, cap, cur, rfl, _, hh, _⟩
 · exact .inl rfl
 · exact .inr fun e' => own_blk_ne h hh hne e'.symm
theorem belowX_grown {w w' : World} {base : Nat} {e : TypeId} {size n B : Nat} {v : Value} {xs : List Value} {o : Obj} {w0 : World} (h : w.ownsRow base e size v n xs) (hB : B ≤ base) (hbase : base ≤ w.heap.size) (hg : (w.alloc o).grownBy w' v.ownBlock) (hb : Below B w0 w) : Below B w0 w' := by
 refine (hb.alloc (by omega) o).grown hg (by simp; omega) fun k hk => ?_
 have := (h.lt k hk).1
 omega
theorem own_but {w w' : World} {g base sz n : Nat} {t : TypeId} {v : Value} {xs : List Value} (h : w.ownsRow base t sz v n xs) (hb : w.grownBy w' (some g)) (hg : g < base) : w'.ownsRow base t sz v n xs := by
 refine World.ownsRow.kept (row := some g) h hb ?_
 rcases h.2 with ⟨hv, _⟩ | ⟨g', cap, cur, hv, hb', _⟩
 · exact .inl (by rw [hv]; rfl)
 · refine .inr ?_
   rw [hv]
   show some g' ≠ some g
   intro e; injection e with e; omega
theorem own_one {w : World} {g base : Nat} {t : TypeId} {u : Value} (h : Blk w g t #[u]) (hb : base ≤ g) : w.ownsRow base t 1 (.slice (some ⟨g, 0, none⟩) 1 1) 1 [u] :=
 ⟨rfl, .inr ⟨g, 1, #[u], rfl, hb, h, Nat.le_refl _, by decide, rfl, rfl⟩⟩
theorem Tryz.infoN : (Tryz.prog.info? 30).map (fun i => (i.zero, i.size, i.bytes)) = some (some (.int .u32 0), 1, 4) := by kernel_rfl
theorem vN_snoc (l : List Nat) (x : Nat) : vN (l ++ [x]) = vN l ++ [.int .u32 (x : Int)] := by simp [vN]
def riC (r : List UInt8) : Nat := beVal (tk (rdR r) 4)
def riR (r : List UInt8) : List UInt8 := dr (rdR r) 4
def riS (r : List UInt8) : Bool := rdS r || decide ((rdR r).length < 4)
def riMany : Nat → List UInt8 → List (En × Nat)
 | 0, _ => []
 | n + 1, r => (rdE r, riC r) :: riMany n (riR r)
def riRest : Nat → List UInt8 → List UInt8
 | 0, r => r
 | n + 1, r => riRest n (riR r)
def riSh : Nat → List UInt8 → Bool
 | 0, _ => false
 | n + 1, r => riS r || riSh n (riR r)
theorem riMany_len : ∀ n r, (riMany n r).length = n
 | 0, _ => rfl
 | n + 1, r => by rw [riMany, List.length_cons, riMany_len n]
theorem ri_step : ∀ (n : Nat) (r : List UInt8), riMany (n + 1) r = riMany n r ++ [(rdE (riRest n r), riC (riRest n r))] ∧ riRest (n + 1) r = riR (riRest n r) ∧ riSh (n + 1) r = (riSh n r || riS (riRest n r))
 | 0, r => ⟨rfl, rfl, by simp [riSh, riRest]⟩
 | n + 1, r => by
   obtain ⟨a, b, c⟩ := ri_step n (riR r)
   refine ⟨?_, ?_, ?_⟩
   · rw [riMany, a]; rfl
   · rw [riRest, b]; rfl
   · rw [riSh, c]; simp [riSh, riRest, Bool.or_assoc]
def RetGi (w : World) (c0 : Nat) (ps : List (En × Nat)) (e : Ending) (w' : World) : Prop :=
 ∃ A c A2 c2, e = .returned (.tuple #[.slice A (ps.length + 1) c, .slice A2 ps.length c2, .int .i64 0]) ∧ ps.length + 1 ≤ c ∧ ps.length ≤ c2 ∧ w'.ownsRow w.heap.size 30 1 (.slice A (ps.length + 1) c) (ps.length + 1) (vN (c0 :: ps.map Prod.snd)) ∧
   w'.ownsRow w.heap.size 37 3 (.slice A2 ps.length c2) ps.length (vE (ps.map Prod.fst)) ∧ Below w.heap.size w w'
def RetGia (w : World) (c0 : Nat) (ps : List (En × Nat)) : Bool → Ending → World → Prop
 | true, e, w' => RetGi w c0 ps e w'
 | false, e, w' => RetB w (.tuple #[.slice none 0 0, .slice none 0 0, .int .i64 2]) e w'
set_option maxHeartbeats 4000000 in
theorem getInner_hd (A : Option Addr) (n c B : Nat) (l : List UInt8) (w : World) (hr : Reads w B 1 A n (bL l)) (hB : B ≤ w.heap.size) (hn : n ≤ 1000000) (hc : n ≤ c) (ho : hdOk l = true) (hk : hdK l = 3) (h : hdC l = 0 ∨ hdN l ≠ 0) :
 Calls Tryz.prog 90 #[.slice A n c] w (RetB w (.tuple #[.slice none 0 0, .slice none 0 0, .int .i64 2])) := by
 have O := Lib.hid (open_ok A n c B l 3 w hr hB hn hc ho hk)
 unfold RetOp at O
 rw [hk] at O
 generalize hdN l = N at *
 generalize hdC l = C at *
 clear hr hn hc ho hk
 by_cases hC : C = 0
 · have e1 : ((C : Int) == 0) = true := by simp; omega
   have e2 : (C == 0) = true := by simp; omega
   clear h hC
   go_enter Tryz.func90, Tryz.ntmps90
   go_wp2_with fail
   refine O.out.mono ?_
   rintro e w1 ⟨g, rfl, hg, hrd, hb1⟩
   go_wp2
   exact bodyPost_ret (v := .tuple #[.slice none 0 0, .slice none 0 0, .int .i64 2]) (by simp [results, Tryz.results90, go_sem]) rfl ⟨rfl, ball hb1 _⟩
 · have hN : N ≠ 0 := by rcases h with h | h; exact absurd h hC; exact h
   have e1 : ((C : Int) == 0) = false := by simp; omega
   have e2 : (C == 0) = false := by simp; omega
   have e3 : ((N : Int) != 0) = true := by simp; omega
   have e4 : (N != 0) = true := by simp; omega
   clear h hC hN
   go_enter Tryz.func90, Tryz.ntmps90
   go_wp2_with fail
   refine O.out.mono ?_
   rintro e w1 ⟨g, rfl, hg, hrd, hb1⟩
   go_wp2
   exact bodyPost_ret (v := .tuple #[.slice none 0 0, .slice none 0 0, .int .i64 2]) (by simp [results, Tryz.results90, go_sem]) rfl ⟨rfl, ball hb1 _⟩
set_option maxRecDepth 100000 in
set_option maxHeartbeats 4000000 in
theorem getInner_all (A : Option Addr) (n c B C c0 : Nat) (l : List UInt8) (L : List (En × Nat)) (R : List UInt8) (w : World) (hr : Reads w B 1 A n (bL l)) (hB : B ≤ w.heap.size) (hn : n ≤ 1000000) (hc : n ≤ c) (ho : hdOk l = true) (hk : hdK l = 3) (hC : hdC l = C) (hC2 : C ≤ 65535) (hC0 : C ≠ 0) (hN : hdN l = 0)
 (h0 : beVal (tk (l.drop 8) 4) = c0) (hL : riMany C (dr (l.drop 8) 4) = L) (hR : riRest C (dr (l.drop 8) 4) = R) (S Z M : Bool) (hS : (decide ((l.drop 8).length < 4) || riSh C (dr (l.drop 8) 4)) = S) (hz : allZ R = Z) (hRl : R.length ≤ 1000000) (hm : mayEn (L.map Prod.fst) = M) :
 Calls Tryz.prog 90 #[.slice A n c] w (RetGia w c0 L (!S && Z && M)) := by
 have O := Lib.hid (open_ok A n c B l 3 w hr hB hn hc ho hk)
 unfold RetOp at O
 rw [hk, hC] at O
 generalize hdN l = N at *
 generalize l.drop 8 = r00 at *
 have hLl : L.length = C := by rw [← hL, riMany_len]
 have HL := Lib.hid (And.intro hL (And.intro hR (And.intro hS (And.intro hz (And.intro hm hLl)))))
 have HRl := Lib.hid hRl
 have e1 : ((C : Int) == 0) = false := by simp; omega
 have e2 : (C == 0) = false := by simp; omega
 have e3 : ((N : Int) != 0) = false := by simp; omega
 have e4 : (N != 0) = false := by simp; omega
 clear hr hn hc ho hk hC hL hR hS hz hm hLl hRl hN hC0
 have hCI : (C : Int) ≤ 65535 := by omega
 obtain ⟨i0, hi0, hz0, hs0, hy0⟩ := int_info8 Tryz.infoE
 obtain ⟨i1, hi1, hz1, hs1, hy1⟩ := int_info8 Tryz.infoN
 generalize hr0e : dr r00 4 = r0 at *
 generalize hsh0 : decide (r00.length < 4) = s0 at *
 have Hr0 := Lib.hid (And.intro h0 (And.intro hr0e hsh0))
 clear h0 hr0e hsh0
 go_enter Tryz.func90, Tryz.ntmps90
 go_wp2_with fail
 refine O.out.mono ?_
 rintro e w1 ⟨g, rfl, hg, hrd, hb1⟩
 have hgl : g < w1.heap.size := by obtain ⟨_, _, _, h1, _⟩ := hrd; exact h1.lt
 have hBg : B ≤ g := by omega
 have X0 := Blk.new w1 184 #[.int .u8 3, .int .u16 (C : Int), .int .u32 (N : Int)]
 have hrd0 : Rd (w1.alloc (.cells #[.int .u8 3, .int .u16 (C : Int), .int .u32 (N : Int)] 184)) g B r00 false := hrd.but (but_alloc w1 w1.heap.size _) (by omega) (by omega)
 have hbw : Below w.heap.size w (w1.alloc (.cells #[.int .u8 3, .int .u16 (C : Int), .int .u32 (N : Int)] 184)) := ball (bto0 (Below.refl _ _) hb1) _
 clear hrd hb1
 have HX0 := Lib.hid (And.intro X0 (And.intro hrd0 hbw))
 clear X0 hrd0 hbw
 have cz : (w1.alloc (.cells #[.int .u8 3, .int .u16 (C : Int), .int .u32 (N : Int)] 184)).cell? ⟨w1.heap.size, 1, none⟩ = some (.int .u16 (C : Int)) := HX0.out.1.cell 1
 have cz2 : (w1.alloc (.cells #[.int .u8 3, .int .u16 (C : Int), .int .u32 (N : Int)] 184)).cell? ⟨w1.heap.size, 2, none⟩ = some (.int .u32 (N : Int)) := HX0.out.1.cell 2
 go_wp2_with fail
 obtain ⟨X0, hrd0, hbw0⟩ := HX0.out
 have hs0' : w1.heap.size + 1 = (w1.alloc (.cells #[.int .u8 3, .int .u16 (C : Int), .int .u32 (N : Int)] 184)).heap.size := by simp
 have hh : w1.heap.size = w1.heap.size := rfl
 obtain ⟨W0, hW0⟩ : ∃ W0, w1.alloc (.cells #[.int .u8 3, .int .u16 (C : Int), .int .u32 (N : Int)] 184) = W0 := ⟨_, rfl⟩
 rw [hW0] at X0 hrd0 hbw0 hs0' ⊢
 clear hW0 HX0 cz cz2 hh
 obtain ⟨h, hh⟩ : ∃ h, w1.heap.size = h := ⟨_, rfl⟩
 rw [hh] at X0 hgl hs0' ⊢
 clear hh
 have NB := number_any g B r00 false 4 W0 hrd0 (by omega)
 unfold RetNm at NB
 obtain ⟨k1, k2, k3⟩ := Hr0.out
 rw [k1, k2, k3] at NB
 have HNB := Lib.hid NB
 clear NB k1 k2 k3
 refine HNB.out.mono ?_
 rintro e w2 ⟨rfl, hrd2, hbt2⟩
 rw [Bool.false_or] at hrd2
 have X2 := (X0.grown hbt2 (by simp; omega)).alloc (.cells #[.int .u32 (c0 : Int)] 30)
 have hb2 : Below w.heap.size w w2 := below_but hbw0 hbt2 hg (by omega)
 have hsz2 : h + 1 ≤ w2.heap.size := by have := hbt2.size; omega
 have ownC := own_one (base := h + 1) (Blk.new w2 30 #[.int .u32 (c0 : Int)]) (by omega)
 have hrd3 := hrd2.below ((ball (Below.refl _ _) (.cells #[.int .u32 (c0 : Int)] 30) : Below w2.heap.size w2 _).mono (by omega))
 have hb3 : Below w.heap.size w (w2.alloc (.cells #[.int .u32 (c0 : Int)] 30)) := ball hb2 _
 have hsz3 : h + 1 ≤ (w2.alloc (.cells #[.int .u32 (c0 : Int)] 30)).heap.size := by simp; omega
 clear X0 hrd0 hbw0 hbt2 hb2
 have c1 : (w2.alloc (.cells #[.int .u32 (c0 : Int)] 30)).cell? ⟨h, 1, none⟩ = some (.int .u16 (C : Int)) := X2.cell 1
 go_wp2_with fail
 go_loopw [8, 9, 33] (fun cv rv iv wr => ∃ j : Nat, j ≤ C ∧ iv = .int .u16 (j : Int) ∧ wr.ownsRow (h + 1) 30 1 cv (j + 1) (vN (c0 :: (riMany j r0).map Prod.snd)) ∧ wr.ownsRow (h + 1) 37 3 rv j (vE ((riMany j r0).map Prod.fst)) ∧ Rd wr g B (riRest j r0) (s0 || riSh j r0) ∧ Blk wr h 184 #[.int .u8 3, .int .u16 (C : Int), .int .u32 (N : Int)] ∧ Below w.heap.size w wr ∧ h + 1 ≤ wr.heap.size) (fun _ _ iv _ => C - (intOf iv).toNat)
 case atStart => exact ⟨0, by omega, rfl, ownC, ⟨rfl, .inl ⟨rfl, rfl⟩⟩, by simpa [riSh, riRest] using hrd3, X2, hb3, hsz3⟩
 case round =>
  clear X2 ownC hrd2 hrd3 hb3 hsz2 hsz3 c1
  obtain ⟨j, hj, rfl, hownC, hownE, hrd, hX, hb, hsz⟩ := hrel
  have r0' : (0 : Int) ≤ (j : Int) := by omega
  by_cases hlt : j < C
  · have r1 : (j : Int) < (C : Int) := by omega
    obtain ⟨st1, st2, st3⟩ := ri_step j r0
    have HST := Lib.hid (And.intro st1 (And.intro st2 st3))
    clear st1 st2 st3
    have EN := Lib.hid (entry_any g B (riRest j r0) (s0 || riSh j r0) wr hrd)
    have NM := Lib.hid fun (W : World) (h : Rd W g B (rdR (riRest j r0)) ((s0 || riSh j r0) || rdS (riRest j r0))) => number_any g B (rdR (riRest j r0)) _ 4 W h (by omega)
    obtain ⟨E, hE⟩ : ∃ E, rdE (riRest j r0) = E := ⟨_, rfl⟩
    obtain ⟨x, hx⟩ : ∃ x, riC (riRest j r0) = x := ⟨_, rfl⟩
    unfold RetEn at EN
    unfold RetNm at NM
    have hx' : beVal (tk (rdR (riRest j r0)) 4) = x := hx
    rw [hE] at EN
    rw [hx'] at NM
    have HE := Lib.hid (And.intro hE hx); clear hE hx hx'
    obtain ⟨es, ep, eq⟩ := E
    unfold En.agg at EN
    simp only at EN
    go_wp2_with fail
    refine EN.out.mono ?_
    rintro e w3 ⟨rfl, hrd3, hbt⟩
    have hownC3 := own_but hownC hbt (by omega)
    have hownE3 := own_but hownE hbt (by omega)
    have hX3 := hX.grown hbt (by simp; omega)
    have hb3 : Below w.heap.size w w3 := below_but hb hbt hg (by have := hX.lt; omega)
    have hsz3 := Nat.le_trans hsz hbt.size
    clear hownC hownE hrd hX hb hbt
    go_wp2_with (at_builtin; go_loud (refine wpList_pushX (news := En.cells ⟨es, ep, eq⟩) rfl _ _ 22 rfl (h + 1) 37 i0 _ 3 24 Tryz.underlying22 hi0 hz0 hs0 hy0 rfl (by decide) u9 j _ rfl hownE3 rfl _ rfl rfl rfl (cells_oneE _) (by omega) (by omega) hsz3 ?_); intro v4 w4 hownE4 hg4)
    have hk4 : Below (h + 1) w3 w4 := belowX_grown hownE3 (Nat.le_refl _) hsz3 hg4 (Below.refl _ _)
    have hownC4 := ownX_grown hownE3 hownC3 (by decide) hg4
    have hX4 := hX3.below hk4 (by omega)
    have hrd4 := hrd3.below (hk4.mono (by omega))
    have hb4 : Below w.heap.size w w4 := belowX_grown hownE3 (by omega) hsz3 hg4 hb3
    have hsz4 : h + 1 ≤ w4.heap.size := Nat.le_trans hsz3 hk4.size
    clear hownE3 hownC3 hX3 hrd3 hb3 hg4 hk4 hsz3
    refine (NM.out _ hrd4).mono ?_
    rintro e w5 ⟨rfl, hrd5, hbt⟩
    have hownC5 := own_but hownC4 hbt (by omega)
    have hownE5 := own_but hownE4 hbt (by omega)
    have hX5 := hX4.grown hbt (by simp; omega)
    have hb5 : Below w.heap.size w w5 := below_but hb4 hbt hg (by have := hX4.lt; omega)
    have hsz5 := Nat.le_trans hsz4 hbt.size
    clear hownC4 hownE4 hX4 hrd4 hb4 hbt hsz4
    go_wp2_with (at_builtin; go_loud (refine wpList_pushX (news := [.int .u32 (x : Int)]) rfl _ _ 73 rfl (h + 1) 30 i1 _ 1 4 Tryz.underlying73 hi1 hz1 hs1 hy1 rfl (by decide) u8 (j + 1) _ rfl hownC5 rfl _ rfl rfl rfl (by intro u hu; rw [List.mem_singleton] at hu; subst hu; rfl) (by omega) (by omega) hsz5 ?_); intro v6 w6 hownC6 hg6)
    have hk6 : Below (h + 1) w5 w6 := belowX_grown hownC5 (Nat.le_refl _) hsz5 hg6 (Below.refl _ _)
    have hownE6 := ownX_grown hownC5 hownE5 (by decide) hg6
    have hX6 := hX5.below hk6 (by omega)
    have hrd6 := hrd5.below (hk6.mono (by omega))
    have hb6 : Below w.heap.size w w6 := belowX_grown hownC5 (by omega) hsz5 hg6 hb5
    have hsz6 : h + 1 ≤ w6.heap.size := Nat.le_trans hsz5 hk6.size
    go_roundw
    case rel =>
     refine ⟨j + 1, by omega, by go_num, ?_, ?_, ?_, hX6, hb6, hsz6⟩
     · rw [HST.out.1, HE.out.1, HE.out.2, List.map_append, ← List.cons_append]
       show w6.ownsRow _ _ _ _ _ (vN (_ ++ [x]))
       rw [vN_snoc]; exact hownC6
     · rw [HST.out.1, HE.out.1, HE.out.2, List.map_append]
       show w6.ownsRow _ _ _ _ _ (vE (_ ++ [_]))
       rw [vE_snoc]; exact hownE6
     · rw [HST.out.2.1, HST.out.2.2]
       unfold riR riS
       simp only [← Bool.or_assoc]
       exact hrd6
    case measure => simp [intOf]; omega
  · obtain rfl : j = C := by omega
    obtain ⟨e1, e2, e3, e4, e5, e6⟩ := HL.out
    rw [e1] at hownC hownE
    rw [e2, e3] at hrd
    have ED := Lib.hid (ended_any g B R S wr hrd HRl.out)
    rw [e4] at ED
    have HED := Lib.hid ED; clear ED
    obtain ⟨A4, c4, rfl, hc4⟩ := own_form hownC
    obtain ⟨A5, c5, rfl, hc5⟩ := own_form hownE
    have hro := Reads.of_own hownE
    have MY := mayE_any A5 j c5 (L.map Prod.fst) wr hro (by omega)
    rw [e5] at MY
    have HO := Lib.hid (And.intro (World.ownsRow.mono hownC (show w.heap.size ≤ h + 1 by omega)) (And.intro (World.ownsRow.mono hownE (show w.heap.size ≤ h + 1 by omega)) e6))
    have HM := Lib.hid MY; clear MY e1 e2 e3 e4 e5 e6 hownC hownE hrd
    cases S
    rotate_left
    · go_wp2_with fail
      refine HED.out.mono ?_
      rintro e w' ⟨rfl, rfl⟩
      go_wp2
      exact bodyPost_ret (v := .tuple #[.slice none 0 0, .slice none 0 0, .int .i64 2]) (by simp [results, Tryz.results90, go_sem]) rfl ⟨rfl, hb⟩
    · cases Z
      · go_wp2_with fail
        refine HED.out.mono ?_
        rintro e w' ⟨rfl, rfl⟩
        go_wp2
        exact bodyPost_ret (v := .tuple #[.slice none 0 0, .slice none 0 0, .int .i64 2]) (by simp [results, Tryz.results90, go_sem]) rfl ⟨rfl, hb⟩
      · cases M
        · go_wp2_with fail
          refine HED.out.mono ?_
          rintro e w' ⟨rfl, rfl⟩
          go_wp2_with fail
          refine HM.out.mono ?_
          rintro e w3 ⟨rfl, hb3⟩
          go_wp2
          exact bodyPost_ret (v := .tuple #[.slice none 0 0, .slice none 0 0, .int .i64 2]) (by simp [results, Tryz.results90, go_sem]) rfl ⟨rfl, bto0 hb hb3⟩
        · go_wp2_with fail
          refine HED.out.mono ?_
          rintro e w' ⟨rfl, rfl⟩
          go_wp2_with fail
          refine HM.out.mono ?_
          rintro e w3 ⟨rfl, hb3⟩
          go_wp2
          obtain ⟨o1, o2, o3⟩ := HO.out
          refine bodyPost_ret (v := .tuple #[.slice A4 (j + 1) c4, .slice A5 j c5, .int .i64 0]) (by simp [results, Tryz.results90, go_sem]) rfl ?_
          show RetGi w c0 L _ _
          unfold RetGi
          rw [o3]
          exact ⟨A4, c4, A5, c5, rfl, hc4, hc5, own_below o1 hb3, own_below o2 hb3, bto0 hb hb3⟩
end
end Go.Proofs.YtebobcbaloddaaaGreat
namespace Go.Proofs.YtebobcbaloddaaaGreat
section
set_option linter.unusedSimpArgs false
set_option linter.unusedVariables false
open Go.RowKit
theorem ri_app (p : En × Nat) (r : List UInt8) (h : okE p.1) (hc : p.2 < 4294967296) : rdE (inP p ++ r) = p.1 ∧ riC (inP p ++ r) = p.2 ∧ riR (inP p ++ r) = r ∧ riS (inP p ++ r) = false := by
 obtain ⟨e, c⟩ := p
 obtain ⟨h1, h2, h3⟩ := h
 simp only at h1 h2 h3 hc
 have e0 : inP (e, c) ++ r = enL e ++ (be 4 c ++ r) := by unfold inP; rw [List.append_assoc]
 obtain ⟨a, b, d⟩ := rd_app e (be 4 c ++ r) h1 h2 h3
 have v : beVal (be 4 c) = c := by rw [beVal_be]; exact Nat.mod_eq_of_lt (by omega)
 rw [e0]
 refine ⟨a, ?_, ?_, ?_⟩
 · unfold riC; rw [b, tk_app _ _ (be_len 4 c), v]
 · unfold riR; rw [b, dr_app _ _ (be_len 4 c)]
 · unfold riS; rw [b, d]; simp [be_len]
theorem riMany_app : ∀ (ps : List (En × Nat)) (r : List UInt8), (∀ p ∈ ps, okE p.1 ∧ p.2 < 4294967296) → riMany ps.length (inB ps ++ r) = ps ∧ riRest ps.length (inB ps ++ r) = r ∧ riSh ps.length (inB ps ++ r) = false
 | [], r, _ => ⟨rfl, rfl, rfl⟩
 | p :: ps, r, h => by
   obtain ⟨h1, h2⟩ := h p (by simp)
   obtain ⟨a, b, c, d⟩ := ri_app p (inB ps ++ r) h1 h2
   obtain ⟨x, y, z⟩ := riMany_app ps r (fun u hu => h u (by simp [hu]))
   have e0 : inB (p :: ps) ++ r = inP p ++ (inB ps ++ r) := by unfold inB; rw [List.flatMap_cons, List.append_assoc]
   rw [e0, List.length_cons]
   refine ⟨?_, ?_, ?_⟩
   · rw [riMany, a, b, c, x]
   · rw [riRest, c, y]
   · rw [riSh, d, c, z]; rfl
theorem innL_page (ch0 : Nat) (cs : List Nat) (l : List En) (hlen : cs.length = l.length) (hch : ∀ x ∈ ch0 :: cs, x < 4294967296) (hok : ∀ e ∈ l, e.ok) (hm : mayEn l = true) (hf : sumE l + 4 * l.length ≤ 500) (ps : List (En × Nat)) (hps : ps = l.zip cs) (P : List UInt8) (hP : P = innL ch0 ps l.length) :
 hdOk P = true ∧ hdK P = 3 ∧ hdC P = l.length ∧ hdN P = 0 ∧ P.length = 512 ∧ beVal (tk (P.drop 8) 4) = ch0 ∧
 riMany l.length (dr (P.drop 8) 4) = ps ∧ riRest l.length (dr (P.drop 8) 4) = List.replicate (512 - (12 + sumE l + 4 * l.length)) 0 ∧ (decide ((P.drop 8).length < 4) || riSh l.length (dr (P.drop 8) 4)) = false := by
 have hs := mayEn_sizes hm
 have hpl : ps.length = l.length := by rw [hps, List.length_zip]; omega
 have hpf : ps.map Prod.fst = l := by rw [hps]; exact zip_fst (by omega)
 have hoks : ∀ p ∈ ps, okE p.1 ∧ p.2 < 4294967296 := by
  intro p hp
  rw [hps] at hp
  have h1 := (List.of_mem_zip hp).1
  have h2 := (List.of_mem_zip hp).2
  exact ⟨⟨by have := hs p.1 h1; omega, (hok p.1 h1).2.1, (hok p.1 h1).2.2⟩, hch p.2 (List.mem_cons_of_mem _ h2)⟩
 have hll : l.length ≤ 63 := by have := sumE_eq l; omega
 have e0 : P = (headL 3 l.length 0).take 8 ++ (be 4 ch0 ++ (inB ps ++ List.replicate (512 - (12 + sumE l + 4 * l.length)) 0)) := by
  rw [hP]; unfold innL; rw [hpf, hpl]; simp only [List.append_assoc]
 have hX : (be 4 ch0 ++ (inB ps ++ List.replicate (512 - (12 + sumE l + 4 * l.length)) 0)).length = 504 := by
  rw [List.length_append, List.length_append, be_len, inB_len, List.length_replicate, hpf, hpl]; omega
 obtain ⟨a, b, c, d, e⟩ := hd_page 3 l.length 0 _ (by omega) (by omega) hX
 obtain ⟨x, y, z⟩ := riMany_app ps (List.replicate (512 - (12 + sumE l + 4 * l.length)) 0) hoks
 rw [hpl] at x y z
 have v : beVal (be 4 ch0) = ch0 := by rw [beVal_be]; exact Nat.mod_eq_of_lt (hch ch0 (by simp))
 rw [e0]
 refine ⟨a, b, c, d, ?_, ?_, ?_, ?_, ?_⟩
 · rw [List.length_append, hX, List.length_take, headL_len]; rfl
 · rw [e, tk_app _ _ (be_len 4 ch0), v]
 · rw [e, dr_app _ _ (be_len 4 ch0)]; exact x
 · rw [e, dr_app _ _ (be_len 4 ch0)]; exact y
 · rw [e, dr_app _ _ (be_len 4 ch0), hX, z]; rfl
section
variable {ops : Array Oper} {rest : List Oper} {o : Oper} {a : Act} {Q : Exit → Act → World → Prop} {w : World}
end
end
end Go.Proofs.YtebobcbaloddaaaGreat
namespace Go.Proofs.YtebobcbaloddaaaGreat
section
set_option linter.unusedSimpArgs false
set_option linter.unusedVariables false
open Go.RowKit
theorem tk_ge {r : List UInt8} {k : Nat} (h : k ≤ r.length) : tk r k = r.take k := by unfold tk; rw [if_neg (by omega)]
theorem dr_ge {r : List UInt8} {k : Nat} (h : k ≤ r.length) : dr r k = r.drop k := by unfold dr; rw [if_neg (by omega)]
theorem dr_le (r : List UInt8) (k : Nat) : (dr r k).length ≤ r.length := by
 unfold dr; split
 · simp
 · rw [List.length_drop]; omega
def keyN (r : List UInt8) : Nat := beVal (tk r 2)
theorem rdE_size (r : List UInt8) : (rdE r).s.size = keyN r := by
 show (str (rdKey r)).size = _
 rw [str_size]
 unfold rdKey
 rw [tk_len]
 rfl
theorem keyN_lt (r : List UInt8) : keyN r < 65536 := by
 have := beVal_lt_of (l := tk r 2) (n := 2) (by rw [tk_len]; exact Nat.le_refl _)
 unfold keyN; omega
theorem rdS_iff (r : List UInt8) : rdS r = false ↔ 8 + keyN r ≤ r.length := by
 unfold rdS rd1
 have hk : beVal (tk r 2) = keyN r := rfl
 rw [hk]
 constructor
 · intro h
   simp only [Bool.or_eq_false_iff, decide_eq_false_iff_not, Nat.not_lt] at h
   obtain ⟨⟨⟨h1, h2⟩, h3⟩, h4⟩ := h
   rw [dr_ge h1] at h2 h3 h4
   rw [dr_ge h2] at h3 h4
   rw [dr_ge h3] at h4
   simp only [List.length_drop] at h2 h3 h4
   omega
 · intro h
   have h1 : 2 ≤ r.length := by omega
   have h2 : keyN r ≤ (r.drop 2).length := by rw [List.length_drop]; omega
   have h3 : 4 ≤ ((r.drop 2).drop (keyN r)).length := by simp only [List.length_drop]; omega
   have h4 : 2 ≤ (((r.drop 2).drop (keyN r)).drop 4).length := by simp only [List.length_drop]; omega
   rw [dr_ge h1, dr_ge h2, dr_ge h3]
   simp only [Bool.or_eq_false_iff, decide_eq_false_iff_not, Nat.not_lt]
   exact ⟨⟨⟨h1, h2⟩, h3⟩, h4⟩
theorem rd_form {r : List UInt8} (h : rdS r = false) :
 rdE r = ⟨str ((r.drop 2).take (keyN r)), (beVal ((r.drop (2 + keyN r)).take 4) : Int), (beVal ((r.drop (2 + keyN r + 4)).take 2) : Int)⟩ ∧ rdR r = r.drop (8 + keyN r) ∧ keyN r = beVal (r.take 2) := by
 have hh := (rdS_iff r).1 h
 have h1 : 2 ≤ r.length := by omega
 have h2 : keyN r ≤ (r.drop 2).length := by rw [List.length_drop]; omega
 have e2 : (r.drop 2).drop (keyN r) = r.drop (2 + keyN r) := by rw [List.drop_drop]
 have h3 : 4 ≤ (r.drop (2 + keyN r)).length := by simp only [List.length_drop]; omega
 have e3 : (r.drop (2 + keyN r)).drop 4 = r.drop (2 + keyN r + 4) := by rw [List.drop_drop]
 have h4 : 2 ≤ (r.drop (2 + keyN r + 4)).length := by simp only [List.length_drop]; omega
 have hk : beVal (tk r 2) = keyN r := rfl
 have d1 : rd1 r = r.drop (2 + keyN r) := by unfold rd1; rw [hk, dr_ge h1, dr_ge h2, e2]
 refine ⟨?_, ?_, ?_⟩
 · unfold rdE rdKey
   rw [d1, hk, dr_ge h1, tk_ge h2, tk_ge h3, dr_ge h3, e3, tk_ge h4]
 · unfold rdR
   rw [d1, dr_ge h3, e3, dr_ge h4, List.drop_drop]
   congr 1; omega
 · unfold keyN; rw [tk_ge h1]
theorem be_of {l : List UInt8} {n : Nat} (h : l.length = n) : be n (beVal l) = l := by rw [← h]; exact be_beVal l
theorem rd_inv {r : List UInt8} (h : rdS r = false) : enL (rdE r) ++ rdR r = r := by
 have hh := (rdS_iff r).1 h
 obtain ⟨e1, e2, e3⟩ := rd_form h
 rw [e1, e2]
 unfold enL
 have s1 : (str ((r.drop 2).take (keyN r))).size = beVal (r.take 2) := by rw [str_size, List.length_take, List.length_drop, ← e3]; omega
 show be 2 (str ((r.drop 2).take (keyN r))).size ++ (str ((r.drop 2).take (keyN r))).data.toList ++ be 4 ((beVal ((r.drop (2 + keyN r)).take 4) : Int)).toNat ++ be 2 ((beVal ((r.drop (2 + keyN r + 4)).take 2) : Int)).toNat ++ _ = r
 rw [s1, str_data, Int.toNat_natCast, Int.toNat_natCast, be_of (by rw [List.length_take]; omega), be_of (by rw [List.length_take, List.length_drop]; omega), be_of (by rw [List.length_take, List.length_drop]; omega)]
 have f1 : r.drop (2 + keyN r + 4) = (r.drop (2 + keyN r + 4)).take 2 ++ r.drop (8 + keyN r) := by
  have := (List.take_append_drop 2 (r.drop (2 + keyN r + 4))).symm
  rw [List.drop_drop, show 2 + keyN r + 4 + 2 = 8 + keyN r from by omega] at this
  exact this
 have f2 : r.drop (2 + keyN r) = (r.drop (2 + keyN r)).take 4 ++ r.drop (2 + keyN r + 4) := by
  have := (List.take_append_drop 4 (r.drop (2 + keyN r))).symm
  rwa [List.drop_drop] at this
 have f3 : r.drop 2 = (r.drop 2).take (keyN r) ++ r.drop (2 + keyN r) := by
  have := (List.take_append_drop (keyN r) (r.drop 2)).symm
  rwa [List.drop_drop] at this
 have f4 : r = r.take 2 ++ r.drop 2 := (List.take_append_drop 2 r).symm
 simp only [List.append_assoc]
 rw [← f1, ← f2, ← f3, ← f4]
theorem rdMany_inv : ∀ (n : Nat) (r : List UInt8), rdSh n r = false → (rdMany n r).flatMap enL ++ rdRest n r = r
 | 0, r, _ => rfl
 | n + 1, r, h => by
   rw [rdSh, Bool.or_eq_false_iff] at h
   rw [rdMany, rdRest, List.flatMap_cons, List.append_assoc, rdMany_inv n _ h.2, rd_inv h.1]
theorem ri_inv {r : List UInt8} (h : riS r = false) : inP (rdE r, riC r) ++ riR r = r := by
 unfold riS at h
 rw [Bool.or_eq_false_iff, decide_eq_false_iff_not] at h
 have h4 : 4 ≤ (rdR r).length := by omega
 unfold inP riC riR
 show (enL (rdE r) ++ be 4 (beVal (tk (rdR r) 4))) ++ _ = r
 rw [tk_ge h4, dr_ge h4, be_of (by rw [List.length_take]; omega), List.append_assoc, List.take_append_drop, rd_inv h.1]
theorem riMany_inv : ∀ (n : Nat) (r : List UInt8), riSh n r = false → inB (riMany n r) ++ riRest n r = r
 | 0, r, _ => rfl
 | n + 1, r, h => by
   rw [riSh, Bool.or_eq_false_iff] at h
   have ih := riMany_inv n _ h.2
   unfold inB at ih ⊢
   rw [riMany, riRest, List.flatMap_cons, List.append_assoc, ih, ri_inv h.1]
theorem allZ_eq : ∀ {l : List UInt8}, allZ l = true → l = List.replicate l.length 0
 | [], _ => rfl
 | x :: l, h => by
   unfold allZ at h
   rw [List.all_cons, Bool.and_eq_true] at h
   rw [List.length_cons, List.replicate_succ, ← allZ_eq (l := l) h.2]
   have : x = 0 := by simpa using h.1
   rw [this]
theorem head_inv {L : List UInt8} (h : hdOk L = true) : L = (headL (L.getD 0 0) (hdC L) (hdN L)).take 8 ++ L.drop 8 := by
 unfold hdOk at h
 rw [Bool.and_eq_true] at h
 have hl : L.length = 512 := by simpa using h.1
 have h1 : L[1]? = some 0 := by simpa using h.2
 rw [head8]
 unfold hdC hdN
 rw [be_of (by rw [List.length_take, List.length_drop]; omega), be_of (by rw [List.length_take, List.length_drop]; omega)]
 match L, hl, h1 with
 | x :: y :: r, hl, h1 =>
   simp only [List.getElem?_cons_succ, List.getElem?_cons_zero, Option.some.injEq] at h1
   subst h1
   show x :: 0 :: r = [x, 0] ++ r.take 2 ++ (r.drop 2).take 4 ++ r.drop 6
   have f1 : r = r.take 2 ++ r.drop 2 := (List.take_append_drop 2 r).symm
   have f2 : r.drop 2 = (r.drop 2).take 4 ++ r.drop 6 := by
    have := (List.take_append_drop 4 (r.drop 2)).symm
    rwa [List.drop_drop] at this
   simp only [List.append_assoc, ← f2, ← f1]
   rfl
theorem hdK_get {L : List UInt8} {k : UInt8} (h : hdK L = k.toNat) : L.getD 0 0 = k := UInt8.toNat_inj.1 h
theorem leaf_inv {L : List UInt8} (h : hdOk L = true) (hk : hdK L = 2) (hs : rdSh (hdC L) (L.drop 8) = false) (hz : allZ (rdRest (hdC L) (L.drop 8)) = true) :
 leafL (hdN L) (rdMany (hdC L) (L.drop 8)) = L ∧ sumE (rdMany (hdC L) (L.drop 8)) ≤ 504 := by
 have hl : L.length = 512 := by unfold hdOk at h; rw [Bool.and_eq_true] at h; simpa using h.1
 have hi := rdMany_inv _ _ hs
 have hr := allZ_eq hz
 have hlen : sumE (rdMany (hdC L) (L.drop 8)) + (rdRest (hdC L) (L.drop 8)).length = 504 := by
  have := congrArg List.length hi
  rw [List.length_append, sumE_len, List.length_drop, hl] at this
  omega
 have hrl : (rdRest (hdC L) (L.drop 8)).length = 512 - (8 + sumE (rdMany (hdC L) (L.drop 8))) := by omega
 rw [hrl] at hr
 refine ⟨?_, by omega⟩
 unfold leafL
 rw [rdMany_len, ← hr, List.append_assoc, hi]
 have := head_inv h
 rw [hdK_get (k := 2) hk] at this
 exact this.symm
theorem inner_inv {L : List UInt8} (h : hdOk L = true) (hk : hdK L = 3) (hn : hdN L = 0) (hs : riSh (hdC L) (dr (L.drop 8) 4) = false) (hz : allZ (riRest (hdC L) (dr (L.drop 8) 4)) = true) :
 innL (beVal (tk (L.drop 8) 4)) (riMany (hdC L) (dr (L.drop 8) 4)) (hdC L) = L ∧ sumE ((riMany (hdC L) (dr (L.drop 8) 4)).map Prod.fst) + 4 * hdC L ≤ 500 := by
 have hl : L.length = 512 := by unfold hdOk at h; rw [Bool.and_eq_true] at h; simpa using h.1
 have h4 : 4 ≤ (L.drop 8).length := by rw [List.length_drop]; omega
 rw [dr_ge h4] at hs hz ⊢
 rw [tk_ge h4]
 have hi := riMany_inv _ _ hs
 have hr := allZ_eq hz
 have hlen : sumE ((riMany (hdC L) ((L.drop 8).drop 4)).map Prod.fst) + 4 * hdC L + (riRest (hdC L) ((L.drop 8).drop 4)).length = 500 := by
  have := congrArg List.length hi
  rw [List.length_append, inB_len, riMany_len, List.length_drop, List.length_drop, hl] at this
  omega
 have hrl : (riRest (hdC L) ((L.drop 8).drop 4)).length = 512 - (12 + sumE ((riMany (hdC L) ((L.drop 8).drop 4)).map Prod.fst) + 4 * (riMany (hdC L) ((L.drop 8).drop 4)).length) := by rw [riMany_len]; omega
 rw [hrl] at hr
 refine ⟨?_, by omega⟩
 unfold innL
 rw [← hr, List.append_assoc, List.append_assoc, hi, be_of (by rw [List.length_take]; omega), List.take_append_drop]
 have := head_inv h
 rw [hdK_get (k := 3) hk, hn] at this
 exact this.symm
theorem rdE_ok (r : List UInt8) : (rdE r).ok := by
 refine ⟨?_, ?_, ?_⟩
 · rw [rdE_size]; have := keyN_lt r; unfold maxLen; omega
 · show (0 : Int) ≤ (beVal (tk (rd1 r) 4) : Int) ∧ (beVal (tk (rd1 r) 4) : Int) ≤ 4294967295
   have := beVal_lt_of (l := tk (rd1 r) 4) (n := 4) (by rw [tk_len]; exact Nat.le_refl _)
   omega
 · show (0 : Int) ≤ (beVal (tk (dr (rd1 r) 4) 2) : Int) ∧ (beVal (tk (dr (rd1 r) 4) 2) : Int) ≤ 65535
   have := beVal_lt_of (l := tk (dr (rd1 r) 4) 2) (n := 2) (by rw [tk_len]; exact Nat.le_refl _)
   omega
theorem rdMany_ok : ∀ (n : Nat) (r : List UInt8), ∀ e ∈ rdMany n r, e.ok
 | 0, _ => by simp [rdMany]
 | n + 1, r => by
   intro e he
   rw [rdMany] at he
   rcases List.mem_cons.1 he with rfl | he
   · exact rdE_ok r
   · exact rdMany_ok n _ e he
theorem riMany_ok : ∀ (n : Nat) (r : List UInt8), ∀ p ∈ riMany n r, p.1.ok ∧ p.2 < 4294967296
 | 0, _ => by simp [riMany]
 | n + 1, r => by
   intro e he
   rw [riMany] at he
   rcases List.mem_cons.1 he with rfl | he
   · refine ⟨rdE_ok r, ?_⟩
     have := beVal_lt_of (l := tk (rdR r) 4) (n := 4) (by rw [tk_len]; exact Nat.le_refl _)
     exact this
   · exact riMany_ok n _ e he
theorem rdR_le (r : List UInt8) : (rdR r).length ≤ r.length := by
 unfold rdR rd1
 exact Nat.le_trans (dr_le _ _) (Nat.le_trans (dr_le _ _) (Nat.le_trans (dr_le _ _) (dr_le _ _)))
theorem rdRest_le : ∀ (n : Nat) (r : List UInt8), (rdRest n r).length ≤ r.length
 | 0, _ => Nat.le_refl _
 | n + 1, r => Nat.le_trans (rdRest_le n _) (rdR_le r)
theorem riRest_le : ∀ (n : Nat) (r : List UInt8), (riRest n r).length ≤ r.length
 | 0, _ => Nat.le_refl _
 | n + 1, r => Nat.le_trans (riRest_le n _) (Nat.le_trans (dr_le _ _) (rdR_le r))
theorem allZ_drop {l : List UInt8} {k : Nat} {x : UInt8} (h : l[k]? = some x) : allZ (l.drop k) = ((x == 0) && allZ (l.drop (k + 1))) := by
 have hk := lt_of_at h
 rw [List.drop_eq_getElem_cons hk]
 have : l[k] = x := by simpa [List.getElem?_eq_getElem hk] using h
 rw [this]; rfl
end
end Go.Proofs.YtebobcbaloddaaaGreat
