/-
  Inner pages: contract of GetInner, of any page.
-/
import Derived.Test.YtgdipljaddodhaaZf
import Derived.Test.YtgdipljaddodhaaZh
import Derived.Deep.RegionLaw
set_option linter.unusedSimpArgs false
set_option linter.unusedVariables false
namespace Go.Proofs.Ytgdipljaddodhaa
open Go.RowKit

/-- One element more behind a row of the call's own: what is known of the new row, and of all others. -/
theorem wpList_pushX {P : Program} {w : World} {ops : Array Oper} {rest : List Oper} {o : Oper} {a : Act} {Q : Exit → Act → World → Prop} {news : List Value} {arr : Array Value} (hgd : o.guard = none) (s x : Operand) (t : TypeId)
    (ho : o.op = .call { callee := .builtin .append, args := #[s, x], argTypes := #[t, t] })
    (base : Nat) (e : TypeId) (i : TypeInfo) (z : Value) (size bytes : Nat) (ht : P.underlying t = some (.slice e)) (hi : P.info? e = some i) (hz : i.zero = some z)
    (hsize : i.size = size) (hby : i.bytes = bytes) (hzs : z.cells.size = size) (hsz : 0 < size)
    (v : Value) (n : Nat) (xs : List Value) (hs : a.eval s = v) (hown : w.ownsRow base e size v n xs)
    (harr : arr = news.toArray) (g : Nat) (hx : a.eval x = .slice (some ⟨g, 0, none⟩) 1 1) (hg : g = w.heap.size) (hl : news.length = size) (h1 : ∀ u ∈ news, u.oneCell' = true)
    (h63 : n + 1 ≤ 1000000000) (hbytes : bytes ≤ 10000) (hbase : base ≤ w.heap.size)
    (h : ∀ v' w', w'.ownsRow base e size v' (n + 1) (xs ++ news) → (w.alloc (.cells arr e)).grownBy w' v.ownBlock → wpList P ops Q rest (a.put o.dst v') w') : wpList P ops Q (o :: rest) a (w.alloc (.cells arr e)) := by
  subst hg
  subst harr
  have hb : (n + 1) * bytes ≤ 1000000000 * 10000 := Nat.mul_le_mul h63 hbytes
  refine wpList_append_own _ hgd s x t ho base e i z size bytes ht hi hz hsize hby hzs hsz v n xs hs (hown.alloc _) ⟨w.heap.size, 0, none⟩ 1 1 news hx (by rw [hl]; omega) ?_ h1 (by unfold maxLen; omega) (by omega) (by simp; omega) fun v' w' h2 h3 _ => h v' w' h2 h3
  intro j u hj
  rw [add_head, World.cell?_alloc_at _ _ _ _ rfl]
  simpa using hj
theorem ownX_grown {w w' : World} {base base2 : Nat} {e e2 : TypeId} {size size2 n n2 : Nat} {v v2 : Value} {xs xs2 : List Value} {o : Obj} (h : w.ownsRow base e size v n xs) (h2 : w.ownsRow base2 e2 size2 v2 n2 xs2) (hne : e ≠ e2) (hg : (w.alloc o).grownBy w' v.ownBlock) : w'.ownsRow base2 e2 size2 v2 n2 xs2 := by
  refine (h2.alloc o).kept hg ?_
  rcases h2.2 with ⟨rfl, _⟩ | ⟨g, cap, cur, rfl, _, hh, _⟩
  · exact .inl rfl
  · exact .inr fun e' => own_blk_ne h hh hne e'.symm
theorem belowX_grown {w w' : World} {base : Nat} {e : TypeId} {size n B : Nat} {v : Value} {xs : List Value} {o : Obj} {w0 : World} (h : w.ownsRow base e size v n xs) (hB : B ≤ base) (hbase : base ≤ w.heap.size) (hg : (w.alloc o).grownBy w' v.ownBlock) (hb : Below B w0 w) : Below B w0 w' := by
  refine (hb.alloc (by omega) o).grown hg (by simp; omega) fun k hk => ?_
  have := (h.lt k hk).1
  omega
/-- A row of the call's own behind a change of one block that is not its own. -/
theorem own_but {w w' : World} {g base sz n : Nat} {t : TypeId} {v : Value} {xs : List Value} (h : w.ownsRow base t sz v n xs) (hb : w.grownBy w' (some g)) (hg : g < base) : w'.ownsRow base t sz v n xs := by
  refine World.ownsRow.kept (row := some g) h hb ?_
  rcases h.2 with ⟨hv, _⟩ | ⟨g', cap, cur, hv, hb', _⟩
  · exact .inl (by rw [hv]; rfl)
  · refine .inr ?_
    rw [hv]
    show some g' ≠ some g
    intro e; injection e with e; omega
theorem own_one {w : World} {g base : Nat} {t : TypeId} {u : Value} (h : Blk w g t #[u]) (hb : base ≤ g) : w.ownsRow base t 1 (.slice (some ⟨g, 0, none⟩) 1 1) 1 [u] :=
  ⟨rfl, .inr ⟨g, 1, #[u], rfl, hb, h, Nat.le_refl _, by decide, rfl, rfl⟩⟩
theorem Try.infoN : (Try.prog.info? 22).map (fun i => (i.zero, i.size, i.bytes)) = some (some (.int .u32 0), 1, 4) := by kernel_rfl
theorem vN_snoc (l : List Nat) (x : Nat) : vN (l ++ [x]) = vN l ++ [.int .u32 (x : Int)] := by simp [vN]

/-- An entry and its child, as a reader takes them; what is left; whether something wasn't there. -/
def riC (r : List UInt8) : Nat := beVal (tk (rdR r) 4)
def riR (r : List UInt8) : List UInt8 := dr (rdR r) 4
def riS (r : List UInt8) : Bool := rdS r || decide ((rdR r).length < 4)
def riMany : Nat → List UInt8 → List (En × Nat)
  | 0, _ => []
  | n + 1, r => (rdE r, riC r) :: riMany n (riR r)
def riRest : Nat → List UInt8 → List UInt8
  | 0, r => r
  | n + 1, r => riRest n (riR r)
def riSh : Nat → List UInt8 → Bool
  | 0, _ => false
  | n + 1, r => riS r || riSh n (riR r)
theorem riMany_len : ∀ n r, (riMany n r).length = n
  | 0, _ => rfl
  | n + 1, r => by rw [riMany, List.length_cons, riMany_len n]
theorem ri_step : ∀ (n : Nat) (r : List UInt8), riMany (n + 1) r = riMany n r ++ [(rdE (riRest n r), riC (riRest n r))] ∧ riRest (n + 1) r = riR (riRest n r) ∧ riSh (n + 1) r = (riSh n r || riS (riRest n r))
  | 0, r => ⟨rfl, rfl, by simp [riSh, riRest]⟩
  | n + 1, r => by
    obtain ⟨a, b, c⟩ := ri_step n (riR r)
    refine ⟨?_, ?_, ?_⟩
    · rw [riMany, a]; rfl
    · rw [riRest, b]; rfl
    · rw [riSh, c]; simp [riSh, riRest, Bool.or_assoc]
def RetGi (w : World) (c0 : Nat) (ps : List (En × Nat)) (e : Ending) (w' : World) : Prop :=
  ∃ A c A2 c2, e = .returned (.tuple #[.slice A (ps.length + 1) c, .slice A2 ps.length c2, .int .i64 0]) ∧ ps.length + 1 ≤ c ∧ ps.length ≤ c2 ∧ w'.ownsRow w.heap.size 22 1 (.slice A (ps.length + 1) c) (ps.length + 1) (vN (c0 :: ps.map Prod.snd)) ∧
    w'.ownsRow w.heap.size 27 3 (.slice A2 ps.length c2) ps.length (vE (ps.map Prod.fst)) ∧ Below w.heap.size w w'
def RetGia (w : World) (c0 : Nat) (ps : List (En × Nat)) : Bool → Ending → World → Prop
  | true, e, w' => RetGi w c0 ps e w'
  | false, e, w' => RetB w (.tuple #[.slice none 0 0, .slice none 0 0, .int .i64 2]) e w'

set_option maxHeartbeats 4000000 in
/-- A head that may not be an inner page's. -/
theorem getInner_hd (A : Option Addr) (n c B : Nat) (l : List UInt8) (w : World) (hr : Reads w B 1 A n (bL l)) (hB : B ≤ w.heap.size) (hn : n ≤ 1000000) (hc : n ≤ c) (ho : hdOk l = true) (hk : hdK l = 3) (h : hdC l = 0 ∨ hdN l ≠ 0) :
    Calls Try.prog 19 #[.slice A n c] w (RetB w (.tuple #[.slice none 0 0, .slice none 0 0, .int .i64 2])) := by
  have O := Lib.hid (open_ok A n c B l 3 w hr hB hn hc ho hk)
  unfold RetOp at O
  rw [hk] at O
  generalize hdN l = N at *
  generalize hdC l = C at *
  clear hr hn hc ho hk
  by_cases hC : C = 0
  · have e1 : ((C : Int) == 0) = true := by simp; omega
    have e2 : (C == 0) = true := by simp; omega
    clear h hC
    go_enter Try.func19, Try.ntmps19
    go_wp2_with fail
    refine O.out.mono ?_
    rintro e w1 ⟨g, rfl, hg, hrd, hb1⟩
    go_wp2
    exact bodyPost_ret (v := .tuple #[.slice none 0 0, .slice none 0 0, .int .i64 2]) (by simp [results, Try.results19, go_sem]) rfl ⟨rfl, ball hb1 _⟩
  · have hN : N ≠ 0 := by rcases h with h | h; exact absurd h hC; exact h
    have e1 : ((C : Int) == 0) = false := by simp; omega
    have e2 : (C == 0) = false := by simp; omega
    have e3 : ((N : Int) != 0) = true := by simp; omega
    have e4 : (N != 0) = true := by simp; omega
    clear h hC hN
    go_enter Try.func19, Try.ntmps19
    go_wp2_with fail
    refine O.out.mono ?_
    rintro e w1 ⟨g, rfl, hg, hrd, hb1⟩
    go_wp2
    exact bodyPost_ret (v := .tuple #[.slice none 0 0, .slice none 0 0, .int .i64 2]) (by simp [results, Try.results19, go_sem]) rfl ⟨rfl, ball hb1 _⟩

set_option maxRecDepth 100000 in
set_option maxHeartbeats 4000000 in
theorem getInner_all (A : Option Addr) (n c B C c0 : Nat) (l : List UInt8) (L : List (En × Nat)) (R : List UInt8) (w : World) (hr : Reads w B 1 A n (bL l)) (hB : B ≤ w.heap.size) (hn : n ≤ 1000000) (hc : n ≤ c) (ho : hdOk l = true) (hk : hdK l = 3) (hC : hdC l = C) (hC2 : C ≤ 65535) (hC0 : C ≠ 0) (hN : hdN l = 0)
    (h0 : beVal (tk (l.drop 8) 4) = c0) (hL : riMany C (dr (l.drop 8) 4) = L) (hR : riRest C (dr (l.drop 8) 4) = R) (S Z M : Bool) (hS : (decide ((l.drop 8).length < 4) || riSh C (dr (l.drop 8) 4)) = S) (hz : allZ R = Z) (hRl : R.length ≤ 1000000) (hm : mayEn (L.map Prod.fst) = M) :
    Calls Try.prog 19 #[.slice A n c] w (RetGia w c0 L (!S && Z && M)) := by
  have O := Lib.hid (open_ok A n c B l 3 w hr hB hn hc ho hk)
  unfold RetOp at O
  rw [hk, hC] at O
  generalize hdN l = N at *
  generalize l.drop 8 = r00 at *
  have hLl : L.length = C := by rw [← hL, riMany_len]
  have HL := Lib.hid (And.intro hL (And.intro hR (And.intro hS (And.intro hz (And.intro hm hLl)))))
  have HRl := Lib.hid hRl
  have e1 : ((C : Int) == 0) = false := by simp; omega
  have e2 : (C == 0) = false := by simp; omega
  have e3 : ((N : Int) != 0) = false := by simp; omega
  have e4 : (N != 0) = false := by simp; omega
  clear hr hn hc ho hk hC hL hR hS hz hm hLl hRl hN hC0
  have hCI : (C : Int) ≤ 65535 := by omega
  obtain ⟨i0, hi0, hz0, hs0, hy0⟩ := int_info8 Try.infoE
  obtain ⟨i1, hi1, hz1, hs1, hy1⟩ := int_info8 Try.infoN
  generalize hr0e : dr r00 4 = r0 at *
  generalize hsh0 : decide (r00.length < 4) = s0 at *
  have Hr0 := Lib.hid (And.intro h0 (And.intro hr0e hsh0))
  clear h0 hr0e hsh0
  go_enter Try.func19, Try.ntmps19
  go_wp2_with fail
  refine O.out.mono ?_
  rintro e w1 ⟨g, rfl, hg, hrd, hb1⟩
  have hgl : g < w1.heap.size := by obtain ⟨_, _, _, h1, _⟩ := hrd; exact h1.lt
  have hBg : B ≤ g := by omega
  have X0 := Blk.new w1 70 #[.int .u8 3, .int .u16 (C : Int), .int .u32 (N : Int)]
  have hrd0 : Rd (w1.alloc (.cells #[.int .u8 3, .int .u16 (C : Int), .int .u32 (N : Int)] 70)) g B r00 false := hrd.but (but_alloc w1 w1.heap.size _) (by omega) (by omega)
  have hbw : Below w.heap.size w (w1.alloc (.cells #[.int .u8 3, .int .u16 (C : Int), .int .u32 (N : Int)] 70)) := ball (bto0 (Below.refl _ _) hb1) _
  clear hrd hb1
  have HX0 := Lib.hid (And.intro X0 (And.intro hrd0 hbw))
  clear X0 hrd0 hbw
  have cz : (w1.alloc (.cells #[.int .u8 3, .int .u16 (C : Int), .int .u32 (N : Int)] 70)).cell? ⟨w1.heap.size, 1, none⟩ = some (.int .u16 (C : Int)) := HX0.out.1.cell 1
  have cz2 : (w1.alloc (.cells #[.int .u8 3, .int .u16 (C : Int), .int .u32 (N : Int)] 70)).cell? ⟨w1.heap.size, 2, none⟩ = some (.int .u32 (N : Int)) := HX0.out.1.cell 2
  go_wp2_with fail
  obtain ⟨X0, hrd0, hbw0⟩ := HX0.out
  have hs0' : w1.heap.size + 1 = (w1.alloc (.cells #[.int .u8 3, .int .u16 (C : Int), .int .u32 (N : Int)] 70)).heap.size := by simp
  have hh : w1.heap.size = w1.heap.size := rfl
  obtain ⟨W0, hW0⟩ : ∃ W0, w1.alloc (.cells #[.int .u8 3, .int .u16 (C : Int), .int .u32 (N : Int)] 70) = W0 := ⟨_, rfl⟩
  rw [hW0] at X0 hrd0 hbw0 hs0' ⊢
  clear hW0 HX0 cz cz2 hh
  obtain ⟨h, hh⟩ : ∃ h, w1.heap.size = h := ⟨_, rfl⟩
  rw [hh] at X0 hgl hs0' ⊢
  clear hh
  have NB := number_any g B r00 false 4 W0 hrd0 (by omega)
  unfold RetNm at NB
  obtain ⟨k1, k2, k3⟩ := Hr0.out
  rw [k1, k2, k3] at NB
  have HNB := Lib.hid NB
  clear NB k1 k2 k3
  refine HNB.out.mono ?_
  rintro e w2 ⟨rfl, hrd2, hbt2⟩
  rw [Bool.false_or] at hrd2
  have X2 := (X0.grown hbt2 (by simp; omega)).alloc (.cells #[.int .u32 (c0 : Int)] 22)
  have hb2 : Below w.heap.size w w2 := below_but hbw0 hbt2 hg (by omega)
  have hsz2 : h + 1 ≤ w2.heap.size := by have := hbt2.size; omega
  have ownC := own_one (base := h + 1) (Blk.new w2 22 #[.int .u32 (c0 : Int)]) (by omega)
  have hrd3 := hrd2.below ((ball (Below.refl _ _) (.cells #[.int .u32 (c0 : Int)] 22) : Below w2.heap.size w2 _).mono (by omega))
  have hb3 : Below w.heap.size w (w2.alloc (.cells #[.int .u32 (c0 : Int)] 22)) := ball hb2 _
  have hsz3 : h + 1 ≤ (w2.alloc (.cells #[.int .u32 (c0 : Int)] 22)).heap.size := by simp; omega
  clear X0 hrd0 hbw0 hbt2 hb2
  have c1 : (w2.alloc (.cells #[.int .u32 (c0 : Int)] 22)).cell? ⟨h, 1, none⟩ = some (.int .u16 (C : Int)) := X2.cell 1
  go_wp2_with fail
  go_loopw [8, 9, 33] (fun cv rv iv wr => ∃ j : Nat, j ≤ C ∧ iv = .int .u16 (j : Int) ∧ wr.ownsRow (h + 1) 22 1 cv (j + 1) (vN (c0 :: (riMany j r0).map Prod.snd)) ∧ wr.ownsRow (h + 1) 27 3 rv j (vE ((riMany j r0).map Prod.fst)) ∧ Rd wr g B (riRest j r0) (s0 || riSh j r0) ∧ Blk wr h 70 #[.int .u8 3, .int .u16 (C : Int), .int .u32 (N : Int)] ∧ Below w.heap.size w wr ∧ h + 1 ≤ wr.heap.size) (fun _ _ iv _ => C - (intOf iv).toNat)
  case atStart => exact ⟨0, by omega, rfl, ownC, ⟨rfl, .inl ⟨rfl, rfl⟩⟩, by simpa [riSh, riRest] using hrd3, X2, hb3, hsz3⟩
  case round =>
    clear X2 ownC hrd2 hrd3 hb3 hsz2 hsz3 c1
    obtain ⟨j, hj, rfl, hownC, hownE, hrd, hX, hb, hsz⟩ := hrel
    have r0' : (0 : Int) ≤ (j : Int) := by omega
    by_cases hlt : j < C
    · have r1 : (j : Int) < (C : Int) := by omega
      obtain ⟨st1, st2, st3⟩ := ri_step j r0
      have HST := Lib.hid (And.intro st1 (And.intro st2 st3))
      clear st1 st2 st3
      have EN := Lib.hid (entry_any g B (riRest j r0) (s0 || riSh j r0) wr hrd)
      have NM := Lib.hid fun (W : World) (h : Rd W g B (rdR (riRest j r0)) ((s0 || riSh j r0) || rdS (riRest j r0))) => number_any g B (rdR (riRest j r0)) _ 4 W h (by omega)
      obtain ⟨E, hE⟩ : ∃ E, rdE (riRest j r0) = E := ⟨_, rfl⟩
      obtain ⟨x, hx⟩ : ∃ x, riC (riRest j r0) = x := ⟨_, rfl⟩
      unfold RetEn at EN
      unfold RetNm at NM
      have hx' : beVal (tk (rdR (riRest j r0)) 4) = x := hx
      rw [hE] at EN
      rw [hx'] at NM
      have HE := Lib.hid (And.intro hE hx); clear hE hx hx'
      obtain ⟨es, ep, eq⟩ := E
      unfold En.agg at EN
      simp only at EN
      go_wp2_with fail
      refine EN.out.mono ?_
      rintro e w3 ⟨rfl, hrd3, hbt⟩
      have hownC3 := own_but hownC hbt (by omega)
      have hownE3 := own_but hownE hbt (by omega)
      have hX3 := hX.grown hbt (by simp; omega)
      have hb3 : Below w.heap.size w w3 := below_but hb hbt hg (by have := hX.lt; omega)
      have hsz3 := Nat.le_trans hsz hbt.size
      clear hownC hownE hrd hX hb hbt
      go_wp2_with (at_builtin; go_loud (refine wpList_pushX (news := En.cells ⟨es, ep, eq⟩) rfl _ _ 29 rfl (h + 1) 27 i0 _ 3 24 Try.underlying29 hi0 hz0 hs0 hy0 rfl (by decide) u9 j _ rfl hownE3 rfl _ rfl rfl rfl (cells_oneE _) (by omega) (by omega) hsz3 ?_); intro v4 w4 hownE4 hg4)
      have hk4 : Below (h + 1) w3 w4 := belowX_grown hownE3 (Nat.le_refl _) hsz3 hg4 (Below.refl _ _)
      have hownC4 := ownX_grown hownE3 hownC3 (by decide) hg4
      have hX4 := hX3.below hk4 (by omega)
      have hrd4 := hrd3.below (hk4.mono (by omega))
      have hb4 : Below w.heap.size w w4 := belowX_grown hownE3 (by omega) hsz3 hg4 hb3
      have hsz4 : h + 1 ≤ w4.heap.size := Nat.le_trans hsz3 hk4.size
      clear hownE3 hownC3 hX3 hrd3 hb3 hg4 hk4 hsz3
      refine (NM.out _ hrd4).mono ?_
      rintro e w5 ⟨rfl, hrd5, hbt⟩
      have hownC5 := own_but hownC4 hbt (by omega)
      have hownE5 := own_but hownE4 hbt (by omega)
      have hX5 := hX4.grown hbt (by simp; omega)
      have hb5 : Below w.heap.size w w5 := below_but hb4 hbt hg (by have := hX4.lt; omega)
      have hsz5 := Nat.le_trans hsz4 hbt.size
      clear hownC4 hownE4 hX4 hrd4 hb4 hbt hsz4
      go_wp2_with (at_builtin; go_loud (refine wpList_pushX (news := [.int .u32 (x : Int)]) rfl _ _ 44 rfl (h + 1) 22 i1 _ 1 4 Try.underlying44 hi1 hz1 hs1 hy1 rfl (by decide) u8 (j + 1) _ rfl hownC5 rfl _ rfl rfl rfl (by intro u hu; rw [List.mem_singleton] at hu; subst hu; rfl) (by omega) (by omega) hsz5 ?_); intro v6 w6 hownC6 hg6)
      have hk6 : Below (h + 1) w5 w6 := belowX_grown hownC5 (Nat.le_refl _) hsz5 hg6 (Below.refl _ _)
      have hownE6 := ownX_grown hownC5 hownE5 (by decide) hg6
      have hX6 := hX5.below hk6 (by omega)
      have hrd6 := hrd5.below (hk6.mono (by omega))
      have hb6 : Below w.heap.size w w6 := belowX_grown hownC5 (by omega) hsz5 hg6 hb5
      have hsz6 : h + 1 ≤ w6.heap.size := Nat.le_trans hsz5 hk6.size
      go_roundw
      case rel =>
        refine ⟨j + 1, by omega, by go_num, ?_, ?_, ?_, hX6, hb6, hsz6⟩
        · rw [HST.out.1, HE.out.1, HE.out.2, List.map_append, ← List.cons_append]
          show w6.ownsRow _ _ _ _ _ (vN (_ ++ [x]))
          rw [vN_snoc]; exact hownC6
        · rw [HST.out.1, HE.out.1, HE.out.2, List.map_append]
          show w6.ownsRow _ _ _ _ _ (vE (_ ++ [_]))
          rw [vE_snoc]; exact hownE6
        · rw [HST.out.2.1, HST.out.2.2]
          unfold riR riS
          simp only [← Bool.or_assoc]
          exact hrd6
      case measure => simp [intOf]; omega
    · obtain rfl : j = C := by omega
      obtain ⟨e1, e2, e3, e4, e5, e6⟩ := HL.out
      rw [e1] at hownC hownE
      rw [e2, e3] at hrd
      have ED := Lib.hid (ended_any g B R S wr hrd HRl.out)
      rw [e4] at ED
      have HED := Lib.hid ED; clear ED
      obtain ⟨A4, c4, rfl, hc4⟩ := own_form hownC
      obtain ⟨A5, c5, rfl, hc5⟩ := own_form hownE
      have hro := Reads.of_own hownE
      have MY := mayE_any A5 j c5 (L.map Prod.fst) wr hro (by omega)
      rw [e5] at MY
      have HO := Lib.hid (And.intro (World.ownsRow.mono hownC (show w.heap.size ≤ h + 1 by omega)) (And.intro (World.ownsRow.mono hownE (show w.heap.size ≤ h + 1 by omega)) e6))
      have HM := Lib.hid MY; clear MY e1 e2 e3 e4 e5 e6 hownC hownE hrd
      cases S
      rotate_left
      · go_wp2_with fail
        refine HED.out.mono ?_
        rintro e w' ⟨rfl, rfl⟩
        go_wp2
        exact bodyPost_ret (v := .tuple #[.slice none 0 0, .slice none 0 0, .int .i64 2]) (by simp [results, Try.results19, go_sem]) rfl ⟨rfl, hb⟩
      · cases Z
        · go_wp2_with fail
          refine HED.out.mono ?_
          rintro e w' ⟨rfl, rfl⟩
          go_wp2
          exact bodyPost_ret (v := .tuple #[.slice none 0 0, .slice none 0 0, .int .i64 2]) (by simp [results, Try.results19, go_sem]) rfl ⟨rfl, hb⟩
        · cases M
          · go_wp2_with fail
            refine HED.out.mono ?_
            rintro e w' ⟨rfl, rfl⟩
            go_wp2_with fail
            refine HM.out.mono ?_
            rintro e w3 ⟨rfl, hb3⟩
            go_wp2
            exact bodyPost_ret (v := .tuple #[.slice none 0 0, .slice none 0 0, .int .i64 2]) (by simp [results, Try.results19, go_sem]) rfl ⟨rfl, bto0 hb hb3⟩
          · go_wp2_with fail
            refine HED.out.mono ?_
            rintro e w' ⟨rfl, rfl⟩
            go_wp2_with fail
            refine HM.out.mono ?_
            rintro e w3 ⟨rfl, hb3⟩
            go_wp2
            obtain ⟨o1, o2, o3⟩ := HO.out
            refine bodyPost_ret (v := .tuple #[.slice A4 (j + 1) c4, .slice A5 j c5, .int .i64 0]) (by simp [results, Try.results19, go_sem]) rfl ?_
            show RetGi w c0 L _ _
            unfold RetGi
            rw [o3]
            exact ⟨A4, c4, A5, c5, rfl, hc4, hc5, own_below o1 hb3, own_below o2 hb3, bto0 hb hb3⟩
end Go.Proofs.Ytgdipljaddodhaa
