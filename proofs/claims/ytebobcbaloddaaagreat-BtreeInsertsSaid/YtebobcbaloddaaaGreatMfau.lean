/-
  Du.
-/
import Derived.Test.YtebobcbaloddaaaGreatMfat
import Derived.Deep.RegionLaw
import Derived.Test.YtebobcbaloddaaaGreatMfzz
namespace Go.Proofs.YtebobcbaloddaaaGreat
section
set_option linter.unusedSimpArgs false
set_option linter.unusedVariables false
set_option linter.unusedSimpArgs false
set_option linter.unusedVariables false
open Go.RowKit
section
variable {P : Program} {w : World} {ops : Array Oper} {rest : List Oper} {o : Oper} {a : Act} {Q : Exit → Act → World → Prop}
theorem wpList_push1 (hgd : o.guard = none) (s x : Operand) (t : TypeId)
 (ho : o.op = .call { callee := .builtin .append, args := #[s, x], argTypes := #[t, t] })
 (base : Nat) (e : TypeId) (i : TypeInfo) (z : Value) (bytes : Nat) (ht : P.underlying t = some (.slice e)) (hi : P.info? e = some i) (hz : i.zero = some z)
 (hsize : i.size = 1) (hby : i.bytes = bytes) (hzs : z.cells.size = 1)
 (v : Value) (n : Nat) (xs : List Value) (u : Value) (hs : a.eval s = v) (hown : w.ownsRow base e 1 v n xs)
 (g : Nat) (hx : a.eval x = .slice (some ⟨g, 0, none⟩) 1 1) (hg : g = w.heap.size) (h1 : u.oneCell' = true)
 (h63 : n + 1 ≤ 1000000000) (hbytes : bytes ≤ 10000) (hbase : base ≤ w.heap.size)
 (h : ∀ v' w', w'.ownsRow base e 1 v' (n + 1) (xs ++ [u]) → (w.alloc (.cells #[u] e)).grownBy w' v.ownBlock → wpList P ops Q rest (a.put o.dst v') w') : wpList P ops Q (o :: rest) a (w.alloc (.cells #[u] e)) := by
 subst hg
 have hb : (n + 1) * bytes ≤ 1000000000 * 10000 := Nat.mul_le_mul h63 hbytes
 exact wpList_append_any _ hgd s x t ho base e i z 1 bytes ht hi hz hsize hby hzs (by omega) v n xs hs (hown.alloc _) (w.heap.size + 1) _ 1 1 [u] hx (reads_new w _ _ rfl rfl) (by intro y hy; rw [List.mem_singleton] at hy; subst hy; exact h1) (by unfold maxLen; omega) (by omega) (by simp; omega) fun v' w' h2 h3 _ => h v' w' h2 h3
theorem wp_push1 {K : Act → World → Prop} (s x : Operand) (t : TypeId)
 (ho : o.op = .call { callee := .builtin .append, args := #[s, x], argTypes := #[t, t] })
 (base : Nat) (e : TypeId) (i : TypeInfo) (z : Value) (bytes : Nat) (ht : P.underlying t = some (.slice e)) (hi : P.info? e = some i) (hz : i.zero = some z)
 (hsize : i.size = 1) (hby : i.bytes = bytes) (hzs : z.cells.size = 1)
 (v : Value) (n : Nat) (xs : List Value) (u : Value) (hs : a.eval s = v) (hown : w.ownsRow base e 1 v n xs)
 (g : Nat) (hx : a.eval x = .slice (some ⟨g, 0, none⟩) 1 1) (hg : g = w.heap.size) (h1 : u.oneCell' = true)
 (h63 : n + 1 ≤ 1000000000) (hbytes : bytes ≤ 10000) (hbase : base ≤ w.heap.size)
 (h : ∀ v' w', w'.ownsRow base e 1 v' (n + 1) (xs ++ [u]) → (w.alloc (.cells #[u] e)).grownBy w' v.ownBlock → K (a.put o.dst v') w') : o.wp P a (w.alloc (.cells #[u] e)) K Q := by
 subst hg
 have hb : (n + 1) * bytes ≤ 1000000000 * 10000 := Nat.mul_le_mul h63 hbytes
 exact wp_append_any _ s x t ho base e i z 1 bytes ht hi hz hsize hby hzs (by omega) v n xs hs (hown.alloc _) (w.heap.size + 1) _ 1 1 [u] hx (reads_new w _ _ rfl rfl) (by intro y hy; rw [List.mem_singleton] at hy; subst hy; exact h1) (by unfold maxLen; omega) (by omega) (by simp; omega) fun v' w' h2 h3 _ => h v' w' h2 h3
end
theorem own_grown {w w' : World} {base base2 : Nat} {e e2 : TypeId} {size size2 n n2 : Nat} {v v2 : Value} {xs xs2 : List Value} {o : Obj} (h : w.ownsRow base e size v n xs) (h2 : w.ownsRow base2 e2 size2 v2 n2 xs2) (hne : e ≠ e2) (hg : (w.alloc o).grownBy w' v.ownBlock) : w'.ownsRow base2 e2 size2 v2 n2 xs2 := by
 refine (h2.alloc o).kept hg ?_
 rcases h2.2 with ⟨rfl, _⟩ | ⟨g, cap, cur, rfl, _, hh, _⟩
 · exact .inl rfl
 · exact .inr fun e' => own_blk_ne h hh hne e'.symm
theorem blk_grown {w w' : World} {base : Nat} {e : TypeId} {size n : Nat} {v : Value} {xs : List Value} {o : Obj} {g : Nat} {t : TypeId} {cs : Array Value} (h : w.ownsRow base e size v n xs) (hb : Blk w g t cs) (hne : e ≠ t) (hg : (w.alloc o).grownBy w' v.ownBlock) : Blk w' g t cs :=
 (hb.alloc o).grown hg fun e' => own_blk_ne h hb hne e'.symm
theorem below_grown {w w' : World} {base : Nat} {e : TypeId} {size n B : Nat} {v : Value} {xs : List Value} {o : Obj} {w0 : World} (h : w.ownsRow base e size v n xs) (hB : B ≤ base) (hbase : base ≤ w.heap.size) (hg : (w.alloc o).grownBy w' v.ownBlock) (hb : Below B w0 w) : Below B w0 w' := by
 refine (hb.alloc (by omega) o).grown hg (by simp; omega) fun k hk => ?_
 have := (h.lt k hk).1
 omega
theorem own_far {w : World} {base : Nat} {e : TypeId} {size n : Nat} {v : Value} {xs : List Value} {g : Nat} {t : TypeId} {cs : Array Value} (h : w.ownsRow base e size v n xs) (hb : Blk w g t cs) (hne : e ≠ t) (j : Nat) (u : Value) : (w.setCell ⟨g, j, none⟩ u).ownsRow base e size v n xs := by
 refine h.kept (row := some g) ⟨rfl, rfl, rfl, by simp [World.setCell], fun k hk hkg => Below.heap_setCell w _ u k (fun e' => hkg (by rw [e'])) ⟩ (.inr fun e' => own_blk_ne h hb hne e')
theorem sL_snoc (ps : List (List UInt8)) (p : List UInt8) : sL ps ++ [.string (str p)] = sL (ps ++ [p]) := by simp [sL]
theorem tL_snoc (T : List Bool) (b : Bool) : tL T ++ [.bool b] = tL (T ++ [b]) := by simp [tL]
def RetRD (w : World) (n : Nat) (ps : List (List UInt8)) (T : List Bool) (e : Ending) (w' : World) : Prop :=
 ∃ A c A2 c2, e = .returned (.tuple #[.agg #[.slice A n c, .slice A2 n c2], .bool true]) ∧ Reads w' w'.heap.size 1 A n (sL ps) ∧ Reads w' w'.heap.size 1 A2 n (tL T) ∧ n ≤ c ∧ n ≤ c2 ∧
   (∀ ad, A = some ad → w.heap.size ≤ ad.block) ∧ (∀ ad, A2 = some ad → w.heap.size ≤ ad.block) ∧ Below w.heap.size w w'
theorem own_hi {w : World} {base : Nat} {e : TypeId} {size n c : Nat} {A : Option Addr} {xs : List Value} (h : w.ownsRow base e size (.slice A n c) n xs) : ∀ ad, A = some ad → base ≤ ad.block := by
 rintro ad rfl
 rcases h.2 with ⟨e, _⟩ | ⟨g, cap, cur, e, hb, _⟩
 · injection e with e; cases e
 · injection e with e
   injection e with e
   subst e
   exact hb
set_option maxRecDepth 100000 in
set_option maxHeartbeats 2000000 in
theorem rload_ok (L : List UInt8) (n : Nat) (h1 : 1 ≤ n) (h2 : n ≤ 4096) (hL : L.length = n * 512) (w : World) :
 Calls Tryz.prog 36 #[.string (str L)] w (RetRD w n (pagesOf L n) (marksOf L n)) := by
 have hz : (str L).size = n * 512 := by rw [str_size, hL]
 have HL := Lib.hid hL; clear hL
 have d0 : IntKind.i64.wrap (((n * 512 : Nat) : Int).tdiv 512) = (n : Int) := by rw [Int.tdiv_eq_ediv_of_nonneg (by omega)]; simp [IntKind.wrap, IntKind.signed, IntKind.bits]; omega
 have d1 : ((n * 512 : Nat) : Int).tmod 512 = 0 := by rw [Int.tmod_eq_emod_of_nonneg (by omega)]; omega
 go_enter Tryz.func36, Tryz.ntmps36
 obtain ⟨i0, hi0, hz0, hs0, hy0⟩ := int_info8 Tryz.infoS
 obtain ⟨i1, hi1, hz1, hs1, hy1⟩ := int_info8 Tryz.infoBool
 go_wp2_with fail
 go_loopw [6] (fun v6 wr => ∃ (k : Nat) (A : Option Addr) (c : Nat) (A2 : Option Addr) (c2 : Nat), v6 = .int .i64 k ∧ k ≤ n ∧ Blk wr (w.heap.size + 1) 90 #[.slice A k c, .slice A2 k c2] ∧ Blk wr w.heap.size 90 #[.slice none 0 0, .slice none 0 0] ∧
  wr.ownsRow (w.heap.size + 2) 9 1 (.slice A k c) k (sL (pagesOf L k)) ∧ wr.ownsRow (w.heap.size + 2) 4 1 (.slice A2 k c2) k (tL (marksOf L k)) ∧ Below w.heap.size w wr ∧ w.heap.size + 2 ≤ wr.heap.size) (fun v6 _ => n - (intOf v6).toNat)
 case atStart =>
  exact ⟨0, none, 0, none, 0, rfl, by omega, Blk.newAt (by simp), (Blk.new _ _ _).alloc _, World.ownsRow_nil _ _ _ _, World.ownsRow_nil _ _ _ _, ball (ball (Below.refl _ _) _) _, by simp⟩
 case round =>
  obtain ⟨k, A, c, A2, c2, rfl, hk, hD, hR, ho1, ho2, hb, hz2⟩ := hrel
  have q0 : (0 : Int) ≤ (k : Int) := by omega
  by_cases hlt : k < n
  · have q1 : (k : Int) < (n : Int) := by omega
    have c0 := hD.cell 0
    have f0 := hD.frozen 0
    have a0 : ∀ o, (wr.alloc o).frozen? ⟨w.heap.size + 1, 0, none⟩ = false := fun o => (hD.alloc o).frozen 0
    have sl := cut_mid (P := Tryz.prog) Tryz.underlying9 L ((L.drop (k * 512)).take 512) .i64 .i64 (512 * (k : Int)) (512 * (k : Int) + 512) (by omega) (by omega) (by rw [HL.out]; omega) (by rw [show (512 * (k : Int)).toNat = k * 512 from by omega, show (512 * (k : Int) + 512).toNat - k * 512 = 512 from by omega])
    obtain ⟨p, hp⟩ : ∃ p, (L.drop (k * 512)).take 512 = p := ⟨_, rfl⟩
    rw [hp] at sl
    have Hp := Lib.hid hp; clear hp
    have HD := Lib.hid (And.intro hD (And.intro ho1 (And.intro ho2 hb)))
    clear hD hb
    go_wp2_with (at_builtin; refine wpList_push1 rfl (.tmp 38) (.tmp 40) 88 rfl (w.heap.size + 2) 9 i0 (.string ⟨#[]⟩) 16 Tryz.underlying88 hi0 hz0 hs0 hy0 rfl _ k (sL (pagesOf L k)) (.string (str p)) rfl ho1 _ rfl rfl rfl (by omega) (by omega) hz2 ?_; intro v' w1 ho1' hg1; obtain ⟨A', c', rfl, hc'⟩ := own_form ho1'; have hD1 := blk_grown ho1 HD.out.1 (by decide) hg1; have c10 := hD1.cell 0; have f10 := hD1.frozen 0)
    have ho2' := own_grown ho1 ho2 (by decide) hg1
    have hR' := blk_grown ho1 hR (by decide) hg1
    have hb' := below_grown ho1 (by omega) hz2 hg1 HD.out.2.2.2
    have hs' : wr.heap.size + 1 ≤ w1.heap.size := by have := hg1.size; simpa using this
    have D2 := hD1.set_ 0 (.slice A' (k + 1) c')
    have R2 := hR'.far (p := ⟨w.heap.size + 1, 0, none⟩) (by simp) (.slice A' (k + 1) c')
    have o1 := own_far ho1' hD1 (by decide) 0 (.slice A' (k + 1) c')
    have o2 := own_far ho2' hD1 (by decide) 0 (.slice A' (k + 1) c')
    have b2 := hb'.setCell (show w.heap.size ≤ (⟨w.heap.size + 1, 0, none⟩ : Addr).block by simp) (.slice A' (k + 1) c')
    have s2 : w.heap.size + 2 ≤ (w1.setCell ⟨w.heap.size + 1, 0, none⟩ (.slice A' (k + 1) c')).heap.size := by simp [World.setCell]; omega
    obtain ⟨W2, hW2⟩ : ∃ W2, w1.setCell ⟨w.heap.size + 1, 0, none⟩ (.slice A' (k + 1) c') = W2 := ⟨_, rfl⟩
    rw [hW2] at D2 R2 o1 o2 b2 s2 ⊢
    clear hW2 c10 f10 hD1 ho1' ho2' hR' hb' hg1 hs' ho1 ho2 c0 f0 a0 hR HD hz2
    have D2' : Blk W2 (w.heap.size + 1) 90 #[.slice A' (k + 1) c', .slice A2 k c2] := D2
    clear D2
    have e0 : W2.cell? ⟨w.heap.size + 1, 1, none⟩ = some (.slice A2 k c2) := D2'.cell 1
    have e1 : ∀ o, (W2.alloc o).cell? ⟨w.heap.size + 1, 1, none⟩ = some (.slice A2 k c2) := fun o => (D2'.alloc o).cell 1
    have OX : Hid (∀ m, (W2.drewN m).ownsRow (w.heap.size + 2) 4 1 (.slice A2 k c2) k (tL (marksOf L k))) := fun _ => o2
    have DX : Hid (∀ m, Blk (W2.drewN m) (w.heap.size + 1) 90 #[.slice A' (k + 1) c', .slice A2 k c2]) := fun _ => D2'
    have RX : Hid (∀ m, Blk (W2.drewN m) w.heap.size 90 #[.slice none 0 0, .slice none 0 0]) := fun _ => R2
    have BX : Hid (∀ m, Below w.heap.size w (W2.drewN m)) := fun m => bdr b2 m
    have O1 : Hid (∀ m, (W2.drewN m).ownsRow (w.heap.size + 2) 9 1 (.slice A' (k + 1) c') (k + 1) (sL (pagesOf L k) ++ [.string (str p)])) := fun _ => o1
    clear o1 o2 D2' R2 b2
    by_cases hk0 : k = 0
    · have HM : Hid (mark L k = true) := by unfold mark Hid; simp [hk0]
      have hkb : ((k : Int) == 0) = true := by simp; omega
      clear hk0
      refine wp_region_held_drew (S := (fun _ => True)) (by kernel_rfl) trivial (fun hHeld => ?_)
      try dsimp only at hHeld
      refine zt 0 ?_ rfl (by kernel_rfl) (fun _ _ _ h => h) ⟨rfl, ?_⟩ hHeld ?_
      rotate_left
      focus (intro wx hSw; (try dsimp only at hSw); (try go_split_ands); go_simp; (try with_reducible rfl))
      try simp only [Act.put, za1, za2, za3, za4, za5, za6]
      refine zt 2 ?_ rfl (by kernel_rfl) (fun _ _ _ h => h) ⟨rfl, ?_⟩ hHeld ?_
      rotate_left
      focus (intro wx hSw; (try dsimp only at hSw); (try go_split_ands); go_simp; (try with_reducible rfl))
      try simp only [Act.put, za1, za2, za3, za4, za5, za6]
      refine zt 3 ?_ rfl (by kernel_rfl) (fun _ _ _ h => h) ⟨rfl, ?_⟩ hHeld ?_
      rotate_left
      focus (intro wx hSw; (try dsimp only at hSw); (try go_split_ands); go_simp; (try with_reducible rfl))
      try simp only [Act.put, za1, za2, za3, za4, za5, za6]
      refine zt 4 ?_ rfl (by kernel_rfl) (fun _ _ _ h => h) ⟨rfl, ?_⟩ hHeld ?_
      rotate_left
      focus (intro wx hSw; (try dsimp only at hSw); (try go_split_ands); go_simp; (try with_reducible rfl))
      try simp only [Act.put, za1, za2, za3, za4, za5, za6]
      refine wpAnyH_take (i := 5) (v := undef) rfl (by kernel_rfl) (by kernel_rfl) (by kernel_rfl) (fun _ _ _ h => h) (Or.inr ⟨rfl, rfl⟩) hHeld ?_
      try simp only [Act.put, za1, za2, za3, za4, za5, za6]
      refine wpAnyH_take (i := 6) (v := undef) rfl (by kernel_rfl) (by kernel_rfl) (by kernel_rfl) (fun _ _ _ h => h) (Or.inr ⟨rfl, rfl⟩) hHeld ?_
      try simp only [Act.put, za1, za2, za3, za4, za5, za6]
      refine wpAnyH_take (i := 7) (v := undef) rfl (by kernel_rfl) (by kernel_rfl) (by kernel_rfl) (fun _ _ _ h => h) (Or.inr ⟨rfl, rfl⟩) hHeld ?_
      try simp only [Act.put, za1, za2, za3, za4, za5, za6]
      refine zt 8 ?_ rfl (by kernel_rfl) (fun _ _ _ h => h) ⟨rfl, ?_⟩ hHeld ?_
      rotate_left
      focus (intro wx hSw; (try dsimp only at hSw); (try go_split_ands); go_simp; (try with_reducible rfl))
      try simp only [Act.put, za1, za2, za3, za4, za5, za6]
      refine wpAnyH_ready (rs := [1, 9]) (by kernel_rfl) (by simp) (AllReadyH.cons rfl (fun K hK => ?_) (AllReadyH.cons rfl (fun K hK => ?_) AllReadyH.nil))
      · go_simp
        refine hK.out _ _ ?_ (fun hHeld => ?_)
        · ((try dsimp only); (try dsimp only at hHeld); try trivial)
        clear hK K
        try dsimp only at hHeld
        try simp only [Act.put, za1, za2, za3, za4, za5, za6]
        refine wpAnyH_ready (rs := [9]) (by kernel_rfl) (by simp) (AllReadyH.cons rfl (fun K hK => ?_) AllReadyH.nil)
        go_simp
        refine hK.out _ _ ?_ (fun hHeld => ?_)
        · ((try dsimp only); (try dsimp only at hHeld); try trivial)
        clear hK K
        try dsimp only at hHeld
        try simp only [Act.put, za1, za2, za3, za4, za5, za6]
        refine wpAnyH_ready (rs := [10]) (by kernel_rfl) (by simp) (AllReadyH.cons rfl (fun K hK => ?_) AllReadyH.nil)
        refine wp_push1 (.tmp 44) (.tmp 52) 59 rfl (w.heap.size + 2) 4 i1 (.bool false) 1 Tryz.underlying59 hi1 hz1 hs1 hy1 rfl _ k _ (.bool true) (by simp [Act.eval, Act.put]) (OX.out _) _ (by simp [Act.eval, Act.put]) rfl rfl (by omega) (by omega) s2 ?_
        intro v' w3 o3 hg3
        obtain ⟨A3, c3, rfl, hc3⟩ := own_form o3
        have D3 := blk_grown (OX.out _) (DX.out _) (by decide) hg3
        have d31 := D3.cell 1
        have f31 := D3.frozen 1
        refine hK.out _ _ ?_ (fun hHeld => ?_)
        · ((try dsimp only); (try dsimp only at hHeld); try trivial)
        clear hK K
        try dsimp only at hHeld
        try simp only [Act.put, za1, za2, za3, za4, za5, za6]
        refine zt 11 ?_ rfl (by kernel_rfl) (fun _ _ _ h => h) ⟨rfl, ?_⟩ hHeld ?_
        rotate_left
        focus (intro wx hSw; (try dsimp only at hSw); (try go_split_ands); go_simp; (try with_reducible rfl))
        try simp only [Act.put, za1, za2, za3, za4, za5, za6]
        refine wpAnyH_ready (rs := [12]) (by kernel_rfl) (by simp) (AllReadyH.cons rfl (fun K hK => ?_) AllReadyH.nil)
        go_simp
        refine hK.out _ _ ?_ (fun hHeld => ?_)
        · ((try dsimp only); (try dsimp only at hHeld); try trivial)
        clear hK K
        try dsimp only at hHeld
        try simp only [Act.put, za1, za2, za3, za4, za5, za6]
        refine wpAnyH_done (by kernel_rfl) ?_ _
        clear hHeld
        have R3 := blk_grown (OX.out _) (RX.out _) (by decide) hg3
        have b3 := below_grown (OX.out _) (by omega) s2 hg3 (BX.out _)
        have o4 := own_grown (OX.out _) (O1.out _) (by decide) hg3
        have z3 : W2.heap.size + 1 ≤ w3.heap.size := by have := hg3.size; simpa using this
        go_wp2
        go_roundw
        case rel => exact ⟨k + 1, A', c', A3, c3, by go_num, by omega, D3.set_ 1 _, R3.far (by simp) _, by rw [pagesOf_succ, ← sL_snoc, Hp.out]; exact own_far o4 D3 (by decide) 1 _, by rw [marksOf_succ, ← tL_snoc, HM.out]; exact own_far o3 D3 (by decide) 1 _, b3.setCell (by simp) _, by simp [World.setCell]; omega⟩
        case measure => simp [intOf]; omega
      · go_simp
        refine hK.out _ _ ?_ (fun hHeld => ?_)
        · ((try dsimp only); (try dsimp only at hHeld); try trivial)
        clear hK K
        try dsimp only at hHeld
        try simp only [Act.put, za1, za2, za3, za4, za5, za6]
        refine wpAnyH_ready (rs := [1]) (by kernel_rfl) (by simp) (AllReadyH.cons rfl (fun K hK => ?_) AllReadyH.nil)
        go_simp
        refine hK.out _ _ ?_ (fun hHeld => ?_)
        · ((try dsimp only); (try dsimp only at hHeld); try trivial)
        clear hK K
        try dsimp only at hHeld
        try simp only [Act.put, za1, za2, za3, za4, za5, za6]
        refine wpAnyH_ready (rs := [10]) (by kernel_rfl) (by simp) (AllReadyH.cons rfl (fun K hK => ?_) AllReadyH.nil)
        refine wp_push1 (.tmp 44) (.tmp 52) 59 rfl (w.heap.size + 2) 4 i1 (.bool false) 1 Tryz.underlying59 hi1 hz1 hs1 hy1 rfl _ k _ (.bool true) (by simp [Act.eval, Act.put]) (OX.out _) _ (by simp [Act.eval, Act.put]) rfl rfl (by omega) (by omega) s2 ?_
        intro v' w3 o3 hg3
        obtain ⟨A3, c3, rfl, hc3⟩ := own_form o3
        have D3 := blk_grown (OX.out _) (DX.out _) (by decide) hg3
        have d31 := D3.cell 1
        have f31 := D3.frozen 1
        refine hK.out _ _ ?_ (fun hHeld => ?_)
        · ((try dsimp only); (try dsimp only at hHeld); try trivial)
        clear hK K
        try dsimp only at hHeld
        try simp only [Act.put, za1, za2, za3, za4, za5, za6]
        refine zt 11 ?_ rfl (by kernel_rfl) (fun _ _ _ h => h) ⟨rfl, ?_⟩ hHeld ?_
        rotate_left
        focus (intro wx hSw; (try dsimp only at hSw); (try go_split_ands); go_simp; (try with_reducible rfl))
        try simp only [Act.put, za1, za2, za3, za4, za5, za6]
        refine wpAnyH_ready (rs := [12]) (by kernel_rfl) (by simp) (AllReadyH.cons rfl (fun K hK => ?_) AllReadyH.nil)
        go_simp
        refine hK.out _ _ ?_ (fun hHeld => ?_)
        · ((try dsimp only); (try dsimp only at hHeld); try trivial)
        clear hK K
        try dsimp only at hHeld
        try simp only [Act.put, za1, za2, za3, za4, za5, za6]
        refine wpAnyH_done (by kernel_rfl) ?_ _
        clear hHeld
        have R3 := blk_grown (OX.out _) (RX.out _) (by decide) hg3
        have b3 := below_grown (OX.out _) (by omega) s2 hg3 (BX.out _)
        have o4 := own_grown (OX.out _) (O1.out _) (by decide) hg3
        have z3 : W2.heap.size + 1 ≤ w3.heap.size := by have := hg3.size; simpa using this
        go_wp2
        go_roundw
        case rel => exact ⟨k + 1, A', c', A3, c3, by go_num, by omega, D3.set_ 1 _, R3.far (by simp) _, by rw [pagesOf_succ, ← sL_snoc, Hp.out]; exact own_far o4 D3 (by decide) 1 _, by rw [marksOf_succ, ← tL_snoc, HM.out]; exact own_far o3 D3 (by decide) 1 _, b3.setCell (by simp) _, by simp [World.setCell]; omega⟩
        case measure => simp [intOf]; omega
    · obtain ⟨x, hx⟩ : ∃ x, p[0]? = some x := ⟨_, List.getElem?_eq_getElem (by rw [← Hp.out, List.length_take, List.length_drop, HL.out]; omega)⟩
      have hkb : ((k : Int) == 0) = false := by simp; omega
      have HM : Hid (mark L k = !decide (x = 0)) := by
       have : L[k * 512]? = some x := by
        rw [← Hp.out, List.getElem?_take_of_lt (by omega), List.getElem?_drop, Nat.add_zero] at hx
        exact hx
       unfold mark Hid
       rw [this]
       simp [hk0]
      have ix : ∀ W, (Instr.index 9 (.string (str p)) (.int .i64 0)).run Tryz.prog W = .ok (.int .u8 (x.toNat : Int)) W := by
       intro W
       have hz : 0 < (str p).size := by rw [str_size]; exact lt_of_at hx
       have h := run_index_string (P := Tryz.prog) (w := W) 9 (str p) .i64 0 Tryz.underlying9
       rw [dif_pos ⟨by omega, by omega⟩] at h
       rw [h]
       have := str_at p 0 hz
       rw [hx] at this
       injection this with this
       rw [this]; rfl
      have hne : ((x.toNat : Int) != 0) = !decide (x = 0) := by
       by_cases h : x = 0
       · subst h; rfl
       · have : ¬ x.toNat = 0 := fun e => h (UInt8.toNat_inj.1 e)
         simp [h]; omega
      obtain ⟨mk, hmk⟩ : ∃ mk, (!decide (x = 0)) = mk := ⟨_, rfl⟩
      rw [hmk] at HM hne
      clear hk0 hx hmk
      refine wp_region_held_drew (S := (fun _ => True)) (by kernel_rfl) trivial (fun hHeld => ?_)
      try dsimp only at hHeld
      refine zt 0 ?_ rfl (by kernel_rfl) (fun _ _ _ h => h) ⟨rfl, ?_⟩ hHeld ?_
      rotate_left
      focus (intro wx hSw; (try dsimp only at hSw); (try go_split_ands); go_simp; (try with_reducible rfl))
      try simp only [Act.put, za1, za2, za3, za4, za5, za6]
      refine zt 2 ?_ rfl (by kernel_rfl) (fun _ _ _ h => h) ⟨rfl, ?_⟩ hHeld ?_
      rotate_left
      focus (intro wx hSw; (try dsimp only at hSw); (try go_split_ands); go_simp; (try with_reducible rfl))
      try simp only [Act.put, za1, za2, za3, za4, za5, za6]
      refine zt 3 ?_ rfl (by kernel_rfl) (fun _ _ _ h => h) ⟨rfl, ?_⟩ hHeld ?_
      rotate_left
      focus (intro wx hSw; (try dsimp only at hSw); (try go_split_ands); go_simp; (try with_reducible rfl))
      try simp only [Act.put, za1, za2, za3, za4, za5, za6]
      refine zt 4 ?_ rfl (by kernel_rfl) (fun _ _ _ h => h) ⟨rfl, ?_⟩ hHeld ?_
      rotate_left
      focus (intro wx hSw; (try dsimp only at hSw); (try go_split_ands); go_simp; (try with_reducible rfl))
      try simp only [Act.put, za1, za2, za3, za4, za5, za6]
      refine zt 5 ?_ rfl (by kernel_rfl) (fun _ _ _ h => h) ⟨rfl, ?_⟩ hHeld ?_
      rotate_left
      focus (intro wx hSw; (try dsimp only at hSw); (try go_split_ands); go_simp; (try with_reducible rfl))
      try simp only [Act.put, za1, za2, za3, za4, za5, za6]
      refine zt 6 ?_ rfl (by kernel_rfl) (fun _ _ _ h => h) ⟨rfl, ?_⟩ hHeld ?_
      rotate_left
      focus (intro wx hSw; (try dsimp only at hSw); (try go_split_ands); go_simp; (try with_reducible rfl))
      try simp only [Act.put, za1, za2, za3, za4, za5, za6]
      refine zt 7 ?_ rfl (by kernel_rfl) (fun _ _ _ h => h) ⟨rfl, ?_⟩ hHeld ?_
      rotate_left
      focus (intro wx hSw; (try dsimp only at hSw); (try go_split_ands); go_simp; (try with_reducible rfl))
      try simp only [Act.put, za1, za2, za3, za4, za5, za6]
      refine zt 8 ?_ rfl (by kernel_rfl) (fun _ _ _ h => h) ⟨rfl, ?_⟩ hHeld ?_
      rotate_left
      focus (intro wx hSw; (try dsimp only at hSw); (try go_split_ands); go_simp; (try with_reducible rfl))
      try simp only [Act.put, za1, za2, za3, za4, za5, za6]
      refine wpAnyH_ready (rs := [1, 9]) (by kernel_rfl) (by simp) (AllReadyH.cons rfl (fun K hK => ?_) (AllReadyH.cons rfl (fun K hK => ?_) AllReadyH.nil))
      · go_simp
        refine hK.out _ _ ?_ (fun hHeld => ?_)
        · ((try dsimp only); (try dsimp only at hHeld); try trivial)
        clear hK K
        try dsimp only at hHeld
        try simp only [Act.put, za1, za2, za3, za4, za5, za6]
        refine wpAnyH_ready (rs := [9]) (by kernel_rfl) (by simp) (AllReadyH.cons rfl (fun K hK => ?_) AllReadyH.nil)
        go_simp
        refine hK.out _ _ ?_ (fun hHeld => ?_)
        · ((try dsimp only); (try dsimp only at hHeld); try trivial)
        clear hK K
        try dsimp only at hHeld
        try simp only [Act.put, za1, za2, za3, za4, za5, za6]
        refine wpAnyH_ready (rs := [10]) (by kernel_rfl) (by simp) (AllReadyH.cons rfl (fun K hK => ?_) AllReadyH.nil)
        refine wp_push1 (.tmp 44) (.tmp 52) 59 rfl (w.heap.size + 2) 4 i1 (.bool false) 1 Tryz.underlying59 hi1 hz1 hs1 hy1 rfl _ k _ (.bool mk) (by simp [Act.eval, Act.put]) (OX.out _) _ (by simp [Act.eval, Act.put]) rfl rfl (by omega) (by omega) s2 ?_
        intro v' w3 o3 hg3
        obtain ⟨A3, c3, rfl, hc3⟩ := own_form o3
        have D3 := blk_grown (OX.out _) (DX.out _) (by decide) hg3
        have d31 := D3.cell 1
        have f31 := D3.frozen 1
        refine hK.out _ _ ?_ (fun hHeld => ?_)
        · ((try dsimp only); (try dsimp only at hHeld); try trivial)
        clear hK K
        try dsimp only at hHeld
        try simp only [Act.put, za1, za2, za3, za4, za5, za6]
        refine zt 11 ?_ rfl (by kernel_rfl) (fun _ _ _ h => h) ⟨rfl, ?_⟩ hHeld ?_
        rotate_left
        focus (intro wx hSw; (try dsimp only at hSw); (try go_split_ands); go_simp; (try with_reducible rfl))
        try simp only [Act.put, za1, za2, za3, za4, za5, za6]
        refine wpAnyH_ready (rs := [12]) (by kernel_rfl) (by simp) (AllReadyH.cons rfl (fun K hK => ?_) AllReadyH.nil)
        go_simp
        refine hK.out _ _ ?_ (fun hHeld => ?_)
        · ((try dsimp only); (try dsimp only at hHeld); try trivial)
        clear hK K
        try dsimp only at hHeld
        try simp only [Act.put, za1, za2, za3, za4, za5, za6]
        refine wpAnyH_done (by kernel_rfl) ?_ _
        clear hHeld
        have R3 := blk_grown (OX.out _) (RX.out _) (by decide) hg3
        have b3 := below_grown (OX.out _) (by omega) s2 hg3 (BX.out _)
        have o4 := own_grown (OX.out _) (O1.out _) (by decide) hg3
        have z3 : W2.heap.size + 1 ≤ w3.heap.size := by have := hg3.size; simpa using this
        go_wp2
        go_roundw
        case rel => exact ⟨k + 1, A', c', A3, c3, by go_num, by omega, D3.set_ 1 _, R3.far (by simp) _, by rw [pagesOf_succ, ← sL_snoc, Hp.out]; exact own_far o4 D3 (by decide) 1 _, by rw [marksOf_succ, ← tL_snoc, HM.out]; exact own_far o3 D3 (by decide) 1 _, b3.setCell (by simp) _, by simp [World.setCell]; omega⟩
        case measure => simp [intOf]; omega
      · go_simp
        refine hK.out _ _ ?_ (fun hHeld => ?_)
        · ((try dsimp only); (try dsimp only at hHeld); try trivial)
        clear hK K
        try dsimp only at hHeld
        try simp only [Act.put, za1, za2, za3, za4, za5, za6]
        refine wpAnyH_ready (rs := [1]) (by kernel_rfl) (by simp) (AllReadyH.cons rfl (fun K hK => ?_) AllReadyH.nil)
        go_simp
        refine hK.out _ _ ?_ (fun hHeld => ?_)
        · ((try dsimp only); (try dsimp only at hHeld); try trivial)
        clear hK K
        try dsimp only at hHeld
        try simp only [Act.put, za1, za2, za3, za4, za5, za6]
        refine wpAnyH_ready (rs := [10]) (by kernel_rfl) (by simp) (AllReadyH.cons rfl (fun K hK => ?_) AllReadyH.nil)
        refine wp_push1 (.tmp 44) (.tmp 52) 59 rfl (w.heap.size + 2) 4 i1 (.bool false) 1 Tryz.underlying59 hi1 hz1 hs1 hy1 rfl _ k _ (.bool mk) (by simp [Act.eval, Act.put]) (OX.out _) _ (by simp [Act.eval, Act.put]) rfl rfl (by omega) (by omega) s2 ?_
        intro v' w3 o3 hg3
        obtain ⟨A3, c3, rfl, hc3⟩ := own_form o3
        have D3 := blk_grown (OX.out _) (DX.out _) (by decide) hg3
        have d31 := D3.cell 1
        have f31 := D3.frozen 1
        refine hK.out _ _ ?_ (fun hHeld => ?_)
        · ((try dsimp only); (try dsimp only at hHeld); try trivial)
        clear hK K
        try dsimp only at hHeld
        try simp only [Act.put, za1, za2, za3, za4, za5, za6]
        refine zt 11 ?_ rfl (by kernel_rfl) (fun _ _ _ h => h) ⟨rfl, ?_⟩ hHeld ?_
        rotate_left
        focus (intro wx hSw; (try dsimp only at hSw); (try go_split_ands); go_simp; (try with_reducible rfl))
        try simp only [Act.put, za1, za2, za3, za4, za5, za6]
        refine wpAnyH_ready (rs := [12]) (by kernel_rfl) (by simp) (AllReadyH.cons rfl (fun K hK => ?_) AllReadyH.nil)
        go_simp
        refine hK.out _ _ ?_ (fun hHeld => ?_)
        · ((try dsimp only); (try dsimp only at hHeld); try trivial)
        clear hK K
        try dsimp only at hHeld
        try simp only [Act.put, za1, za2, za3, za4, za5, za6]
        refine wpAnyH_done (by kernel_rfl) ?_ _
        clear hHeld
        have R3 := blk_grown (OX.out _) (RX.out _) (by decide) hg3
        have b3 := below_grown (OX.out _) (by omega) s2 hg3 (BX.out _)
        have o4 := own_grown (OX.out _) (O1.out _) (by decide) hg3
        have z3 : W2.heap.size + 1 ≤ w3.heap.size := by have := hg3.size; simpa using this
        go_wp2
        go_roundw
        case rel => exact ⟨k + 1, A', c', A3, c3, by go_num, by omega, D3.set_ 1 _, R3.far (by simp) _, by rw [pagesOf_succ, ← sL_snoc, Hp.out]; exact own_far o4 D3 (by decide) 1 _, by rw [marksOf_succ, ← tL_snoc, HM.out]; exact own_far o3 D3 (by decide) 1 _, b3.setCell (by simp) _, by simp [World.setCell]; omega⟩
        case measure => simp [intOf]; omega
  · obtain rfl : k = n := by omega
    have c0 : wr.cell? ⟨w.heap.size + 1, 0, none⟩ = some (.slice A k c) := hD.cell 0
    have c1 : wr.cell? ⟨w.heap.size + 1, 1, none⟩ = some (.slice A2 k c2) := hD.cell 1
    have r0 : wr.cell? ⟨w.heap.size, 0, none⟩ = some (.slice none 0 0) := hR.cell 0
    have r1 : wr.cell? ⟨w.heap.size, 1, none⟩ = some (.slice none 0 0) := hR.cell 1
    have f0 := hR.frozen 0
    have f1 := hR.frozen 1
    clear hz d0 d1
    go_wp2
    have q1 := own_far (own_far ho1 hR (by decide) 0 (.slice A k c)) (hR.set_ 0 (.slice A k c)) (by decide) 1 (.slice A2 k c2)
    have q2 := own_far (own_far ho2 hR (by decide) 0 (.slice A k c)) (hR.set_ 0 (.slice A k c)) (by decide) 1 (.slice A2 k c2)
    have bz := (hb.setCell (show w.heap.size ≤ (⟨w.heap.size, 0, none⟩ : Addr).block by simp) (.slice A k c)).setCell (show w.heap.size ≤ (⟨w.heap.size, 1, none⟩ : Addr).block by simp) (.slice A2 k c2)
    have m1 : k ≤ c := by
     obtain ⟨A', c', e, hc⟩ := own_form ho1
     injection e with e1 e2 e3
     omega
    have m2 : k ≤ c2 := by
     obtain ⟨A', c', e, hc⟩ := own_form ho2
     injection e with e1 e2 e3
     omega
    exact bodyPost_ret (v := .tuple #[.agg #[.slice A k c, .slice A2 k c2], .bool true]) (by simp [results, Tryz.results36, go_sem, r0, r1]) rfl ⟨A, c, A2, c2, rfl, Reads.of_own q1, Reads.of_own q2, m1, m2, fun ad h => by have := own_hi q1 ad h; omega, fun ad h => by have := own_hi q2 ad h; omega, bz⟩
end
end Go.Proofs.YtebobcbaloddaaaGreat
