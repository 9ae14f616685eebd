/- The document's own Decode of whole; the law 'WholeReads'. -/
import Derived.Test.YtllhekkclhcdbaaDoorKRg5
import Derived.Test.YtllhekkclhcdbaaDoorKLb
import Derived.Test.YtllhekkclhcdbaaDoorK5
namespace Go.Proofs.YtllhekkclhcdbaaDoor
open Go.RowKit

def numCells (V : Nat → Int) (N : Nat → Bool) : Nat → List Value
  | 0 => []
  | n + 1 => numCells V N n ++ [.int .i64 (V n), .bool (N n)]
theorem numCells_len (V : Nat → Int) (N : Nat → Bool) : ∀ n, (numCells V N n).length = n * 2
  | 0 => rfl
  | n + 1 => by simp [numCells, numCells_len V N n]; omega
theorem numCells_get (V : Nat → Int) (N : Nat → Bool) : ∀ n j, j < n → (numCells V N n)[j * 2]? = some (.int .i64 (V j)) ∧ (numCells V N n)[j * 2 + 1]? = some (.bool (N j))
  | n + 1, j, h => by
    have hl := numCells_len V N n
    simp only [numCells]
    by_cases hj : j < n
    · obtain ⟨a, b⟩ := numCells_get V N n j hj
      rw [List.getElem?_append_left (by omega), List.getElem?_append_left (by omega)]
      exact ⟨a, b⟩
    · obtain rfl : j = n := by omega
      rw [List.getElem?_append_right (by omega), List.getElem?_append_right (by omega), hl, Nat.sub_self, Nat.add_sub_cancel_left]
      exact ⟨rfl, rfl⟩
theorem rdecode5_range (w : World) (v : Value) (n : Int) (h : n < 0 ∨ 65536 < n) :
    Calls Tryd.prog 16 #[v, .int .i64 n] w fun e w' => e = .returned (.tuple #[.slice none 0 0, .int .i64 50]) ∧ w' = w := by
  by_cases h0 : n < 0
  · have d0 : decide (n < 0) = true := decide_eq_true h0
    go_enter Tryd.func16, Tryd.ntmps16
    go_wp2_with fail
    go_ret2
    exact ⟨rfl, rfl⟩
  · have d0 : decide (n < 0) = false := decide_eq_false h0
    have d1 : decide (65536 < n) = true := decide_eq_true (by omega)
    have h1 : 65536 < n := by omega
    clear h
    go_enter Tryd.func16, Tryd.ntmps16
    go_wp2_with fail
    go_ret2
    exact ⟨rfl, rfl⟩

theorem cells_two_new (w : World) (a b : Value) (t : TypeId) : ∀ (j : Nat) (u : Value), [a, b][j]? = some u → (w.alloc (.cells #[a, b] t)).cell? ((⟨w.heap.size, 0, none⟩ : Addr).add j) = some u := by
  intro j u hu
  have ha : (⟨w.heap.size, 0, none⟩ : Addr).add j = ⟨w.heap.size, j, none⟩ := by unfold Addr.add; split <;> simp_all
  have hb := heap_alloc_new w (.cells #[a, b] t)
  rw [ha, World.cell?]
  simp only [hb]
  rw [← hu]
  simp
theorem NumsAt.of_row {w : World} {base n cap : Nat} {ao : Option Addr} {V : Nat → Int} {N : Nat → Bool} (h : w.ownsRow base 46 2 (.slice ao n cap) n (numCells V N n)) (hn : n ≤ 200) : NumsAt w ao n V N := by
  refine ⟨by omega, fun h0 => ?_⟩
  rcases h.2 with ⟨e, h1⟩ | ⟨g, c, cur, e, _⟩
  · omega
  · simp only [Value.slice.injEq] at e
    obtain ⟨rfl, _, rfl⟩ := e
    refine ⟨g, 0, rfl, fun j hj => ?_⟩
    obtain ⟨a, b⟩ := numCells_get V N n j hj
    exact ⟨by rw [Nat.zero_add, World.ownsRow.cellAt h (j * 2) (by omega)]; exact a, by rw [Nat.zero_add, World.ownsRow.cellAt h (j * 2 + 1) (by omega)]; exact b⟩
theorem NumsAt.keptB {w w' : World} {ao : Option Addr} {n : Nat} {V : Nat → Int} {N : Nat → Bool} {S : Nat → Prop} (h : NumsAt w ao n V N) (f : Fr S w w') (hs : ∀ b off, ao = some ⟨b, off, none⟩ → ¬ S b) : NumsAt w' ao n V N := by
  refine ⟨h.lim, fun hn => ?_⟩
  obtain ⟨b, off, e, hc⟩ := h.at_ hn
  exact ⟨b, off, e, fun j hj => ⟨f.cell (hc j hj).1 (hs b off e), f.cell (hc j hj).2 (hs b off e)⟩⟩
theorem rd_apart {W : World} {br gt ct gs gz n : Nat} {vb v : Value} {B : List Nat} {o : De} {m : Nat} {xs : List Value} (hc : RdAt W br gt ct gs gz n vb B o) (hr : W.ownsRow 0 46 2 v m xs) : ∀ k, v.ownBlock = some k → ¬ (k = br ∨ k = gs ∨ k = gz) := by
  intro k hk
  obtain ⟨cur, h1⟩ := row_type2 hr hk
  obtain ⟨c1, h2⟩ := row_type hc.st
  obtain ⟨c2, h3⟩ := row_type hc.bt
  have h4 := hc.blk
  rintro (rfl | rfl | rfl)
  · rw [h1] at h4; cases h4
  · rw [h1] at h2; cases h2
  · rw [h1] at h3; cases h3

set_option maxRecDepth 100000 in
set_option maxHeartbeats 4000000 in
theorem rdecode5_any (w : World) (v : Value) (B : List Nat) (n : Nat) (hn : n ≤ 200) (hv : SeenAt w v B) (hnil : v = .slice none 0 0 ∨ ∃ a n c, v = .slice (some a) n c) (hB : ∀ y ∈ B, y < 256) :
    Calls Tryd.prog 16 #[v, .int .i64 (n : Int)] w fun e w' => Fr (fun _ => False) w w' ∧ (((∀ j, j < n → amN B j ≤ 2147483648) ∧ ∃ ao cap, e = .returned (.tuple #[.slice ao n cap, .int .i64 0]) ∧ NumsAt w' ao n (fun j => joinI (sgN B j) (amN B j)) (fun j => joinN (sgN B j) (amN B j)) ∧ (∀ b off, ao = some ⟨b, off, none⟩ → w.heap.size ≤ b)) ∨
      ((∃ j, j < n ∧ 2147483648 < amN B j) ∧ e = .returned (.tuple #[.slice none 0 0, .int .i64 50]))) := by
  obtain ⟨i0, hinf, hz0, hz1, hz2⟩ := info_parts Tryd.info46
  have HND : Hid (Calls Tryd.prog 35 #[v, .int .i64 512] w fun e w' => ∃ br gt ct gs gz vb, e = .returned (.pointer (some ⟨br, 0, none⟩)) ∧ RdAt w' br gt ct gs gz 512 vb B (newD B 512) ∧ Fr (fun _ => False) w w' ∧ w.heap.size ≤ br ∧ w.heap.size ≤ gt ∧ w.heap.size ≤ gs ∧ w.heap.size ≤ gz) := rnewD_all w v B 512 (by omega) (by omega) hv hnil hB
  have HBB : Hid (∀ y ∈ B, y < 256) := hB
  obtain ⟨va, vc, rfl, -, -⟩ := hv
  clear hnil hB
  generalize B.length = nB at *
  have d0 : decide ((n : Int) < 0) = false := decide_eq_false (by omega)
  have d1 : decide (65536 < (n : Int)) = false := decide_eq_false (by omega)
  have d1' : ¬ (65536 : Int) < (n : Int) := by omega
  go_enter Tryd.func16, Tryd.ntmps16
  go_wp2_with fail
  refine Calls.mono HND.out ?_
  rintro e w1 ⟨br, gt, ct, gs, gz, vb, rfl, hrd, hf1, l1, l2, l3, l4⟩
  have HR1 : Hid (RdAt w1 br gt ct gs gz 512 vb B (dN B 0)) := hrd
  have HF1 : Hid (Fr (fun _ => False) w w1) := hf1
  have HL1 : Hid (w.heap.size ≤ br ∧ w.heap.size ≤ gs ∧ w.heap.size ≤ gz) := ⟨l1, l3, l4⟩
  clear hrd hf1 l1 l2 l3 l4
  go_wp2_with fail
  go_loopg [7, 8, 9, 10] n (fun q l ii _ _ wr => ∃ (i : Nat) (vv : Value), i + q = n ∧ ii = .int .i64 (i : Int) ∧ l = vv ∧ wr.ownsRow w.heap.size 46 2 vv i (numCells (fun j => joinI (sgN B j) (amN B j)) (fun j => joinN (sgN B j) (amN B j)) i) ∧ RdAt wr br gt ct gs gz 512 vb B (dN B i) ∧ Hid (∀ j, j < i → amN B j ≤ 2147483648) ∧ Fr (fun _ => False) w wr)
  case atStart => exact ⟨0, _, by omega, rfl, rfl, World.ownsRow_nil _ _ _ _, HR1.out, fun j hj => absurd hj (Nat.not_lt_zero _), HF1.out⟩
  case round =>
    obtain ⟨i, vv, hiq, rfl, hvv, how, hrd, HAM, hfr⟩ := hrel
    have hvv2 := hvv.symm
    clear hvv
    subst hvv2
    have HO : Hid (wr.ownsRow w.heap.size 46 2 vv i (numCells (fun j => joinI (sgN B j) (amN B j)) (fun j => joinN (sgN B j) (amN B j)) i)) := how
    have HRD : Hid (RdAt wr br gt ct gs gz 512 vb B (dN B i)) := hrd
    have HFr : Hid (Fr (fun _ => False) w wr) := hfr
    clear how hrd hfr
    by_cases hi : i < n
    · have di : decide (i < n) = true := decide_eq_true hi
      obtain ⟨a1, a2, a3⟩ := dN_ok HBB.out i (by omega)
      have HG : Hid (Calls Tryd.prog 36 #[.pointer (some ⟨br, 0, none⟩), .int .i64 0] wr fun e w' => e = .returned (.tuple #[.agg #[.int .i64 (joinI (sgN B i) (amN B i)), .bool (joinN (sgN B i) (amN B i))], .int .i64 (joinE (amN B i))]) ∧ RdAt w' br gt ct gs gz 512 vb B (dN B (i + 1)) ∧ Fr (fun k => k = br ∨ k = gs ∨ k = gz) wr w') := rget5_any wr br gt ct gs gz 512 0 vb B (dN B i) HRD.out a1 (by omega) (by omega) 0 rfl
      clear a1 a2 a3
      obtain ⟨ar, cr, hvs⟩ : ∃ ar cr, vv = .slice ar i cr := by
        rcases HO.out.2 with ⟨e, h1⟩ | ⟨g, c, cur, e, _⟩
        · exact ⟨none, 0, by rw [e, h1]⟩
        · exact ⟨_, _, e⟩
      subst hvs
      go_wp2_with fail
      refine Calls.mono HG.out ?_
      rintro e w2 ⟨rfl, hr2, hf2⟩
      have HR2 : Hid (RdAt w2 br gt ct gs gz 512 vb B (dN B (i + 1))) := hr2
      have HO2 : Hid (w2.ownsRow w.heap.size 46 2 (.slice ar i cr) i (numCells (fun j => joinI (sgN B j) (amN B j)) (fun j => joinN (sgN B j) (amN B j)) i)) := row_kept HO.out hf2 (fun k hk e => rd_apart HRD.out (ownsRow_base HO.out (fun _ _ => Nat.zero_le _)) k hk e)
      have HF2 : Hid (Fr (fun _ => False) w w2) := HFr.out.trans hf2 (fun k hk e => by have := HL1.out; omega)
      clear hr2 hf2
      by_cases hbig : 2147483648 < amN B i
      · have hE : joinE (amN B i) = 50 := if_pos hbig
        rw [hE]
        clear hE
        have HBIG : Hid (∃ j, j < n ∧ 2147483648 < amN B j) := ⟨i, hi, hbig⟩
        have HF3 : Hid (Fr (fun _ => False) w (w2.alloc (.cells #[.int .i64 (joinI (sgN B i) (amN B i)), .bool (joinN (sgN B i) (amN B i))] 46))) := HF2.out.alloc _
        generalize joinI (sgN B i) (amN B i) = vi at *
        generalize joinN (sgN B i) (amN B i) = ni at *
        clear hbig
        go_wp2_with fail
        go_ret2
        exact ⟨HF3.out, Or.inr ⟨HBIG.out, rfl⟩⟩
      · have hE : joinE (amN B i) = 0 := if_neg hbig
        rw [hE]
        clear hE
        have HAM2 : Hid (∀ j, j < i + 1 → amN B j ≤ 2147483648) := fun j hj => by
          by_cases e : j = i
          · subst e; omega
          · exact HAM.out j (by omega)
        obtain ⟨vi, HVI⟩ : ∃ vi, Hid (vi = joinI (sgN B i) (amN B i)) := ⟨_, rfl⟩
        obtain ⟨ni, HNI⟩ : ∃ ni, Hid (ni = joinN (sgN B i) (amN B i)) := ⟨_, rfl⟩
        rw [← HVI.out, ← HNI.out]
        clear hbig
        have hx := heap_alloc_new w2 (.cells #[.int .i64 vi, .bool ni] 46)
        obtain ⟨x0, x1⟩ := two_cells hx
        clear hx
        go_wp2_with (first | (at_builtin; refine wpList_append_row _ rfl _ _ 22 rfl 46 i0 (.agg #[.int .i64 0, .bool false]) 2 16 Tryd.underlying22 hinf hz0 hz1 hz2 rfl (by decide) (.slice ar i cr) i (numCells (fun j => joinI (sgN B j) (amN B j)) (fun j => joinN (sgN B j) (amN B j)) i) rfl (ownsRow_base ((HO2.out.alloc _).alloc _) (fun _ _ => Nat.zero_le _)) ⟨w2.heap.size + 1, 0, none⟩ 1 1 [.int .i64 vi, .bool ni] rfl rfl ?c1 ?c2 ?c3 ?c4 (by decide) ?_))
        case c1 =>
          have := cells_two_new (w2.alloc (.cells #[.int .i64 vi, .bool ni] 46)) (.int .i64 vi) (.bool ni) 46
          simp only [World.size_alloc] at this
          exact this
        case c2 =>
          intro u hu
          simp only [List.mem_cons, List.not_mem_nil, or_false] at hu
          rcases hu with rfl | rfl <;> rfl
        case c3 => unfold maxLen; omega
        case c4 => omega
        intro g' cap' w' ho hg hor hc' hm'
        have hlt := HF2.out.size
        have HF' : Hid (Fr (fun _ => False) w w') := ((HF2.out.alloc _).alloc _).grown hg (fun k e hk => by have := (HO2.out.lt k e).1; omega)
        have HR' : Hid (RdAt w' br gt ct gs gz 512 vb B (dN B (i + 1))) := by
          have hr3 := (HR2.out.keptAll ((Fr.refl (fun _ => False) w2).alloc (.cells #[.int .i64 vi, .bool ni] 46))).keptAll ((Fr.refl (fun _ => False) _).alloc (.cells #[.int .i64 vi, .bool ni] 46))
          have hfg := (Fr.refl (fun k => (Value.slice ar i cr).ownBlock = some k) _).grown hg (fun k e _ => e)
          have ho2 := HO2.out
          have key : ∀ {e2 s2 n2 : Nat} {v2 : Value} {ys : List Value} (k : Nat), w2.ownsRow 0 e2 s2 v2 n2 ys → e2 ≠ 46 → v2.ownBlock = some k → ¬ (Value.slice ar i cr).ownBlock = some k := fun {e2 s2 n2 v2 ys} k h2 hne hk2 hk1 => by
            obtain ⟨c1, q1⟩ := row_type2 ho2 hk1
            obtain ⟨c2, q2⟩ := row_type2 h2 hk2
            rw [q1] at q2
            cases q2
            exact hne rfl
          refine hr3.kept hfg (fun e => ?_) (key gt HR2.out.tab (by decide) rfl) (key gs HR2.out.st (by decide) rfl) (key gz HR2.out.bt (by decide) rfl) (fun k hk => key k HR2.out.bs (by decide) hk)
          obtain ⟨c1, q1⟩ := row_type2 ho2 e
          have q2 := HR2.out.blk
          rw [q1] at q2
          cases q2
        have HO' : Hid (w'.ownsRow w.heap.size 46 2 (.slice (some ⟨g', 0, none⟩) (i + 1) cap') (i + 1) (numCells (fun j => joinI (sgN B j) (amN B j)) (fun j => joinN (sgN B j) (amN B j)) (i + 1))) := by
          refine ownsRow_base (b := 0) ?_ (fun k hk => ?_)
          · show w'.ownsRow 0 46 2 _ _ (numCells (fun j => joinI (sgN B j) (amN B j)) (fun j => joinN (sgN B j) (amN B j)) i ++ [.int .i64 (joinI (sgN B i) (amN B i)), .bool (joinN (sgN B i) (amN B i))])
            rw [← HVI.out, ← HNI.out]
            exact ho
          · simp [Value.ownBlock] at hk
            subst hk
            rcases hor with h | h
            · exact (HO2.out.lt _ h).1
            · first | (simp only [World.size_alloc] at h; omega) | omega
        clear ho hg hor hc' hm' x0 x1
        go_wp2_with fail
        go_roundg (n - (i + 1))
        case measure => omega
        case rel => exact ⟨i + 1, _, by omega, by go_num, rfl, HO'.out, HR'.out, HAM2.out, HF'.out⟩
    · have di : decide (i < n) = false := decide_eq_false hi
      have hin : i = n := by omega
      subst hin
      obtain ⟨ar, cr, hvs⟩ : ∃ ar cr, vv = .slice ar i cr := by
        rcases HO.out.2 with ⟨e, h1⟩ | ⟨g, c, cur, e, _⟩
        · exact ⟨none, 0, by rw [e, h1]⟩
        · exact ⟨_, _, e⟩
      subst hvs
      go_wp2_with fail
      go_ret2
      exact ⟨HFr.out, Or.inl ⟨HAM.out, ar, cr, rfl, NumsAt.of_row HO.out hn, fun b off e => by subst e; exact (HO.out.lt b rfl).1⟩⟩

/-- What both Decodes tell of so many numbers: the numbers, or the refusal. -/
def Told (B : List Nat) (z : Int) (w1 w2 : World) (ao : Option Addr) (n : Nat) (er : Int) : Prop :=
  (er = 50 ∧ ao = none ∧ n = 0 ∧ ((z < 0 ∨ 65536 < z) ∨ ∃ j : Nat, (j : Int) < z ∧ 2147483648 < amN B j)) ∨ (er = 0 ∧ (n : Int) = z ∧ n ≤ 200 ∧ (∀ j, j < n → amN B j ≤ 2147483648) ∧ NumsAt w2 ao n (fun j => joinI (sgN B j) (amN B j)) (fun j => joinN (sgN B j) (amN B j)) ∧ ∀ b off, ao = some ⟨b, off, none⟩ → w1.heap.size ≤ b)

theorem told_join {B : List Nat} {z : Int} {w1 w2 w3 w' : World} {g : Nat} {la ma : Option Addr} {ln mn lc mc : Nat} {le me : Int} (hg : g < w1.heap.size) (f12 : Fr (fun _ => False) w1 w2) (f23 : Fr (fun _ => False) w2 w3) (f : Fr (fun k => k = g) w3 w') (hl : Told B z w1 w2 la ln le) (hm : Told B z w2 w3 ma mn me) :
    me = le ∧ Calls Tryd.prog 13 #[.slice la ln lc, .slice ma mn mc] w' fun e w'' => e = .returned (.bool true) ∧ Fr (fun _ => False) w' w'' := by
  rcases hl with ⟨rfl, rfl, rfl, hl⟩ | ⟨rfl, hz, hn, hall, hnum, hblk⟩
  · rcases hm with ⟨rfl, rfl, rfl, -⟩ | ⟨rfl, hz2, hn2, hall2, -⟩
    · refine ⟨rfl, (eqw_same w' none none 0 lc mc (fun _ => 0) (fun _ => false) ⟨by omega, fun h => absurd h (Nat.lt_irrefl _)⟩ ⟨by omega, fun h => absurd h (Nat.lt_irrefl _)⟩ (by omega)).mono ?_⟩
      rintro e w'' ⟨rfl, q, rfl⟩
      exact ⟨rfl, (Fr.refl _ _).drewN _⟩
    · exfalso
      rcases hl with hl | ⟨j, hj, hb⟩
      · omega
      · have := hall2 j (by omega)
        omega
  · rcases hm with ⟨rfl, rfl, rfl, hm⟩ | ⟨rfl, hz2, hn2, hall2, hnum2, hblk2⟩
    · exfalso
      rcases hm with hm | ⟨j, hj, hb⟩
      · omega
      · have := hall j (by omega)
        omega
    · obtain rfl : ln = mn := by omega
      refine ⟨rfl, ?_⟩
      have q1 := (hnum.kept f23).keptB f (fun b off e h => by have := hblk b off e; omega)
      have q2 := hnum2.keptB f (fun b off e h => by have := hblk2 b off e; have := f12.size; omega)
      refine (eqw_same w' la ma ln lc mc _ _ q1 q2 hn).mono ?_
      rintro e w'' ⟨rfl, q, rfl⟩
      exact ⟨rfl, (Fr.refl _ _).drewN _⟩

theorem wdecode_told (w : World) (v : Value) (B : List Nat) (z : Int) (hz : z ≤ 200 ∨ 65536 < z) (hv : SeenAt w v B) (hnil : v = .slice none 0 0 ∨ ∃ a n c, v = .slice (some a) n c) (hB : ∀ y ∈ B, y < 256) (hr : RowsAt w) :
    Calls Tryd.prog 15 #[v, .int .i64 z] w fun e w' => Fr (fun _ => False) w w' ∧ ∃ lv le, e = .returned (.tuple #[lv, .int .i64 le]) ∧ (∃ ao n c, lv = .slice ao n c) ∧ (∀ ao n c, lv = .slice ao n c → Told B z w w' ao n le) := by
  by_cases hb : z < 0 ∨ 65536 < z
  · refine (wdecode_range w v z hb).mono ?_
    rintro e w' ⟨rfl, rfl⟩
    exact ⟨Fr.refl _ _, _, _, rfl, ⟨_, _, _, rfl⟩, fun ao n c e => by cases e; exact Or.inl ⟨rfl, rfl, rfl, Or.inl hb⟩⟩
  · obtain ⟨n, rfl⟩ : ∃ n : Nat, z = n := ⟨z.toNat, by omega⟩
    refine (wdecode_any w v B n (by omega) hv hnil hB hr).mono ?_
    rintro e w' ⟨hf, ⟨hall, g, rfl, hnum, hg⟩ | ⟨⟨j, hj, hbig⟩, rfl⟩⟩
    · refine ⟨hf, _, _, rfl, ⟨_, _, _, rfl⟩, fun ao n c e => ?_⟩
      cases e
      exact Or.inr ⟨rfl, rfl, by omega, hall, hnum, fun b off e => by cases e; exact hg⟩
    · refine ⟨hf, _, _, rfl, ⟨_, _, _, rfl⟩, fun ao n c e => ?_⟩
      cases e
      exact Or.inl ⟨rfl, rfl, rfl, Or.inr ⟨j, by omega, hbig⟩⟩
theorem rdecode_told (w : World) (v : Value) (B : List Nat) (z : Int) (hz : z ≤ 200 ∨ 65536 < z) (hv : SeenAt w v B) (hnil : v = .slice none 0 0 ∨ ∃ a n c, v = .slice (some a) n c) (hB : ∀ y ∈ B, y < 256) :
    Calls Tryd.prog 16 #[v, .int .i64 z] w fun e w' => Fr (fun _ => False) w w' ∧ ∃ lv le, e = .returned (.tuple #[lv, .int .i64 le]) ∧ (∃ ao n c, lv = .slice ao n c) ∧ (∀ ao n c, lv = .slice ao n c → Told B z w w' ao n le) := by
  by_cases hb : z < 0 ∨ 65536 < z
  · refine (rdecode5_range w v z hb).mono ?_
    rintro e w' ⟨rfl, rfl⟩
    exact ⟨Fr.refl _ _, _, _, rfl, ⟨_, _, _, rfl⟩, fun ao n c e => by cases e; exact Or.inl ⟨rfl, rfl, rfl, Or.inl hb⟩⟩
  · obtain ⟨n, rfl⟩ : ∃ n : Nat, z = n := ⟨z.toNat, by omega⟩
    refine (rdecode5_any w v B n (by omega) hv hnil hB).mono ?_
    rintro e w' ⟨hf, ⟨hall, ao, cap, rfl, hnum, hg⟩ | ⟨⟨j, hj, hbig⟩, rfl⟩⟩
    · refine ⟨hf, _, _, rfl, ⟨_, _, _, rfl⟩, fun ao n c e => ?_⟩
      cases e
      exact Or.inr ⟨rfl, rfl, by omega, hall, hnum, hg⟩
    · refine ⟨hf, _, _, rfl, ⟨_, _, _, rfl⟩, fun ao n c e => ?_⟩
      cases e
      exact Or.inl ⟨rfl, rfl, rfl, Or.inr ⟨j, by omega, hbig⟩⟩

set_option maxRecDepth 100000 in
set_option maxHeartbeats 8000000 in
theorem reads5_any (w : World) (vB : Value) (B : List Nat) (z0 : Int) (hv : SeenAt w vB B) (hno : NilOK vB) (hnil : vB = .slice none 0 0 ∨ ∃ a n c, vB = .slice (some a) n c) (hB : ∀ y ∈ B, y < 256) (hl : B.length ≤ 140737488351232) (hr : RowsAt w) :
    Calls Tryd.prog 4 #[.agg #[vB, .int .i64 z0]] w fun e w' => e = .returned (.bool true) ∧ Fr (fun _ => False) w w' := by
  have HV : Hid (∀ w', Fr (fun _ => False) w w' → SeenAt w' vB B) := fun w' f => hv.kept f (fun _ _ h => h)
  have HRW : Hid (∀ w', Fr (fun _ => False) w w' → RowsAt w') := fun w' f => hr.kept f (fun h => h)
  have HLD : Hid (∀ w', Fr (fun _ => False) w w' → Calls Tryd.prog 14 #[vB] w' fun e w'' => ∃ g, e = .returned (.slice (some ⟨g, 0, none⟩) B.length (B.length + 7)) ∧ LentY w'' g B ∧ w'.heap.size ≤ g ∧ Fr (fun _ => False) w' w'') := fun w' f => lendY_any vB B w' hl (HV.out w' f) hno
  have HDCz : Hid (∀ (z : Int), (z ≤ 200 ∨ 65536 < z) → ∀ (w' : World) (g : Nat), Fr (fun _ => False) w w' → LentY w' g B → Calls Tryd.prog 15 #[.slice (some ⟨g, 0, none⟩) B.length (B.length + 7), .int .i64 z] w' fun e w'' => Fr (fun _ => False) w' w'' ∧ ∃ lv le, e = .returned (.tuple #[lv, .int .i64 le]) ∧ (∃ ao n c, lv = .slice ao n c) ∧ (∀ ao n c, lv = .slice ao n c → Told B z w' w'' ao n le)) := fun z hz w' g f h => wdecode_told w' _ B z hz (h.seen hl) (Or.inr ⟨_, _, _, rfl⟩) hB (HRW.out w' f)
  have HRCz : Hid (∀ (z : Int), (z ≤ 200 ∨ 65536 < z) → ∀ (w' : World), Fr (fun _ => False) w w' → Calls Tryd.prog 16 #[vB, .int .i64 z] w' fun e w'' => Fr (fun _ => False) w' w'' ∧ ∃ lv le, e = .returned (.tuple #[lv, .int .i64 le]) ∧ (∃ ao n c, lv = .slice ao n c) ∧ (∀ ao n c, lv = .slice ao n c → Told B z w' w'' ao n le)) := fun z hz w' f => rdecode_told w' vB B z hz (HV.out w' f) hnil hB
  have HBA : Hid (∀ (w' : World) (g : Nat), Fr (fun _ => False) w w' → LentY w' g B → Calls Tryd.prog 17 #[.slice (some ⟨g, 0, none⟩) B.length (B.length + 7), vB] w' fun e w'' => e = .returned (.bool true) ∧ Fr (fun k => k = g) w' w'') := fun w' g f h => backY_any g vB B w' hl h (HV.out w' f)
  have HWK : Hid (∀ w', Fr (fun _ => False) w w' → Calls Tryd.prog 9 #[] w' fun e w'' => e = .returned (.bool true) ∧ Fr (fun _ => False) w' w'') := fun w' f => wakes5_any w' (HRW.out w' f)
  obtain ⟨va, vc, hvs, -, -⟩ := hv
  have HNB : Hid (True) := trivial
  generalize hNB : B.length = NB at *
  subst hvs
  clear hno hnil hB hl hr hNB HNB
  have HA : Hid (Fr (fun _ => False) w (w.alloc (.cells #[.slice va NB vc, .int .i64 z0] 32))) := (Fr.refl _ _).alloc _
  have HBx : Hid (∀ w', Fr (fun _ => False) (w.alloc (.cells #[.slice va NB vc, .int .i64 z0] 32)) w' → w'.cell? ⟨w.heap.size, 0, none⟩ = some (.slice va NB vc) ∧ w'.cell? ⟨w.heap.size, 1, none⟩ = some (.int .i64 z0)) := fun w' f => two_cells ((f.block w.heap.size (by simp) (fun h => h)).trans (heap_alloc_new w _))
  obtain ⟨b0, b1⟩ := HBx.out _ (Fr.refl _ _)
  by_cases h1 : 200 < z0
  · have d1 : decide (200 < z0) = true := decide_eq_true h1
    by_cases h2 : z0 ≤ 65536
    · have d2 : decide (z0 ≤ 65536) = true := decide_eq_true h2
      have HDC : Hid (∀ (w' : World) (g : Nat), Fr (fun _ => False) w w' → LentY w' g B → Calls Tryd.prog 15 #[.slice (some ⟨g, 0, none⟩) NB (NB + 7), .int .i64 200] w' fun e w'' => Fr (fun _ => False) w' w'' ∧ ∃ lv le, e = .returned (.tuple #[lv, .int .i64 le]) ∧ (∃ ao n c, lv = .slice ao n c) ∧ (∀ ao n c, lv = .slice ao n c → Told B 200 w' w'' ao n le)) := HDCz.out 200 (Or.inl (by omega))
      have HRC : Hid (∀ (w' : World), Fr (fun _ => False) w w' → Calls Tryd.prog 16 #[.slice va NB vc, .int .i64 200] w' fun e w'' => Fr (fun _ => False) w' w'' ∧ ∃ lv le, e = .returned (.tuple #[lv, .int .i64 le]) ∧ (∃ ao n c, lv = .slice ao n c) ∧ (∀ ao n c, lv = .slice ao n c → Told B 200 w' w'' ao n le)) := HRCz.out 200 (Or.inl (by omega))
      have HJN : Hid (∀ (w1 w2 w3 w' : World) (g : Nat) (la : Option Addr) (ln lc : Nat) (le : Int) (ma : Option Addr) (mn mc : Nat) (me : Int), g < w1.heap.size → Fr (fun _ => False) w1 w2 → Fr (fun _ => False) w2 w3 → Fr (fun k => k = g) w3 w' → (∀ ao n c, Value.slice la ln lc = .slice ao n c → Told B 200 w1 w2 ao n le) → (∀ ao n c, Value.slice ma mn mc = .slice ao n c → Told B 200 w2 w3 ao n me) → me = le ∧ Calls Tryd.prog 13 #[.slice la ln lc, .slice ma mn mc] w' fun e w'' => e = .returned (.bool true) ∧ Fr (fun _ => False) w' w'') := fun w1 w2 w3 w' g la ln lc le ma mn mc me hg f12 f23 f h1 h2 => told_join hg f12 f23 f (h1 _ _ _ rfl) (h2 _ _ _ rfl)
      clear HDCz HRCz
      go_enter Tryd.func4, Tryd.ntmps4
      go_upto_region 4 with (fail)
      generalize w.alloc (.cells #[.slice va NB vc, .int .i64 z0] 32) = w0 at *
      have b0' := (HBx.out _ (Fr.refl _ _)).1
      go_wp2_with fail
      refine (HLD.out _ HA.out).mono ?_
      rintro e w1 ⟨g, rfl, hlent, hg, hf1⟩
      have HLT : Hid (LentY w1 g B ∧ w0.heap.size ≤ g ∧ g < w1.heap.size) := ⟨hlent, hg, hlent.lt⟩
      have HF1 : Hid (Fr (fun _ => False) w0 w1) := hf1
      clear hlent hg hf1 b0 b1 b0'
      have HD1 := HDC.out w1 g (HA.out.trans HF1.out (fun _ _ h => h)) HLT.out.1
      have HD2 : Hid _ := HD1
      clear HD1
      go_wp2_with fail
      refine Calls.mono HD2.out ?_
      rintro e w2 ⟨hf2, hd2⟩
      have HF2 : Hid (Fr (fun _ => False) w1 w2) := hf2
      have HF02 : Hid (Fr (fun _ => False) w0 w2) := HF1.out.trans hf2 (fun _ _ h => h)
      clear hf2
      obtain ⟨lv, le, he, hlv⟩ := hd2
      subst he
      obtain ⟨la, ln, lc, hls⟩ := hlv.1
      subst hls
      obtain ⟨b0, b1⟩ := HBx.out _ HF02.out
      have HD3 : Hid _ := HRC.out w2 (HA.out.trans HF02.out (fun _ _ h => h))
      go_wp2_with fail
      refine Calls.mono HD3.out ?_
      rintro e w3 ⟨hf3, hd3⟩
      have HF3 : Hid (Fr (fun _ => False) w2 w3) := hf3
      have HF03 : Hid (Fr (fun _ => False) w0 w3) := HF02.out.trans hf3 (fun _ _ h => h)
      clear hf3 b0 b1
      obtain ⟨mv, me, he, hmv⟩ := hd3
      subst he
      obtain ⟨ma, mn, mc, hms⟩ := hmv.1
      subst hms
      have HEQ : Hid (∀ w', Fr (fun k => k = g) w3 w' → me = le ∧ Calls Tryd.prog 13 #[.slice la ln lc, .slice ma mn mc] w' fun e w'' => e = .returned (.bool true) ∧ Fr (fun _ => False) w' w'') := fun w' f => HJN.out w1 w2 w3 w' g la ln lc le ma mn mc me HLT.out.2.2 HF2.out HF3.out f hlv.2 hmv.2
      have hme := (HEQ.out w3 (Fr.refl _ _)).1
      subst hme
      have hee : (me == me) = true := by simp
      clear hlv hmv
      obtain ⟨b0, b1⟩ := HBx.out _ HF03.out
      have HBK : Hid (Calls Tryd.prog 17 #[.slice (some ⟨g, 0, none⟩) NB (NB + 7), .slice va NB vc] w3 fun e w' => e = .returned (.bool true) ∧ Fr (fun k => k = g) w3 w') := HBA.out w3 g (HA.out.trans HF03.out (fun _ _ h => h)) (HLT.out.1.kept (HF2.out.trans HF3.out (fun _ _ h => h)) (fun h => h))
      go_wp2_with fail
      refine Calls.mono HBK.out ?_
      rintro e w4 ⟨rfl, hf4⟩
      have HE4 : Hid _ := (HEQ.out w4 hf4).2
      have HF04 : Hid (Fr (fun _ => False) w0 w4) := HF03.out.trans hf4 (fun k hk e => by have := HLT.out; omega)
      clear hf4 b0 b1
      go_wp2_with fail
      refine Calls.mono HE4.out ?_
      rintro e w5 ⟨rfl, hf5⟩
      have HF05 : Hid (Fr (fun _ => False) w w5) := (HA.out.trans HF04.out (fun _ _ h => h)).trans hf5 (fun _ _ h => h)
      clear hf5
      go_wp2_with fail
      refine (HWK.out _ HF05.out).mono ?_
      rintro e w6 ⟨rfl, hf6⟩
      have HF06 : Hid (Fr (fun _ => False) w w6) := HF05.out.trans hf6 (fun _ _ h => h)
      clear hf6
      go_wp2_with fail
      go_ret
      exact ⟨rfl, HF06.out⟩
    · have d2 : decide (z0 ≤ 65536) = false := decide_eq_false h2
      have HDC : Hid (∀ (w' : World) (g : Nat), Fr (fun _ => False) w w' → LentY w' g B → Calls Tryd.prog 15 #[.slice (some ⟨g, 0, none⟩) NB (NB + 7), .int .i64 z0] w' fun e w'' => Fr (fun _ => False) w' w'' ∧ ∃ lv le, e = .returned (.tuple #[lv, .int .i64 le]) ∧ (∃ ao n c, lv = .slice ao n c) ∧ (∀ ao n c, lv = .slice ao n c → Told B z0 w' w'' ao n le)) := HDCz.out z0 (Or.inr (by omega))
      have HRC : Hid (∀ (w' : World), Fr (fun _ => False) w w' → Calls Tryd.prog 16 #[.slice va NB vc, .int .i64 z0] w' fun e w'' => Fr (fun _ => False) w' w'' ∧ ∃ lv le, e = .returned (.tuple #[lv, .int .i64 le]) ∧ (∃ ao n c, lv = .slice ao n c) ∧ (∀ ao n c, lv = .slice ao n c → Told B z0 w' w'' ao n le)) := HRCz.out z0 (Or.inr (by omega))
      have HJN : Hid (∀ (w1 w2 w3 w' : World) (g : Nat) (la : Option Addr) (ln lc : Nat) (le : Int) (ma : Option Addr) (mn mc : Nat) (me : Int), g < w1.heap.size → Fr (fun _ => False) w1 w2 → Fr (fun _ => False) w2 w3 → Fr (fun k => k = g) w3 w' → (∀ ao n c, Value.slice la ln lc = .slice ao n c → Told B z0 w1 w2 ao n le) → (∀ ao n c, Value.slice ma mn mc = .slice ao n c → Told B z0 w2 w3 ao n me) → me = le ∧ Calls Tryd.prog 13 #[.slice la ln lc, .slice ma mn mc] w' fun e w'' => e = .returned (.bool true) ∧ Fr (fun _ => False) w' w'') := fun w1 w2 w3 w' g la ln lc le ma mn mc me hg f12 f23 f h1 h2 => told_join hg f12 f23 f (h1 _ _ _ rfl) (h2 _ _ _ rfl)
      clear HDCz HRCz
      go_enter Tryd.func4, Tryd.ntmps4
      go_upto_region 4 with (fail)
      generalize w.alloc (.cells #[.slice va NB vc, .int .i64 z0] 32) = w0 at *
      have b0' := (HBx.out _ (Fr.refl _ _)).1
      go_wp2_with fail
      refine (HLD.out _ HA.out).mono ?_
      rintro e w1 ⟨g, rfl, hlent, hg, hf1⟩
      have HLT : Hid (LentY w1 g B ∧ w0.heap.size ≤ g ∧ g < w1.heap.size) := ⟨hlent, hg, hlent.lt⟩
      have HF1 : Hid (Fr (fun _ => False) w0 w1) := hf1
      clear hlent hg hf1 b0 b1 b0'
      have HD1 := HDC.out w1 g (HA.out.trans HF1.out (fun _ _ h => h)) HLT.out.1
      have HD2 : Hid _ := HD1
      clear HD1
      go_wp2_with fail
      refine Calls.mono HD2.out ?_
      rintro e w2 ⟨hf2, hd2⟩
      have HF2 : Hid (Fr (fun _ => False) w1 w2) := hf2
      have HF02 : Hid (Fr (fun _ => False) w0 w2) := HF1.out.trans hf2 (fun _ _ h => h)
      clear hf2
      obtain ⟨lv, le, he, hlv⟩ := hd2
      subst he
      obtain ⟨la, ln, lc, hls⟩ := hlv.1
      subst hls
      obtain ⟨b0, b1⟩ := HBx.out _ HF02.out
      have HD3 : Hid _ := HRC.out w2 (HA.out.trans HF02.out (fun _ _ h => h))
      go_wp2_with fail
      refine Calls.mono HD3.out ?_
      rintro e w3 ⟨hf3, hd3⟩
      have HF3 : Hid (Fr (fun _ => False) w2 w3) := hf3
      have HF03 : Hid (Fr (fun _ => False) w0 w3) := HF02.out.trans hf3 (fun _ _ h => h)
      clear hf3 b0 b1
      obtain ⟨mv, me, he, hmv⟩ := hd3
      subst he
      obtain ⟨ma, mn, mc, hms⟩ := hmv.1
      subst hms
      have HEQ : Hid (∀ w', Fr (fun k => k = g) w3 w' → me = le ∧ Calls Tryd.prog 13 #[.slice la ln lc, .slice ma mn mc] w' fun e w'' => e = .returned (.bool true) ∧ Fr (fun _ => False) w' w'') := fun w' f => HJN.out w1 w2 w3 w' g la ln lc le ma mn mc me HLT.out.2.2 HF2.out HF3.out f hlv.2 hmv.2
      have hme := (HEQ.out w3 (Fr.refl _ _)).1
      subst hme
      have hee : (me == me) = true := by simp
      clear hlv hmv
      obtain ⟨b0, b1⟩ := HBx.out _ HF03.out
      have HBK : Hid (Calls Tryd.prog 17 #[.slice (some ⟨g, 0, none⟩) NB (NB + 7), .slice va NB vc] w3 fun e w' => e = .returned (.bool true) ∧ Fr (fun k => k = g) w3 w') := HBA.out w3 g (HA.out.trans HF03.out (fun _ _ h => h)) (HLT.out.1.kept (HF2.out.trans HF3.out (fun _ _ h => h)) (fun h => h))
      go_wp2_with fail
      refine Calls.mono HBK.out ?_
      rintro e w4 ⟨rfl, hf4⟩
      have HE4 : Hid _ := (HEQ.out w4 hf4).2
      have HF04 : Hid (Fr (fun _ => False) w0 w4) := HF03.out.trans hf4 (fun k hk e => by have := HLT.out; omega)
      clear hf4 b0 b1
      go_wp2_with fail
      refine Calls.mono HE4.out ?_
      rintro e w5 ⟨rfl, hf5⟩
      have HF05 : Hid (Fr (fun _ => False) w w5) := (HA.out.trans HF04.out (fun _ _ h => h)).trans hf5 (fun _ _ h => h)
      clear hf5
      go_wp2_with fail
      refine (HWK.out _ HF05.out).mono ?_
      rintro e w6 ⟨rfl, hf6⟩
      have HF06 : Hid (Fr (fun _ => False) w w6) := HF05.out.trans hf6 (fun _ _ h => h)
      clear hf6
      go_wp2_with fail
      go_ret
      exact ⟨rfl, HF06.out⟩
  · have d1 : decide (200 < z0) = false := decide_eq_false h1
    have HDC : Hid (∀ (w' : World) (g : Nat), Fr (fun _ => False) w w' → LentY w' g B → Calls Tryd.prog 15 #[.slice (some ⟨g, 0, none⟩) NB (NB + 7), .int .i64 z0] w' fun e w'' => Fr (fun _ => False) w' w'' ∧ ∃ lv le, e = .returned (.tuple #[lv, .int .i64 le]) ∧ (∃ ao n c, lv = .slice ao n c) ∧ (∀ ao n c, lv = .slice ao n c → Told B z0 w' w'' ao n le)) := HDCz.out z0 (Or.inl (by omega))
    have HRC : Hid (∀ (w' : World), Fr (fun _ => False) w w' → Calls Tryd.prog 16 #[.slice va NB vc, .int .i64 z0] w' fun e w'' => Fr (fun _ => False) w' w'' ∧ ∃ lv le, e = .returned (.tuple #[lv, .int .i64 le]) ∧ (∃ ao n c, lv = .slice ao n c) ∧ (∀ ao n c, lv = .slice ao n c → Told B z0 w' w'' ao n le)) := HRCz.out z0 (Or.inl (by omega))
    have HJN : Hid (∀ (w1 w2 w3 w' : World) (g : Nat) (la : Option Addr) (ln lc : Nat) (le : Int) (ma : Option Addr) (mn mc : Nat) (me : Int), g < w1.heap.size → Fr (fun _ => False) w1 w2 → Fr (fun _ => False) w2 w3 → Fr (fun k => k = g) w3 w' → (∀ ao n c, Value.slice la ln lc = .slice ao n c → Told B z0 w1 w2 ao n le) → (∀ ao n c, Value.slice ma mn mc = .slice ao n c → Told B z0 w2 w3 ao n me) → me = le ∧ Calls Tryd.prog 13 #[.slice la ln lc, .slice ma mn mc] w' fun e w'' => e = .returned (.bool true) ∧ Fr (fun _ => False) w' w'') := fun w1 w2 w3 w' g la ln lc le ma mn mc me hg f12 f23 f h1 h2 => told_join hg f12 f23 f (h1 _ _ _ rfl) (h2 _ _ _ rfl)
    clear HDCz HRCz
    go_enter Tryd.func4, Tryd.ntmps4
    go_upto_region 4 with (fail)
    generalize w.alloc (.cells #[.slice va NB vc, .int .i64 z0] 32) = w0 at *
    have b0' := (HBx.out _ (Fr.refl _ _)).1
    go_wp2_with fail
    refine (HLD.out _ HA.out).mono ?_
    rintro e w1 ⟨g, rfl, hlent, hg, hf1⟩
    have HLT : Hid (LentY w1 g B ∧ w0.heap.size ≤ g ∧ g < w1.heap.size) := ⟨hlent, hg, hlent.lt⟩
    have HF1 : Hid (Fr (fun _ => False) w0 w1) := hf1
    clear hlent hg hf1 b0 b1 b0'
    have HD1 := HDC.out w1 g (HA.out.trans HF1.out (fun _ _ h => h)) HLT.out.1
    have HD2 : Hid _ := HD1
    clear HD1
    go_wp2_with fail
    refine Calls.mono HD2.out ?_
    rintro e w2 ⟨hf2, hd2⟩
    have HF2 : Hid (Fr (fun _ => False) w1 w2) := hf2
    have HF02 : Hid (Fr (fun _ => False) w0 w2) := HF1.out.trans hf2 (fun _ _ h => h)
    clear hf2
    obtain ⟨lv, le, he, hlv⟩ := hd2
    subst he
    obtain ⟨la, ln, lc, hls⟩ := hlv.1
    subst hls
    obtain ⟨b0, b1⟩ := HBx.out _ HF02.out
    have HD3 : Hid _ := HRC.out w2 (HA.out.trans HF02.out (fun _ _ h => h))
    go_wp2_with fail
    refine Calls.mono HD3.out ?_
    rintro e w3 ⟨hf3, hd3⟩
    have HF3 : Hid (Fr (fun _ => False) w2 w3) := hf3
    have HF03 : Hid (Fr (fun _ => False) w0 w3) := HF02.out.trans hf3 (fun _ _ h => h)
    clear hf3 b0 b1
    obtain ⟨mv, me, he, hmv⟩ := hd3
    subst he
    obtain ⟨ma, mn, mc, hms⟩ := hmv.1
    subst hms
    have HEQ : Hid (∀ w', Fr (fun k => k = g) w3 w' → me = le ∧ Calls Tryd.prog 13 #[.slice la ln lc, .slice ma mn mc] w' fun e w'' => e = .returned (.bool true) ∧ Fr (fun _ => False) w' w'') := fun w' f => HJN.out w1 w2 w3 w' g la ln lc le ma mn mc me HLT.out.2.2 HF2.out HF3.out f hlv.2 hmv.2
    have hme := (HEQ.out w3 (Fr.refl _ _)).1
    subst hme
    have hee : (me == me) = true := by simp
    clear hlv hmv
    obtain ⟨b0, b1⟩ := HBx.out _ HF03.out
    have HBK : Hid (Calls Tryd.prog 17 #[.slice (some ⟨g, 0, none⟩) NB (NB + 7), .slice va NB vc] w3 fun e w' => e = .returned (.bool true) ∧ Fr (fun k => k = g) w3 w') := HBA.out w3 g (HA.out.trans HF03.out (fun _ _ h => h)) (HLT.out.1.kept (HF2.out.trans HF3.out (fun _ _ h => h)) (fun h => h))
    go_wp2_with fail
    refine Calls.mono HBK.out ?_
    rintro e w4 ⟨rfl, hf4⟩
    have HE4 : Hid _ := (HEQ.out w4 hf4).2
    have HF04 : Hid (Fr (fun _ => False) w0 w4) := HF03.out.trans hf4 (fun k hk e => by have := HLT.out; omega)
    clear hf4 b0 b1
    go_wp2_with fail
    refine Calls.mono HE4.out ?_
    rintro e w5 ⟨rfl, hf5⟩
    have HF05 : Hid (Fr (fun _ => False) w w5) := (HA.out.trans HF04.out (fun _ _ h => h)).trans hf5 (fun _ _ h => h)
    clear hf5
    go_wp2_with fail
    refine (HWK.out _ HF05.out).mono ?_
    rintro e w6 ⟨rfl, hf6⟩
    have HF06 : Hid (Fr (fun _ => False) w w6) := HF05.out.trans hf6 (fun _ _ h => h)
    clear hf6
    go_wp2_with fail
    go_ret
    exact ⟨rfl, HF06.out⟩

end Go.Proofs.YtllhekkclhcdbaaDoor
