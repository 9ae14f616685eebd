/- The plain writer's 'Groups', 'Var', 'Align', 'Bytes'. -/
import Derived.Test.YtamonbkhpbdojaaDoorRef
namespace Go.Proofs.YtamonbkhpbdojaaDoor
set_option maxRecDepth 100000
open Go.RowKit

set_option maxRecDepth 100000 in
set_option maxHeartbeats 2000000 in
theorem groups_any (n : Nat) (w : World) (hn : n < 18446744073709551616) :
    Calls Tryd.prog 22 #[.int .u64 n] w fun e w' => ∃ rv, e = .returned rv ∧ BytesAt w' w.heap.size rv (groups n) ∧ Below w.heap.size w w' := by
  have HN : Hid (n < 18446744073709551616) := hn
  obtain ⟨i0, hi, hz0, hz1, hz2⟩ := info_parts Tryd.info5
  clear hn
  go_enter Tryd.func22, Tryd.ntmps22
  go_wp2
  go_loopw [0, 3] (fun t v wr => ∃ (m : Nat) (pre : List Nat), t = .int .u64 m ∧ Hid (m < 18446744073709551616) ∧ Hid (groups n = pre ++ groups m) ∧ wr.ownsRow w.heap.size 5 1 v pre.length (byteCells pre) ∧ Below w.heap.size w wr) (fun t _ _ => (intOf t).toNat)
  case atStart => exact ⟨n, [], rfl, HN, rfl, World.ownsRow_nil _ _ _ _, Below.refl _ _⟩
  case round =>
    obtain ⟨m, pre, rfl, HM, HE, hown, hbel⟩ := hrel
    have HO : Hid (wr.ownsRow w.heap.size 5 1 _ pre.length (byteCells pre)) := hown
    have HB : Hid (Below w.heap.size w wr) := hbel
    have hs := hbel.size
    have hpl : pre.length ≤ 10 := by
      have h1 := length_groups_u64 n HN.out
      rw [HE.out, List.length_append] at h1; omega
    clear hown hbel
    by_cases hlt : 128 ≤ m
    · obtain ⟨m2, hm2⟩ : ∃ m2, m2 = m / 128 := ⟨_, rfl⟩
      have hwr : IntKind.u64.wrap ((m : Int) / 128) = (m2 : Int) := by
        rw [show ((m : Int) / 128) = ((m / 128 : Nat) : Int) from by simp, hm2]; exact wrapu64_nat _ (by have := HM.out; omega)
      have HM2 : Hid (m2 = m / 128) := hm2
      clear hm2
      go_wp2_with (first | (at_builtin; refine wpList_append_own _ rfl _ _ 25 rfl w.heap.size 5 i0 (.int .u8 0) 1 1 Tryd.underlying25 hi hz0 hz1 hz2 rfl (by decide) _ _ _ rfl (HO.out.alloc _) ⟨wr.heap.size, 0, none⟩ 1 1 _ rfl rfl (cell_one_new _ _ _) ?_ ?_ ?_ ?_ ?_))
      · intro u hu; simp at hu; subst hu; rfl
      · unfold maxLen; omega
      · omega
      · simp; omega
      · intro v' w1 hown' hgrow hnn
        have HO2 : Hid (w1.ownsRow w.heap.size 5 1 v' (pre ++ [m % 128 + 128]).length (byteCells (pre ++ [m % 128 + 128]))) := by
          rw [List.length_append, byteCells_append]
          have e : byteCells [m % 128 + 128] = [Value.int .u8 ((m : Int) % 128 + 128)] := by simp [byteCells]
          rw [e]; exact hown'
        have HB2 : Hid (Below w.heap.size w w1) := (HB.out.alloc hs _).grown hgrow (by simp; omega) (fun k hk => (HO.out.lt k hk).1)
        clear hown' hgrow hnn
        go_wp2
        go_roundw
        case rel => exact ⟨m2, pre ++ [m % 128 + 128], rfl, by rw [HM2.out]; exact Nat.lt_of_le_of_lt (Nat.div_le_self _ _) HM.out, by show _ = _; rw [HE.out, groups_more m hlt, List.append_assoc, HM2.out]; rfl, HO2.out, HB2.out⟩
        case measure => have := HM2.out; simp [intOf]; omega
    · go_wp2_with (first | (at_builtin; refine wpList_append_own _ rfl _ _ 25 rfl w.heap.size 5 i0 (.int .u8 0) 1 1 Tryd.underlying25 hi hz0 hz1 hz2 rfl (by decide) _ _ _ rfl (HO.out.alloc _) ⟨wr.heap.size, 0, none⟩ 1 1 _ rfl rfl (cell_one_new _ _ _) ?_ ?_ ?_ ?_ ?_))
      · intro u hu; simp at hu; subst hu; rfl
      · unfold maxLen; omega
      · omega
      · simp; omega
      · intro v' w1 hown' hgrow hnn
        have HO2 : Hid (BytesAt w1 w.heap.size v' (groups n)) := by
          unfold BytesAt
          rw [HE.out, groups_small m (by omega), List.length_append, byteCells_append]
          exact hown'
        have HB2 : Hid (Below w.heap.size w w1) := (HB.out.alloc hs _).grown hgrow (by simp; omega) (fun k hk => (HO.out.lt k hk).1)
        clear hown' hgrow hnn
        go_wp2
        go_ret
        exact ⟨v', rfl, HO2.out, HB2.out⟩

theorem row_apart {w : World} {b e n b' e' s' n' : Nat} {v v' : Value} {xs xs' : List Value} (h1 : w.ownsRow b e 1 v n xs) (h2 : w.ownsRow b' e' s' v' n' xs') (he : e ≠ e') : ∀ k, v.ownBlock = some k → v'.ownBlock ≠ some k := by
  intro k hk hk'
  rcases h1.2 with ⟨rfl, _⟩ | ⟨g, cap, cur, rfl, _, hg, _⟩
  · simp [Value.ownBlock] at hk
  · rcases h2.2 with ⟨rfl, _⟩ | ⟨g', cap', cur', rfl, _, hg', _⟩
    · simp [Value.ownBlock] at hk'
    · simp [Value.ownBlock] at hk hk'
      subst hk
      subst hk'
      rw [hg] at hg'
      simp at hg'
      exact he hg'.2
theorem row_off {w : World} {b e s n : Nat} {v : Value} {xs : List Value} {bf : Nat} {c : Array Value} {t : TypeId} {z : Nat × Nat} (h1 : w.ownsRow b e s v n xs) (hb : w.heap[bf]? = some (.cells c t z)) (he : e ≠ t) : v.ownBlock ≠ some bf := by
  intro hk
  rcases h1.2 with ⟨rfl, _⟩ | ⟨g, cap, cur, rfl, _, hg, _⟩
  · simp [Value.ownBlock] at hk
  · simp [Value.ownBlock] at hk
    subst hk
    rw [hg] at hb
    simp at hb
    exact he hb.2.1

theorem rput_fits' (bf : Nat) (v : Value) (most : Nat) (bs : List Bool) (x y : Int) (n wd : Nat) (w : World) (hx : x = n) (hy : y = wd) (h : FAt w bf v most bs) (hw : wd ≤ 64) (hn : n < 18446744073709551616) (hv : n < 2 ^ wd) (hf : bs.length + wd ≤ 8 * most) :
    Calls Tryd.prog 23 #[.pointer (some ⟨bf, 0, none⟩), .int .u64 x, .int .i64 y] w fun e w' => e = .returned (.int .i64 0) ∧ ∃ v', FAt w' bf v' most (bs ++ bitsOf n wd) ∧ WStep bf v v' w w' := by
  subst hx; subst hy; exact rput_fits bf v most bs n wd w h hw hn hv hf

theorem flat_take (l : List Nat) (j : Nat) (h : j < l.length) : flat (l.take (j + 1)) = flat (l.take j) ++ bitsOf (l[j]?.getD 0) 8 := by
  rw [List.take_succ_eq_append_getElem h, flat_append, List.getElem?_eq_getElem h]
  simp [flat]

end Go.Proofs.YtamonbkhpbdojaaDoor
