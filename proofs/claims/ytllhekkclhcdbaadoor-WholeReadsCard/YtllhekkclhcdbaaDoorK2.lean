/- 'States'. -/
import Derived.Test.YtllhekkclhcdbaaDoorKNew
import Derived.BigQuiet
import Derived.Test.YtllhekkclhcdbaaDoorKGet
namespace Go.Proofs.YtllhekkclhcdbaaDoor
open Go.RowKit

theorem take_set_states (x : List Nat) (k : Nat) (hk : k < x.length) : (x.take k ++ List.replicate (x.length - k) 0).set k (x[k]?.getD 0) = x.take (k + 1) ++ List.replicate (x.length - (k + 1)) 0 := by
  apply List.ext_getElem?
  intro i
  rw [List.getElem?_set]
  split
  · rename_i e; subst e
    rw [if_pos (by simp; omega), List.getElem?_append_left (by simp; omega), List.getElem?_take_of_lt (by omega), List.getElem?_eq_getElem hk]; rfl
  · rename_i e
    by_cases hi : i < k
    · rw [List.getElem?_append_left (by simp; omega), List.getElem?_append_left (by simp; omega), List.getElem?_take_of_lt hi, List.getElem?_take_of_lt (by omega)]
    · rw [List.getElem?_append_right (by simp; omega), List.getElem?_append_right (by simp; omega), List.getElem?_replicate, List.getElem?_replicate]
      simp only [List.length_take]
      by_cases h2 : i < x.length
      · rw [if_pos (by omega), if_pos (by omega)]
      · rw [if_neg (by omega), if_neg (by omega)]

set_option maxRecDepth 100000 in
set_option maxHeartbeats 1000000 in
theorem states_at (w : World) (bc gc cc : Nat) (x : List Nat) (hpos : 0 < x.length) (hlim : x.length ≤ 131072) (e0 : w.cell? ⟨bc, 0, none⟩ = some (.slice (some ⟨gc, 0, none⟩) x.length cc)) (hx : w.ownsRow 0 100 1 (.slice (some ⟨gc, 0, none⟩) x.length cc) x.length (byteCells x)) :
    Calls Tryd.prog 29 #[.pointer (some ⟨bc, 0, none⟩)] w fun e w' => ∃ g, e = .returned (.slice (some ⟨g, 0, none⟩) x.length x.length) ∧ w'.ownsRow 0 5 1 (.slice (some ⟨g, 0, none⟩) x.length x.length) x.length (byteCells x) ∧ Fr (fun _ => False) w w' ∧ w.heap.size ≤ g := by
  obtain ⟨i0, hi, hz0, hz1, hz2⟩ := info_parts Tryd.info5
  have HX : Hid (w.ownsRow 0 100 1 (.slice (some ⟨gc, 0, none⟩) x.length cc) x.length (byteCells x)) := hx
  obtain ⟨n, Hn⟩ : ∃ n, Hid (n = x.length) := ⟨_, rfl⟩
  rw [← Hn.out] at hpos hlim e0 HX ⊢
  clear hx
  have hbl : bc < w.heap.size := World.block_lt_of_cell? w ⟨bc, 0, none⟩ e0
  go_enter Tryd.func29, Tryd.ntmps29
  go_wp2_with (first | (at_make; refine wpList_make_full _ rfl _ _ 24 rfl w.heap.size 5 i0 (.int .u8 0) 1 Tryd.underlying24 hi hz0 hz1 .i64 .i64 _ _ n rfl rfl ?_ ?_ ?_ ?_ ?_ ?_))
  · omega
  · omega
  · rw [hz2]; omega
  · unfold maxLen; omega
  · exact Nat.le_refl _
  · intro w2 hown hgrow
    have f : Fr (fun _ => False) w w2 := (Fr.refl _ _).grown hgrow (fun k hk _ => by cases hk)
    have e02 := f.cell e0 (fun hh => hh)
    have HF : Hid (Fr (fun _ => False) w w2) := f
    obtain ⟨g, HG⟩ : ∃ g, Hid (g = w.heap.size) := ⟨_, rfl⟩
    rw [← HG.out] at hown ⊢
    have HO : Hid (w2.ownsRow 0 5 1 (.slice (some ⟨g, 0, none⟩) n n) n (byteCells (x.take 0 ++ List.replicate (n - 0) 0))) := by
      rw [List.take_zero, List.nil_append, Nat.sub_zero, byteCells_replicate, ← toList_madeCells_one]
      exact ownsRow_base hown (fun _ _ => Nat.zero_le _)
    have HXC : Hid (∀ wr, Fr (fun k => k = g) w2 wr → ∀ j, j < n → wr.cell? ⟨gc, j, none⟩ = some (.int .u8 (x[j]?.getD 0 : Nat))) := by
      intro wr f2 j hj
      have hgc := (HX.out.lt gc rfl).2
      have c := HX.out.cellAt j (by omega)
      rw [byteCells_get, List.getElem?_eq_getElem (by have := Hn.out; omega)] at c
      rw [f2.cell (f.cell c (fun hh => hh)) (by show ¬ gc = g; rw [HG.out]; omega), List.getElem?_eq_getElem (by have := Hn.out; omega)]; rfl
    clear hown hgrow f
    go_wp2_with fail
    go_loopw [17] (fun i wr => ∃ k : Nat, k ≤ n ∧ i = .int .i64 k ∧ wr.ownsRow 0 5 1 (.slice (some ⟨g, 0, none⟩) n n) n (byteCells (x.take k ++ List.replicate (n - k) 0)) ∧ Fr (fun k => k = g) w2 wr) (fun i _ => n - (intOf i).toNat)
    case atStart => exact ⟨0, Nat.zero_le _, rfl, HO.out, Fr.refl _ _⟩
    case round =>
      obtain ⟨k, hk, rfl, hown, hfr⟩ := hrel
      have HO2 : Hid (wr.ownsRow 0 5 1 (.slice (some ⟨g, 0, none⟩) n n) n (byteCells (x.take k ++ List.replicate (n - k) 0))) := hown
      have HF2 : Hid (Fr (fun k => k = g) w2 wr) := hfr
      by_cases hlt : k < n
      · have cx := HXC.out wr hfr k hlt
        have cg : ∃ v, wr.cell? ⟨g, k, none⟩ = some v := by
          rw [hown.cellAt k (by omega)]
          have hl := hown.1
          exact ⟨_, List.getElem?_eq_getElem (by omega)⟩
        obtain ⟨v, cg⟩ := cg
        have cf := hown.frozenAt k
        clear hown hfr
        go_wp2_with fail
        go_roundw
        case rel =>
          refine ⟨k + 1, by omega, congrArg (Value.int .i64) (by omega), ?_, HF2.out.setCell (p := ⟨g, k, none⟩) (fun _ => rfl) _⟩
          have := (HO2.out.stored k (.int .u8 (x[k]?.getD 0 : Nat))).1
          rw [byteCells_set, Hn.out, take_set_states x k (by have := Hn.out; omega), ← Hn.out] at this
          exact this
        case measure => simp [intOf]; omega
      · have hkn : k = n := by omega
        subst hkn
        clear hown hfr
        go_wp2_with fail
        go_ret
        refine ⟨g, rfl, ?_, HF.out.trans HF2.out (fun i hi e => by have := HG.out; omega), by rw [HG.out]; exact Nat.le_refl _⟩
        have := HO2.out
        rw [Nat.sub_self, List.replicate_zero, List.append_nil, List.take_of_length_le (by have := Hn.out; omega)] at this
        exact this

end Go.Proofs.YtllhekkclhcdbaaDoor

/- 'Eq' of two slices of bytes. -/
namespace Go.Proofs.YtllhekkclhcdbaaDoor
open Go.RowKit

theorem SeenAt.kept {w w' : World} {v : Value} {l : List Nat} {S : Nat → Prop} (h : SeenAt w v l) (f : Fr S w w') (hs : ∀ k, v.ownBlock = some k → ¬ S k) : SeenAt w' v l := by
  obtain ⟨ao, cap, rfl, hl, hc⟩ := h
  refine ⟨ao, cap, rfl, hl, fun hne => ?_⟩
  obtain ⟨b, off, rfl, hcc⟩ := hc hne
  exact ⟨b, off, rfl, fun j hj => f.cell (hcc j hj) (hs b rfl)⟩
theorem SeenAt.drewN {w : World} {v : Value} {l : List Nat} (h : SeenAt w v l) (q : Nat) : SeenAt (w.drewN q) v l := h
theorem SeenAt.of_row {w : World} {v : Value} {l : List Nat} (h : w.ownsRow 0 5 1 v l.length (byteCells l)) (hl : l.length ≤ 140737488355328) : SeenAt w v l := by
  rcases h.2 with ⟨rfl, e⟩ | ⟨g, cap, cur, rfl, _, hg, hc, hm, _, ht⟩
  · exact ⟨none, 0, by rw [e], hl, fun hn => absurd (List.eq_nil_of_length_eq_zero e) hn⟩
  · refine ⟨_, cap, rfl, hl, fun _ => ⟨g, 0, rfl, fun j hj => ?_⟩⟩
    rw [Nat.zero_add, h.cellAt j (by omega), byteCells_get, List.getElem?_eq_getElem hj]
    rfl

theorem take_succ_eq {a b : List Nat} {k : Nat} (h : a.take k = b.take k) (ha : k < a.length) (hb : k < b.length) (he : a[k]?.getD 0 = b[k]?.getD 0) : a.take (k + 1) = b.take (k + 1) := by
  rw [List.take_succ_eq_append_getElem ha, List.take_succ_eq_append_getElem hb, h]
  rw [List.getElem?_eq_getElem ha, List.getElem?_eq_getElem hb] at he
  simp only [Option.getD_some] at he
  rw [he]

set_option maxRecDepth 100000 in
set_option maxHeartbeats 1000000 in
theorem eq_len (v u : Value) (la lb : List Nat) (w : World) (ha : SeenAt w v la) (hb : SeenAt w u lb) (hl : la.length ≠ lb.length) :
    Calls Tryd.prog 12 #[v, u] w fun e w' => e = .returned (.bool false) ∧ w' = w := by
  obtain ⟨ao, ca, rfl, hla, _⟩ := ha
  obtain ⟨bo, cb, rfl, hlb, _⟩ := hb
  have ht : ((la.length : Int) != (lb.length : Int)) = true := by rw [bne_iff_ne]; omega
  go_enter Tryd.func12, Tryd.ntmps12
  go_wp2
  go_ret
  exact ⟨rfl, rfl⟩

set_option maxRecDepth 100000 in
set_option maxHeartbeats 1000000 in
theorem eq_same (v u : Value) (la lb : List Nat) (w : World) (ha : SeenAt w v la) (hb : SeenAt w u lb) (hl : la.length = lb.length) (bb : Bool) (hbb : Hid (bb = decide (la = lb))) :
    Calls Tryd.prog 12 #[v, u] w fun e w' => e = .returned (.bool bb) ∧ ∃ q, w' = w.drewN q := by
  obtain ⟨ao, ca, rfl, hla, hca⟩ := ha
  obtain ⟨bo, cb, rfl, hlb, hcb⟩ := hb
  have HA : Hid (la ≠ [] → ∃ b off, ao = some ⟨b, off, none⟩ ∧ ∀ j, j < la.length → w.cell? ⟨b, off + j, none⟩ = some (.int .u8 (la[j]?.getD 0 : Nat))) := hca
  have HB : Hid (lb ≠ [] → ∃ b off, bo = some ⟨b, off, none⟩ ∧ ∀ j, j < lb.length → w.cell? ⟨b, off + j, none⟩ = some (.int .u8 (lb[j]?.getD 0 : Nat))) := hcb
  have HL : Hid (la.length = lb.length) := hl
  clear hca hcb hl hlb
  rw [← HL.out]
  obtain ⟨n, hn⟩ : ∃ n, n = la.length := ⟨_, rfl⟩
  rw [← hn] at hla ⊢
  have Hn : Hid (n = la.length) := hn
  clear hn
  have ht : ((n : Int) != (n : Int)) = false := by simp
  by_cases h0 : n = 0
  · have hbt : bb = true := by
      rw [hbb.out]
      have e1 : la = [] := List.eq_nil_of_length_eq_zero (by have := Hn.out; omega)
      have e2 : lb = [] := List.eq_nil_of_length_eq_zero (by have := Hn.out; have := HL.out; omega)
      simp [e1, e2]
    subst hbt; subst h0
    go_enter Tryd.func12, Tryd.ntmps12
    go_wp2
    refine wp_loop_rounds 1 ?_
    rw [rounds_succ]
    go_wp2
    go_ret
    exact ⟨rfl, 0, rfl⟩
  · obtain ⟨b, off, rfl, hca⟩ := HA.out (fun e => h0 (by have := Hn.out; rw [e] at this; simpa using this))
    obtain ⟨b2, off2, rfl, hcb⟩ := HB.out (fun e => h0 (by have := Hn.out; have h2 := HL.out; rw [e] at h2; simp at h2; rw [h2] at this; simpa using this))
    have KA : Hid (∀ j, j < n → w.cell? ⟨b, off + j, none⟩ = some (.int .u8 (la[j]?.getD 0 : Nat))) := fun j hj => hca j (by have := Hn.out; omega)
    have KB : Hid (∀ j, j < n → w.cell? ⟨b2, off2 + j, none⟩ = some (.int .u8 (lb[j]?.getD 0 : Nat))) := fun j hj => hcb j (by have := Hn.out; have := HL.out; omega)
    clear hca hcb HA HB
    go_enter Tryd.func12, Tryd.ntmps12
    go_wp2
    go_loopw [5] (fun i wr => ∃ (k q : Nat), k ≤ n ∧ i = .int .i64 k ∧ wr = w.drewN q ∧ Hid (la.take k = lb.take k)) (fun i _ => n - (intOf i).toNat)
    case atStart => exact ⟨0, 0, Nat.zero_le _, rfl, rfl, rfl⟩
    case round =>
      obtain ⟨k, q, hk, rfl, rfl, HT⟩ := hrel
      by_cases hlt : k < n
      · have c1 := KA.out k hlt
        have c2 := KB.out k hlt
        have HE : Hid (la[k]?.getD 0 = lb[k]?.getD 0 → la.take (k + 1) = lb.take (k + 1)) := fun he => take_succ_eq HT.out (by have := Hn.out; omega) (by have := Hn.out; have := HL.out; omega) he
        have HD : Hid (la[k]?.getD 0 ≠ lb[k]?.getD 0 → bb = false) := fun he => by
          rw [hbb.out]; simp; intro e; exact he (by rw [e])
        generalize la[k]?.getD 0 = x at *
        generalize lb[k]?.getD 0 = y at *
        by_cases hxy : x = y
        · subst hxy
          have HE2 : Hid (la.take (k + 1) = lb.take (k + 1)) := HE.out rfl
          clear HE HD
          have hne : ((x : Int) != (x : Int)) = false := by simp
          go_wp2
          go_quiet (fail)
          go_wp2
          go_roundw
          case rel => exact ⟨k + 1, _, by omega, congrArg (Value.int .i64) (by omega), rfl, HE2⟩
          case measure => simp [intOf]; omega
        · have hne : ((x : Int) != (y : Int)) = true := by rw [bne_iff_ne]; omega
          have hbf := HD.out hxy
          subst hbf
          clear HE HD
          go_wp2
          go_quiet (fail)
          go_wp2
          go_ret
          exact ⟨rfl, q + nq, World.drewN_drewN _ _ _⟩
      · have hkn : k = n := by omega
        have hbt : bb = true := by
          rw [hbb.out]
          have h1 := HT.out
          rw [List.take_of_length_le (by have := Hn.out; omega), List.take_of_length_le (by have := Hn.out; have := HL.out; omega)] at h1
          simp [h1]
        subst hbt; subst hkn
        go_wp2
        go_ret
        exact ⟨rfl, q, rfl⟩

/-- 'Eq' of any two. -/
theorem eq_any (v u : Value) (la lb : List Nat) (w : World) (ha : SeenAt w v la) (hb : SeenAt w u lb) :
    Calls Tryd.prog 12 #[v, u] w fun e w' => e = .returned (.bool (decide (la = lb))) ∧ ∃ q, w' = w.drewN q := by
  by_cases hl : la.length = lb.length
  · exact eq_same v u la lb w ha hb hl _ rfl
  · refine (eq_len v u la lb w ha hb hl).mono ?_
    rintro e w' ⟨rfl, rfl⟩
    exact ⟨by rw [decide_eq_false (fun e => hl (by rw [e]))], 0, rfl⟩

end Go.Proofs.YtllhekkclhcdbaaDoor


/- 'wakes'. -/
namespace Go.Proofs.YtllhekkclhcdbaaDoor
open Go.RowKit

def wakeC : Nat → Co
  | 0 => newP 2
  | k + 1 => putP (wakeC k) ((k % 2 : Nat) : Int) (k / 3 % 2)
def wakeB : List Nat := flushP (wakeC 40).s
def wakeD : Nat → De
  | 0 => newD wakeB 2
  | k + 1 => getP wakeB (wakeD k) ((k % 2 : Nat) : Int)

theorem wakeC_ok : ∀ k, k ≤ 40 → Ook (wakeC k) ∧ (wakeC k).made = k
  | 0, _ => ⟨newP_ok (by decide) (by decide), rfl⟩
  | k + 1, h => by
    obtain ⟨h1, h2⟩ := wakeC_ok k (by omega)
    exact ⟨putP_ok h1 _ _ (by omega), by show (wakeC k).made + 1 = _; omega⟩
theorem wakeB_lt : ∀ y ∈ wakeB, y < 256 := by
  have h : wakeB.all (fun y => decide (y < 256)) = true := by decide +kernel
  intro y hy
  simpa using List.all_eq_true.1 h y hy
theorem wakeB_len : wakeB.length = 5 := by decide +kernel
theorem wakeG (k : Nat) (hk : k < 40) : getBit (wakeD k) ((k % 2 : Nat) : Int) = k / 3 % 2 := by
  have h : (List.range 40).all (fun k => getBit (wakeD k) ((k % 2 : Nat) : Int) == k / 3 % 2) = true := by decide +kernel
  simpa using List.all_eq_true.1 h k (List.mem_range.2 hk)
theorem wakeD_ok : ∀ k, k ≤ 40 → Eok wakeB (wakeD k) ∧ (wakeD k).made = k
  | 0, _ => ⟨newD_ok (by decide) (by decide) wakeB_lt, rfl⟩
  | k + 1, h => by
    obtain ⟨h1, h2⟩ := wakeD_ok k (by omega)
    exact ⟨getP_ok h1 _ (by omega), by show (wakeD k).made + 1 = _; omega⟩

/-- Steps of a coder whose blocks are new. -/
theorem CStep.fresh {w w1 w2 : World} {bc gc gb gb' : Nat} {T : Nat → Prop} (f : Fr T w w1) (h : CStep bc gc gb gb' w1 w2) (s : w.heap.size ≤ bc ∧ w.heap.size ≤ gc ∧ w.heap.size ≤ gb) : Fr T w w2 ∧ w.heap.size ≤ gb' := by
  have hs := f.size
  refine ⟨f.trans h.fr (fun i hi e => by omega), ?_⟩
  rcases h.row with e | e <;> omega
theorem DStep.fresh {w w1 w2 : World} {bd gc : Nat} {T : Nat → Prop} (f : Fr T w w1) (h : DStep bd gc w1 w2) (s : w.heap.size ≤ bd ∧ w.heap.size ≤ gc) : Fr T w w2 :=
  f.trans h (fun i hi e => by omega)

end Go.Proofs.YtllhekkclhcdbaaDoor

/- Two coders side by side; decisions that are handed in. -/
namespace Go.Proofs.YtllhekkclhcdbaaDoor
open Go.RowKit

/-- A coder's blocks are new, and apart from another's. -/
structure Two (w0 w : World) (b1 g1 c1 l1 m1 : Nat) (o1 : Co) (b2 g2 c2 l2 m2 : Nat) (o2 : Co) : Prop where
  at1 : CoAt w b1 g1 c1 l1 m1 o1
  at2 : CoAt w b2 g2 c2 l2 m2 o2
  fr : Fr (fun _ => False) w0 w
  new1 : w0.heap.size ≤ b1 ∧ w0.heap.size ≤ g1 ∧ w0.heap.size ≤ l1
  new2 : w0.heap.size ≤ b2 ∧ w0.heap.size ≤ g2 ∧ w0.heap.size ≤ l2
  apart : (b1 ≠ b2 ∧ b1 ≠ g2 ∧ b1 ≠ l2) ∧ (g1 ≠ b2 ∧ g1 ≠ g2 ∧ g1 ≠ l2) ∧ (l1 ≠ b2 ∧ l1 ≠ g2 ∧ l1 ≠ l2)

theorem Two.step1 {w0 w w' : World} {b1 g1 c1 l1 m1 l1' m1' : Nat} {o1 o1' : Co} {b2 g2 c2 l2 m2 : Nat} {o2 : Co} (h : Two w0 w b1 g1 c1 l1 m1 o1 b2 g2 c2 l2 m2 o2) (hc : CoAt w' b1 g1 c1 l1' m1' o1') (hs : CStep b1 g1 l1 l1' w w') :
    Two w0 w' b1 g1 c1 l1' m1' o1' b2 g2 c2 l2 m2 o2 := by
  obtain ⟨f, n⟩ := CStep.fresh h.fr hs h.new1
  have a := h.apart
  have x1 := h.at2.lt
  have x2 := h.at2.xlt
  have x3 := h.at2.blt
  refine ⟨hc, h.at2.kept hs.fr (by omega) (by omega) (by omega), f, ⟨h.new1.1, h.new1.2.1, n⟩, h.new2, ⟨a.1, a.2.1, ?_⟩⟩
  rcases hs.row with e | e
  · rw [e]; exact a.2.2
  · omega
theorem Two.swap {w0 w : World} {b1 g1 c1 l1 m1 : Nat} {o1 : Co} {b2 g2 c2 l2 m2 : Nat} {o2 : Co} (h : Two w0 w b1 g1 c1 l1 m1 o1 b2 g2 c2 l2 m2 o2) : Two w0 w b2 g2 c2 l2 m2 o2 b1 g1 c1 l1 m1 o1 := by
  have a := h.apart
  exact ⟨h.at2, h.at1, h.fr, h.new2, h.new1, by omega⟩
theorem Two.step2 {w0 w w' : World} {b1 g1 c1 l1 m1 : Nat} {o1 : Co} {b2 g2 c2 l2 m2 l2' m2' : Nat} {o2 o2' : Co} (h : Two w0 w b1 g1 c1 l1 m1 o1 b2 g2 c2 l2 m2 o2) (hc : CoAt w' b2 g2 c2 l2' m2' o2') (hs : CStep b2 g2 l2 l2' w w') :
    Two w0 w' b1 g1 c1 l1 m1 o1 b2 g2 c2 l2' m2' o2' := (h.swap.step1 hc hs).swap
theorem Two.later {w0 w w' : World} {b1 g1 c1 l1 m1 : Nat} {o1 : Co} {b2 g2 c2 l2 m2 : Nat} {o2 : Co} (h : Two w0 w b1 g1 c1 l1 m1 o1 b2 g2 c2 l2 m2 o2) (f : Fr (fun _ => False) w w') : Two w0 w' b1 g1 c1 l1 m1 o1 b2 g2 c2 l2 m2 o2 :=
  ⟨h.at1.kept f (fun hh => hh) (fun hh => hh) (fun hh => hh), h.at2.kept f (fun hh => hh) (fun hh => hh) (fun hh => hh), h.fr.trans f (fun _ _ hh => hh), h.new1, h.new2, h.apart⟩

/-- Decisions that are handed in: their contexts, their bits. -/
structure DecsAt (w : World) (ao : Option Addr) (n : Nat) (K D : Nat → Int) : Prop where
  lim : n ≤ 9223372036854775807
  at_ : 0 < n → ∃ b off, ao = some ⟨b, off, none⟩ ∧ ∀ j, j < n → w.cell? ⟨b, off + j * 2 + 0, none⟩ = some (.int .i64 (K j)) ∧ w.cell? ⟨b, off + j * 2 + 1, none⟩ = some (.int .i64 (D j))
  bd : ∀ j, j < n → (-9223372036854775808 ≤ K j ∧ K j ≤ 9223372036854775807) ∧ (-9223372036854775808 ≤ D j ∧ D j ≤ 9223372036854775807)

theorem DecsAt.kept {w w' : World} {ao : Option Addr} {n : Nat} {K D : Nat → Int} (h : DecsAt w ao n K D) (f : Fr (fun _ => False) w w') : DecsAt w' ao n K D := by
  refine ⟨h.lim, fun hn => ?_, h.bd⟩
  obtain ⟨b, off, e, hc⟩ := h.at_ hn
  exact ⟨b, off, e, fun j hj => ⟨f.cell (hc j hj).1 (fun hh => hh), f.cell (hc j hj).2 (fun hh => hh)⟩⟩

/-- The lowest bit. -/
def lowBit (d : Int) : Nat := (d % 2).toNat
theorem lowBit_lt (d : Int) : lowBit d < 2 := by unfold lowBit; omega
theorem lowBit_and (d : Int) : bits .and .i64 d 1 = (lowBit d : Int) := by
  show IntKind.i64.wrap ((BitVec.ofInt 64 d &&& BitVec.ofInt 64 1).toNat : Int) = _
  rw [BitVec.toNat_and, BitVec.toNat_ofInt, show (BitVec.ofInt 64 1).toNat = 1 from rfl, Nat.and_one_is_mod, IntKind.wrap_i64]
  unfold lowBit
  omega

theorem placeOf_moved (x : Nat) (n : Nat) (m : Int) (hx : x < n) : placeOf ((x : Int) + n * m) n = x := by
  unfold placeOf
  rw [Int.add_mul_emod_self_left, Int.emod_eq_of_lt (by omega) (by omega)]; rfl
theorem placeOf_nat (x : Nat) (n : Nat) (hx : x < n) : placeOf (x : Int) n = x := by
  unfold placeOf
  rw [Int.emod_eq_of_lt (by omega) (by omega)]; rfl
theorem putP_congr (o : Co) (k k' : Int) (bit : Nat) (h : placeOf k o.x.length = placeOf k' o.x.length) : putP o k bit = putP o k' bit := by
  unfold putP; rw [h]
theorem putP_xlen (o : Co) (k : Int) (bit : Nat) : (putP o k bit).x.length = o.x.length := by simp [putP]

/-- A coder of n contexts behind the first k decisions. -/
def runC (n : Nat) (K : Nat → Int) (D : Nat → Nat) : Nat → Co
  | 0 => newP n
  | k + 1 => putP (runC n K D k) (K k) (D k)
theorem runC_ok {n : Nat} (h1 : 1 ≤ n) (h2 : n ≤ 131072) (K : Nat → Int) (D : Nat → Nat) : ∀ k, k ≤ 16777216 → Ook (runC n K D k) ∧ (runC n K D k).made = k ∧ (runC n K D k).x.length = n
  | 0, _ => ⟨newP_ok h1 h2, rfl, by simp [runC, newP]⟩
  | k + 1, h => by
    obtain ⟨a, b, c⟩ := runC_ok h1 h2 K D k (by omega)
    exact ⟨putP_ok a _ _ (by omega), by show (runC n K D k).made + 1 = _; omega, by show (putP _ _ _).x.length = n; rw [putP_xlen, c]⟩

end Go.Proofs.YtllhekkclhcdbaaDoor
