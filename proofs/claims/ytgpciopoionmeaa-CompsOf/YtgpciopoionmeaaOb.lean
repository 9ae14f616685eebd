/- 'OverBitmaps': bitmaps that were told are written over, each by its own mark. -/
import Derived.Test.YtgpciopoionmeaaFd
import Derived.Deep.AppendLies
namespace Go.Proofs.Ytgpciopoionmeaa
open Go.RowKit

/-- An append, and where its row lies. -/
theorem wpList_append_where {P : Program} (w : World) {ops : Array Oper} {rest : List Oper} {o : Oper} {a : Act} {Q : Exit → Act → World → Prop} (hgd : o.guard = none) (s x : Operand) (t : TypeId)
    (ho : o.op = Op.call { callee := Callee.builtin Builtin.append, args := #[s, x], argTypes := #[t, t] }) (e : TypeId) (i : TypeInfo) (z : Value) (size bytes : Nat)
    (ht : P.underlying t = some (TypeDesc.slice e)) (hi : P.info? e = some i) (hz : i.zero = some z) (hsize : i.size = size) (hby : i.bytes = bytes) (hzs : z.cells.size = size) (hsz : 0 < size)
    (v : Value) (n : Nat) (xs : List Value) (hs : a.eval s = v) (hown : w.ownsRow 0 e size v n xs) (ad : Addr) (m c : Nat) (news : List Value) (hx : a.eval x = Value.slice (some ad) m c) (hl : news.length = m * size)
    (hnews : ∀ (j : Nat) (u : Value), news[j]? = some u → w.cell? (ad.add j) = some u) (h1 : ∀ (u : Value), u ∈ news → u.oneCell' = true) (h63 : n + m ≤ maxLen) (hbytes : (n + m) * bytes ≤ 140737488355328) (hm : 0 < m)
    (h : ∀ (g' cap' : Nat) (w' : World), w'.ownsRow 0 e size (.slice (some ⟨g', 0, none⟩) (n + m) cap') (n + m) (xs ++ news) → w.grownBy w' v.ownBlock → (v = .slice (some ⟨g', 0, none⟩) n cap' ∨ w.heap.size ≤ g' ∧ w'.ownsRow 0 e size v n xs) →
      wpList P ops Q rest (a.put o.dst (.slice (some ⟨g', 0, none⟩) (n + m) cap')) w') : wpList P ops Q (o :: rest) a w := by
  have hownc := hown
  rcases hown.2 with ⟨rfl, rfl⟩ | ⟨g, cap, cur, rfl, hb, hg, hc, hmx, hcs, htk⟩
  · have hxs : xs = [] := List.eq_nil_of_length_eq_zero (by have := hown.1; omega)
    subst hxs
    refine wpList_append_grows w hgd s x t ho e i z size bytes ht hi hz hsize hby hzs hsz none 0 0 [] hs (fun _ => ⟨rfl, rfl⟩) (by simp) (fun b hb => by cases hb) ad m c news hx hl hnews h1 (by omega) h63 hbytes ?_
    intro v' w' ho' hgr
    obtain ⟨g', cap', rfl, hb', hc', hm'⟩ := row_form ho' (by omega)
    exact h g' cap' w' (ownsRow_base ho' (fun _ _ => Nat.zero_le _)) hgr (Or.inr ⟨hb', World.ownsRow_nil _ _ _ _⟩)
  · by_cases hroom : n + m ≤ cap
    · refine wpList_append_fits w hgd s x t ho 0 e i size ht hi hsize g n cap xs hs hownc ad m c news hx hl hnews h1 hroom ?_
      intro w' ho' hgr
      exact h g cap w' ho' hgr (Or.inl rfl)
    · refine wpList_append_grows w hgd s x t ho e i z size bytes ht hi hz hsize hby hzs hsz (some ⟨g, 0, none⟩) n cap xs hs (fun hh => by cases hh) hown.1 ?_ ad m c news hx hl hnews h1 (by omega) h63 hbytes ?_
      · intro b hb j u hu
        simp only [Option.some.injEq] at hb
        subst hb
        exact hownc.cells (g := g) rfl j u hu
      · intro v' w' ho' hgr
        obtain ⟨g', cap', rfl, hb', hc', hm'⟩ := row_form ho' (by omega)
        refine h g' cap' w' (ownsRow_base ho' (fun _ _ => Nat.zero_le _)) ?_ (Or.inr ⟨hb', row_kept hownc ((Fr.refl (fun _ => False) w).grown hgr (fun _ e _ => by cases e)) (fun k hk h => h)⟩)
        exact ⟨hgr.os, hgr.tape, hgr.output, hgr.size, fun k hk _ => hgr.block k hk (by simp)⟩


theorem own_prefix {w : World} {b e s n m g cap : Nat} {xs ys : List Value} (h : w.ownsRow b e s (.slice (some ⟨g, 0, none⟩) (n + m) cap) (n + m) (xs ++ ys)) (hx : xs.length = n * s) : w.ownsRow b e s (.slice (some ⟨g, 0, none⟩) n cap) n xs := by
  refine ⟨hx, Or.inr ?_⟩
  rcases h.2 with ⟨e1, _⟩ | ⟨g2, cap2, cur2, e2, hb2, hg2, hc2, hmx2, hcs2, htk2⟩
  · cases e1
  · cases e2
    refine ⟨g, cap, cur2, rfl, hb2, hg2, by omega, hmx2, hcs2, ?_⟩
    have hle : n * s ≤ (n + m) * s := Nat.mul_le_mul_right _ (by omega)
    have := congrArg (List.take (n * s)) htk2
    rw [List.take_take, Nat.min_eq_left hle, List.take_append_of_le_length (by rw [hx]; exact Nat.le_refl _), List.take_of_length_le (l := xs) (by rw [hx]; exact Nat.le_refl _)] at this
    exact this

/-- The words that bear their marks. -/
def mkd (N : Nat → Nat) (i k c : Nat) (ws : List Value) : Prop := ∀ t, (c < i ∧ t < N c) ∨ (c = i ∧ t < k) → ws[t]? = some (.int .u64 (1000 + (c : Int)))
/-- The bitmaps while they are written over: of the first i all words, of the next k. -/
structure OvI (w : World) (m : Nat) (rv : Value) (xs : List Value) (U : Nat → Value) (N : Nat → Nat) (i k : Nat) : Prop where
  reps : w.ownsRow 0 25 3 rv m xs
  words : ∀ c, c < m → ∃ ws, w.ownsRow 0 62 1 (U c) (N c) ws ∧ mkd N i k c ws
theorem OvI.step {w w' : World} {m i k i' k' : Nat} {rv : Value} {xs : List Value} {U : Nat → Value} {N : Nat → Nat} (h : OvI w m rv xs U N i k) (hi : i < m) (hsep : ∀ c c' g, c < m → c' < m → c ≠ c' → (U c).ownBlock = some g → (U c').ownBlock ≠ some g)
    (f : Fr (fun b => (U i).ownBlock = some b) w w') (hn : ∃ ws, w'.ownsRow 0 62 1 (U i) (N i) ws ∧ mkd N i' k' i ws) (hm : ∀ c ws, c ≠ i → mkd N i k c ws → mkd N i' k' c ws) : OvI w' m rv xs U N i' k' := by
  refine ⟨row_kept h.reps f (fun b hb e => ?_), fun c hc => ?_⟩
  · obtain ⟨ws, ho, _⟩ := h.words i hi
    rcases own_ne2 h.reps ho (by decide) with h1 | h1
    · rw [h1] at hb; cases hb
    · exact h1 (hb.trans e.symm)
  · by_cases e : c = i
    · subst e; exact hn
    · obtain ⟨ws, ho, hk⟩ := h.words c hc
      exact ⟨ws, row_kept ho f (fun b hb e2 => hsep c i b hc hi e hb e2), hm c ws e hk⟩
theorem mkd_next {N : Nat → Nat} {i c : Nat} {ws : List Value} (h : mkd N i (N i) c ws) : mkd N (i + 1) 0 c ws := fun t ht => by
  refine h t ?_
  rcases ht with ⟨h1, h2⟩ | ⟨_, h2⟩
  · by_cases e : c = i
    · subst e; exact Or.inr ⟨rfl, h2⟩
    · exact Or.inl ⟨by omega, h2⟩
  · omega
theorem mkd_zero {N : Nat → Nat} {c : Nat} {ws : List Value} : mkd N 0 0 c ws := fun t ht => by
  rcases ht with ⟨h1, _⟩ | ⟨_, h1⟩ <;> omega
theorem mkd_set {N : Nat → Nat} {i k : Nat} {ws : List Value} (h : mkd N i k i ws) (hk : k < ws.length) : mkd N i (k + 1) i (ws.set k (.int .u64 (1000 + (i : Int)))) := fun t ht => by
  rcases ht with ⟨h1, _⟩ | ⟨_, h2⟩
  · omega
  · by_cases e : t = k
    · subst e; rw [List.getElem?_set_self hk]
    · rw [List.getElem?_set_ne (fun e2 => e e2.symm)]; exact h t (Or.inr ⟨rfl, by omega⟩)
theorem mkd_other {N : Nat → Nat} {i k k' c : Nat} {ws : List Value} (hc : c ≠ i) (h : mkd N i k c ws) : mkd N i k' c ws := fun t ht => by
  rcases ht with h1 | ⟨h1, _⟩
  · exact h t (Or.inl h1)
  · exact absurd h1 hc

set_option maxRecDepth 100000 in
set_option maxHeartbeats 4000000 in
theorem overBitmaps_any (m : Nat) (rv : Value) (xs : List Value) (U : Nat → Value) (N : Nat → Nat) (w : World) (h : OvI w m rv xs U N 0 0) (hx : ∀ c, c < m → xs[c * 3 + 2]? = some (U c)) (hN : ∀ c, c < m → 0 < N c ∧ N c ≤ 1048576) (hm : m ≤ 1048576)
    (hsep : ∀ c c' g, c < m → c' < m → c ≠ c' → (U c).ownBlock = some g → (U c').ownBlock ≠ some g) :
    Calls Try.prog 14 #[rv] w fun e w' => e = .returned (.bool true) ∧ Fr (fun b => ∃ c, c < m ∧ (U c).ownBlock = some b) w w' := by
  obtain ⟨i0, hi, hz0, hz1, hz2⟩ := info_parts Try.infoUw
  obtain ⟨ar, cr, hrv⟩ := own_slice h.reps
  subst hrv
  have HSEP : Hid (∀ c c' g, c < m → c' < m → c ≠ c' → (U c).ownBlock = some g → (U c').ownBlock ≠ some g) := hsep
  have HN : Hid (∀ c, c < m → 0 < N c ∧ N c ≤ 1048576) := hN
  have HOV : Hid (OvI w m (.slice ar m cr) xs U N 0 0) := h
  have HCU : Hid (∀ i k w', OvI w' m (.slice ar m cr) xs U N i k → ∀ c, c < m → ∃ gr gu cu, ar = some ⟨gr, 0, none⟩ ∧ U c = .slice (some ⟨gu, 0, none⟩) (N c) cu ∧ w'.cell? ⟨gr, c * 3 + 2, none⟩ = some (.slice (some ⟨gu, 0, none⟩) (N c) cu)) := fun i k w' ho c hc => by
    obtain ⟨gr, cr', e1, -⟩ := row_form ho.reps (by omega)
    simp only [Value.slice.injEq] at e1
    obtain ⟨rfl, -, rfl⟩ := e1
    obtain ⟨ws, hw, -⟩ := ho.words c hc
    obtain ⟨gu, cu, e2, -⟩ := row_form hw (hN c hc).1
    refine ⟨gr, gu, cu, rfl, e2, ?_⟩
    rw [ho.reps.cellAt (c * 3 + 2) (by omega), hx c hc, e2]
  clear h hsep hN hx
  go_enter Try.func14, Try.ntmps14
  go_wp2_with fail
  go_loopg [3, 4, 5] m (fun q k _ _ wr => ∃ (i : Nat), i + q = m ∧ k = .int .i64 (i : Int) ∧ OvI wr m (.slice ar m cr) xs U N i 0 ∧ Fr (fun b => ∃ c, c < m ∧ (U c).ownBlock = some b) w wr)
  case atStart => exact ⟨0, by omega, rfl, HOV.out, Fr.refl _ _⟩
  case round =>
    obtain ⟨i, hiq, rfl, ho, hfr⟩ := hrel
    have HO : Hid (OvI wr m (.slice ar m cr) xs U N i 0) := ho
    have HFr : Hid (Fr (fun b => ∃ c, c < m ∧ (U c).ownBlock = some b) w wr) := hfr
    clear ho hfr
    by_cases h1 : i < m
    · have d1 : decide (i < m) = true := decide_eq_true h1
      obtain ⟨gr, gu, cu, har, hU, hcell⟩ := HCU.out i 0 wr HO.out i h1
      subst har
      have HU : Hid (U i = .slice (some ⟨gu, 0, none⟩) (N i) cu) := hU
      obtain ⟨n1, n2⟩ := HN.out i h1
      generalize hNi : N i = Ni at *
      have HNI : Hid (N i = Ni) := hNi
      have HCE : Hid (∀ k w', OvI w' m (.slice (some ⟨gr, 0, none⟩) m cr) xs U N i k → w'.cell? ⟨gr, i * 3 + 2, none⟩ = some (.slice (some ⟨gu, 0, none⟩) Ni cu)) := fun k w' ho => by
        obtain ⟨gr', gu', cu', e1, e2, e3⟩ := HCU.out i k w' ho i h1
        cases e1
        rw [hNi] at e2 e3
        rw [hU] at e2
        cases e2
        exact e3
      clear hU hcell hNi
      go_wp2_with fail
      go_loopg [4] Ni (fun q k wr => ∃ (t : Nat), t + q = Ni ∧ k = .int .i64 (t : Int) ∧ OvI wr m (.slice (some ⟨gr, 0, none⟩) m cr) xs U N i t ∧ Fr (fun b => ∃ c, c < m ∧ (U c).ownBlock = some b) w wr)
      case atStart => exact ⟨0, by omega, rfl, HO.out, HFr.out⟩
      case round =>
        obtain ⟨t, htq, rfl, ho2, hfr2⟩ := hrel
        have HO2 : Hid (OvI wr m (.slice (some ⟨gr, 0, none⟩) m cr) xs U N i t) := ho2
        have HF2 : Hid (Fr (fun b => ∃ c, c < m ∧ (U c).ownBlock = some b) w wr) := hfr2
        clear ho2 hfr2 HO HFr
        have l0 := HCE.out t wr HO2.out
        by_cases h2 : t < Ni
        · have d2 : decide (t < Ni) = true := decide_eq_true h2
          obtain ⟨ws, how, hmk⟩ := HO2.out.words i h1
          have HW : Hid (wr.ownsRow 0 62 1 (.slice (some ⟨gu, 0, none⟩) Ni cu) Ni ws) := by
            have := how
            rw [HU.out, HNI.out] at this
            exact this
          have HMK : Hid (mkd N i t i ws) := hmk
          clear how hmk
          have hly : ws.length = Ni * 1 := HW.out.1
          obtain ⟨u, hu⟩ : ∃ u, wr.cell? ⟨gu, t, none⟩ = some u := ⟨ws[t]'(by omega), by rw [World.ownsRow.cellAt HW.out t (by omega), List.getElem?_eq_getElem (by omega)]⟩
          have f6 : wr.frozen? ⟨gu, t, none⟩ = false := World.ownsRow.frozenAt HW.out t
          have HO6 : Hid (OvI (wr.setCell ⟨gu, t, none⟩ (.int .u64 (1000 + (i : Int)))) m (.slice (some ⟨gr, 0, none⟩) m cr) xs U N i (t + 1)) := HO2.out.step h1 HSEP.out ((Fr.refl _ wr).setCell (p := ⟨gu, t, none⟩) (fun _ => by rw [HU.out]; rfl) _) ⟨_, by rw [HU.out, HNI.out]; exact (World.ownsRow.stored HW.out t (.int .u64 (1000 + (i : Int)))).1, mkd_set HMK.out (by omega)⟩ (fun c ws' hc hh => mkd_other hc hh)
          have HF6 : Hid (Fr (fun b => ∃ c, c < m ∧ (U c).ownBlock = some b) w (wr.setCell ⟨gu, t, none⟩ (.int .u64 (1000 + (i : Int))))) := HF2.out.setCell (p := ⟨gu, t, none⟩) (fun _ => ⟨i, h1, by rw [HU.out]; rfl⟩) _
          clear hly
          go_wp2_with fail
          go_roundg (Ni - (t + 1))
          case measure => omega
          case rel => exact ⟨t + 1, by omega, by go_num, HO6.out, HF6.out⟩
        · have d2 : decide (t < Ni) = false := decide_eq_false h2
          have ht : t = Ni := by omega
          clear h2 htq
          subst ht
          obtain ⟨ws, how, hmk⟩ := HO2.out.words i h1
          have HW : Hid (wr.ownsRow 0 62 1 (.slice (some ⟨gu, 0, none⟩) t cu) t ws) := by
            have := how
            rw [HU.out, HNI.out] at this
            exact this
          have HMK : Hid (mkd N i t i ws) := hmk
          clear how hmk
          go_wp2_with (first | (at_builtin; refine wpList_append_where _ rfl _ _ 23 rfl 62 i0 (.int .u64 0) 1 8 Try.underlying23 hi hz0 hz1 hz2 rfl (by decide) (.slice (some ⟨gu, 0, none⟩) t cu) t ws rfl (HW.out.alloc _) ⟨wr.heap.size, 0, none⟩ 1 1 [.int .u64 7] rfl rfl ?c1 ?c2 ?c3 ?c4 (by decide) ?_))
          case c1 =>
            intro j u hu
            have hb := heap_alloc_new wr (.cells #[.int .u64 7] 62)
            match j, hu with
            | 0, hu => cases hu; show (wr.alloc _).cell? ⟨wr.heap.size, 0, none⟩ = _; unfold World.cell?; simp only [hb]; rfl
            | j + 1, hu => simp at hu
          case c2 =>
            intro u hu
            simp only [List.mem_cons, List.not_mem_nil, or_false] at hu
            subst hu; rfl
          case c3 => unfold maxLen; omega
          case c4 => omega
          intro g' cap' w' ho hg hor
          have hd : decide (t < t + 1) = true := decide_eq_true (by omega)
          have hly : ws.length = t * 1 := HW.out.1
          have c9 : w'.cell? ⟨g', t, none⟩ = some (.int .u64 7) := by
            rw [World.ownsRow.cellAt ho t (by omega), List.getElem?_append_right (by omega), hly, Nat.mul_one, Nat.sub_self]; rfl
          have f9 : w'.frozen? ⟨g', t, none⟩ = false := World.ownsRow.frozenAt ho t
          have HFU : Hid (Fr (fun b => (U i).ownBlock = some b) wr (w'.setCell ⟨g', t, none⟩ (.int .u64 (1000 + (i : Int))))) := by
            refine (((Fr.refl (fun b => (U i).ownBlock = some b) wr).alloc _).grown hg (fun k e _ => by rw [HU.out]; exact e)).setCell (p := ⟨g', t, none⟩) (fun hlt => ?_) _
            rcases hor with e | ⟨e, _⟩
            · rw [HU.out, e.1]; rfl
            · have h3 : g' < wr.heap.size := hlt
              omega
          have HRW : Hid ((w'.setCell ⟨g', t, none⟩ (.int .u64 (1000 + (i : Int)))).ownsRow 0 62 1 (.slice (some ⟨gu, 0, none⟩) t cu) t ws) := by
            rcases hor with e | ⟨e, hk⟩
            · obtain ⟨rfl, rfl⟩ := e
              have h4 := (World.ownsRow.stored ho t (.int .u64 (1000 + (i : Int)))).1
              rw [List.set_append_right _ _ (by omega)] at h4
              exact own_prefix h4 hly
            · refine row_kept hk ((Fr.refl (fun b => b = g') w').setCell (p := ⟨g', t, none⟩) (fun _ => rfl) _) (fun b hb e2 => ?_)
              have h5 := (HW.out.lt b hb).2
              omega
          have HO6 : Hid (OvI (w'.setCell ⟨g', t, none⟩ (.int .u64 (1000 + (i : Int)))) m (.slice (some ⟨gr, 0, none⟩) m cr) xs U N (i + 1) 0) := HO2.out.step h1 HSEP.out HFU.out ⟨ws, by rw [HU.out, HNI.out]; exact HRW.out, by have := HMK.out; rw [← HNI.out] at this; exact mkd_next this⟩ (fun c ws' hc hh => by have h6 := mkd_other (k' := N i) hc hh; exact mkd_next h6)
          have HF6 : Hid (Fr (fun b => ∃ c, c < m ∧ (U c).ownBlock = some b) w (w'.setCell ⟨g', t, none⟩ (.int .u64 (1000 + (i : Int))))) := HF2.out.trans HFU.out (fun b hb e => ⟨i, h1, e⟩)
          have l9 : w'.cell? ⟨gr, i * 3 + 2, none⟩ = some (.slice (some ⟨gu, 0, none⟩) t cu) := by
            have hne : gr ≠ gu := fun e => by
              subst e
              rcases own_ne2 HO2.out.reps HW.out (by decide) with h7 | h7
              · cases h7
              · exact h7 rfl
            rw [(((Fr.refl (fun b => b = gu) wr).alloc _).grown hg (fun k e _ => by simp only [Value.ownBlock, Option.some.injEq] at e; exact e.symm)).cellEq (seen_lt l0) hne]
            exact l0
          clear ho hg hor hly l0
          go_wp2_with fail
          go_roundg (m - (i + 1))
          case measure => omega
          case rel => exact ⟨i + 1, by omega, by go_num, HO6.out, HF6.out⟩
    · have d1 : decide (i < m) = false := decide_eq_false h1
      have hie : i = m := by omega
      subst hie
      clear h1 hiq
      have HALL : Hid (∀ c, c < i → ∀ t, t < N c → ∃ gr gu cu, ar = some ⟨gr, 0, none⟩ ∧ U c = .slice (some ⟨gu, 0, none⟩) (N c) cu ∧ wr.cell? ⟨gr, c * 3 + 2, none⟩ = some (.slice (some ⟨gu, 0, none⟩) (N c) cu) ∧ wr.cell? ⟨gu, t, none⟩ = some (.int .u64 (1000 + (c : Int)))) := fun c hc t ht => by
        obtain ⟨gr, gu, cu, e1, e2, e3⟩ := HCU.out i 0 wr HO.out c hc
        obtain ⟨ws, how, hmk⟩ := HO.out.words c hc
        rw [e2] at how
        exact ⟨gr, gu, cu, e1, e2, e3, by rw [World.ownsRow.cellAt how t (by omega), hmk t (Or.inl ⟨hc, ht⟩)]⟩
      go_wp2_with fail
      go_loopg [6, 7] i (fun q k _ w2 => ∃ (c : Nat), c + q = i ∧ k = .int .i64 (c : Int) ∧ w2 = wr)
      case atStart => exact ⟨0, by omega, rfl, rfl⟩
      case round =>
        obtain ⟨c, hcq, rfl, rfl⟩ := hrel
        by_cases h1 : c < i
        · have d2 : decide (c < i) = true := decide_eq_true h1
          obtain ⟨n1, n2⟩ := HN.out c h1
          have HAC : Hid (∀ t, t < N c → ∃ gr gu cu, ar = some ⟨gr, 0, none⟩ ∧ U c = .slice (some ⟨gu, 0, none⟩) (N c) cu ∧ wr.cell? ⟨gr, c * 3 + 2, none⟩ = some (.slice (some ⟨gu, 0, none⟩) (N c) cu) ∧ wr.cell? ⟨gu, t, none⟩ = some (.int .u64 (1000 + (c : Int)))) := HALL.out c h1
          obtain ⟨gr, gu, cu, rfl, eU, l0, -⟩ := HAC.out 0 n1
          have HTT : Hid (∀ t, t < N c → wr.cell? ⟨gu, t, none⟩ = some (.int .u64 (1000 + (c : Int)))) := fun t ht => by
            obtain ⟨gr', gu', cu', e1, e2, _, e4⟩ := HAC.out t ht
            rw [eU] at e2
            cases e2
            exact e4
          clear eU HAC
          generalize hNc : N c = Nc at *
          clear hNc
          go_wp2_with fail
          go_loopg [7] Nc (fun q k w2 => ∃ (t : Nat), t + q = Nc ∧ k = .int .i64 (t : Int) ∧ w2 = wr)
          case atStart => exact ⟨0, by omega, rfl, rfl⟩
          case round =>
            obtain ⟨t, htq, rfl, rfl⟩ := hrel
            by_cases h2 : t < Nc
            · have d3 : decide (t < Nc) = true := decide_eq_true h2
              have l1 := HTT.out t h2
              go_wp2_with fail
              go_roundg (Nc - (t + 1))
              case measure => omega
              case rel => exact ⟨t + 1, by omega, by go_num, rfl⟩
            · have d3 : decide (t < Nc) = false := decide_eq_false h2
              go_wp2_with fail
              go_roundg (i - (c + 1))
              case measure => omega
              case rel => exact ⟨c + 1, by omega, by go_num, rfl⟩
        · have d2 : decide (c < i) = false := decide_eq_false h1
          go_wp2_with fail
          go_ret
          exact ⟨rfl, HFr.out⟩
end Go.Proofs.Ytgpciopoionmeaa
