/- Items: numbers and IDs, put and got. -/
import Derived.Test.YtllhekkclhcdbaaDoorKNone5
namespace Go.Proofs.YtllhekkclhcdbaaDoor
open Go.RowKit

structure It where
  idb : Bool
  b : Int
  w : Int
  v : Int
  nn : Bool
instance : Inhabited It := ⟨⟨false, 0, 0, 0, false⟩⟩
def It.pw (it : It) : Nat := 2 ^ it.w.toNat
def It.good (it : It) : Prop := (it.idb = true ∧ (0 ≤ it.w ∧ it.w ≤ 12) ∧ (0 ≤ it.b ∧ it.b ≤ 9000 - (it.pw : Int)) ∧ 0 ≤ it.v ∧ it.v < (it.pw : Int)) ∨ (it.idb = false ∧ (0 ≤ it.b ∧ it.b ≤ 9000 - 512) ∧ mayP it.v it.nn = true)
instance (it : It) : Decidable it.good := by unfold It.good; infer_instance
def It.dec (it : It) : List (Int × Nat) := if it.idb then decs it.b.toNat it.pw 1 (hiBits it.v.toNat it.w.toNat) else decs it.b.toNat 512 1 (numBits it.v it.nn)
theorem It.dec_len {it : It} (h : it.good) : it.dec.length ≤ 38 := by
  unfold It.dec
  split
  · rename_i e
    rw [decs_len, hiBits_len]
    rcases h with h | h
    · omega
    · rw [h.1] at e; cases e
  · rw [decs_len, numBits_len]; exact numLen_le _
theorem It.dec_bit (it : It) : ∀ p ∈ it.dec, p.2 < 2 := by
  unfold It.dec
  split
  · exact decs_bit _ _ (hiBits_lt _ _)
  · exact decs_bit _ _ (hiBits_lt _ _)
def itsL (l : List It) : List (Int × Nat) := l.flatMap It.dec
theorem itsL_len : ∀ (l : List It), (∀ it ∈ l, it.good) → (itsL l).length ≤ 38 * l.length
  | [], _ => Nat.le_refl _
  | it :: l, h => by
    have h1 := It.dec_len (h it (by simp))
    have h2 := itsL_len l (fun x hx => h x (by simp [hx]))
    simp only [itsL, List.flatMap_cons, List.length_append, List.length_cons] at h2 ⊢
    omega
theorem itsL_bit (l : List It) : ∀ p ∈ itsL l, p.2 < 2 := by
  intro p hp
  obtain ⟨it, _, h⟩ := List.mem_flatMap.1 hp
  exact it.dec_bit p h
theorem itsL_snoc (l : List It) (it : It) : itsL (l ++ [it]) = itsL l ++ it.dec := by simp [itsL]
/-- What is done of the first items. -/
def dn (I : Nat → It) : Nat → List It
  | 0 => []
  | n + 1 => if (I n).good then dn I n ++ [I n] else dn I n
theorem dn_good (I : Nat → It) : ∀ n, ∀ it ∈ dn I n, it.good
  | 0, it, h => by simp [dn] at h
  | n + 1, it, h => by
    unfold dn at h
    split at h
    · rename_i hg
      rcases List.mem_append.1 h with h | h
      · exact dn_good I n it h
      · simp at h; rw [h]; exact hg
    · exact dn_good I n it h
theorem dn_len (I : Nat → It) : ∀ n, (dn I n).length ≤ n
  | 0 => Nat.le_refl _
  | n + 1 => by
    have := dn_len I n
    unfold dn
    split
    · simp; omega
    · omega

def It.cells (it : It) : List Value := [.bool it.idb, .int .i64 it.b, .int .i64 it.w, .int .i64 it.v, .bool it.nn]
def itCells (l : List It) : List Value := l.flatMap It.cells
/-- Items in memory. -/
structure ItemsAt (w : World) (ao : Option Addr) (n : Nat) (I : Nat → It) : Prop where
  lim : n ≤ 9223372036854775807
  at_ : 0 < n → ∃ b off, ao = some ⟨b, off, none⟩ ∧ ∀ j, j < n → w.cell? ⟨b, off + j * 5, none⟩ = some (.bool (I j).idb) ∧ w.cell? ⟨b, off + j * 5 + 1, none⟩ = some (.int .i64 (I j).b) ∧ w.cell? ⟨b, off + j * 5 + 2, none⟩ = some (.int .i64 (I j).w) ∧ w.cell? ⟨b, off + j * 5 + 3, none⟩ = some (.int .i64 (I j).v) ∧ w.cell? ⟨b, off + j * 5 + 4, none⟩ = some (.bool (I j).nn)
theorem ItemsAt.kept {w w' : World} {ao : Option Addr} {n : Nat} {I : Nat → It} {S : Nat → Prop} (h : ItemsAt w ao n I) (f : Fr S w w') (hs : ∀ b off, ao = some ⟨b, off, none⟩ → ¬ S b) : ItemsAt w' ao n I := by
  refine ⟨h.lim, fun hn => ?_⟩
  obtain ⟨b, off, e, hc⟩ := h.at_ hn
  have := hs b off e
  exact ⟨b, off, e, fun j hj => ⟨f.cell (hc j hj).1 this, f.cell (hc j hj).2.1 this, f.cell (hc j hj).2.2.1 this, f.cell (hc j hj).2.2.2.1 this, f.cell (hc j hj).2.2.2.2 this⟩⟩
theorem itCells_len : ∀ (l : List It), (itCells l).length = l.length * 5
  | [] => rfl
  | it :: l => by
    have := itCells_len l
    simp only [itCells, List.flatMap_cons, List.length_append, List.length_cons, It.cells, List.length_nil] at this ⊢
    omega
theorem itCells_get : ∀ (l : List It) (j i : Nat), j < l.length → i < 5 → (itCells l)[j * 5 + i]? = (l.getD j default).cells[i]?
  | [], j, i, h, _ => by simp at h
  | it :: l, 0, i, _, hi => by
    show ((it.cells) ++ itCells l)[0 * 5 + i]? = it.cells[i]?
    rw [List.getElem?_append_left (by simp [It.cells]; omega)]
    congr 1
    omega
  | it :: l, j + 1, i, h, hi => by
    show ((it.cells) ++ itCells l)[(j + 1) * 5 + i]? = (l.getD j default).cells[i]?
    rw [List.getElem?_append_right (by simp [It.cells]; omega), ← itCells_get l j i (by simpa using h) hi]
    congr 1
    simp [It.cells]; omega
theorem items_of_row {w : World} {v : Value} {l : List It} (h : w.ownsRow 0 48 5 v l.length (itCells l)) (hl : l.length ≤ 200) : ∃ ao cap, v = .slice ao l.length cap ∧ ItemsAt w ao l.length (fun j => l.getD j default) ∧ ∀ b off, ao = some ⟨b, off, none⟩ → v.ownBlock = some b := by
  obtain ⟨_, (⟨rfl, h0⟩ | ⟨g, cap, cur, rfl, _, hg, hc, _, hs, ht⟩)⟩ := h
  · exact ⟨none, 0, by rw [h0], ⟨by omega, by omega⟩, fun b off e => by cases e⟩
  · refine ⟨some ⟨g, 0, none⟩, cap, rfl, ⟨by omega, fun _ => ⟨g, 0, rfl, fun j hj => ?_⟩⟩, fun b off e => by cases e; rfl⟩
    have key : ∀ i, i < 5 → w.cell? ⟨g, 0 + j * 5 + i, none⟩ = (l.getD j default).cells[i]? := by
      intro i hi
      rw [← itCells_get l j i hj hi, ← ht, List.getElem?_take_of_lt (by omega)]
      simp [World.cell?, hg]
    exact ⟨key 0 (by omega), key 1 (by omega), key 2 (by omega), key 3 (by omega), key 4 (by omega)⟩

/-- An item put: by 'PutID'. -/
theorem putID_item {w0 W : World} {bc gc gb cb : Nat} {o : Co} {M : Nat} (h : CS w0 W 9000 bc gc gb cb o M) (hM : M + 38 ≤ 16777216) (it : It) (hid : it.idb = true) (hb : -9223372036854775808 ≤ it.b ∧ it.b ≤ 9223372036854775807) :
    Calls Tryd.prog 20 #[.pointer (some ⟨bc, 0, none⟩), .int .i64 it.b, .int .i64 it.w, .int .i64 it.v] W fun e w' => (it.good ∧ e = .returned (.int .i64 0) ∧ ∃ gb' cb', CoAt w' bc gc 9000 gb' cb' (runL o it.dec) ∧ CStep bc gc gb gb' W w') ∨ (¬ it.good ∧ ∃ z, e = .returned (.int .i64 z) ∧ z ≠ 0 ∧ Fr (fun _ => False) W w') := by
  have hmade := h.made
  by_cases h1 : 0 ≤ it.w ∧ it.w ≤ 12
  · obtain ⟨n, en⟩ : ∃ n : Nat, it.w = n := ⟨it.w.toNat, by omega⟩
    have hpw : it.pw = 2 ^ n := by unfold It.pw; rw [en]; rfl
    rw [en]
    by_cases h2 : 0 ≤ it.b ∧ it.b ≤ 9000 - (it.pw : Int)
    · by_cases h3 : 0 ≤ it.v ∧ it.v < (it.pw : Int)
      · obtain ⟨b, eb⟩ : ∃ b : Nat, it.b = b := ⟨it.b.toNat, by omega⟩
        obtain ⟨v, ev⟩ : ∃ v : Nat, it.v = v := ⟨it.v.toNat, by omega⟩
        have hg : it.good := .inl ⟨hid, h1, h2, h3⟩
        have hd : it.dec = decs b (2 ^ n) 1 (hiBits v n) := by
          unfold It.dec; rw [if_pos hid, hpw, eb, ev, en]; rfl
        rw [eb, ev, hd]
        refine (putID_ok W bc gc 9000 gb cb b n v o h.co h.ok (by omega) (by omega) (by rw [h.xl, ← hpw]; omega) (by rw [← hpw]; omega)).mono ?_
        rintro e w' ⟨q1, q2⟩
        exact .inl ⟨hg, q1, q2⟩
      · refine (putID_range W bc gc 9000 9000 n h.cell (by omega) it.b it.v (by omega) (by rw [← hpw]; exact h2) (by rw [← hpw]; omega)).mono ?_
        rintro e w' ⟨rfl, rfl⟩
        refine .inr ⟨?_, 50, rfl, by decide, Fr.drew (Fr.refl _ _)⟩
        rintro (⟨_, _, _, q⟩ | ⟨q, _⟩)
        · exact h3 q
        · rw [hid] at q; cases q
    · refine (putID_base W bc gc 9000 9000 n h.cell (by omega) it.b it.v (by omega) hb (by rw [← hpw]; exact h2)).mono ?_
      rintro e w' ⟨rfl, rfl⟩
      refine .inr ⟨?_, 51, rfl, by decide, Fr.drew (Fr.refl _ _)⟩
      rintro (⟨_, _, q, _⟩ | ⟨q, _⟩)
      · exact h2 q
      · rw [hid] at q; cases q
  · refine (putID_width W bc it.b it.w it.v h1).mono ?_
    rintro e w' ⟨rfl, rfl⟩
    refine .inr ⟨?_, 52, rfl, by decide, Fr.refl _ _⟩
    rintro (⟨_, q, _⟩ | ⟨q, _⟩)
    · exact h1 q
    · rw [hid] at q; cases q

/-- An item put: by 'Put'. -/
theorem put_item {w0 W : World} {bc gc gb cb : Nat} {o : Co} {M : Nat} (h : CS w0 W 9000 bc gc gb cb o M) (hM : M + 38 ≤ 16777216) (it : It) (hid : it.idb = false) (hb : -9223372036854775808 ≤ it.b ∧ it.b ≤ 9223372036854775807) :
    Calls Tryd.prog 23 #[.pointer (some ⟨bc, 0, none⟩), .int .i64 it.b, .agg #[.int .i64 it.v, .bool it.nn]] W fun e w' => (it.good ∧ e = .returned (.int .i64 0) ∧ ∃ gb' cb', CoAt w' bc gc 9000 gb' cb' (runL o it.dec) ∧ CStep bc gc gb gb' W w') ∨ (¬ it.good ∧ ∃ z, e = .returned (.int .i64 z) ∧ z ≠ 0 ∧ Fr (fun _ => False) W w') := by
  have hmade := h.made
  by_cases h2 : 0 ≤ it.b ∧ it.b ≤ 9000 - 512
  · by_cases h3 : mayP it.v it.nn = true
    · obtain ⟨b, eb⟩ : ∃ b : Nat, it.b = b := ⟨it.b.toNat, by omega⟩
      have hg : it.good := .inr ⟨hid, h2, h3⟩
      have hd : it.dec = decs b 512 1 (numBits it.v it.nn) := by
        unfold It.dec; rw [if_neg (by rw [hid]; decide), eb]; rfl
      rw [eb, hd]
      refine (put_ok W bc gc 9000 gb cb b o h.co h.ok h.rows (by omega) it.v it.nn (by rw [h.xl]; omega) h3).mono ?_
      rintro e w' ⟨q1, q2⟩
      exact .inl ⟨hg, q1, q2⟩
    · refine (put_range W bc gc 9000 9000 h.cell (by omega) it.b it.v it.nn h2 (by simpa using h3)).mono ?_
      rintro e w' ⟨rfl, f⟩
      refine .inr ⟨?_, 50, rfl, by decide, f⟩
      rintro (⟨q, _⟩ | ⟨_, _, q⟩)
      · rw [hid] at q; cases q
      · exact h3 q
  · refine (put_base W bc gc 9000 9000 h.cell (by omega) it.b it.v it.nn hb h2).mono ?_
    rintro e w' ⟨rfl, f⟩
    refine .inr ⟨?_, 51, rfl, by decide, f⟩
    rintro (⟨q, _⟩ | ⟨_, q, _⟩)
    · rw [hid] at q; cases q
    · exact h2 q

/-- What lies about an item. -/
theorem itsL_split (D : List It) (j : Nat) (hj : j < D.length) : itsL D = itsL (D.take j) ++ (D.getD j default).dec ++ itsL (D.drop (j + 1)) := by
  have e : D = D.take j ++ (D.getD j default :: D.drop (j + 1)) := by
    rw [List.getD_eq_getElem?_getD, List.getElem?_eq_getElem hj]
    exact ((List.take_append_drop j D).symm.trans (by rw [List.drop_eq_getElem_cons hj]; rfl))
  conv => lhs; rw [e]
  simp [itsL]
theorem itsL_next (D : List It) (j : Nat) (hj : j < D.length) : (itsL (D.take (j + 1))).length = (itsL (D.take j)).length + (D.getD j default).dec.length := by
  have e : D.take (j + 1) = D.take j ++ [D.getD j default] := by
    rw [List.take_add_one, List.getD_eq_getElem?_getD, List.getElem?_eq_getElem hj]; rfl
  rw [e, itsL_snoc, List.length_append]

/-- An ID that was put is got. -/
theorem id_back {D : List It} (hD : ∀ it ∈ D, it.good) (hl : D.length ≤ 200) {j : Nat} (hj : j < D.length) (hid : (D.getD j default).idb = true) :
    ∃ b n v : Nat, (D.getD j default).b = b ∧ (D.getD j default).w = n ∧ (D.getD j default).v = v ∧ n ≤ 12 ∧ b + 2 ^ n ≤ 9000 ∧ (takeD (codedB 9000 (itsL D)) b (2 ^ n) n (decL 9000 (itsL D) (itsL (D.take j)).length, 1) 0).1 = v ∧ (takeD (codedB 9000 (itsL D)) b (2 ^ n) n (decL 9000 (itsL D) (itsL (D.take j)).length, 1) 0).2.1 = decL 9000 (itsL D) (itsL (D.take (j + 1))).length := by
  have hlen := itsL_len D hD
  have hm : D.getD j default ∈ D := by
    rw [List.getD_eq_getElem?_getD, List.getElem?_eq_getElem hj]; exact List.getElem_mem hj
  have hs := itsL_split D j hj
  have hn := itsL_next D j hj
  have hg := hD _ hm
  generalize D.getD j default = it at *
  rcases hg with ⟨_, h1, h2, h3⟩ | ⟨q, _⟩
  · obtain ⟨n, en⟩ : ∃ n : Nat, it.w = n := ⟨it.w.toNat, by omega⟩
    obtain ⟨b, eb⟩ : ∃ b : Nat, it.b = b := ⟨it.b.toNat, by omega⟩
    obtain ⟨v, ev⟩ : ∃ v : Nat, it.v = v := ⟨it.v.toNat, by omega⟩
    have hpw : it.pw = 2 ^ n := by unfold It.pw; rw [en]; rfl
    have hd : it.dec = decs b (2 ^ n) 1 (hiBits v n) := by
      unfold It.dec; rw [if_pos hid, hpw, eb, ev, en]; rfl
    rw [hd] at hs hn
    have hv : v < 2 ^ n := by rw [← hpw]; omega
    have t := take_back (n := 9000) (by omega) (by omega) (itsL_bit D) (by omega) b (2 ^ n) (hiBits v n) (itsL (D.take j)) _ 1 0 hs
    rw [hiBits_len, joinB_hi, Nat.mod_eq_of_lt hv] at t
    rw [decs_len, hiBits_len] at hn
    refine ⟨b, n, v, eb, en, ev, by omega, by rw [← hpw]; omega, ?_, ?_⟩
    · rw [t]; show 0 * 2 ^ n + v = v; omega
    · rw [t, hn]
  · rw [hid] at q; cases q

/-- A number that was put is got. -/
theorem num_back {D : List It} (hD : ∀ it ∈ D, it.good) (hl : D.length ≤ 200) {j : Nat} (hj : j < D.length) (hid : (D.getD j default).idb = false) :
    ∃ b : Nat, (D.getD j default).b = b ∧ b + 512 ≤ 9000 ∧ mayP (D.getD j default).v (D.getD j default).nn = true ∧
      (numD (codedB 9000 (itsL D)) b (decL 9000 (itsL D) (itsL (D.take j)).length, 1)).1 = signOf (D.getD j default).v (D.getD j default).nn ∧ (numD (codedB 9000 (itsL D)) b (decL 9000 (itsL D) (itsL (D.take j)).length, 1)).2.1 = amountOf (D.getD j default).v (D.getD j default).nn ∧
      (numD (codedB 9000 (itsL D)) b (decL 9000 (itsL D) (itsL (D.take j)).length, 1)).2.2.1 = decL 9000 (itsL D) (itsL (D.take (j + 1))).length := by
  have hlen := itsL_len D hD
  have hm : D.getD j default ∈ D := by
    rw [List.getD_eq_getElem?_getD, List.getElem?_eq_getElem hj]; exact List.getElem_mem hj
  have hs := itsL_split D j hj
  have hn := itsL_next D j hj
  have hg := hD _ hm
  generalize D.getD j default = it at *
  rcases hg with ⟨q, _⟩ | ⟨_, h2, h3⟩
  · rw [hid] at q; cases q
  · obtain ⟨b, eb⟩ : ∃ b : Nat, it.b = b := ⟨it.b.toNat, by omega⟩
    have hd : it.dec = decs b 512 1 (numBits it.v it.nn) := by
      unfold It.dec; rw [if_neg (by rw [hid]; decide), eb]; rfl
    rw [hd] at hs hn
    obtain ⟨t1, t2, t3⟩ := number_back (n := 9000) (by omega) (by omega) (itsL_bit D) (by omega) b (itsL (D.take j)) _ h3 hs
    exact ⟨b, eb, by omega, h3, t1, t2, by rw [t3, hn]⟩

theorem decL_ok {D : List It} (hD : ∀ it ∈ D, it.good) (hl : D.length ≤ 200) (j : Nat) : Eok (codedB 9000 (itsL D)) (decL 9000 (itsL D) (itsL (D.take j)).length) ∧ (decL 9000 (itsL D) (itsL (D.take j)).length).made ≤ 7600 ∧ (decL 9000 (itsL D) (itsL (D.take j)).length).x.length = 9000 := by
  have hlen := itsL_len D hD
  have hle : (itsL (D.take j)).length ≤ (itsL D).length := by
    have e : itsL D = itsL (D.take j) ++ itsL (D.drop j) := by
      unfold itsL
      rw [← List.flatMap_append, List.take_append_drop]
    rw [e, List.length_append]
    omega
  obtain ⟨a, b⟩ := decRun_ok (n := 9000) (by omega) (by omega) (codedB_lt (n := 9000) (by omega) (by omega) (L := itsL D) (by omega)) (kOf (itsL D)) (itsL (D.take j)).length (by omega)
  obtain ⟨c, _⟩ := back_list (n := 9000) (by omega) (by omega) (itsL_bit D) (by omega) (itsL (D.take j)).length hle
  refine ⟨a, ?_, ?_⟩
  · show (decRun _ _ _ _).made ≤ _
    rw [b]; omega
  · rw [c]
    obtain ⟨_, _, x⟩ := runL_ok (newP_ok (n := 9000) (by omega) (by omega)) ((itsL D).take (itsL (D.take j)).length) (by show 0 + _ ≤ _; rw [List.length_take]; omega)
    rw [x]; exact List.length_replicate

end Go.Proofs.YtllhekkclhcdbaaDoor
