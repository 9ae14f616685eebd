/- 'Undo': the state ahead of the last step. -/
import Derived.Test.YtpblenebmjmijaaFe
namespace Go.Proofs.Ytpblenebmjmijaa
set_option maxRecDepth 100000
open Go.RowKit

theorem upd_back {P P' : Pix3} {j : Nat} {Q : Nat → Nat → Bool} (h : ∀ i, i ≠ j → P i = P' i) : upd P j Q = upd P' j Q := by
  funext i; unfold upd
  by_cases e : i = j
  · rw [if_pos e, if_pos e]
  · rw [if_neg e, if_neg e, h i e]

theorem undo_step {w1 w : World} {d n' : Nat} {pgs : List PgI} {Pf P' : Pix3} {pv sv f : Value} {ss : List Value} (h : DU w1 w d pgs Pf pv sv (ss ++ [f])) (hs : HS w d (Av d pv sv pgs) pgs f n' P' pgs.length Pf) :
    Calls Try.prog 13 #[.pointer (some ⟨d, 0, none⟩)] w fun e w' => e = .returned (.bool true) ∧ ∃ pv' sv', DU w1 w' d (pgs.take n') P' pv' sv' ss ∧ Fr (Av d pv sv pgs) w w' ∧ ∀ k, Av d pv' sv' (pgs.take n') k → Av d pv sv pgs k := by
  have hles := h.les
  have hl : ss.length < 64 := by simp at hles; omega
  have hone : ∀ u ∈ ss, u.oneCell' = true := fun u hu => h.one u (List.mem_append_left _ hu)
  rcases hs with ⟨hn, hP, bx, rfl, hbx, _⟩ | ⟨hn, j, p, hjn, hj, hP, hk⟩
  · have hlen : (pgs.take n').length = n' := by simp; omega
    have hget : ∀ (j : Nat) (p : PgI), (pgs.take n')[j]? = some p → pgs[j]? = some p ∧ j < n' := fun j p hj => by
      have hj2 := (List.getElem?_eq_some_iff.mp hj).1
      rw [hlen] at hj2
      rw [List.getElem?_take, if_pos hj2] at hj
      exact ⟨hj, hj2⟩
    have hpt : ptrs pgs = ptrs (pgs.take n') ++ [.pointer (some ⟨(pgs[n']'(by omega)).b, 0, none⟩)] := by
      conv => lhs; rw [← List.take_append_drop n' pgs]
      simp only [ptrs, List.map_append]
      congr 1
      rw [List.drop_eq_getElem_cons (by omega), List.drop_of_length_le (by omega)]
      rfl
    have hd := h.doc
    rw [hpt] at hd
    refine (undo_paged d d bx pv sv (ptrs (pgs.take n')) ss _ w hd hl hbx).mono ?_
    rintro e w' ⟨rfl, pv', sv', hd', hf, ho1, ho2⟩
    refine ⟨rfl, pv', sv', ⟨hd', by rw [hlen]; have := h.le; omega, by omega, hone, fun j p hj => ?_, fun i j p q hi hj => h.ne i j p q (hget i p hi).1 (hget j q hj).1, fun j p hj => h.lo j p (hget j p hj).1, h.fr.trans hf (fun k _ hk => ?_)⟩, hf.mono (fun k _ hk => ?_), fun k hk => ?_⟩
    · obtain ⟨g1, g2⟩ := hget j p hj
      have hm := h.mp j p g1
      have hap := hm.apart h.doc
      rw [← hP j g2]
      exact hm.kept hf (fun e => e.elim hap.1 (fun e => e.elim hap.2.2.1 hap.2.2.2.2.1)) (fun e => e.elim hap.2.1 (fun e => e.elim hap.2.2.2.1 hap.2.2.2.2.2))
    · rcases hk with hk | hk | hk
      · omega
      · exact (h.doc.pg.lt k hk).1
      · exact (h.doc.st.lt k hk).1
    · rcases hk with hk | hk | hk
      · exact Or.inl hk
      · exact Or.inr (Or.inl hk)
      · exact Or.inr (Or.inr (Or.inl hk))
    · rcases hk with hk | hk | hk | ⟨j, p, hj, hk⟩
      · exact Or.inl hk
      · exact Or.inr (Or.inl (by rw [← ho1]; exact hk))
      · exact Or.inr (Or.inr (Or.inl (by rw [← ho2]; exact hk)))
      · exact Or.inr (Or.inr (Or.inr ⟨j, p, (hget j p hj).1, hk⟩))
  · have htake : pgs.take n' = pgs := by rw [← hn]; exact List.take_length
    rw [htake]
    have hm := h.mp j p hj
    have hjl := hjn
    have fin : ∀ {w' : World} {sv' : Value} {Q : Nat → Nat → Bool}, DocAt w' d d pv sv' (ptrs pgs) ss → MapAt w' p.b p.g (p.H * stride p.W) p.W p.H Q → Fr (fun k => k = d ∨ sv.ownBlock = some k ∨ k = p.g) w w' → sv'.ownBlock = sv.ownBlock → (∀ a e, a < p.W → e < p.H → Q a e = P' j a e) →
        ∃ pv' sv', DU w1 w' d pgs P' pv' sv' ss ∧ Fr (Av d pv sv pgs) w w' ∧ ∀ k, Av d pv' sv' pgs k → Av d pv sv pgs k := fun {w'} {sv'} {Q} hd' hm' hf ho hQ => by
      refine ⟨pv, sv', (h.drawn hj hd' (by omega) hone hm' hf).congr (fun i q hi x y hx hy => ?_), hf.mono (fun k _ hk => Av.frame hj k hk), fun k hk => ?_⟩
      · unfold upd
        by_cases e : i = j
        · subst e
          have hqp : q = p := by rw [hi] at hj; exact Option.some.inj hj
          subst hqp
          rw [if_pos rfl]; exact hQ x y hx hy
        · rw [if_neg e, hP i e]
      · rcases hk with hk | hk | hk | hk
        · exact Or.inl hk
        · exact Or.inr (Or.inl hk)
        · exact Or.inr (Or.inr (Or.inl (by rw [← ho]; exact hk)))
        · exact Or.inr (Or.inr (Or.inr hk))
    rcases hk with ⟨s, x, y, rfl, hx, hy, hp, hpx, _⟩ | ⟨q1, n1, q2, n2, hpx, hra⟩
    · refine (undo_pixeled d d p.b p.g _ p.W p.H s x y _ _ pv sv (ptrs pgs) ss w h.doc hl hm hp hx hy (by cases P' j x y <;> decide)).mono ?_
      rintro e w' ⟨rfl, sv', hd', hm', hf, ho⟩
      refine ⟨rfl, fin hd' hm' hf ho (fun a e ha he => ?_)⟩
      unfold laidAll
      by_cases e1 : e = y ∧ x ≤ a ∧ a < x + 1
      · rw [if_pos e1]
        have ea : a = x := by omega
        rw [ea, e1.1]
        cases P' j x y <;> rfl
      · rw [if_neg e1]
        exact hpx a e (by omega)
    · have hap := hm.apart h.doc
      rcases hra with ⟨hn0, rfl⟩ | ⟨g1, g2, g3, g4, s, t, b0, g0, rfl, hr, hm0, k1, k2, k3, k4, k5, k6⟩
      · refine (undo_empty d d pv sv (ptrs pgs) ss w h.doc hl).mono ?_
        rintro e w' ⟨rfl, sv', hd', hf, ho⟩
        exact ⟨rfl, fin hd' (hm.kept hf (fun e => e.elim hap.1 hap.2.2.2.2.1) (fun e => e.elim hap.2.1 hap.2.2.2.2.2)) (hf.mono (fun k _ hk => hk.elim Or.inl (fun hk => Or.inr (Or.inl hk)))) ho (fun a e ha he => hpx a e ha he (by omega))⟩
      · obtain ⟨f1, f2, _⟩ := size_facts hm.wpos hm.hpos hm.area
        refine (undo_recto d d p.b p.g _ p.W p.H b0 g0 _ s t q1 n1 q2 n2 _ _ pv sv (ptrs pgs) ss w h.doc hl hm hm0 hr (fun e => k5 (Or.inr (Or.inr (Or.inr ⟨j, p, hj, Or.inl e⟩)))) (fun e => k5 (Or.inr (Or.inr (Or.inr ⟨j, p, hj, Or.inr e⟩)))) (fun e => k6 (Or.inr (Or.inr (Or.inr ⟨j, p, hj, Or.inr e⟩)))) (by omega) (by omega)).mono ?_
        rintro e w' ⟨rfl, sv', hd', hm', hf, ho⟩
        refine ⟨rfl, fin hd' hm' hf ho (fun a e ha he => ?_)⟩
        unfold blitPix
        by_cases e1 : q1 ≤ a ∧ a < q1 + n1 ∧ q2 ≤ e ∧ e < q2 + n2
        · rw [if_pos (by omega)]
          have ea : (0 + ((a : Int) - q1)).toNat = a - q1 := by omega
          have ee : (0 + ((e : Int) - q2)).toNat = e - q2 := by omega
          rw [ea, ee]
          unfold cropPix
          rw [show ((q1 : Int) + ((a - q1 : Nat) : Int)) = (a : Nat) by omega, show ((q2 : Int) + ((e - q2 : Nat) : Int)) = (e : Nat) by omega, getPix_in ha he]
          simp [opB]
        · rw [if_neg (by omega)]
          exact hpx a e ha he e1
end Go.Proofs.Ytpblenebmjmijaa
