/-
  What the document's own cursor comes to: Left, Fail, Take.
-/
import Derived.Test.YtoapfegmipopkaaOpens
namespace Go.Proofs.Ytoapfegmipopkaa
open Go.RowKit

set_option maxHeartbeats 400000 in
theorem rleft_any {t : TypeId} {S : Nat → Prop} {g : Nat} {s : St} (w : World) (h : IsC t S w g s) :
    Calls Try.prog 30 #[.pointer (some ⟨g, 0, none⟩)] w fun e w' => e = .returned (.int .i64 (s.bs.length : Nat)) ∧ w = w' := by
  obtain ⟨_, A, cap, hb, _⟩ := h
  obtain ⟨c0, -, -, -, -⟩ := cells5 hb
  clear hb
  go_enter Try.func30, Try.ntmps30
  go_wp2
  go_ret
  exact ⟨rfl, rfl⟩

set_option maxHeartbeats 400000 in
theorem rfail_any {t : TypeId} {S : Nat → Prop} {g : Nat} {s : St} (x : Int) (w : World) (h : IsC t S w g s) (hg : Good s) :
    Calls Try.prog 40 #[.pointer (some ⟨g, 0, none⟩), .int .i64 x] w (Turns t S g (.tuple #[]) (failS x s) w) := by
  have H := Lib.hid h
  obtain ⟨hS, A, cap, hb, hh⟩ := h
  obtain ⟨c0, c1, c2, c3, c4⟩ := cells5 hb
  have hf := frozen5 hb
  have hf0 := hf 0
  have hf2 := hf 2
  have hf3 := hf 3
  have hf4 := hf 4
  have HB := Lib.hid hb
  clear hb hh hf
  by_cases h0 : x = 0
  · have HE := Lib.hid (show failS x s = s by unfold failS; rw [if_pos (.inl h0)])
    subst h0
    go_enter Try.func40, Try.ntmps40
    go_wp2
    exact bodyPost_ret (results_none rfl _ _ _) rfl ⟨rfl, by rw [HE.out]; exact H.out, Kept.refl _ _⟩
  · have h0' : (x == 0) = false := by simpa using h0
    by_cases h1 : s.e = 0
    · have HE := Lib.hid (show failS x s = ⟨[], s.p, x, s.p⟩ by unfold failS; rw [if_neg (by simp [h0, h1])])
      rw [h1] at c2
      clear h1
      go_enter Try.func40, Try.ntmps40
      go_wp2
      refine bodyPost_end (results_none rfl _ _ _) rfl ⟨rfl, ?_, ((((Kept.refl _ w).one _).one _).one _).one _⟩
      rw [HE.out]
      exact ⟨hS, none, 0, set0 (set4 (set3 (set2 HB.out _) _) _) _, Has.nil⟩
    · have HE := Lib.hid (show failS x s = s by unfold failS; rw [if_pos (.inr h1)])
      have HN := Lib.hid (hg.nil h1)
      have h1' : (s.e == 0) = false := by simpa using h1
      have h1'' : (s.e != 0) = true := by simpa using h1
      go_enter Try.func40, Try.ntmps40
      go_wp2
      refine bodyPost_end (results_none rfl _ _ _) rfl ⟨rfl, ?_, (Kept.refl _ w).one _⟩
      rw [HE.out]
      refine ⟨hS, none, 0, ?_, by rw [HN.out]; exact Has.nil⟩
      rw [HN.out]
      exact set0 HB.out _

set_option maxRecDepth 10000 in
set_option maxHeartbeats 800000 in
theorem rtake_c {t : TypeId} {S : Nat → Prop} {g : Nat} {s : St} (n : Int) (w : World) (h : IsC t S w g s) (hg : Good s) :
    Calls Try.prog 32 #[.pointer (some ⟨g, 0, none⟩), .int .i64 n] w (Took t S g (takeS n s).1 (takeS n s).2 w) := by
  have HC := Lib.hid (rfail_any 2 w h hg)
  have hpl := hg.pl
  have hp0 := hg.p0
  have hlt := h.lt
  by_cases h0 : n < 0
  · have HE := Lib.hid (show takeS n s = ([], failS 2 s) by unfold takeS; rw [if_pos (.inl h0)])
    go_enter Try.func32, Try.ntmps32
    go_wp2_with fail
    refine (HC.out).mono ?_
    rintro e w1 ⟨rfl, hi, hkp⟩
    go_wp2
    go_ret
    rw [HE.out]
    exact ⟨_, World.ownsRow_nil _ _ _ _, rfl, hi, hkp⟩
  · obtain ⟨m, rfl⟩ := Int.eq_ofNat_of_zero_le (show 0 ≤ n by omega)
    obtain ⟨hS, A, cap, hb, hh⟩ := h
    obtain ⟨c0, c1, c2, c3, c4⟩ := cells5 hb
    by_cases h1 : s.bs.length < m
    · have HE := Lib.hid (show takeS (m : Int) s = ([], failS 2 s) by unfold takeS; rw [if_pos (.inr (by omega))])
      clear h0 hb hh
      go_enter Try.func32, Try.ntmps32
      go_wp2_with fail
      refine (HC.out).mono ?_
      rintro e w1 ⟨rfl, hi, hkp⟩
      go_wp2
      go_ret
      rw [HE.out]
      exact ⟨_, World.ownsRow_nil _ _ _ _, rfl, hi, hkp⟩
    · have HE := Lib.hid (show takeS (m : Int) s = (s.bs.take m, passS m s) by unfold takeS; rw [if_neg (by omega)]; rfl)
      have hml : m ≤ s.bs.length := by omega
      have hcap := hh.2.1
      have HTL := Lib.hid (show (s.bs.take m).length = m by simp; omega)
      have HN := Lib.hid ((hh.2.2.1.take m).grow (grow_new w (.cells #[] 5)))
      have HEM := Lib.hid (own_empty w)
      have hA := hh.1
      have HB := Lib.hid hb
      have HH := Lib.hid hh
      obtain ⟨AK, hAK⟩ : ∃ AK, (if cap = m then A else Option.map (fun x => x.add m) A) = AK := ⟨_, rfl⟩
      clear h0 hb hh HC
      go_enter Try.func32, Try.ntmps32
      go_wp2_with (at_builtin; refine wpList_append_bytes rfl _ _ rfl w.heap.size _ 0 m cap [] (s.bs.take m) A _ rfl HEM.out rfl HTL.out.symm hA HN.out (by omega) (by simp) ?_; intro v2 w2 hown2 hb2; have hg2 : Grow w w2 := Below.trans (grow_new _ _) hb2; have hb' := (hg2.block g hlt).trans HB.out; (obtain ⟨d0, d1, -, -, -⟩ := cells5 hb'); have hf := frozen5 hb'; have hf0 := hf 0; have hf1 := hf 1; have HO2 := Lib.hid hown2; have HG2 := Lib.hid hg2; have HB2 := Lib.hid hb'; clear hown2 hb2 hg2 hb' hf)
      go_ret
      rw [HE.out]
      have hk : Kept (fun k => k = g) w ((w2.setCell ⟨g, 0, none⟩ (.slice AK (s.bs.length - m) (cap - m))).setCell ⟨g, 1, none⟩ (.int .i64 (s.p + m))) := ((Kept.of_grow HG2.out).one _).one _
      have hk2 : Kept (fun k => k = g) w2 ((w2.setCell ⟨g, 0, none⟩ (.slice AK (s.bs.length - m) (cap - m))).setCell ⟨g, 1, none⟩ (.int .i64 (s.p + m))) := ((Kept.refl _ w2).one _).one _
      have hg' := set1 (set0 HB2.out (.slice AK (s.bs.length - m) (cap - m))) (.int .i64 (s.p + m))
      have hcut := HH.out.cut m hml
      rw [hAK] at hcut
      have ho := HO2.out
      rw [Nat.zero_add, List.nil_append] at ho
      refine ⟨v2, ?_, rfl, ⟨hS, AK, cap - m, by simpa [passS] using hg', hcut.kept hk (fun k e => e ▸ hS)⟩, hk⟩
      rw [HTL.out]
      exact ownsRow_setCell_below (ownsRow_setCell_below ho hlt _) hlt _
end Go.Proofs.Ytoapfegmipopkaa
