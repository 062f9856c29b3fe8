/-
  What the document's own groups comes to.
-/
import Derived.Test.YtoapfegmipopkaaREncode
import Derived.Test.YtoapfegmipopkaaRefOps
namespace Go.Proofs.Ytoapfegmipopkaa
open Go.RowKit

/-- a group that is there is read, by a greater bound too -/
theorem grp_read {n : Int} {s : St} {ys : List Int} (hg : Good s) (h : Grps s.bs ys) (hne : s.bs ≠ []) (he : s.e = 0) (hn : (ys.length : Int) ≤ n) (hn1 : n ≤ 1099511627776) :
    ∃ zs, Grps (grpS n s).2.2.bs zs ∧ (grpS n s).2.2.e = 0 ∧ ys = rep (grpS n s).2.1 (grpS n s).1 ++ zs := by
  obtain ⟨v, r, hv, hvl⟩ := grps_first h hne
  obtain ⟨h1, h2, h3⟩ := num_ok (2 * n) s v r hv (by omega) (by omega)
  have hg1 := hg.num (2 * n)
  rw [hv] at h
  rw [grpS_eq, h1]
  by_cases ho : v % 2 = 1
  · rw [if_pos ho]
    obtain ⟨c, t, zs, hr, hz, rfl⟩ := grps_odd h ho
    rcases take_cases 1 (numS (2 * n) s).2 hg1 with ⟨-, -, -, h4⟩ | ⟨-, h5, h6, h7⟩
    · rw [h2, hr] at h4; simp at h4
    · simp only
      rw [h5, h6, h7, h2, h3, hr]
      exact ⟨zs, hz, he, by rw [List.take_succ_cons, List.take_zero, rep_single]⟩
  · rw [if_neg ho]
    obtain ⟨hl, zs, hz, rfl⟩ := grps_even h (by omega)
    rcases take_cases (v / 2 + 1) (numS (2 * n) s).2 hg1 with ⟨-, -, -, h4⟩ | ⟨-, h5, h6, h7⟩
    · rw [h2] at h4; omega
    · simp only
      rw [h5, h6, h7, h2, h3, rep_one]
      exact ⟨zs, hz, he, rfl⟩

theorem byte_take (s : St) : (byteS s).2 = (takeS 1 s).2 ∧ (s.bs ≠ [] → (takeS 1 s).1 = [(byteS s).1]) := by
  unfold byteS takeS
  by_cases h : s.bs = []
  · rw [if_pos h, if_pos (.inr (by rw [h]; decide))]
    exact ⟨rfl, fun x => absurd h x⟩
  · have hp := List.length_pos_iff.2 h
    rw [if_neg h, if_neg (by omega)]
    refine ⟨rfl, fun _ => ?_⟩
    cases hb : s.bs with
    | nil => exact absurd hb h
    | cons c t => simp

/-- a run's group, as the document's own groups reads it -/
theorem grp_odd {n : Int} {s : St} {V : Nat} {s1 : St} (hg : Good s) (hr : numS (2 * n) s = (V, s1)) (ho : V % 2 = 1) :
    (grpS n s).2.2 = (byteS s1).2 ∧ ((byteS s1).2.e = 0 → rep (grpS n s).2.1 (grpS n s).1 = List.replicate (V / 2 + 3) (byteS s1).1) := by
  have hg1 := hg.num (2 * n)
  rw [hr] at hg1
  have hb := byte_take s1
  rw [grpS_eq, hr]
  simp only
  rw [if_pos ho]
  refine ⟨hb.1.symm, fun he => ?_⟩
  rcases take_cases 1 s1 hg1 with ⟨-, h4, -, -⟩ | ⟨h5, -, -, -⟩
  · rw [hb.1] at he
    exact absurd he h4
  · have hne : s1.bs ≠ [] := fun e => by rw [e] at h5; simp at h5
    show rep (V / 2 + 3) (takeS ((1 : Nat) : Int) s1).1 = _
    rw [show ((1 : Nat) : Int) = 1 from rfl, hb.2 hne, rep_single]
/-- another group -/
theorem grp_even {n : Int} {s : St} {V : Nat} {s1 : St} (hg : Good s) (hr : numS (2 * n) s = (V, s1)) (ho : V % 2 = 0) :
    (grpS n s).2.2 = (takeS ((V / 2 + 1 : Nat) : Int) s1).2 ∧ rep (grpS n s).2.1 (grpS n s).1 = (takeS ((V / 2 + 1 : Nat) : Int) s1).1 ∧ ((takeS ((V / 2 + 1 : Nat) : Int) s1).2.e = 0 → (takeS ((V / 2 + 1 : Nat) : Int) s1).1.length = V / 2 + 1) := by
  have hg1 := hg.num (2 * n)
  rw [hr] at hg1
  rw [grpS_eq, hr]
  simp only
  rw [if_neg (by omega)]
  refine ⟨rfl, rep_one _, fun he => ?_⟩
  rcases take_cases (V / 2 + 1) s1 hg1 with ⟨-, h4, -, -⟩ | ⟨h5, h6, -, -⟩
  · exact absurd he h4
  · rw [h6, List.length_take]
    omega

def RGot (xs : List Int) (n : Int) (w : World) (e : Ending) (w' : World) : Prop :=
  Grow w w' ∧ ((∃ ys v, Grps xs ys ∧ Byt ys ∧ ys.length ≤ 6000 ∧ e = .returned (.tuple #[v, .bool true]) ∧ w'.ownsRow w.heap.size 5 1 v ys.length (u8s ys)) ∨
    ((¬ ∃ ys, Grps xs ys ∧ (ys.length : Int) ≤ n) ∧ e = .returned (.tuple #[.slice none 0 0, .bool false])))

structure GAt (T : TypeId) (S : Nat → Prop) (g : Nat) (xs : List Int) (n : Int) (w3 : World) (s : St) (o : List Int) (O : Nat) (v : Value) (wr : World) : Prop where
  isC : IsC T S wr g s
  good : Good s
  e0 : s.e = 0
  fwd : ∀ ys, Grps xs ys → (ys.length : Int) ≤ n → ∃ zs, Grps s.bs zs ∧ ys = o ++ zs
  bwd : ∀ zs, Grps s.bs zs → Grps xs (o ++ zs)
  olen : o.length = O
  room : O = 0 ∨ (O : Int) ≤ n
  own : wr.ownsRow w3.heap.size 5 1 v O (u8s o)
  kept : Kept S w3 wr

/-- behind a group that was read -/
theorem GAt.next {T : TypeId} {S : Nat → Prop} {g : Nat} {xs : List Int} {n : Int} {w3 : World} {s s2 : St} {o r : List Int} {O R : Nat} {v v' : Value} {wr w' : World} (h : GAt T S g xs n w3 s o O v wr) (hne : s.bs ≠ []) (hn : n ≤ 5000)
    (hs : (grpS 549755813888 s).2.2 = s2) (hr : rep (grpS 549755813888 s).2.1 (grpS 549755813888 s).1 = r) (he : s2.e = 0) (hR : r.length = R) (hroom : (O : Int) + R ≤ n) (hi : IsC T S w' g s2) (hown : w'.ownsRow w3.heap.size 5 1 v' (O + R) (u8s (o ++ r))) (hk : Kept S w3 w') :
    GAt T S g xs n w3 s2 (o ++ r) (O + R) v' w' := by
  refine ⟨hi, hs ▸ grp_good h.good, he, fun ys hy hl => ?_, fun zs hz => ?_, by rw [List.length_append, h.olen, hR], .inr (by omega), hown, hk⟩
  · obtain ⟨zs, hz, rfl⟩ := h.fwd ys hy hl
    rw [List.length_append] at hl
    obtain ⟨zs', h1, h2, h3⟩ := grp_read h.good hz hne h.e0 (n := 549755813888) (by omega) (by decide)
    rw [hs] at h1
    rw [hr] at h3
    exact ⟨zs', h1, by rw [h3, List.append_assoc]⟩
  · have := grp_told (n := 549755813888) h.good (by rw [hs]; exact he) (by rw [hs]; exact hz)
    rw [hr] at this
    rw [List.append_assoc]
    exact h.bwd _ this
/-- a group that can't be read: there are none -/
theorem GAt.none {T : TypeId} {S : Nat → Prop} {g : Nat} {xs : List Int} {n : Int} {w3 : World} {s s2 : St} {o : List Int} {O : Nat} {v : Value} {wr : World} (h : GAt T S g xs n w3 s o O v wr) (hne : s.bs ≠ []) (hn : n ≤ 5000)
    (hs : (grpS 549755813888 s).2.2 = s2) (hno : s2.e ≠ 0) : ¬ ∃ ys, Grps xs ys ∧ (ys.length : Int) ≤ n := by
  rintro ⟨ys, hy, hl⟩
  obtain ⟨zs, hz, rfl⟩ := h.fwd ys hy hl
  rw [List.length_append] at hl
  obtain ⟨zs', h1, h2, h3⟩ := grp_read h.good hz hne h.e0 (n := 549755813888) (by omega) (by decide)
  rw [hs] at h2
  exact hno h2
/-- a group that comes to too many bytes: there are none -/
theorem GAt.much {T : TypeId} {S : Nat → Prop} {g : Nat} {xs : List Int} {n : Int} {w3 : World} {s : St} {o : List Int} {O m : Nat} {v : Value} {wr : World} (h : GAt T S g xs n w3 s o O v wr) (hne : s.bs ≠ []) (hn : n ≤ 5000)
    (hr : (grpS 549755813888 s).2.2.e = 0 → (rep (grpS 549755813888 s).2.1 (grpS 549755813888 s).1).length = m) (hm : n - O < m) : ¬ ∃ ys, Grps xs ys ∧ (ys.length : Int) ≤ n := by
  rintro ⟨ys, hy, hl⟩
  obtain ⟨zs, hz, rfl⟩ := h.fwd ys hy hl
  rw [List.length_append, h.olen] at hl
  obtain ⟨zs', h1, h2, h3⟩ := grp_read h.good hz hne h.e0 (n := 549755813888) (by omega) (by decide)
  have := hr h2
  rw [h3, List.length_append, this] at hl
  omega
end Go.Proofs.Ytoapfegmipopkaa
