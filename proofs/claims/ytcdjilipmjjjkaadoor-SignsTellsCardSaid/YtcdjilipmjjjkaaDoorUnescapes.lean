/-
  What signs.readEscape and signs.Unescape come to, called with any text.
-/
import Derived.Test.YtcdjilipmjjjkaaDoorReads
namespace Go.Proofs.YtcdjilipmjjjkaaDoor
open Go.RowKit Go.Lib

theorem index_str {l : List UInt8} {i : Nat} {x : UInt8} (h : l[i]? = some x) (W : World) : (Instr.index 9 (.string ⟨l.toArray⟩) (.int .i64 (i : Nat))).run Tryd.prog W = .ok (.int .u8 (x.toNat : Nat)) W := by
  have hu : Tryd.prog.underlying 9 = some .string := by kernel_rfl
  have hl := (List.getElem?_eq_some_iff.1 h).1
  have h' : (⟨l.toArray⟩ : ByteArray)[i]? = some x := by
    rw [getElem?_pos _ _ (by rw [str_size]; exact hl)]
    congr 1
    have := (List.getElem?_eq_some_iff.1 h).2
    simpa [ByteArray.getElem_eq_getElem_data] using this
  simp only [Instr.index, asIntOf, Sem.run_bind, Sem.run_pure, Result.andThen_ok, run_underlying hu]
  rw [if_pos (by omega), Int.toNat_natCast, h']
  rfl

set_option maxRecDepth 10000 in
set_option maxHeartbeats 800000 in
theorem esc_any (l : List UInt8) (w : World) (hne : l ≠ []) (hL : Laid w) (hl : l.length ≤ 1000000) : Calls Tryd.prog 18 #[.string ⟨l.toArray⟩] w (ReadNum (escIn l) w) := by
  rcases l with _ | ⟨a, _ | ⟨x, r⟩⟩
  · exact absurd rfl hne
  · go_enter Tryd.func18, Tryd.ntmps18
    go_wp2
    go_ret2
    exact ⟨rfl, Grow.refl _⟩
  · have hix : ∀ W, (Instr.index 9 (.string ⟨(a :: x :: r).toArray⟩) (.int .i64 1)).run Tryd.prog W = .ok (.int .u8 (x.toNat : Nat)) W := fun W => index_str (i := 1) rfl W
    have HE := Lib.hid (escIn_two a x r)
    have hrl : r.length ≤ 1000000 := by simp at hl; omega
    obtain ⟨L, hLn⟩ : ∃ L : Nat, (⟨(a :: x :: r).toArray⟩ : ByteArray).size = L := ⟨_, rfl⟩
    have hL2 : 2 ≤ L := by rw [← hLn, str_size]; simp
    have HLN := Lib.hid hLn
    have HR := Lib.hid (number_any a x r w hL hrl)
    have HS := Lib.hid (signof_any x w hL)
    obtain ⟨s, hs⟩ : ∃ s : ByteArray, s = ⟨(a :: x :: r).toArray⟩ := ⟨_, rfl⟩
    rw [← hs] at hix hLn HR ⊢
    have hls : ¬ ((s.size : Nat) : Int) < 2 := by rw [hLn]; omega
    clear hs hLn HLN hl hne hL
    have hx8 := u8_lt x
    by_cases h1 : x.toNat = 64
    · rw [if_pos h1] at HE
      rw [h1] at hix
      clear hrl
      go_enter Tryd.func18, Tryd.ntmps18
      go_wp2
      go_ret2
      exact ⟨by rw [HE.out]; rfl, Grow.refl _⟩
    · rw [if_neg h1] at HE
      have h1b : (((x.toNat : Nat) : Int) == 64) = false := by rw [beq_eq_false_iff_ne]; omega
      by_cases h2 : x.toNat = 123
      · rw [if_pos h2] at HE
        rw [h2] at hix
        go_enter Tryd.func18, Tryd.ntmps18
        go_wp2_with fail
        refine (HR.out).mono ?_
        rintro e w1 ⟨rfl, hg⟩
        have HG := Lib.hid hg
        clear hg HR
        go_wp2
        go_ret2
        exact ⟨by rw [HE.out]; rfl, HG.out⟩
      · rw [if_neg h2] at HE
        have h2b : (((x.toNat : Nat) : Int) == 123) = false := by rw [beq_eq_false_iff_ne]; omega
        have hw : IntKind.i32.wrap ((x.toNat : Nat) : Int) = x.toNat := by rw [IntKind.wrap_i32]; omega
        unfold SignOf at HS
        clear h1 h2
        go_enter Tryd.func18, Tryd.ntmps18
        go_wp2_with fail
        refine (HS.out).mono ?_
        rintro e w1 ⟨rfl, hg⟩
        have HG := Lib.hid hg
        clear hg HS
        cases hm : meant x with
        | none =>
          rw [hm] at HE
          simp only [Option.isSome_none]
          go_wp2
          go_ret2
          exact ⟨by rw [HE.out]; rfl, HG.out⟩
        | some c =>
          rw [hm] at HE
          simp only [Option.isSome_some, Option.getD_some]
          go_wp2
          go_ret2
          exact ⟨by rw [HE.out]; rfl, HG.out⟩

theorem rune_cells {c : Nat} (h : isSign c = true) : Lib.runeCells (c : Int) = byteCells (bytesD c) := by
  have hs := isSign_iff.1 h
  unfold bytesD
  rw [if_pos h]
  by_cases h1 : c < 128
  · rw [if_pos h1, Lib.runeCells, encodeRuneZ_one (by omega) (by omega)]
    simp [byteCells, u8_nat (show c < 256 by omega)]
  · rw [if_neg h1]
    by_cases h2 : c < 2048
    · rw [if_pos h2, Lib.runeCells, encodeRuneZ_two (by omega) (by omega)]
      simp only [byteCells, List.map_cons, List.map_nil]
      rw [u8_nat (by omega), u8_nat (by omega)]
      simp
    · rw [if_neg h2]
      by_cases h3 : c < 65536
      · rw [if_pos h3, Lib.runeCells, encodeRuneZ_three (by omega)]
        simp only [byteCells, List.map_cons, List.map_nil]
        rw [u8_nat (by omega), u8_nat (by omega), u8_nat (by omega)]
        simp
      · rw [if_neg h3, Lib.runeCells, encodeRuneZ_four (by omega) (by omega)]
        simp only [byteCells, List.map_cons, List.map_nil]
        rw [u8_nat (by omega), u8_nat (by omega), u8_nat (by omega), u8_nat (by omega)]
        simp

theorem rune_any (B : Nat) (v : Value) (q : List UInt8) (c : Nat) (w : World) (hc : isSign c = true) (hq : q.length ≤ 10000000) (hown : Own B v q w) (hB : B ≤ w.heap.size) :
    Calls Tryd.prog 20 #[v, .int .i32 c] w (Laid1 B (q ++ bytesD c) w) := by
  have hs := (isSign_iff.1 hc).1
  refine (Tryd.utf8_AppendRune_plain B v q.length (byteCells q) c (by omega) (by omega) w hown (by omega) hB).mono ?_
  rintro e w' ⟨v', rfl, h1, o, h2⟩
  refine ⟨v', rfl, ?_, ?_⟩
  · unfold Own
    rw [List.length_append, cells_app]
    rw [rune_cells hc, byteCells_length] at h1
    exact h1
  · have hown' : Own B v q (w.alloc o) := hown.grow (grow_new _ _)
    exact Below.trans (Below.mono (grow_new w o) hB) (Below.grown (Below.refl _ _) h2 (by simp; omega) (fun g hg => (hown'.lt g hg).1))

/-- acc is read ahead of nx; the range stands at pos -/
structure UnAt (l : List UInt8) (k : Nat) (w : World) (pos nx : Nat) (acc : List UInt8) (v : Value) (wr : World) : Prop where
  eq : unD l = (unD (l.drop nx)).map (acc ++ ·)
  le : pos ≤ nx
  nle : nx ≤ l.length
  plain : ∀ j x, pos ≤ j → j < nx → l[j]? = some x → x.toNat < 128
  len : acc.length ≤ 4 * nx
  own : Own (k + 1) v acc wr
  go : Going k l pos wr
  size : k + 1 ≤ wr.heap.size
  grow : Below k w wr

def Unescaped (l : List UInt8) (w : World) (e : Ending) (w' : World) : Prop := e = .returned (.tuple #[.string ⟨((unD l).getD []).toArray⟩, .bool (unD l).isSome]) ∧ Grow w w'

theorem un_stop {l : List UInt8} {pos : Nat} {acc : List UInt8} (h : unD l = (unD (l.drop pos)).map (acc ++ ·)) (hp : pos < l.length) (hz : (stepD (l.drop pos)).2 = 0) : unD l = none := by
  rw [h, unD_step (fun e => by have := congrArg List.length e; simp at this; omega), if_pos hz]
  rfl
theorem un_go {l : List UInt8} {pos c n : Nat} {acc : List UInt8} (h : unD l = (unD (l.drop pos)).map (acc ++ ·)) (hp : pos < l.length) (hz : stepD (l.drop pos) = (c, n)) (hn : n ≠ 0) :
    unD l = (unD (l.drop (pos + n))).map ((acc ++ bytesD c) ++ ·) := by
  rw [h, unD_step (fun e => by have := congrArg List.length e; simp at this; omega), hz]
  simp only
  rw [if_neg hn, List.drop_drop]
  cases unD (l.drop (pos + n)) with
  | none => rfl
  | some u => simp
theorem step_facts {l : List UInt8} {pos c n : Nat} (hz : stepD (l.drop pos) = (c, n)) (hn : n ≠ 0) (hpl : pos ≤ l.length) : isSign c = true ∧ pos + n ≤ l.length ∧ (bytesD c).length ≤ 4 * n ∧ 1 ≤ n ∧ ∀ j x, pos + 1 ≤ j → j < pos + n → l[j]? = some x → x.toNat < 128 := by
  obtain ⟨h1, h2, h3⟩ := step_inv (l := l.drop pos) (by rw [hz]; exact hn)
  rw [hz] at h1 h2 h3
  simp only at h1 h2 h3
  have hle : pos + n ≤ l.length := by
    have := congrArg List.length h2
    rw [List.length_append, List.length_drop, List.length_drop] at this
    omega
  refine ⟨h1, hle, by have := bytes_le c; omega, by omega, fun j x hj1 hj2 hx => ?_⟩
  have hx' : (l.drop pos)[j - pos]? = some x := by rw [List.getElem?_drop, show pos + (j - pos) = j by omega]; exact hx
  rw [← h2, List.getElem?_append_left (by omega)] at hx'
  have := plain_iff.1 (one_plain h1 x (List.mem_of_getElem? hx'))
  omega
end Go.Proofs.YtcdjilipmjjjkaaDoor
