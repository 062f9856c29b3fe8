/-
  What the rows' list of the library's variables gives to the walks. Nothing is claimed here by itself.
-/
import Derived.Test.YtcdjilipmjjjkaaDoorRows
import Derived.Test.YtcdjilipmjjjkaaDoorTab
import Derived.Lib.LaidTab
import Derived.MakeChecks
import Derived.LaidMore
import Derived.ChangeSame
import Derived.Stop.LaidErr
namespace Go.Proofs.YtcdjilipmjjjkaaDoor
open Go.RowKit Go.Lib

theorem gTab : Tryd.prog.globalNamed "deckle/signs.table" = some 0 := by kernel_rfl
theorem gTabT : (Tryd.prog.globals[0]?).map (·.type) = some 48 := by kernel_rfl
theorem gBit : Tryd.prog.globalNamed "math/bits.deBruijn64tab" = some 7 := by kernel_rfl
theorem gBitT : (Tryd.prog.globals[7]?).map (·.type) = some 97 := by kernel_rfl
/-- the numbers of a table as the row lists it -/
def litZ : DataW Unit → Int
  | .lit (.int _ z) => z
  | _ => 0
def litZs : DataW Unit → List Int
  | .agg l => l.map litZ
  | _ => []
def bitZs : List Int := litZs Rows.laid_math_bits_deBruijn64tab
theorem bitData : (Rows.laid_math_bits_deBruijn64tab : DataW Unit) = tabData .u8 bitZs := rfl
/-- a row of the table -/
def pairAt (i : Nat) : DataW Unit := .agg [.lit (.int .i32 (tabS.getD i 0 : Nat)), .lit (.int .i32 ((tabT.getD i 0).toNat : Nat))]
theorem tabData_eq : (Rows.laid_deckle_signs_table : DataW Unit) = .agg ((List.range 43).map pairAt) := rfl
theorem cells47 : Tryd.prog.cellsOf 47 = 2 := by kernel_rfl
theorem cells48 : Tryd.prog.cellsOf 48 = 86 := by kernel_rfl
theorem cells21 : Tryd.prog.cellsOf 21 = 1 := by kernel_rfl

theorem pairs_of {enc : TypeId × Value → Unit} {w : World} {base : Nat} {sp : Nat → Bool} {held : Bool} {fuel : Nat} {cs : List Value} {p : List MemPlace}
    (h : DataW.trod enc Tryd.prog w base sp held fuel 48 cs = some (.agg ((List.range 43).map pairAt), p)) :
    cs.length = 86 ∧ ∀ i, i < 43 → cs[2 * i]? = some (.int .i32 (tabS.getD i 0 : Nat)) ∧ cs[2 * i + 1]? = some (.int .i32 ((tabT.getD i 0).toNat : Nat)) := by
  cases fuel with
  | zero => simp [DataW.trod] at h
  | succ fuel =>
    simp only [DataW.trod, Tryd.underlying48, cells47, cells48] at h
    split at h
    · rename_i hl
      refine ⟨hl, fun i hi => ?_⟩
      obtain ⟨xs, hm, hx⟩ := Option.map_eq_some_iff.1 h
      have hxs : xs.map (·.1) = (List.range 43).map pairAt := by
        have := congrArg Prod.fst hx
        simpa using this
      obtain ⟨b, hb, hf⟩ := mapM_at hm i i (by simp [hi])
      have hbd : b.1 = pairAt i := by
        have h2 : (xs.map (·.1))[i]? = some b.1 := by simp [hb]
        rw [hxs] at h2
        simp [hi] at h2
        exact h2.symm
      obtain ⟨y0, y1, n, hy, _, h0, h1⟩ := Go.ChangeShapes.trod_struct2 Tryd.underlying47 hf
      obtain ⟨a, e0, r0, _⟩ := DataW.trod_int Tryd.underlying21 h0
      obtain ⟨c, e1, r1, _⟩ := DataW.trod_int Tryd.underlying21 h1
      rw [hy] at hbd
      simp only [pairAt, DataW.agg.injEq, List.cons.injEq, and_true] at hbd
      rw [r0, r1] at hbd
      simp only [DataW.lit.injEq, Lit.int.injEq, true_and] at hbd
      have g0 := congrArg (·[0]?) e0
      have g1 := congrArg (·[0]?) e1
      simp [cells21] at g0 g1
      rw [Nat.mul_comm] at g0 g1
      rw [g0, g1, hbd.1, hbd.2]
      exact ⟨rfl, rfl⟩
    · cases h

theorem var_heap {w : World} {name : String} {g : Nat} {cs : Array Value} (hg : Tryd.prog.globalNamed name = some g) (h : w.var? Tryd.prog name = some cs) : ∃ t fz, w.heap[g]? = some (.cells cs t fz) := by
  unfold World.var? at h
  rw [hg] at h
  simp only [Option.bind_some] at h
  split at h
  · rename_i cs' t fz he
    cases h
    exact ⟨t, fz, he⟩
  · cases h

theorem laid_of {W : World} (h0 : laidMetH Tryd.prog Rows.signsTellsRow.laid W) : Laid W := by
  rw [MakeChecks.laidMetH_plain _ _ _ (by kernel_rfl)] at h0
  refine ⟨?_, ?_⟩
  · obtain ⟨ps, ⟨g', t', cs, fuel, p, q, hg', ht', hvar, hd, _, _⟩, _⟩ := h0.tail.tail.tail.tail
    obtain rfl := Option.some.inj (gTab.symm.trans hg')
    obtain rfl := Option.some.inj (gTabT.symm.trans ht')
    rw [tabData_eq] at hd
    obtain ⟨h1, h2⟩ := pairs_of hd
    obtain ⟨t, fz, hh⟩ := var_heap gTab hvar
    exact ⟨cs, t, fz, hh, by simpa using h1, fun i hi => by simpa using h2 i hi⟩
  · have h : laidMet Tryd.prog ((_, tabData .u8 bitZs) :: _) W := h0.tail
    have ht := Lib.tabIs_of_head gBit gBitT Tryd.underlying97 Tryd.underlying5 (by kernel_rfl) (by kernel_rfl) h
    have hc := ht.cell gBit 15 (by decide)
    obtain ⟨t, fz, hh⟩ := var_heap gBit ht
    exact ⟨by rw [hh]; rfl, hc⟩
end Go.Proofs.YtcdjilipmjjjkaaDoor
