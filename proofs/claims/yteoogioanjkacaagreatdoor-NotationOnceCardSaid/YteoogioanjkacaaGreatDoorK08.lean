/-
  Contracts, joined: QReads, NoteMath, NoteLaws, NoteFine, NoteProg, TrimsA, TrimsB. Nothing is claimed here by itself.
-/
import Derived.Test.YteoogioanjkacaaGreatDoorK07
import Derived.Deep.LoopGhost
import Derived.BigRegion
import Derived.Shelf.Strings.AsciiSet
import Derived.Lib.OthersKept
import Derived.BigQuiet
import Derived.WalkMore
import Derived.Deep.CutBlock
import Derived.Deep.DeepCutAuto
namespace Go.Proofs.YteoogioanjkacaaGreatDoor.Quo
set_option maxRecDepth 20000
open Go.RowKit Go.Lib
set_option linter.unusedSimpArgs false
set_option linter.unusedVariables false
/-- what is answered: the signs, what follows, and is it so? -/
def mkL : Option (List Nat × List UInt8) → List Int × List UInt8 × Bool
  | none => ([], [], false)
  | some p => (intsZ p.1, p.2, true)
def ReadP (xs : List Int) (r : List UInt8) (ok : Bool) (w : World) (e : Ending) (w' : World) : Prop :=
  ∃ A c, e = .returned (.tuple #[.slice A xs.length c, .string ⟨r.toArray⟩, .bool ok]) ∧ xs.length ≤ c ∧ NumsT (fun b => w.heap.size ≤ b ∧ b < w'.heap.size) w' A xs ∧ Grow w w'
theorem OwnI.newT {B : Nat} {v : Value} {xs : List Int} {w : World} (h : OwnI B v xs w) : ∃ A c, v = .slice A xs.length c ∧ xs.length ≤ c ∧ NumsT (fun b => B ≤ b ∧ b < w.heap.size) w A xs := by
  obtain ⟨A, c, rfl, hc, _, hg⟩ := own_at h
  refine ⟨A, c, rfl, hc, fun hp => ?_⟩
  obtain ⟨g, rfl, h1, h2, h3⟩ := hg hp
  refine ⟨g, 0, rfl, ⟨h1, h2⟩, fun i hi => ?_⟩
  rw [Nat.zero_add]
  exact h3 i _ (by simp [ivs, hi])

theorem pre_cut (l : List UInt8) : (∃ t, l = 39 :: t ∧ hasPrefix l [39] = true ∧ trimPrefix l [39] = t) ∨ (hasPrefix l [39] = false ∧ trimPrefix l [39] = l ∧ l.head? ≠ some 39) := by
  rcases l with _ | ⟨a, r⟩
  · exact .inr ⟨rfl, rfl, by simp⟩
  · by_cases ha : a = 39
    · subst ha
      refine .inl ⟨r, rfl, by rw [pre_one]; simp, ?_⟩
      unfold trimPrefix
      rw [pre_one]
      simp
    · refine .inr ⟨by rw [pre_one]; simpa using ha, ?_, by simpa using ha⟩
      unfold trimPrefix
      rw [pre_one]
      simp [ha]
theorem readQ_other {l : List UInt8} (h : l.head? ≠ some 39) : readQ l = none := by
  cases l with
  | nil => rfl
  | cons a r => rw [readQ_cons, if_neg (by simpa using h)]
/-- acc is read, r is left -/
def Left (t : List UInt8) (acc : List Nat) (r : List UInt8) : Prop := bodyD t = (acc ++ (bodyD r).1, (bodyD r).2)
theorem left_on {t r : List UInt8} {acc : List Nat} (h : Left t acc r) (hn : (fstQ r).2 ≠ 0) : Left t (acc ++ [(fstQ r).1]) (r.drop (fstQ r).2) := by
  unfold Left at h ⊢
  rw [h, body_step hn]
  simp
theorem left_end {t r : List UInt8} {acc : List Nat} (h : Left t acc r) (hn : (fstQ r).2 = 0) : bodyD t = (acc, r) := by
  unfold Left at h
  rw [h, body_stop hn]
  simp
theorem end_yes {t : List UInt8} {acc : List Nat} {r : List UInt8} (h : bodyD t = (acc, 39 :: r)) : mkL (readQ (39 :: t)) = (intsZ acc, r, true) := by
  rw [readQ_cons, if_pos rfl, h, endQ_cons, if_pos rfl]
  rfl
theorem end_no {t : List UInt8} {acc : List Nat} {r : List UInt8} (h : bodyD t = (acc, r)) (hr : r.head? ≠ some 39) : mkL (readQ (39 :: t)) = ([], [], false) := by
  rw [readQ_cons, if_pos rfl, h]
  cases r with
  | nil => rfl
  | cons a r => rw [endQ_cons, if_neg (by simpa using hr)]; rfl
theorem ints_one (acc : List Nat) (c : Nat) : intsZ (acc ++ [c]) = intsZ acc ++ [((c : Nat) : Int)] := by rw [ints_append]; rfl

set_option maxRecDepth 10000 in
set_option maxHeartbeats 3200000 in
theorem read_any (l : List UInt8) (hl : l.length ≤ 100000) (w : World) (hL : Laid w) :
    Calls Tryz.prog 92 #[.string ⟨l.toArray⟩] w (ReadP (mkL (readQ l)).1 (mkL (readQ l)).2.1 (mkL (readQ l)).2.2 w) := by
  have HL := Lib.hid hL
  obtain ⟨B, hB⟩ : ∃ B, w.heap.size = B := ⟨_, rfl⟩
  have HBE := Lib.hid hB
  have HC := Lib.hid (Tryz.strings_CutPrefix ⟨l.toArray⟩ ⟨#[39]⟩ w)
  rw [show (⟨l.toArray⟩ : ByteArray).data.toList = l from rfl, show (⟨#[39]⟩ : ByteArray).data.toList = [39] from rfl] at HC
  clear hL hB
  rcases pre_cut l with ⟨t, rfl, hp, ht⟩ | ⟨hp, ht, hh⟩
  · rw [hp, ht] at HC
    have htl : t.length ≤ 99999 := by simpa using hl
    clear hp ht hl
    obtain ⟨s, hs⟩ : ∃ s : ByteArray, s = ⟨(39 :: t).toArray⟩ := ⟨_, rfl⟩
    obtain ⟨m, hm⟩ : ∃ m, mkL (readQ (39 :: t)) = m := ⟨_, rfl⟩
    have HE1 := Lib.hid (fun acc r (h : bodyD t = (acc, 39 :: r)) => hm.symm.trans (end_yes h))
    have HE2 := Lib.hid (fun acc r (h : bodyD t = (acc, r)) h2 => hm.symm.trans (end_no h h2))
    rw [← hs] at HC ⊢
    rw [hm]
    clear hs hm
    go_enter Tryz.func92, Tryz.ntmps92
    go_wp2_with fail
    refine (HC.out).mono ?_
    rintro x w ⟨rfl, rfl⟩
    clear HC
    go_wp2
    go_loopg [0, 6] t.length (fun gk s0 s6 wr => ∃ (r : List UInt8) (acc : List Nat) (v : Value), gk = r.length ∧ s0 = .string ⟨r.toArray⟩ ∧ v = s6 ∧ Hid (OwnI B v (intsZ acc) wr) ∧ Hid (Left t acc r) ∧ acc.length + r.length ≤ t.length ∧ Hid (Below B w wr))
    case atStart => exact ⟨t, [], _, rfl, rfl, rfl, Lib.hid (ownI_nil _ _), Lib.hid (by unfold Left; simp), by simp, Lib.hid (Below.refl _ _)⟩
    case round =>
      obtain ⟨r, acc, v, rfl, rfl, rfl, HO, HLE, hlen, HG⟩ := hrel
      have HZ : Hid (B ≤ wr.heap.size) := Lib.hid (by rw [← HBE.out]; exact HG.out.size)
      have HGW : Hid (Grow w wr) := Lib.hid (by unfold Grow; rw [HBE.out]; exact HG.out)
      have HF := Lib.hid (first_any r wr (HL.out.grow HGW.out))
      by_cases hn : (fstQ r).2 = 0
      · have hbd := left_end HLE.out hn
        have hc2 : ∃ c, fstQ r = (c, 0) := ⟨_, Prod.ext rfl hn⟩
        obtain ⟨c, hc2⟩ := hc2
        rw [hc2] at HF
        clear hc2 hn HLE
        have HC2 := Lib.hid (fun W => Tryz.strings_CutPrefix ⟨r.toArray⟩ ⟨#[39]⟩ W)
        rw [show (⟨r.toArray⟩ : ByteArray).data.toList = r from rfl, show (⟨#[39]⟩ : ByteArray).data.toList = [39] from rfl] at HC2
        rcases pre_cut r with ⟨u, rfl, hp, ht⟩ | ⟨hp, ht, hh⟩
        · rw [hp, ht] at HC2
          have HV := Lib.hid (HE1.out _ _ hbd)
          have HCL := Lib.hid (fun W => clone_any u W (by rw [List.length_cons] at hlen; omega))
          clear hbd hp ht hlen
          obtain ⟨s2, hs2⟩ : ∃ s2 : ByteArray, s2 = ⟨(39 :: u).toArray⟩ := ⟨_, rfl⟩
          rw [← hs2] at HF HC2 ⊢
          clear hs2
          go_wp2_with fail
          refine (HF.out).mono ?_
          rintro x w1 ⟨rfl, hg⟩
          have HG1 := Lib.hid hg
          clear hg HF
          dsimp only
          go_wp2_with fail
          refine (HC2.out _).mono ?_
          rintro x w' ⟨rfl, rfl⟩
          go_wp2_with fail
          refine (HCL.out _).mono ?_
          rintro x w2 ⟨rfl, hg⟩
          have HG2 := Lib.hid (HG1.out.trans hg)
          clear hg
          go_wp2
          go_ret3
          rw [HV.out]
          obtain ⟨A, c, e1, h1, h2⟩ := (HO.out.grow HG2.out).newT
          rw [← HBE.out] at h2
          rw [e1]
          exact ⟨A, c, rfl, h1, h2, HGW.out.trans HG2.out⟩
        · rw [hp, ht] at HC2
          have HV := Lib.hid (HE2.out _ _ hbd hh)
          clear hbd hp ht hh hlen
          go_wp2_with fail
          refine (HF.out).mono ?_
          rintro x w1 ⟨rfl, hg⟩
          have HG1 := Lib.hid hg
          clear hg HF
          dsimp only
          go_wp2_with fail
          refine (HC2.out _).mono ?_
          rintro x w' ⟨rfl, rfl⟩
          go_wp2
          go_ret3
          rw [HV.out]
          exact ⟨none, 0, rfl, Nat.le_refl _, (fun h => absurd h (by simp [mkL])), HGW.out.trans HG1.out⟩
      · have HLE' := Lib.hid (left_on HLE.out hn)
        obtain ⟨i1, _, _⟩ := fst_le hn
        obtain ⟨i2, i3⟩ := fst_drop hn
        obtain ⟨⟨c, k⟩, hck⟩ : ∃ p, fstQ r = p := ⟨_, rfl⟩
        rw [hck] at HF HLE' hn i1 i2 i3
        dsimp only at hn HLE' i1 i2 i3
        have hk0 : (((k : Nat) : Int) == 0) = false := by rw [beq_eq_false_iff_ne]; omega
        have hc := (isSign_iff.1 i1).1
        have hwc : IntKind.i64.wrap ((c : Nat) : Int) = ((c : Nat) : Int) := by rw [IntKind.wrap_i64]; omega
        have hsl := slice_from r k i2
        have hrl : (r.drop k).length = r.length - k := by simp
        generalize r.drop k = rd at *
        clear hn i1 i2 hck HLE hc
        go_wp2_with fail
        refine (HF.out).mono ?_
        rintro x w1 ⟨rfl, hg⟩
        have HG1 := Lib.hid hg
        have HO1 := Lib.hid (HO.out.grow hg)
        have HZ1 := Lib.hid (Nat.le_trans HZ.out hg.size)
        have HGB1 := Lib.hid (Below.trans HG.out (Below.mono hg HZ.out))
        clear hg HF HO HG HGW
        dsimp only
        go_wp2_with fail
        refine wp_region_R ((Below B)) (n := 10) rfl (by kernel_rfl) ?_
        intro W0 hW0e hW0
        have HG0 : Grow w1 W0 := hW0
        have HO0 := Lib.hid (HO1.out.grow HG0)
        have HZ0 := Lib.hid (Nat.le_trans HZ1.out HG0.size)
        have HGB0 := Lib.hid (Below.trans HGB1.out (Below.mono HG0 HZ1.out))
        clear hW0 HG0
        clear hW0e
        refine wpR_take (belowOrd B) (i := 0) (v := ?vf1) rfl (by kernel_rfl) (by kernel_rfl) (by kernel_rfl) (fun _ _ _ h => h) (by rfl) ?hf1 ?rf1
        case hf1 => (intro wg hSw; go_simp <;> with_reducible rfl)
        simp only [Act.put, List.setIfInBounds_toArray, List.set_cons_zero, List.set_cons_succ]
        refine wpR_take (belowOrd B) (i := 1) (v := ?vf2) rfl (by kernel_rfl) (by kernel_rfl) (by kernel_rfl) (fun _ _ _ h => h) (by rfl) ?hf2 ?rf2
        case hf2 => (intro wg hSw; go_simp <;> with_reducible rfl)
        simp only [Act.put, List.setIfInBounds_toArray, List.set_cons_zero, List.set_cons_succ]
        refine wpR_take (belowOrd B) (i := 2) (v := ?vf3) rfl (by kernel_rfl) (by kernel_rfl) (by kernel_rfl) (fun _ _ _ h => h) (by rfl) ?hf3 ?rf3
        case hf3 => (intro wg hSw; go_simp <;> with_reducible rfl)
        simp only [Act.put, List.setIfInBounds_toArray, List.set_cons_zero, List.set_cons_succ]
        refine wpR_take (belowOrd B) (i := 5) (v := ?vf4) rfl (by kernel_rfl) (by kernel_rfl) (by kernel_rfl) (fun _ _ _ h => h) (by rfl) ?hf4 ?rf4
        case hf4 => (intro wg hSw; go_simp <;> with_reducible rfl)
        simp only [Act.put, List.setIfInBounds_toArray, List.set_cons_zero, List.set_cons_succ]
        refine wpR_take (belowOrd B) (i := 6) (v := ?vf5) rfl (by kernel_rfl) (by kernel_rfl) (by kernel_rfl) (fun _ _ _ h => h) (by rfl) ?hf5 ?rf5
        case hf5 => (intro wg hSw; go_simp <;> with_reducible rfl)
        simp only [Act.put, List.setIfInBounds_toArray, List.set_cons_zero, List.set_cons_succ]
        refine wpR_take (belowOrd B) (i := 7) (v := ?vf6) rfl (by kernel_rfl) (by kernel_rfl) (by kernel_rfl) (fun _ _ _ h => h) (by rfl) ?hf6 ?rf6
        case hf6 => (intro wg hSw; go_simp <;> with_reducible rfl)
        simp only [Act.put, List.setIfInBounds_toArray, List.set_cons_zero, List.set_cons_succ]
        refine wpR_one (i := 3) (by kernel_rfl) ?_
        refine wpR_op (i := 3) rfl (by rfl) (fun K hK => ?_)
        go_simp
        refine hK.out _ _ (Below.mono (grow_new _ _) HZ0.out) ?_
        clear hK K
        try simp only [Act.put, List.setIfInBounds_toArray, List.set_cons_zero, List.set_cons_succ]
        generalize hwM3 : World.alloc W0 (Obj.cells #[.int .i64 ((c : Nat) : Int)] 3) = wM3
        have hN3 : Grow W0 wM3 := by rw [← hwM3]; exact grow_new _ _
        have hC3 : Nums .i64 wM3 wM3.heap.size (some ⟨(W0).heap.size, 0, none⟩) [((c : Nat) : Int)] := by rw [← hwM3]; exact nums_lit1 _ _ _
        have hM3 : Below B W0 wM3 := Below.mono hN3 HZ0.out
        have HZ3 := Lib.hid (Nat.le_trans HZ0.out hN3.size)
        have HO3 := Lib.hid (HO0.out.grow hN3)
        clear hwM3
        refine wpR_one (i := 4) (by kernel_rfl) ?_
        refine wpR_op (i := 4) rfl (by rfl) (fun K hK => ?_)
        refine wp_more_ints _ _ rfl B v (intsZ acc) _ 1 1 [((c : Nat) : Int)] rfl HO3.out rfl rfl hC3 (by rw [ints_len]; omega) HZ3.out ?_
        intro v4 wM4 hO4 hB4
        have hM4 : Below B wM3 wM4 := hB4.out
        have hN4 := hM4
        refine hK.out _ _ hM4 ?_
        clear hK K
        try simp only [Act.put, List.setIfInBounds_toArray, List.set_cons_zero, List.set_cons_succ]
        refine wpR_take (belowOrd B) (i := 8) (v := ?vf7) rfl (by kernel_rfl) (by kernel_rfl) (by kernel_rfl) (fun _ _ _ h => h) (by rfl) ?hf7 ?rf7
        case hf7 => (intro wg hSw; go_simp <;> with_reducible rfl)
        simp only [Act.put, List.setIfInBounds_toArray, List.set_cons_zero, List.set_cons_succ]
        refine wpR_take (belowOrd B) (i := 9) (v := ?vf8) rfl (by kernel_rfl) (by kernel_rfl) (by kernel_rfl) (fun _ _ _ h => h) (by rfl) ?hf8 ?rf8
        case hf8 => (intro wg hSw; go_simp <;> with_reducible rfl)
        simp only [Act.put, List.setIfInBounds_toArray, List.set_cons_zero, List.set_cons_succ]
        refine wpR_done (by kernel_rfl) ?_
        have HGW := Lib.hid (Below.trans HGB0.out (((belowOrd B)).trans (((belowOrd B)).trans (((belowOrd B)).refl W0) hM3) hM4))
        have HO5 : Hid (OwnI B v4 (intsZ (acc ++ [c])) wM4) := Lib.hid (by rw [ints_one]; exact hO4.out)
        clear hO4 hsl hM3 hM4 hN3 hN4 hC3 hB4
        go_wp2
        go_roundg rd.length
        case rel => exact ⟨rd, acc ++ [c], v4, rfl, rfl, rfl, HO5, HLE', by rw [List.length_append, List.length_singleton]; omega, HGW⟩
        case measure => omega
  · rw [hp, ht] at HC
    rw [readQ_other hh]
    clear hp ht hh
    go_enter Tryz.func92, Tryz.ntmps92
    go_wp2_with fail
    refine (HC.out).mono ?_
    rintro x w' ⟨rfl, rfl⟩
    clear HC
    go_wp2
    go_ret3
    exact ⟨none, 0, rfl, Nat.le_refl _, (fun h => absurd h (by simp [mkL])), Grow.refl _⟩
end Go.Proofs.YteoogioanjkacaaGreatDoor.Quo
namespace Go.Proofs.YteoogioanjkacaaGreatDoor
set_option linter.unusedVariables false
set_option linter.unusedSimpArgs false
set_option maxRecDepth 10000
/-- a node's numbers as a text -/
def numsT (n : Nd) : List UInt8 := if n.kind = 4 then Num.decsT n.decs else Num.intsT n.ints
/-- what stands of a node that has no kids -/
def leafT (n : Nd) : List UInt8 :=
  if n.kind = 3 then Quo.textQ n.ints
  else if n.shp ≠ [] ∧ n.kind = 2 ∧ n.ints = [] ∧ n.decs = [] then [48] else numsT n
/-- what stands of the kids, one behind the other -/
def catN (p : List Nd → Option St) (f : List Nd → List UInt8) : Nat → List Nd → List UInt8
  | 0, _ => []
  | j + 1, l => catN p f j l ++ match parK p j l with
    | some t => 40 :: (f (l.drop t.n) ++ [41])
    | none => []
def shpT (s : List Int) : List UInt8 := Num.intsT s ++ [226, 141, 180]
/-- the notation of the array that stands first -/
def noteF : Nat → List Nd → List UInt8
  | 0, _ => []
  | _ + 1, [] => []
  | d + 1, n :: l =>
    (if n.shp = [] then (if n.kind = 5 then [226, 138, 130] else []) else shpT n.shp) ++
    (if n.kind = 5 then catN (par d) (noteF d) (kc n) l else leafT n)
def noteA (l : List Nd) : List UInt8 := noteF 16 l
/-- what Text answers -/
def noteT (l : List Nd) : List UInt8 := if rightA l = true ∧ formA l = l then noteA l else []

/-- an array in parentheses that stands first, and what follows -/
def kidR (rd : List UInt8 → Option (List Nd × List UInt8)) : List UInt8 → Option (List Nd × List UInt8)
  | [] => none
  | b :: r => if b = 40 then (rd r).bind fun p => match p.2 with
      | c :: t => if c = 41 then some (p.1, t) else none
      | [] => none
    else none
def kidsR (rd : List UInt8 → Option (List Nd × List UInt8)) : Nat → List UInt8 → Option (List Nd × List UInt8)
  | 0, s => some ([], s)
  | k + 1, s => (kidsR rd k s).bind fun p => (kidR rd p.2).map fun q => (p.1 ++ q.1, q.2)
/-- the items of a shape that stand first, and what follows -/
def itemsR (rd : List UInt8 → Option (List Nd × List UInt8)) (sh : List Int) (s : List UInt8) : Option (List Nd × List UInt8) :=
  if rightB sh = true then
    match s with
    | [] => none
    | b :: _ =>
      if b = 39 then (Quo.readQ s).bind fun p => if p.1.length = cnt sh then some ([⟨3, sh, Quo.intsZ p.1, []⟩], p.2) else none
      else if b = 40 then (kidsR rd (cnt sh) s).map fun p => (⟨5, sh, [], []⟩ :: p.1, p.2)
      else (Num.readO s).bind fun p => (numO sh (if cnt sh = 0 ∧ p.1.length = 1 then [] else p.1)).map fun m => ([m], p.2)
  else none
def begB (s p : List UInt8) : Bool := p.isPrefixOf s
/-- the array that may stand first, and what follows -/
def readR : Nat → List UInt8 → Option (List Nd × List UInt8)
  | 0, _ => none
  | d + 1, s =>
    if begB s [226, 138, 130] = true then (kidR (readR d) (s.drop 3)).map fun p => (⟨5, [], [], []⟩ :: p.1, p.2)
    else if s.head? = some 39 then itemsR (readR d) [] s
    else (Num.readO s).bind fun p =>
      if begB p.2 [226, 141, 180] = true then (if p.1.all whlB = true then itemsR (readR d) (p.1.map whlV) (p.2.drop 3) else none)
      else itemsR (readR d) [] s
/-- what Parse answers -/
def parseN (s : List UInt8) : Option (List Nd) := (readR 16 s).bind fun p => if p.2 = [] ∧ noteT p.1 = s then some p.1 else none

theorem readR_succ (d : Nat) (s : List UInt8) : readR (d + 1) s =
    if begB s [226, 138, 130] = true then (kidR (readR d) (s.drop 3)).map fun p => (⟨5, [], [], []⟩ :: p.1, p.2)
    else if s.head? = some 39 then itemsR (readR d) [] s
    else (Num.readO s).bind fun p =>
      if begB p.2 [226, 141, 180] = true then (if p.1.all whlB = true then itemsR (readR d) (p.1.map whlV) (p.2.drop 3) else none)
      else itemsR (readR d) [] s := rfl
theorem noteF_cons (d : Nat) (n : Nd) (l : List Nd) : noteF (d + 1) (n :: l) =
    (if n.shp = [] then (if n.kind = 5 then [226, 138, 130] else []) else shpT n.shp) ++
    (if n.kind = 5 then catN (par d) (noteF d) (kc n) l else leafT n) := rfl
theorem catN_succ {p : List Nd → Option St} {f : List Nd → List UInt8} {j : Nat} {l : List Nd} {t : St} (h : parK p j l = some t) : catN p f (j + 1) l = catN p f j l ++ 40 :: (f (l.drop t.n) ++ [41]) := by
  show catN p f j l ++ _ = _
  rw [h]
theorem kidsR_succ (rd : List UInt8 → Option (List Nd × List UInt8)) (k : Nat) (s : List UInt8) : kidsR rd (k + 1) s = (kidsR rd k s).bind fun p => (kidR rd p.2).map fun q => (p.1 ++ q.1, q.2) := rfl
theorem kidR_yes {rd : List UInt8 → Option (List Nd × List UInt8)} {s r : List UInt8} {a : List Nd} (h : rd s = some (a, 41 :: r)) : kidR rd (40 :: s) = some (a, r) := by
  simp [kidR, h]

/-- what a node of a tight form is -/
structure Tid (m : Nd) : Prop where
  ok : okB m = true
  least : m.kind ≠ 3 → m.kind ≠ 5 → leastN m.shp (valsN m) = m
  items : m.kind = 5 → 0 < cnt m.shp
  fit : Fit m
  vals : ∀ x ∈ m.ints, In x
theorem fold_none {n : Nd} {ks : List Nd} (h : foldO n ks = none) : n.kind = 5 ∧ ks ≠ [] := by
  unfold foldO at h
  by_cases h3 : n.kind = 3
  · rw [if_pos h3] at h; cases h
  · rw [if_neg h3] at h
    by_cases h5 : n.kind = 5
    · refine ⟨h5, fun e => ?_⟩
      subst e
      rw [if_pos h5] at h
      simp [joinO] at h
    · rw [if_neg h5] at h; cases h
theorem catF_tid {d : Nat} (hf : ∀ l s, par d l = some s → Fine l → ∀ m ∈ formF d l, Tid m) :
    ∀ {c : Nat} {l : List Nd} {t : St}, parK (par d) c l = some t → Fine l → ∀ m ∈ catF (par d) (formF d) c l, Tid m
  | 0, l, t, h, _ => fun m hm => by cases hm
  | c + 1, l, t, h, hl => by
    obtain ⟨a, b, ha, hb, rfl⟩ := parK_some h
    rw [catF_succ ha]
    intro m hm
    rcases List.mem_append.1 hm with hm | hm
    · exact catF_tid hf ha hl m hm
    · exact hf _ _ hb (hl.drop _) m hm
theorem formF_tid : ∀ {d : Nat} {l : List Nd} {s : St}, par d l = some s → Fine l → ∀ m ∈ formF d l, Tid m
  | 0, l, s, h, _ => by cases h
  | d + 1, l, s, h, hl => by
    obtain ⟨e, n, l', t, he, rfl, hn, ht, rfl⟩ := par_parts h
    obtain rfl : d = e := by omega
    obtain ⟨hfit, hin, hl'⟩ := hl.cons
    have htl := parK_len (fun l s h => (par_len h).2.1) ht
    obtain ⟨u, hu, hul, h1, h2, h3, h4, h5, h6⟩ := catF_good (fun l s h hl => formF_good h hl) ht hl'
    have hT := catF_tid (fun l s h hl => formF_tid h hl) ht hl'
    rw [formF_cons]
    generalize hks : catF (par d) (formF d) (kc n) l' = ks at *
    have hkf : Fine ks := ⟨by have := hl'.1; omega, h4, h5⟩
    cases hj : foldO n ks with
    | none =>
      obtain ⟨k5, kne⟩ := fold_none hj
      have hcl : clos n ks = n :: ks := by unfold clos; rw [hj]
      rw [hcl]
      intro m hm
      rcases List.mem_cons.1 hm with rfl | hm
      · refine ⟨hn, fun _ h => absurd k5 h, fun _ => ?_, hfit, hin⟩
        rcases Nat.eq_zero_or_pos (cnt m.shp) with h0 | h0
        · exfalso
          have hk : kc m = 0 := by unfold kc; rw [if_pos k5, h0]
          rw [hk, catF_zero] at hks
          exact kne hks.symm
        · exact h0
      · exact hT m hm
    | some m =>
      obtain ⟨k1, k2, k3, k4, k5, k6⟩ := fold_one hn hfit hin hu hul hkf hj
      have hcl : clos n ks = [m] := by unfold clos; rw [hj]
      rw [hcl]
      intro x hx
      rw [List.mem_singleton.1 hx]
      refine ⟨k1, fun h3 h5 => ?_, fun h => absurd h k3, k4, k5⟩
      unfold foldO at k6
      rw [if_neg h3, if_neg h5] at k6
      exact Option.some.inj k6
theorem tight_tid {a : List Nd} (hr : rightA a = true) (hf : Fine a) (ht : formA a = a) : ∀ m ∈ a, Tid m := by
  obtain ⟨s, hs⟩ := right_some hr
  obtain ⟨h1, _, _⟩ := whl_some hs
  have := formF_tid h1 hf
  show ∀ m ∈ a, Tid m
  rw [← ht]
  exact this

/-- what may follow an array -/
def Ends (r : List UInt8) : Prop := r = [] ∨ ∃ t, r = 41 :: t
theorem Ends.npc {r : List UInt8} (h : Ends r) : Num.npc r = 0 := by
  rcases h with rfl | ⟨t, rfl⟩
  · rfl
  · exact Num.npc_not (by decide) (by decide) t
theorem Ends.next {r : List UInt8} (h : Ends r) : Num.nextD r = none := by
  rcases h with rfl | ⟨t, rfl⟩
  · rfl
  · exact Num.nextD_other (by simp)
theorem Ends.quote {r : List UInt8} (h : Ends r) : r.head? ≠ some 39 := by
  rcases h with rfl | ⟨t, rfl⟩ <;> simp
theorem Ends.beg {r : List UInt8} (h : Ends r) : begB r [226, 141, 180] = false := by
  rcases h with rfl | ⟨t, rfl⟩
  · rfl
  · simp [begB, List.isPrefixOf]
theorem rho_npc (r : List UInt8) : Num.npc (226 :: 141 :: 180 :: r) = 0 := Num.npc_not (by decide) (by decide) _
theorem rho_next (r : List UInt8) : Num.nextD (226 :: 141 :: 180 :: r) = none := Num.nextD_other (by simp)
theorem rho_beg (r : List UInt8) : begB (226 :: 141 :: 180 :: r) [226, 141, 180] = true := by simp [begB, List.isPrefixOf]

/-- a text of numbers begins with a digit, or with the high minus -/
theorem num_head (n : Int) : ∃ b r, Num.num n = b :: r ∧ b ≠ 39 ∧ b ≠ 40 ∧ b ≠ 226 := by
  by_cases h : n < 0
  · exact ⟨194, _, Num.num_neg h, by decide, by decide, by decide⟩
  · obtain ⟨c, r, e, h1, h2⟩ := Num.dd_cons n.natAbs
    refine ⟨c, r, by rw [Num.num_pos h, e], ?_, ?_, ?_⟩ <;> (intro e; subst e; simp at h1 h2)
def Begs (l : List UInt8) : Prop := ∃ b r, l = b :: r ∧ b ≠ 39 ∧ b ≠ 40 ∧ b ≠ 226
theorem Begs.app {l : List UInt8} (h : Begs l) (x : List UInt8) : Begs (l ++ x) := by
  obtain ⟨b, r, rfl, h⟩ := h
  exact ⟨b, r ++ x, rfl, h⟩
theorem join_head {x : List UInt8} (h : Begs x) (xs : List (List UInt8)) : Begs (Go.Lib.join (x :: xs) [32]) := by
  cases xs with
  | nil => rw [Go.Lib.join_one]; exact h
  | cons y ys =>
    have e := Num.join_app (a := [x]) (b := y :: ys) (by simp) (by simp)
    rw [List.singleton_append, Go.Lib.join_one] at e
    rw [e]
    exact h.app _
theorem ints_begs {xs : List Int} (h : xs ≠ []) : Begs (Num.intsT xs) := by
  cases xs with
  | nil => exact absurd rfl h
  | cons x xs => exact join_head (num_head x) _
theorem text_begs {m e : Int} (h : rightD m e = true) : Begs (Num.text m e) := by
  by_cases he : e = 0
  · subst he; rw [Num.text_plain h]; exact num_head m
  · rw [Num.text_exp h he]; exact Begs.app (num_head m) _
theorem decs_begs {ds : List (Int × Int)} (h : ds ≠ []) (hr : Num.decsR ds = true) : Begs (Num.decsT ds) := by
  unfold Num.decsT
  rw [if_pos hr]
  cases ds with
  | nil => exact absurd rfl h
  | cons d ds =>
    refine join_head (text_begs ?_) _
    unfold Num.decsR at hr
    rw [List.all_cons, Bool.and_eq_true] at hr
    exact hr.1
theorem Begs.not_quote {l : List UInt8} (h : Begs l) : l.head? ≠ some 39 := by
  obtain ⟨b, r, rfl, h1, _⟩ := h
  simpa using h1
theorem Begs.not_beg {l : List UInt8} (h : Begs l) : begB l [226, 138, 130] = false := by
  obtain ⟨b, r, rfl, _, _, h3⟩ := h
  simp only [begB, List.isPrefixOf, Bool.and_eq_false_iff, beq_eq_false_iff_ne, ne_eq]
  exact .inl (fun e => h3 e.symm)
theorem signB_Z (x : Int) : signB x = Quo.signZ x := by
  unfold signB Quo.signZ
  rw [Bool.eq_iff_iff]
  simp
  omega

theorem quoteT {xs : List Int} (h : xs.all Quo.signZ = true) : Quo.textQ xs = 39 :: (Quo.qT (Quo.natsZ xs) ++ [39]) := by unfold Quo.textQ; rw [if_pos h]; rfl
theorem catN_head {p : List Nd → Option St} {f : List Nd → List UInt8} : ∀ {c : Nat} {l : List Nd} {t : St}, parK p (c + 1) l = some t → ∃ x, catN p f (c + 1) l = 40 :: x
  | 0, l, t, h => ⟨_, by rw [catN_succ (parK_zero p l)]; rfl⟩
  | c + 1, l, t, h => by
    obtain ⟨a, b, ha, hb, rfl⟩ := parK_some h
    obtain ⟨x, hx⟩ := catN_head (f := f) ha
    exact ⟨x ++ 40 :: (f (l.drop a.n) ++ [41]), by rw [catN_succ ha, hx]; rfl⟩
/-- a node without kids is read of what stands of it -/
theorem leaf_read {rd : List UInt8 → Option (List Nd × List UInt8)} {n : Nd} (h : Tid n) (h5 : n.kind ≠ 5) {r : List UInt8} (hr : Ends r) (hs : n.shp = [] → True) : itemsR rd n.shp (leafT n ++ r) = some ([n], r) := by
  obtain ⟨hrs, hfill⟩ := ok_right h.ok
  unfold itemsR
  rw [if_pos hrs]
  by_cases h3 : n.kind = 3
  · unfold fillB at hfill
    rw [if_neg (by omega), if_neg (by omega), if_pos h3] at hfill
    simp only [Bool.and_eq_true, beq_iff_eq] at hfill
    obtain ⟨⟨hc, hd⟩, hall⟩ := hfill
    have hz : n.ints.all Quo.signZ = true := by
      rw [List.all_eq_true] at hall ⊢
      intro x hx
      rw [← signB_Z]
      exact hall x hx
    have hT : leafT n = 39 :: (Quo.qT (Quo.natsZ n.ints) ++ [39]) := by unfold leafT; rw [if_pos h3]; exact quoteT hz
    have hq := Quo.read_of (Quo.nats_sign hz) hr.quote
    have hI : Quo.inQ (Quo.natsZ n.ints) ++ r = 39 :: (Quo.qT (Quo.natsZ n.ints) ++ [39] ++ r) := rfl
    rw [hI] at hq
    rw [hT, List.cons_append]
    simp only [if_true]
    rw [hq, Option.bind_some]
    simp only
    rw [if_pos (by rw [Quo.nats_len, hc]), Quo.ints_nats hz]
    have : n.decs = [] := List.eq_nil_of_length_eq_zero hd
    congr 2
    cases n
    simp_all
  · have hle := h.least h3 h5
    obtain ⟨v1, v2, v3, v4⟩ := vals_ok h.ok h3 h.fit h.vals
    have v4 := v4 h5
    have hnum : numO n.shp (valsN n) = some n := by
      unfold numO
      rw [if_pos ⟨hrs, v4, v1⟩, hle]
    by_cases h0 : n.ints = [] ∧ n.decs = []
    · -- without items
      have hv0 : valsN n = [] := by unfold valsN; rw [h0.1, h0.2]; rfl
      have hk2 : n.kind = 2 := by rw [← hle, hv0]; rfl
      have hc0 : cnt n.shp = 0 := by rw [v4, hv0]; rfl
      have hsh : n.shp ≠ [] := by
        intro e
        rw [e] at hc0
        exact absurd hc0 (by decide)
      have hT : leafT n = [48] := by unfold leafT; rw [if_neg h3, if_pos ⟨hsh, hk2, h0.1, h0.2⟩]
      have hro : Num.readO (48 :: r) = some ([ofD 0], r) := by
        have := Num.ints_back (xs := [0]) (by simp) (by intro x hx; rw [List.mem_singleton.1 hx]; constructor <;> decide) r hr.npc hr.next
        have e : Num.intsT [0] = [48] := by unfold Num.intsT; rw [List.map_cons, List.map_nil, Go.Lib.join_one, Num.num_zero]
        rw [e] at this
        exact this
      rw [hT]
      show (if (48 : UInt8) = 39 then _ else if (48 : UInt8) = 40 then _ else _) = _
      rw [if_neg (by decide), if_neg (by decide)]
      show Option.bind (Num.readO (48 :: r)) _ = _
      rw [hro, Option.bind_some]
      simp only
      rw [if_pos ⟨hc0, rfl⟩]
      rw [hv0] at hnum
      rw [hnum]
      rfl
    · -- with items
      have hT : leafT n = numsT n := by unfold leafT; rw [if_neg h3, if_neg]; rintro ⟨_, _, a, b⟩; exact h0 ⟨a, b⟩
      have hv0 : valsN n ≠ [] := by
        unfold valsN
        intro e
        rw [List.append_eq_nil_iff, List.map_eq_nil_iff] at e
        exact h0 e
      have hlen : ¬ (cnt n.shp = 0 ∧ (valsN n).length = 1) := by rintro ⟨a, b⟩; omega
      have hread : Num.readO (numsT n ++ r) = some (valsN n, r) ∧ Begs (numsT n) := by
        unfold numsT
        by_cases h4 : n.kind = 4
        · rw [if_pos h4]
          have hi0 : n.ints = [] := by
            unfold fillB at hfill
            rw [if_neg (by omega), if_neg (by omega), if_neg h3, if_pos h4] at hfill
            simp only [Bool.and_eq_true, beq_iff_eq] at hfill
            exact List.eq_nil_of_length_eq_zero hfill.1.1
          have hvd : valsN n = n.decs := by unfold valsN; rw [hi0]; rfl
          rw [hvd] at v1 v2 hv0 ⊢
          have hdr : Num.decsR n.decs = true := v1
          exact ⟨Num.decs_back hv0 (fun d hd => (v2 d hd).1) hdr r hr.npc hr.next, decs_begs hv0 hdr⟩
        · rw [if_neg h4]
          have hd0 : n.decs = [] := by
            unfold fillB at hfill
            by_cases h1 : n.kind = 1
            · rw [if_pos h1] at hfill
              simp only [Bool.and_eq_true, beq_iff_eq] at hfill
              exact List.eq_nil_of_length_eq_zero hfill.1.2
            · rw [if_neg h1] at hfill
              by_cases h2 : n.kind = 2
              · rw [if_pos h2] at hfill
                simp only [Bool.and_eq_true, beq_iff_eq] at hfill
                exact List.eq_nil_of_length_eq_zero hfill.2
              · rw [if_neg h2, if_neg h3, if_neg h4, if_neg h5] at hfill
                cases hfill
          have hvd : valsN n = n.ints.map ofD := by unfold valsN; rw [hd0]; simp
          have hi0 : n.ints ≠ [] := fun e => h0 ⟨e, hd0⟩
          rw [hvd]
          exact ⟨Num.ints_back hi0 h.vals r hr.npc hr.next, ints_begs hi0⟩
      obtain ⟨hro, hb⟩ := hread
      rw [hT]
      obtain ⟨b, t, e, b1, b2, b3⟩ := hb.app r
      rw [e] at hro ⊢
      simp only [b1, b2, if_false]
      rw [hro, Option.bind_some]
      simp only
      rw [if_neg hlen, hnum]
      rfl
theorem shp_in {s : List Int} (h : rightB s = true) : ∀ x ∈ s, In x := by
  intro x hx
  have := (right_iff.1 h).2.1
  have := List.all_eq_true.1 this x hx
  unfold okI at this
  simp only [Bool.and_eq_true, decide_eq_true_eq] at this
  exact ⟨by omega, by omega⟩
/-- behind its shape -/
theorem shape_read {d : Nat} {s : List Int} (hs : s ≠ []) (hr : rightB s = true) (x : List UInt8) : readR (d + 1) (shpT s ++ x) = itemsR (readR d) s x := by
  have hb := ints_begs hs
  have hin := shp_in hr
  obtain ⟨a1, a2, a3⟩ := of_all hin
  have e : shpT s ++ x = Num.intsT s ++ (226 :: 141 :: 180 :: x) := by unfold shpT; simp
  rw [e, readR_succ, if_neg (by rw [(hb.app _).not_beg]; simp), if_neg (hb.app _).not_quote, Num.ints_back hs hin _ (rho_npc x) (rho_next x), Option.bind_some]
  simp only
  rw [if_pos (rho_beg x)]
  show (if (s.map ofD).all whlB = true then itemsR (readR d) ((s.map ofD).map whlV) ((226 :: 141 :: 180 :: x).drop 3) else none) = _
  rw [if_pos a1, a2]
  rfl

theorem kids_read {d : Nat} (hf : ∀ l s, par d l = some s → (∀ m ∈ l.take s.n, Tid m) → ∀ r, Ends r → readR d (noteF d l ++ r) = some (l.take s.n, r)) :
    ∀ {c : Nat} {l : List Nd} {t : St}, parK (par d) c l = some t → (∀ m ∈ l.take t.n, Tid m) → ∀ r, kidsR (readR d) c (catN (par d) (noteF d) c l ++ r) = some (l.take t.n, r)
  | 0, l, t, h, _, r => by
    rw [parK_zero] at h
    cases h
    simp [kidsR, catN, st0]
  | c + 1, l, t, h, hT, r => by
    obtain ⟨a, b, ha, hb, rfl⟩ := parK_some h
    have hab : l.take (a.plus b).n = l.take a.n ++ (l.drop a.n).take b.n := take_app_part
    rw [hab] at hT ⊢
    rw [catN_succ ha, List.append_assoc, kidsR_succ, kids_read hf ha (fun m hm => hT m (List.mem_append_left _ hm)), Option.bind_some]
    simp only
    have hk := hf _ _ hb (fun m hm => hT m (List.mem_append_right _ hm)) (41 :: r) (.inr ⟨r, rfl⟩)
    have e : (40 :: (noteF d (l.drop a.n) ++ [41])) ++ r = 40 :: (noteF d (l.drop a.n) ++ 41 :: r) := by simp
    rw [e, kidR_yes hk]
    rfl
theorem note_read : ∀ {d : Nat} {l : List Nd} {s : St}, par d l = some s → (∀ m ∈ l.take s.n, Tid m) → ∀ r, Ends r → readR d (noteF d l ++ r) = some (l.take s.n, r)
  | 0, l, s, h, _, _, _ => by cases h
  | d + 1, l, s, h, hT, r, hr => by
    obtain ⟨e, n, l', t, he, rfl, hn, ht, rfl⟩ := par_parts h
    obtain rfl : d = e := by omega
    have htk : (n :: l').take (top n t).n = n :: l'.take t.n := rfl
    rw [htk] at hT ⊢
    have hTn := hT n (by simp)
    have hTk : ∀ m ∈ l'.take t.n, Tid m := fun m hm => hT m (by simp [hm])
    have IH := fun l s h hT r hr => note_read (d := d) (l := l) (s := s) h hT r hr
    rw [noteF_cons]
    by_cases h5 : n.kind = 5
    · simp only [if_pos h5]
      obtain ⟨hrs, hfill⟩ := ok_right hTn.ok
      have hn0 : n = ⟨5, n.shp, [], []⟩ := by
        unfold fillB at hfill
        rw [if_neg (by omega), if_neg (by omega), if_neg (by omega), if_neg (by omega), if_pos h5] at hfill
        simp only [Bool.and_eq_true, beq_iff_eq] at hfill
        have e1 := List.eq_nil_of_length_eq_zero hfill.1
        have e2 := List.eq_nil_of_length_eq_zero hfill.2
        cases n
        simp_all
      have hkc : kc n = cnt n.shp := by unfold kc; rw [if_pos h5]
      have hpos := hTn.items h5
      have hkr := kids_read IH ht hTk r
      rw [hkc] at hkr ht ⊢
      by_cases hs : n.shp = []
      · rw [if_pos hs]
        have hc1 : cnt n.shp = 1 := by rw [hs]; decide
        rw [hc1] at hkr ht ⊢
        have hcat : catN (par d) (noteF d) 1 l' = 40 :: (noteF d (l'.drop 0) ++ [41]) := by rw [catN_succ (parK_zero (par d) l')]; rfl
        rw [kidsR_succ] at hkr
        have hk1 : kidR (readR d) (catN (par d) (noteF d) 1 l' ++ r) = some (l'.take t.n, r) := by
          have hk0 : kidsR (readR d) 0 (catN (par d) (noteF d) 1 l' ++ r) = some ([], catN (par d) (noteF d) 1 l' ++ r) := rfl
          rw [hk0, Option.bind_some] at hkr
          cases hq : kidR (readR d) (catN (par d) (noteF d) 1 l' ++ r) with
          | none => rw [hq] at hkr; cases hkr
          | some q =>
            rw [hq] at hkr
            exact hkr
        rw [List.append_assoc, readR_succ, if_pos (by simp [begB, List.isPrefixOf])]
        show Option.map _ (kidR (readR d) (catN (par d) (noteF d) 1 l' ++ r)) = _
        rw [hk1, Option.map_some]
        congr 2
        rw [hs] at hn0
        exact congrArg (· :: _) hn0.symm
      · rw [if_neg hs, List.append_assoc, shape_read hs hrs]
        have hcat0 : ∃ x, catN (par d) (noteF d) (cnt n.shp) l' ++ r = 40 :: x := by
          obtain ⟨c, hc⟩ : ∃ c, cnt n.shp = c + 1 := ⟨cnt n.shp - 1, by omega⟩
          rw [hc] at ht ⊢
          obtain ⟨x, hx⟩ := catN_head (f := noteF d) ht
          exact ⟨x ++ r, by rw [hx]; rfl⟩
        obtain ⟨x, hx⟩ := hcat0
        rw [hx] at hkr ⊢
        unfold itemsR
        rw [if_pos hrs]
        show (if (40 : UInt8) = 39 then _ else if (40 : UInt8) = 40 then _ else _) = _
        rw [if_neg (by decide), if_pos rfl]
        show Option.map _ (kidsR (readR d) (cnt n.shp) (40 :: x)) = _
        rw [hkr, Option.map_some]
        congr 2
        exact congrArg (· :: _) hn0.symm
    · simp only [if_neg h5]
      have hk0 : kc n = 0 := by unfold kc; rw [if_neg h5]
      rw [hk0, parK_zero] at ht
      cases ht
      obtain ⟨hrs, hfill⟩ := ok_right hTn.ok
      have hlr := leaf_read (rd := readR d) hTn h5 hr (fun _ => trivial)
      by_cases hs : n.shp = []
      · rw [if_pos hs, List.nil_append]
        show readR (d + 1) (leafT n ++ r) = some ([n], r)
        rw [hs] at hlr
        rw [readR_succ]
        by_cases h3 : n.kind = 3
        · have hT : ∃ x, leafT n ++ r = 39 :: x := by
            unfold leafT
            rw [if_pos h3]
            have hz : n.ints.all Quo.signZ = true := by
              unfold fillB at hfill
              rw [if_neg (by omega), if_neg (by omega), if_pos h3] at hfill
              simp only [Bool.and_eq_true] at hfill
              have hall := hfill.2
              rw [List.all_eq_true] at hall ⊢
              intro x hx
              rw [← signB_Z]
              exact hall x hx
            rw [quoteT hz]
            exact ⟨_, rfl⟩
          obtain ⟨x, hx⟩ := hT
          rw [hx] at hlr ⊢
          rw [if_neg (by simp [begB, List.isPrefixOf]), if_pos (by simp)]
          exact hlr
        · obtain ⟨v1, v2, v3, v4⟩ := vals_ok hTn.ok h3 hTn.fit hTn.vals
          have v4 := v4 h5
          have hc1 : cnt n.shp = 1 := by rw [hs]; decide
          have hb : ∃ ds, Num.readO (leafT n ++ r) = some (ds, r) ∧ Begs (leafT n) := by
            unfold leafT
            rw [if_neg h3, if_neg (fun h => h.1 hs)]
            unfold numsT
            by_cases h4 : n.kind = 4
            · rw [if_pos h4]
              have hi0 : n.ints = [] := by
                unfold fillB at hfill
                rw [if_neg (by omega), if_neg (by omega), if_neg h3, if_pos h4] at hfill
                simp only [Bool.and_eq_true, beq_iff_eq] at hfill
                exact List.eq_nil_of_length_eq_zero hfill.1.1
              have hvd : valsN n = n.decs := by unfold valsN; rw [hi0]; rfl
              rw [hvd] at v1 v2 v4
              have hne : n.decs ≠ [] := by intro e; rw [e] at v4; simp at v4; omega
              exact ⟨_, Num.decs_back hne (fun d hd => (v2 d hd).1) v1 r hr.npc hr.next, decs_begs hne v1⟩
            · rw [if_neg h4]
              have hne : n.ints ≠ [] := by
                intro e
                unfold fillB at hfill
                rw [hc1] at hfill
                simp [e, h3, h4, h5] at hfill
              exact ⟨_, Num.ints_back hne hTn.vals r hr.npc hr.next, ints_begs hne⟩
          obtain ⟨ds, hro, hbg⟩ := hb
          rw [if_neg (by rw [(hbg.app r).not_beg]; simp), if_neg (hbg.app r).not_quote, hro, Option.bind_some]
          simp only
          rw [if_neg (by rw [hr.beg]; simp)]
          exact hlr
      · rw [if_neg hs, List.append_assoc, shape_read hs hrs]
        show itemsR (readR d) n.shp (leafT n ++ r) = some ([n], r)
        exact hlr
/-- a tight array is read of its notation -/
theorem note_back {a : List Nd} (hr : rightA a = true) (hf : Fine a) (ht : formA a = a) : readR 16 (noteA a) = some (a, []) := by
  obtain ⟨s, hs⟩ := right_some hr
  obtain ⟨h1, _, h3⟩ := whl_some hs
  have hT := tight_tid hr hf ht
  have e : a.take s.n = a := List.take_of_length_le (by omega)
  have := note_read h1 (by rw [e]; exact hT) [] (.inl rfl)
  rw [List.append_nil, e] at this
  exact this
theorem parse_back {a : List Nd} (hr : rightA a = true) (hf : Fine a) (ht : formA a = a) : parseN (noteA a) = some a := by
  have e : noteT a = noteA a := by unfold noteT; rw [if_pos ⟨hr, ht⟩]
  unfold parseN
  rw [note_back hr hf ht, Option.bind_some]
  simp [e]
theorem note_ne {a : List Nd} (hr : rightA a = true) (hf : Fine a) (ht : formA a = a) : noteA a ≠ [] := by
  intro e
  have := note_back hr hf ht
  rw [e] at this
  have h2 : readR 16 [] = none := by
    rw [readR_succ, if_neg (by decide), if_neg (by simp)]
    have : Num.readO [] = none := Num.readO_wrong (by rw [Num.npc_nil]; show (Num.oneD []).2 = false; rw [Num.oneD_nil])
    rw [this]
    rfl
  rw [h2] at this
  cases this
/-- what is read is tight, and its notation is what was read -/
theorem parse_some {s : List UInt8} {a : List Nd} (h : parseN s = some a) (hs : s ≠ []) : rightA a = true ∧ formA a = a ∧ noteA a = s := by
  unfold parseN at h
  cases hq : readR 16 s with
  | none => rw [hq] at h; cases h
  | some p =>
    rw [hq, Option.bind_some] at h
    by_cases hp : p.2 = [] ∧ noteT p.1 = s
    · rw [if_pos hp] at h
      cases h
      have h2 := hp.2
      unfold noteT at h2
      by_cases ht : rightA p.1 = true ∧ formA p.1 = p.1
      · rw [if_pos ht] at h2
        exact ⟨ht.1, ht.2, h2⟩
      · rw [if_neg ht] at h2
        exact absurd h2.symm hs
    · rw [if_neg hp] at h; cases h
end Go.Proofs.YteoogioanjkacaaGreatDoor
namespace Go.Proofs.YteoogioanjkacaaGreatDoor
set_option linter.unusedVariables false
set_option linter.unusedSimpArgs false
set_option maxRecDepth 10000
theorem catN_local {p : List Nd → Option St} {f : List Nd → List UInt8} (hp : ∀ l s, p l = some s → ∀ r : List Nd, r.take s.n = l.take s.n → p r = some s)
    (hf : ∀ l s, p l = some s → ∀ r : List Nd, r.take s.n = l.take s.n → f r = f l) :
    ∀ {c : Nat} {l : List Nd} {t : St}, parK p c l = some t → ∀ r : List Nd, r.take t.n = l.take t.n → catN p f c r = catN p f c l
  | 0, l, t, h, r, hr => rfl
  | c + 1, l, t, h, r, hr => by
    obtain ⟨a, b, ha, hb, rfl⟩ := parK_some h
    obtain ⟨h1, h2⟩ := take_part (a := a.n) (b := b.n) hr
    rw [catN_succ ha, catN_succ (parK_local hp ha r h1), catN_local hp hf ha r h1, hf _ _ hb _ h2]
theorem noteF_local : ∀ {d : Nat} {l : List Nd} {s : St}, par d l = some s → ∀ r : List Nd, r.take s.n = l.take s.n → noteF d r = noteF d l
  | 0, l, s, h, _, _ => by cases h
  | d + 1, l, s, h, r, hr => by
    obtain ⟨e, n, l', t, he, rfl, hn, ht, rfl⟩ := par_parts h
    obtain rfl : d = e := by omega
    cases r with
    | nil => simp [top] at hr
    | cons n' r' =>
      simp only [top, List.take_succ_cons, List.cons.injEq] at hr
      obtain ⟨rfl, hr⟩ := hr
      rw [noteF_cons, noteF_cons, catN_local (fun l s h => par_local h) (fun l s h => noteF_local h) ht r' hr]
theorem noteF_take {d : Nat} {l : List Nd} {s : St} (h : par d l = some s) {k : Nat} (hk : s.n ≤ k) : noteF d (l.take k) = noteF d l :=
  noteF_local h _ (by rw [List.take_take]; congr 1; omega)
theorem catN_depth {p q : List Nd → Option St} {f g : List Nd → List UInt8} {e : Nat} (hp : ∀ l s, p l = some s → s.d ≤ e → q l = some s) (hf : ∀ l s, p l = some s → s.d ≤ e → g l = f l) :
    ∀ {c : Nat} {l : List Nd} {t : St}, parK p c l = some t → t.d ≤ e → catN q g c l = catN p f c l
  | 0, l, t, h, _ => rfl
  | c + 1, l, t, h, hd => by
    obtain ⟨a, b, ha, hb, rfl⟩ := parK_some h
    simp only [St.plus] at hd
    rw [catN_succ ha, catN_succ (parK_depth hp ha (by omega)), catN_depth hp hf ha (by omega), hf _ _ hb (by omega)]
theorem noteF_depth : ∀ {d : Nat} {l : List Nd} {s : St}, par d l = some s → ∀ e, s.d ≤ e → noteF e l = noteF d l
  | 0, l, s, h, _, _ => by cases h
  | d + 1, l, s, h, e, he => by
    obtain ⟨d', n, l', t, hd, rfl, hn, ht, rfl⟩ := par_parts h
    obtain rfl : d = d' := by omega
    simp only [top] at he
    cases e with
    | zero => omega
    | succ e => rw [noteF_cons, noteF_cons, catN_depth (fun l s h hs => par_depth h e hs) (fun l s h hs => noteF_depth h e hs) ht (by omega)]
theorem catN_cons {p : List Nd → Option St} {f : List Nd → List UInt8} : ∀ {c : Nat} {l : List Nd} {a b : St}, p l = some a → parK p c (l.drop a.n) = some b → catN p f (c + 1) l = 40 :: (f l ++ [41]) ++ catN p f c (l.drop a.n)
  | 0, l, a, b, ha, hb => by
    rw [catN_succ (parK_zero p l)]
    simp [catN, st0]
  | c + 1, l, a, b, ha, hb => by
    obtain ⟨x, y, hx, hy, rfl⟩ := parK_some hb
    rw [catN_succ (parK_cons_mk ha hx), catN_cons ha hx, catN_succ hx, List.append_assoc, show (a.plus x).n = a.n + x.n from rfl, List.drop_drop]

/-- the kids' notations in parentheses -/
def kidsT : List (List Nd) → List UInt8
  | [] => []
  | k :: ks => 40 :: (noteA k ++ [41]) ++ kidsT ks
theorem kidsT_app (a b : List (List Nd)) : kidsT (a ++ b) = kidsT a ++ kidsT b := by
  induction a with
  | nil => rfl
  | cons k a ih => show 40 :: (noteA k ++ [41]) ++ kidsT (a ++ b) = _; rw [ih]; simp [kidsT]
theorem kidsT_step {ks : List (List Nd)} {k : Nat} (h : k < ks.length) : kidsT (ks.take (k + 1)) = kidsT (ks.take k) ++ 40 :: (noteA (ks.getD k []) ++ [41]) := by
  rw [take_kid h, kidsT_app]
  simp [kidsT]
theorem kd_text : ∀ {c : Nat} {l : List Nd} {t : St}, parK (par 15) c l = some t → t.n = l.length → t.i ≤ 1048576 → catN (par 15) (noteF 15) c l = kidsT (kd l)
  | 0, l, t, h, hn, _ => by
    rw [parK_zero] at h
    cases h
    have : l = [] := List.eq_nil_of_length_eq_zero (by simp [st0] at hn; omega)
    subst this
    rw [kd_nil]
    rfl
  | c + 1, l, t, h, hn, hi => by
    obtain ⟨a, b, ha, hb, rfl⟩ := parK_cons h
    simp only [St.plus] at hn hi
    have hlen := par_len ha
    have h16 : par 16 l = some a := par_depth ha 16 (by omega)
    have hta : takeA l = a.n := by unfold takeA; rw [fs_some (fst_mk h16 (by omega))]
    have hl : l ≠ [] := fun e => by subst e; simp at hlen; omega
    rw [catN_cons ha hb, kd_step hl (by rw [hta]; omega), hta, kd_text hb (by rw [List.length_drop]; omega) (by omega)]
    show _ = 40 :: (noteA (l.take a.n) ++ [41]) ++ kidsT (kd (l.drop a.n))
    have e : noteA (l.take a.n) = noteF 15 l := by
      show noteF 16 (l.take a.n) = _
      rw [noteF_take h16 (Nat.le_refl _), noteF_depth ha 16 (by omega)]
    rw [e]
/-- what stands ahead of an array's kids, or items -/
def headT (n : Nd) : List UInt8 := if n.shp = [] then (if n.kind = 5 then [226, 138, 130] else []) else shpT n.shp
theorem note_nest {a : List Nd} (hr : rightA a = true) (hk : (a.getD 0 nd0).kind = 5) : noteA a = headT (a.getD 0 nd0) ++ kidsT (kidsA a) := by
  obtain ⟨s, hs⟩ := right_some hr
  obtain ⟨n, l', t, rfl, hok, ht, rfl, hn, hi⟩ := right_parts hs
  have hk' : n.kind = 5 := hk
  simp only [top] at hi
  have hkid : kidsA (n :: l') = kd l' := by unfold kidsA; rw [hr, if_pos rfl]; rfl
  show noteF 16 (n :: l') = headT n ++ kidsT (kidsA (n :: l'))
  rw [hkid, ← kd_text ht hn (by omega), noteF_cons]
  unfold headT
  simp only [if_pos hk']
theorem app_same {α : Type} {X Y P Q : List α} (h : X ++ Y = P ++ Q) (h1 : X.length ≤ P.length) (h2 : Y.length ≤ Q.length) : X = P ∧ Y = Q := by
  have := congrArg List.length h
  rw [List.length_append, List.length_append] at this
  exact List.append_inj h (by omega)
theorem kd_tight : ∀ {c : Nat} {l : List Nd} {t : St}, parK (par 15) c l = some t → t.n = l.length → t.i ≤ 1048576 → Fine l → catF (par 15) (formF 15) c l = l → ∀ k ∈ kd l, formA k = k
  | 0, l, t, h, hn, _, _, _ => by
    rw [parK_zero] at h
    cases h
    have : l = [] := List.eq_nil_of_length_eq_zero (by simp [st0] at hn; omega)
    subst this
    rw [kd_nil]
    exact fun k hk => by cases hk
  | c + 1, l, t, h, hn, hi, hf, hc => by
    obtain ⟨a, b, ha, hb, rfl⟩ := parK_cons h
    simp only [St.plus] at hn hi
    have hlen := par_len ha
    have h16 : par 16 l = some a := par_depth ha 16 (by omega)
    have hta : takeA l = a.n := by unfold takeA; rw [fs_some (fst_mk h16 (by omega))]
    have hl : l ≠ [] := fun e => by subst e; simp at hlen; omega
    obtain ⟨u, hu, hul, h1, _⟩ := formF_good ha hf
    obtain ⟨v, hv, hvl, k1, _⟩ := catF_good (fun l s h hl => formF_good h hl) hb (hf.drop a.n)
    rw [catF_cons ha hb] at hc
    have hsp : formF 15 l ++ catF (par 15) (formF 15) c (l.drop a.n) = l.take a.n ++ l.drop a.n := by rw [hc, List.take_append_drop]
    obtain ⟨e1, e2⟩ := app_same hsp (by rw [List.length_take]; omega) (by rw [List.length_drop]; omega)
    rw [kd_step hl (by rw [hta]; omega), hta]
    intro k hk
    rcases List.mem_cons.1 hk with rfl | hk
    · show formF 16 (l.take a.n) = _
      rw [formF_take h16 (Nat.le_refl _), formF_depth ha 16 (by omega), e1]
    · exact kd_tight hb (by rw [List.length_drop]; omega) (by omega) (hf.drop a.n) e2 k hk
theorem kids_tight {a : List Nd} (hr : rightA a = true) (hf : Fine a) (ht : formA a = a) (hk : (a.getD 0 nd0).kind = 5) : ∀ k ∈ kidsA a, rightA k = true ∧ formA k = k := by
  obtain ⟨s, hs⟩ := right_some hr
  obtain ⟨n, l', t, rfl, hok, htt, rfl, hn, hi⟩ := right_parts hs
  have hk' : n.kind = 5 := hk
  simp only [top] at hi
  have hkid : kidsA (n :: l') = kd l' := by unfold kidsA; rw [hr, if_pos rfl]; rfl
  obtain ⟨hfit, hin, hl'⟩ := hf.cons
  obtain ⟨u, hu, hul, h1, h2, h3, h4, h5, h6⟩ := catF_good (fun l s h hl => formF_good h hl) htt hl'
  have htl := parK_len (fun l s h => (par_len h).2.1) htt
  have hc : catF (par 15) (formF 15) (kc n) l' = l' := by
    have e : formF 16 (n :: l') = n :: l' := ht
    rw [formF_cons] at e
    generalize hks : catF (par 15) (formF 15) (kc n) l' = ks at *
    have hkf : Fine ks := ⟨by have := hl'.1; omega, h4, h5⟩
    cases hj : foldO n ks with
    | none =>
      unfold clos at e
      rw [hj] at e
      exact (List.cons.inj e).2
    | some m =>
      obtain ⟨k1, k2, k3, _⟩ := fold_one hok hfit hin hu hul hkf hj
      unfold clos at e
      rw [hj] at e
      have : m = n := (List.cons.inj e).1
      rw [this] at k3
      exact absurd hk' k3
  obtain ⟨_, i2, _⟩ := kd_all htt hn (by omega)
  rw [hkid]
  exact fun k hk => ⟨i2 k hk, kd_tight htt hn (by omega) hl' hc k hk⟩

theorem empty_none : parseN [] = none := by
  have h2 : readR 16 [] = none := by
    rw [readR_succ, if_neg (by decide), if_neg (by simp)]
    have : Num.readO [] = none := Num.readO_wrong (by rw [Num.npc_nil]; show (Num.oneD []).2 = false; rw [Num.oneD_nil])
    rw [this]
    rfl
  unfold parseN
  rw [h2]
  rfl
end Go.Proofs.YteoogioanjkacaaGreatDoor
namespace Go.Proofs.YteoogioanjkacaaGreatDoor
set_option linter.unusedVariables false
set_option linter.unusedSimpArgs false
set_option maxRecDepth 10000
/-- numbers of the program, and rows that may be copied -/
def Slim (a : List Nd) : Prop := ∀ n ∈ a, n.ints.length ≤ 100000 ∧ n.decs.length ≤ 100000
def Trim (a : List Nd) : Prop := Fits a ∧ Vals a ∧ Slim a
theorem Trim.nil : Trim [] := ⟨(fun n hn => by cases hn), (fun n hn => by cases hn), (fun n hn => by cases hn)⟩
theorem Trim.cons {n : Nd} {a : List Nd} (hf : Fit n) (hv : ∀ x ∈ n.ints, In x) (hl : n.ints.length ≤ 100000 ∧ n.decs.length ≤ 100000) (h : Trim a) : Trim (n :: a) := by
  refine ⟨fun m hm => ?_, fun m hm => ?_, fun m hm => ?_⟩
  · rcases List.mem_cons.1 hm with rfl | hm
    · exact hf
    · exact h.1 m hm
  · rcases List.mem_cons.1 hm with rfl | hm
    · exact hv
    · exact h.2.1 m hm
  · rcases List.mem_cons.1 hm with rfl | hm
    · exact hl
    · exact h.2.2 m hm
theorem Trim.app {a b : List Nd} (h : Trim a) (k : Trim b) : Trim (a ++ b) := ⟨h.1.app k.1, h.2.1.app k.2.1, fun n hn => by
  rcases List.mem_append.1 hn with hn | hn
  · exact h.2.2 n hn
  · exact k.2.2 n hn⟩
theorem least_slim {s : List Int} {l : List (Int × Int)} (hl : l.length ≤ 100000) : (leastN s l).ints.length ≤ 100000 ∧ (leastN s l).decs.length ≤ 100000 := by
  unfold leastN
  split
  · exact ⟨by show (l.map whlV).length ≤ _; rw [List.length_map]; exact hl, by simp⟩
  · exact ⟨by simp, hl⟩
theorem trim_box {s : List Int} (h : rightB s = true) : Trim [⟨5, s, [], []⟩] := by
  have := (right_iff.1 h).1
  exact Trim.cons ⟨(show In 5 from ⟨by decide, by decide⟩), by show s.length ≤ _; omega, by simp, by simp, fun x hx => by cases hx⟩ (fun x hx => by cases hx) ⟨by simp, by simp⟩ .nil
/-- what a reader gives: a row that is no longer than what it took -/
def Took (rd : List UInt8 → Option (List Nd × List UInt8)) : Prop := ∀ s a r, s.length ≤ 100000 → rd s = some (a, r) → a.length + r.length ≤ s.length ∧ Trim a
theorem kidR_inv {rd : List UInt8 → Option (List Nd × List UInt8)} {s r : List UInt8} {a : List Nd} (h : kidR rd s = some (a, r)) : ∃ t, s = 40 :: t ∧ rd t = some (a, 41 :: r) := by
  cases s with
  | nil => cases h
  | cons b t =>
    unfold kidR at h
    by_cases hb : b = 40
    · subst hb
      simp only [if_true] at h
      cases hq : rd t with
      | none => rw [hq] at h; cases h
      | some p =>
        rw [hq, Option.bind_some] at h
        obtain ⟨x, y⟩ := p
        cases y with
        | nil => cases h
        | cons c u =>
          simp only at h
          by_cases hc : c = 41
          · subst hc
            rw [if_pos rfl] at h
            cases h
            exact ⟨t, rfl, hq⟩
          · rw [if_neg hc] at h; cases h
    · simp only [if_neg hb] at h; cases h
theorem kidR_took {rd : List UInt8 → Option (List Nd × List UInt8)} (hrd : Took rd) {s r : List UInt8} {a : List Nd} (hs : s.length ≤ 100000) (h : kidR rd s = some (a, r)) : a.length + r.length + 2 ≤ s.length ∧ Trim a := by
  obtain ⟨t, rfl, ht⟩ := kidR_inv h
  rw [List.length_cons] at hs ⊢
  obtain ⟨h1, h2⟩ := hrd t a (41 :: r) (by omega) ht
  rw [List.length_cons] at h1
  exact ⟨by omega, h2⟩
theorem kidsR_took {rd : List UInt8 → Option (List Nd × List UInt8)} (hrd : Took rd) : ∀ {k : Nat} {s r : List UInt8} {a : List Nd}, s.length ≤ 100000 → kidsR rd k s = some (a, r) → a.length + r.length + 2 * k ≤ s.length ∧ Trim a
  | 0, s, r, a, hs, h => by
    cases h
    exact ⟨by simp, .nil⟩
  | k + 1, s, r, a, hs, h => by
    rw [kidsR_succ] at h
    cases hq : kidsR rd k s with
    | none => rw [hq] at h; cases h
    | some p =>
      rw [hq, Option.bind_some] at h
      cases hk : kidR rd p.2 with
      | none => rw [hk] at h; cases h
      | some q =>
        rw [hk] at h
        cases h
        obtain ⟨h1, h2⟩ := kidsR_took hrd hs hq
        obtain ⟨h3, h4⟩ := kidR_took hrd (a := q.1) (r := q.2) (by omega) hk
        exact ⟨by rw [List.length_append]; omega, h2.app h4⟩
theorem readQ_len {s r : List UInt8} {cs : List Nat} (h : Quo.readQ s = some (cs, r)) : cs.length + r.length + 2 ≤ s.length := by
  obtain ⟨h1, h2, _⟩ := Quo.read_inv h
  have h3 := congrArg List.length h2
  rw [List.length_append, Quo.inQ_len] at h3
  have h4 : cs.length ≤ (Quo.qT cs).length := by
    clear h h2 h3
    induction cs with
    | nil => simp
    | cons c t ih =>
      have := Quo.qC_pos (h1 c (by simp))
      have := ih (fun d hd => h1 d (by simp [hd]))
      show _ ≤ (Quo.qC c ++ Quo.qT t).length
      rw [List.length_append, List.length_cons]
      omega
  omega
theorem itemsR_took {rd : List UInt8 → Option (List Nd × List UInt8)} (hrd : Took rd) {sh : List Int} {s r : List UInt8} {a : List Nd} (hs : s.length ≤ 100000) (h : itemsR rd sh s = some (a, r)) : a.length + r.length ≤ s.length + 1 ∧ (sh = [] → a.length + r.length ≤ s.length) ∧ Trim a := by
  unfold itemsR at h
  by_cases hr : rightB sh = true
  · rw [if_pos hr] at h
    have hsl := (right_iff.1 hr).1
    cases s with
    | nil => cases h
    | cons b t =>
      simp only at h
      by_cases h39 : b = 39
      · rw [if_pos h39] at h
        cases hq : Quo.readQ (b :: t) with
        | none => rw [hq] at h; cases h
        | some p =>
          obtain ⟨cs, u⟩ := p
          rw [hq, Option.bind_some] at h
          simp only at h
          by_cases hc : cs.length = cnt sh
          · rw [if_pos hc] at h
            cases h
            have hl := readQ_len hq
            obtain ⟨i1, _, _⟩ := Quo.read_inv hq
            have hin : ∀ x ∈ Quo.intsZ cs, In x := fun x hx => by
              have := Quo.signZ_iff.1 (List.all_eq_true.1 (Quo.all_ints i1) x hx)
              exact ⟨by omega, by omega⟩
            refine ⟨by simp only [List.length_cons, List.length_nil] at *; omega, fun _ => by simp only [List.length_cons, List.length_nil] at *; omega, ?_⟩
            exact Trim.cons ⟨in3, by show sh.length ≤ _; omega, by show (Quo.intsZ cs).length ≤ _; rw [Quo.ints_len]; omega, by simp, fun x hx => by cases hx⟩ hin ⟨by show (Quo.intsZ cs).length ≤ _; rw [Quo.ints_len]; simp only [List.length_cons] at *; omega, by simp⟩ .nil
          · rw [if_neg hc] at h; cases h
      · rw [if_neg h39] at h
        by_cases h40 : b = 40
        · rw [if_pos h40] at h
          cases hq : kidsR rd (cnt sh) (b :: t) with
          | none => rw [hq] at h; cases h
          | some p =>
            rw [hq] at h
            cases h
            obtain ⟨h1, h2⟩ := kidsR_took hrd (a := p.1) (r := p.2) hs hq
            refine ⟨by rw [List.length_cons]; omega, fun e => ?_, (trim_box hr).app h2⟩
            subst e
            have : cnt [] = 1 := by decide
            rw [this] at h1
            rw [List.length_cons]
            omega
        · rw [if_neg h40] at h
          cases hq : Num.readO (b :: t) with
          | none => rw [hq] at h; cases h
          | some p =>
            obtain ⟨ds, u⟩ := p
            rw [hq, Option.bind_some] at h
            obtain ⟨q1, q2, x, q3, q4⟩ := Num.readO_right _ ds u hq
            obtain ⟨f1, f2⟩ := Num.readO_few _ ds u hq
            have hul : u.length < (b :: t).length := by
              have := congrArg List.length q4
              rw [List.length_append] at this
              have : 1 ≤ x.length := by cases x with
                | nil => exact absurd rfl q3
                | cons c y => simp
              omega
            cases hm : numO sh (if cnt sh = 0 ∧ ds.length = 1 then [] else ds) with
            | none => simp only [hm] at h; cases h
            | some m =>
              simp only [hm] at h
              cases h
              have hds : ∀ d ∈ (if cnt sh = 0 ∧ ds.length = 1 then [] else ds), In d.1 ∧ In d.2 := by
                split
                · exact fun d hd => by cases hd
                · exact fun d hd => (q1 d hd).2
              have hdl : (if cnt sh = 0 ∧ ds.length = 1 then ([] : List (Int × Int)) else ds).length ≤ 100000 := by
                split
                · simp
                · omega
              unfold numO at hm
              by_cases hc : rightB sh = true ∧ cnt sh = (if cnt sh = 0 ∧ ds.length = 1 then ([] : List (Int × Int)) else ds).length ∧ (if cnt sh = 0 ∧ ds.length = 1 then ([] : List (Int × Int)) else ds).all decB = true
              · rw [if_pos hc] at hm
                cases hm
                obtain ⟨_, _, _, _, k5, k6, _⟩ := least_facts hr hc.2.1 hc.2.2 hds (by omega)
                exact ⟨by simp only [List.length_cons, List.length_nil] at *; omega, fun _ => by simp only [List.length_cons, List.length_nil] at *; omega, Trim.cons k5 k6 (least_slim hdl) .nil⟩
              · rw [if_neg hc] at hm; cases hm
  · rw [if_neg hr] at h; cases h
theorem beg_len {s p : List UInt8} (h : begB s p = true) : p.length ≤ s.length := (List.isPrefixOf_iff_prefix.1 h).length_le
theorem readR_took : ∀ (d : Nat), Took (readR d)
  | 0 => fun s a r _ h => by cases h
  | d + 1 => fun s a r hs h => by
    have IH := readR_took d
    rw [readR_succ] at h
    by_cases hb : begB s [226, 138, 130] = true
    · rw [if_pos hb] at h
      have hl := beg_len hb
      simp only [List.length_cons, List.length_nil] at hl
      cases hq : kidR (readR d) (s.drop 3) with
      | none => rw [hq] at h; cases h
      | some p =>
        rw [hq] at h
        cases h
        obtain ⟨h1, h2⟩ := kidR_took IH (a := p.1) (r := p.2) (by rw [List.length_drop]; omega) hq
        rw [List.length_drop] at h1
        exact ⟨by rw [List.length_cons]; omega, (trim_box (by decide)).app h2⟩
    · rw [if_neg hb] at h
      by_cases h39 : s.head? = some 39
      · rw [if_pos h39] at h
        obtain ⟨_, h2, h3⟩ := itemsR_took IH hs h
        exact ⟨h2 rfl, h3⟩
      · rw [if_neg h39] at h
        cases hq : Num.readO s with
        | none => rw [hq] at h; cases h
        | some p =>
          obtain ⟨ds, u⟩ := p
          rw [hq, Option.bind_some] at h
          simp only at h
          obtain ⟨f1, f2⟩ := Num.readO_few _ ds u hq
          by_cases hp : begB u [226, 141, 180] = true
          · rw [if_pos hp] at h
            have hl := beg_len hp
            simp only [List.length_cons, List.length_nil] at hl
            by_cases hw : ds.all whlB = true
            · rw [if_pos hw] at h
              obtain ⟨h1, _, h3⟩ := itemsR_took IH (by rw [List.length_drop]; omega) h
              rw [List.length_drop] at h1
              exact ⟨by omega, h3⟩
            · rw [if_neg hw] at h; cases h
          · rw [if_neg hp] at h
            obtain ⟨_, h2, h3⟩ := itemsR_took IH hs h
            exact ⟨h2 rfl, h3⟩
theorem read_fine {d : Nat} {s r : List UInt8} {a : List Nd} (hs : s.length ≤ 100000) (h : readR d s = some (a, r)) : Fine a := by
  obtain ⟨h1, h2, h3⟩ := readR_took d s a r hs h
  exact ⟨by omega, h2, h3.1⟩
theorem parse_fine {s : List UInt8} {a : List Nd} (hs : s.length ≤ 100000) (h : parseN s = some a) : Fine a := by
  unfold parseN at h
  cases hq : readR 16 s with
  | none => rw [hq] at h; cases h
  | some p =>
    rw [hq, Option.bind_some] at h
    by_cases hp : p.2 = [] ∧ noteT p.1 = s
    · rw [if_pos hp] at h
      cases h
      exact read_fine (r := p.2) hs hq
    · rw [if_neg hp] at h; cases h
/-- a parser that gives tight arrays of that notation, and gives each of them, is this one -/
theorem parse_is {s : List UInt8} {o : Option (List Nd)} (hs : s.length ≤ 100000) (h0 : s ≠ []) (h1 : ∀ a, o = some a → Fine a ∧ rightA a = true ∧ formA a = a ∧ noteA a = s)
    (h2 : ∀ a, Fine a → rightA a = true → formA a = a → noteA a = s → o = some a) : parseN s = o := by
  cases hq : parseN s with
  | some a =>
    obtain ⟨k1, k2, k3⟩ := parse_some hq h0
    exact (h2 a (parse_fine hs hq) k1 k2 k3).symm
  | none =>
    cases ho : o with
    | none => rfl
    | some a =>
      obtain ⟨k1, k2, k3, k4⟩ := h1 a ho
      have := parse_back k2 k1 k3
      rw [k4, hq] at this
      cases this
end Go.Proofs.YteoogioanjkacaaGreatDoor
namespace Go.Proofs.YteoogioanjkacaaGreatDoor
set_option linter.unusedVariables false
set_option linter.unusedSimpArgs false
set_option maxRecDepth 10000
/-- the signs of numbers, with the space -/
def nsB (c : UInt8) : Bool := Num.isPc c || c == 32
/-- how many bytes of number signs stand first -/
def numS : List UInt8 → Nat
  | [] => 0
  | [c] => if nsB c then 1 else 0
  | c :: d :: l => if nsB c then numS (d :: l) + 1 else if c == 194 && d == 175 then numS l + 2 else 0
theorem numS_ns {c : UInt8} (h : nsB c = true) (l : List UInt8) : numS (c :: l) = numS l + 1 := by
  cases l with
  | nil => simp [numS, h]
  | cons d l => rw [numS, if_pos h]
theorem numS_not {c : UInt8} (h : nsB c = false) (h2 : c ≠ 194) (l : List UInt8) : numS (c :: l) = 0 := by
  cases l with
  | nil => rw [numS, if_neg (by rw [h]; decide)]
  | cons d l => rw [numS, if_neg (by rw [h]; decide), if_neg (by simp [h2])]
theorem numS_sign (l : List UInt8) : numS (194 :: 175 :: l) = numS l + 2 := by rw [numS, if_neg (by decide), if_pos (by decide)]
theorem numS_half {d : UInt8} (h : d ≠ 175) (l : List UInt8) : numS (194 :: d :: l) = 0 := by rw [numS, if_neg (by decide), if_neg (by simp [h])]
theorem numS_last : numS [194] = 0 := by decide
theorem numS_le : ∀ (l : List UInt8), numS l ≤ l.length
  | [] => Nat.le_refl _
  | [c] => by rw [numS]; split <;> simp
  | c :: d :: l => by
    have h1 := numS_le (d :: l)
    have h2 := numS_le l
    simp only [List.length_cons] at *
    rw [numS]
    split
    · omega
    · split <;> omega
/-- texts of number signs alone -/
def AllS (x : List UInt8) : Prop := ∀ r, numS (x ++ r) = x.length + numS r
theorem AllS.nil : AllS [] := fun r => by simp
theorem AllS.app {x y : List UInt8} (hx : AllS x) (hy : AllS y) : AllS (x ++ y) := fun r => by
  rw [List.append_assoc, hx, hy, List.length_append]; omega
theorem AllS.one {c : UInt8} (h : nsB c = true) : AllS [c] := fun r => by
  rw [List.singleton_append, numS_ns h]; simp; omega
theorem AllS.minus : AllS [194, 175] := fun r => by
  show numS (194 :: 175 :: r) = _
  rw [numS_sign]; simp; omega
theorem AllS.all : ∀ {x : List UInt8}, (∀ c ∈ x, nsB c = true) → AllS x
  | [], _ => .nil
  | c :: x, h => AllS.app (x := [c]) (.one (h c (by simp))) (AllS.all fun d hd => h d (by simp [hd]))
theorem digits_s (u : Nat) : AllS (Go.Lib.decDigits u) := AllS.all fun c hc => by
  obtain ⟨h1, h2⟩ := Num.dd_bytes u c hc
  unfold nsB Num.isPc
  simp [h1, h2]
theorem num_s (n : Int) : AllS (Num.num n) := by
  by_cases h : n < 0
  · rw [Num.num_neg h]
    exact AllS.app (x := [194, 175]) .minus (digits_s _)
  · rw [Num.num_pos h]; exact digits_s _
theorem text_s {m e : Int} : AllS (Num.text m e) := by
  unfold Num.text
  split
  · split
    · exact num_s _
    · exact (num_s _).app (AllS.app (x := [69]) (.one (by decide)) (num_s _))
  · exact .nil
theorem join_s : ∀ {xs : List (List UInt8)}, (∀ x ∈ xs, AllS x) → AllS (Go.Lib.join xs [32])
  | [], _ => by unfold Go.Lib.join; exact .nil
  | [x], h => by rw [Go.Lib.join_one]; exact h x (by simp)
  | x :: y :: t, h => by
    have e := Num.join_app (a := [x]) (b := y :: t) (by simp) (by simp)
    rw [List.singleton_append, Go.Lib.join_one] at e
    rw [e]
    exact (h x (by simp)).app (AllS.app (x := [32]) (.one (by decide)) (join_s fun z hz => h z (by simp [hz])))
theorem ints_s (xs : List Int) : AllS (Num.intsT xs) := join_s fun x hx => by
  obtain ⟨n, _, rfl⟩ := List.mem_map.1 hx
  exact num_s n
theorem decs_s (ds : List (Int × Int)) : AllS (Num.decsT ds) := by
  unfold Num.decsT
  split
  · exact join_s fun x hx => by
      obtain ⟨n, _, rfl⟩ := List.mem_map.1 hx
      exact text_s
  · exact .nil
theorem nums_s (n : Nd) : AllS (numsT n) := by
  unfold numsT
  split
  · exact decs_s _
  · exact ints_s _
/-- nothing of numbers stands first -/
theorem Ends.numS {r : List UInt8} (h : Ends r) : numS r = 0 := by
  rcases h with rfl | ⟨t, rfl⟩
  · rfl
  · exact numS_not (by decide) (by decide) t
theorem rho_numS (r : List UInt8) : numS (226 :: 141 :: 180 :: r) = 0 := numS_not (by decide) (by decide) _

/-- how many bytes the quotes have, and what stands in them -/
def quotN (s : List UInt8) : Nat := match Quo.scanQ (s.drop 1) with
  | some p => s.length - p.2.length
  | none => s.length
def signsP (sh : List Int) (s : List UInt8) : Option (List Nd × List UInt8) := (Quo.readQ (s.take (quotN s))).map fun p => ([⟨3, sh, Quo.intsZ p.1, []⟩], s.drop (quotN s))
def numsP (s : List UInt8) : Option (List (Int × Int) × List UInt8) := (Num.readO (s.take (numS s))).bind fun p => if p.2 = [] then some (p.1, s.drop (numS s)) else none
def layP (sh : List Int) (l : List (Int × Int)) (s : List UInt8) : Option (List Nd × List UInt8) := (numO sh l).map fun m => ([m], s)
def wholeP (l : List (Int × Int)) : Option (List Int) := (numO [(l.length : Int)] l).bind fun m => if m.kind = 4 then none else some m.ints
def shapedP (rd : List UInt8 → Option (List Nd × List UInt8)) (sh : List Int) (s : List UInt8) : Option (List Nd × List UInt8) :=
  if rightB sh = true then
    if begB s [40] = true then (kidsR rd (cnt sh) s).map fun p => (⟨5, sh, [], []⟩ :: p.1, p.2)
    else if begB s [39] = true then signsP sh s
    else if cnt sh = 0 then (if begB s [48] = true then layP sh [] (s.drop 1) else none)
    else (numsP s).bind fun p => layP sh p.1 p.2
  else none
def arrayP : Nat → List UInt8 → Option (List Nd × List UInt8)
  | 0, _ => none
  | d + 1, s =>
    if begB s [226, 138, 130] = true then shapedP (arrayP d) [] (s.drop 3)
    else if begB s [39] = true then signsP [] s
    else (numsP s).bind fun p =>
      if begB p.2 [226, 141, 180] = true then (wholeP p.1).bind fun sh => shapedP (arrayP d) sh (p.2.drop 3)
      else layP [] p.1 p.2
theorem arrayP_succ (d : Nat) (s : List UInt8) : arrayP (d + 1) s =
    if begB s [226, 138, 130] = true then shapedP (arrayP d) [] (s.drop 3)
    else if begB s [39] = true then signsP [] s
    else (numsP s).bind fun p =>
      if begB p.2 [226, 141, 180] = true then (wholeP p.1).bind fun sh => shapedP (arrayP d) sh (p.2.drop 3)
      else layP [] p.1 p.2 := rfl
def parseP (s : List UInt8) : Option (List Nd) := (arrayP 16 s).bind fun p => if noteT p.1 = s then some p.1 else none

theorem beg_one {s : List UInt8} {b : UInt8} : begB s [b] = true ↔ ∃ t, s = b :: t := by
  cases s with
  | nil => simp [begB, List.isPrefixOf]
  | cons c t =>
    simp only [begB, List.isPrefixOf, Bool.and_true, beq_iff_eq, List.cons.injEq]
    constructor
    · rintro rfl; exact ⟨t, rfl, rfl⟩
    · rintro ⟨_, h, _⟩; exact h.symm
theorem beg_not {s : List UInt8} {b : UInt8} (h : s.head? ≠ some b) : begB s [b] = false := by
  rw [Bool.eq_false_iff]
  intro e
  obtain ⟨t, rfl⟩ := beg_one.1 e
  exact h rfl

/-- numbers that stand first are read of what stands of them -/
theorem nums_read {x r : List UInt8} {ds : List (Int × Int)} (hx : AllS x) (hr : numS r = 0) (h : Num.readO (x ++ []) = some (ds, [])) : numsP (x ++ r) = some (ds, r) := by
  have e : numS (x ++ r) = x.length := by rw [hx, hr]; rfl
  unfold numsP
  rw [e, List.take_left, List.drop_left]
  rw [List.append_nil] at h
  rw [h, Option.bind_some, if_pos rfl]
theorem wholeP_yes {s : List Int} (hs : ∀ x ∈ s, In x) (hl : s.length ≤ 1048576) : wholeP (s.map ofD) = some s := by
  obtain ⟨a1, a2, a3⟩ := of_all hs
  unfold wholeP numO
  obtain ⟨m, hm⟩ : ∃ m, (s.map ofD).length = m := ⟨_, rfl⟩
  have hml : m ≤ 1048576 := by rw [← hm, List.length_map]; exact hl
  rw [hm]
  have hr : rightB [(m : Int)] = true := by
    rw [right_iff]
    refine ⟨by simp, ?_, ?_⟩
    · simp only [List.all_cons, List.all_nil, Bool.and_true, okI, Bool.and_eq_true, decide_eq_true_eq]; omega
    · simp only [prodN, toN, List.map_cons, List.map_nil, Int.toNat_natCast]; omega
  have hc : cnt [(m : Int)] = m := by
    unfold cnt
    rw [if_pos hr]
    simp only [prodN, toN, List.map_cons, List.map_nil, Int.toNat_natCast]; omega
  rw [if_pos ⟨hr, hc, a3⟩, Option.bind_some]
  unfold leastN
  rw [if_pos a1, a2]
  rw [if_neg (by show kindI s ≠ 4; rcases (kindI_is s).1 with h | h <;> rw [h] <;> decide)]
theorem quot_of {cs : List Nat} {r : List UInt8} (h : r.head? ≠ some 39) : quotN (39 :: (Quo.qT cs ++ [39] ++ r)) = (Quo.qT cs).length + 2 := by
  unfold quotN
  have e : (39 :: (Quo.qT cs ++ [39] ++ r)).drop 1 = Quo.dbl (Quo.textD cs) ++ 39 :: r := by rw [Quo.dbl_text]; simp
  rw [e, Quo.scan_of _ h]
  simp
  omega
theorem signs_read {sh xs : List Int} (hz : xs.all Quo.signZ = true) {r : List UInt8} (hr : Ends r) : signsP sh (39 :: (Quo.qT (Quo.natsZ xs) ++ [39]) ++ r) = some ([⟨3, sh, xs, []⟩], r) := by
  have e : 39 :: (Quo.qT (Quo.natsZ xs) ++ [39]) ++ r = 39 :: (Quo.qT (Quo.natsZ xs) ++ [39] ++ r) := rfl
  unfold signsP
  rw [e, quot_of hr.quote, ← e]
  have hl : (39 :: (Quo.qT (Quo.natsZ xs) ++ [39])).length = (Quo.qT (Quo.natsZ xs)).length + 2 := by simp
  rw [← hl, List.take_left, List.drop_left]
  have hq := Quo.read_of (Quo.nats_sign hz) (r := []) (by simp)
  rw [List.append_nil] at hq
  have hI : Quo.inQ (Quo.natsZ xs) = 39 :: (Quo.qT (Quo.natsZ xs) ++ [39]) := rfl
  rw [← hI, hq]
  simp only [Option.map_some]
  rw [Quo.ints_nats hz]

theorem sign_all {n : Nd} (hfill : fillB n (cnt n.shp) = true) (h3 : n.kind = 3) : n.ints.all Quo.signZ = true ∧ n.ints.length = cnt n.shp ∧ n.decs = [] := by
  unfold fillB at hfill
  rw [if_neg (by omega), if_neg (by omega), if_pos h3] at hfill
  simp only [Bool.and_eq_true, beq_iff_eq] at hfill
  obtain ⟨⟨hc, hd⟩, hall⟩ := hfill
  refine ⟨?_, hc, List.eq_nil_of_length_eq_zero hd⟩
  rw [List.all_eq_true] at hall ⊢
  intro x hx
  rw [← signB_Z]
  exact hall x hx
theorem chars_is {n : Nd} (h3 : n.kind = 3) (hd : n.decs = []) : (⟨3, n.shp, n.ints, []⟩ : Nd) = n := by
  cases n
  simp_all
/-- a node of numbers: its values are read of its text -/
theorem vals_read {n : Nd} (h : Tid n) (h3 : n.kind ≠ 3) (h5 : n.kind ≠ 5) (h0 : ¬ (n.ints = [] ∧ n.decs = [])) : Num.readO (numsT n ++ []) = some (valsN n, []) ∧ Begs (numsT n) := by
  obtain ⟨hrs, hfill⟩ := ok_right h.ok
  obtain ⟨v1, v2, v3, v4⟩ := vals_ok h.ok h3 h.fit h.vals
  have hv0 : valsN n ≠ [] := by
    unfold valsN
    intro e
    rw [List.append_eq_nil_iff, List.map_eq_nil_iff] at e
    exact h0 e
  unfold numsT
  by_cases h4 : n.kind = 4
  · rw [if_pos h4]
    have hi0 : n.ints = [] := by
      unfold fillB at hfill
      rw [if_neg (by omega), if_neg (by omega), if_neg h3, if_pos h4] at hfill
      simp only [Bool.and_eq_true, beq_iff_eq] at hfill
      exact List.eq_nil_of_length_eq_zero hfill.1.1
    have hvd : valsN n = n.decs := by unfold valsN; rw [hi0]; rfl
    rw [hvd] at v1 v2 hv0 ⊢
    have hdr : Num.decsR n.decs = true := v1
    exact ⟨Num.decs_back hv0 (fun d hd => (v2 d hd).1) hdr [] rfl rfl, decs_begs hv0 hdr⟩
  · rw [if_neg h4]
    have hd0 : n.decs = [] := by
      unfold fillB at hfill
      by_cases h1 : n.kind = 1
      · rw [if_pos h1] at hfill
        simp only [Bool.and_eq_true, beq_iff_eq] at hfill
        exact List.eq_nil_of_length_eq_zero hfill.1.2
      · rw [if_neg h1] at hfill
        by_cases h2 : n.kind = 2
        · rw [if_pos h2] at hfill
          simp only [Bool.and_eq_true, beq_iff_eq] at hfill
          exact List.eq_nil_of_length_eq_zero hfill.2
        · rw [if_neg h2, if_neg h3, if_neg h4, if_neg h5] at hfill
          cases hfill
    have hvd : valsN n = n.ints.map ofD := by unfold valsN; rw [hd0]; simp
    have hi0 : n.ints ≠ [] := fun e => h0 ⟨e, hd0⟩
    rw [hvd]
    exact ⟨Num.ints_back hi0 h.vals [] rfl rfl, ints_begs hi0⟩
theorem nums_is {n : Nd} (h : Tid n) (h3 : n.kind ≠ 3) (h5 : n.kind ≠ 5) : numO n.shp (valsN n) = some n ∧ cnt n.shp = (valsN n).length := by
  obtain ⟨hrs, hfill⟩ := ok_right h.ok
  obtain ⟨v1, v2, v3, v4⟩ := vals_ok h.ok h3 h.fit h.vals
  refine ⟨?_, v4 h5⟩
  unfold numO
  rw [if_pos ⟨hrs, v4 h5, v1⟩, h.least h3 h5]
theorem begs_not {x : List UInt8} (h : Begs x) : begB x [40] = false ∧ begB x [39] = false ∧ begB x [226, 138, 130] = false := by
  refine ⟨beg_not ?_, beg_not h.not_quote, h.not_beg⟩
  obtain ⟨b, r, rfl, _, h2, _⟩ := h
  simpa using h2

/-- a node without kids, behind its shape -/
theorem leaf_shaped {rd : List UInt8 → Option (List Nd × List UInt8)} {n : Nd} (h : Tid n) (h5 : n.kind ≠ 5) (hs : n.shp ≠ []) {r : List UInt8} (hr : Ends r) : shapedP rd n.shp (leafT n ++ r) = some ([n], r) := by
  obtain ⟨hrs, hfill⟩ := ok_right h.ok
  unfold shapedP
  rw [if_pos hrs]
  by_cases h3 : n.kind = 3
  · obtain ⟨hz, hc, hd⟩ := sign_all hfill h3
    have hT : leafT n = 39 :: (Quo.qT (Quo.natsZ n.ints) ++ [39]) := by unfold leafT; rw [if_pos h3]; exact quoteT hz
    have hb : begB (39 :: (Quo.qT (Quo.natsZ n.ints) ++ [39]) ++ r) [39] = true := beg_one.2 ⟨_, rfl⟩
    rw [hT, if_neg (by rw [beg_not (by simp)]; simp), if_pos hb, signs_read hz hr, chars_is h3 hd]
  · obtain ⟨hn, hc⟩ := nums_is h h3 h5
    by_cases h0 : n.ints = [] ∧ n.decs = []
    · have hv0 : valsN n = [] := by unfold valsN; rw [h0.1, h0.2]; rfl
      have hle := h.least h3 h5
      have hk2 : n.kind = 2 := by rw [← hle, hv0]; rfl
      have hT : leafT n = [48] := by unfold leafT; rw [if_neg h3, if_pos ⟨hs, hk2, h0.1, h0.2⟩]
      rw [hv0] at hn hc
      have hc : cnt n.shp = 0 := hc
      have hb : begB ([48] ++ r) [48] = true := beg_one.2 ⟨r, rfl⟩
      rw [hT, if_neg (by rw [beg_not (by simp)]; simp), if_neg (by rw [beg_not (by simp)]; simp), if_pos hc, if_pos hb]
      unfold layP
      rw [hn]
      rfl
    · have hT : leafT n = numsT n := by unfold leafT; rw [if_neg h3, if_neg]; rintro ⟨_, _, a, b⟩; exact h0 ⟨a, b⟩
      obtain ⟨hread, hb⟩ := vals_read h h3 h5 h0
      obtain ⟨b1, b2, b3⟩ := begs_not (hb.app r)
      have hv0 : valsN n ≠ [] := by
        unfold valsN
        intro e
        rw [List.append_eq_nil_iff, List.map_eq_nil_iff] at e
        exact h0 e
      have hne : cnt n.shp ≠ 0 := by
        rw [hc]
        exact fun e => hv0 (List.eq_nil_of_length_eq_zero e)
      rw [hT, if_neg (by rw [b1]; simp), if_neg (by rw [b2]; simp), if_neg hne, nums_read (nums_s n) hr.numS hread, Option.bind_some]
      unfold layP
      simp only
      rw [hn]
      rfl
/-- a node without kids that stands alone -/
theorem leaf_alone {d : Nat} {n : Nd} (h : Tid n) (h5 : n.kind ≠ 5) (hs : n.shp = []) {r : List UInt8} (hr : Ends r) : arrayP (d + 1) (leafT n ++ r) = some ([n], r) := by
  obtain ⟨hrs, hfill⟩ := ok_right h.ok
  rw [arrayP_succ]
  by_cases h3 : n.kind = 3
  · obtain ⟨hz, hc, hd⟩ := sign_all hfill h3
    have hT : leafT n = 39 :: (Quo.qT (Quo.natsZ n.ints) ++ [39]) := by unfold leafT; rw [if_pos h3]; exact quoteT hz
    have hb : begB (39 :: (Quo.qT (Quo.natsZ n.ints) ++ [39]) ++ r) [39] = true := beg_one.2 ⟨_, rfl⟩
    rw [hT, if_neg (by simp [begB, List.isPrefixOf]), if_pos hb, signs_read hz hr]
    have := chars_is h3 hd
    rw [hs] at this
    rw [this]
  · obtain ⟨hn, hc⟩ := nums_is h h3 h5
    have hc1 : cnt n.shp = 1 := by rw [hs]; decide
    have h0 : ¬ (n.ints = [] ∧ n.decs = []) := by
      rintro ⟨a, b⟩
      have : valsN n = [] := by unfold valsN; rw [a, b]; rfl
      rw [this, hc1] at hc
      cases hc
    have hT : leafT n = numsT n := by unfold leafT; rw [if_neg h3, if_neg]; rintro ⟨_, _, a, b⟩; exact h0 ⟨a, b⟩
    obtain ⟨hread, hb⟩ := vals_read h h3 h5 h0
    obtain ⟨b1, b2, b3⟩ := begs_not (hb.app r)
    rw [hT, if_neg (by rw [b3]; simp), if_neg (by rw [b2]; simp), nums_read (nums_s n) hr.numS hread, Option.bind_some]
    simp only
    rw [if_neg (by rw [hr.beg]; simp)]
    unfold layP
    rw [hs] at hn
    rw [hn]
    rfl
/-- behind its shape -/
theorem shape_readP {d : Nat} {s : List Int} (hs : s ≠ []) (hr : rightB s = true) (x : List UInt8) : arrayP (d + 1) (shpT s ++ x) = shapedP (arrayP d) s x := by
  have hb := ints_begs hs
  have hin := shp_in hr
  have hl := (right_iff.1 hr).1
  have e : shpT s ++ x = Num.intsT s ++ (226 :: 141 :: 180 :: x) := by unfold shpT; simp
  obtain ⟨b1, b2, b3⟩ := begs_not (hb.app (226 :: 141 :: 180 :: x))
  rw [e, arrayP_succ, if_neg (by rw [b3]; simp), if_neg (by rw [b2]; simp), nums_read (ints_s s) (rho_numS x) (Num.ints_back hs hin [] rfl rfl), Option.bind_some]
  simp only
  rw [if_pos (rho_beg x)]
  show ((wholeP (s.map ofD)).bind fun sh => shapedP (arrayP d) sh x) = _
  rw [wholeP_yes hin (by omega)]
  rfl
theorem kids_readP {d : Nat} (hf : ∀ l s, par d l = some s → (∀ m ∈ l.take s.n, Tid m) → ∀ r, Ends r → arrayP d (noteF d l ++ r) = some (l.take s.n, r)) :
    ∀ {c : Nat} {l : List Nd} {t : St}, parK (par d) c l = some t → (∀ m ∈ l.take t.n, Tid m) → ∀ r, kidsR (arrayP d) c (catN (par d) (noteF d) c l ++ r) = some (l.take t.n, r)
  | 0, l, t, h, _, r => by
    rw [parK_zero] at h
    cases h
    simp [kidsR, catN, st0]
  | c + 1, l, t, h, hT, r => by
    obtain ⟨a, b, ha, hb, rfl⟩ := parK_some h
    have hab : l.take (a.plus b).n = l.take a.n ++ (l.drop a.n).take b.n := take_app_part
    rw [hab] at hT ⊢
    rw [catN_succ ha, List.append_assoc, kidsR_succ, kids_readP hf ha (fun m hm => hT m (List.mem_append_left _ hm)), Option.bind_some]
    simp only
    have hk := hf _ _ hb (fun m hm => hT m (List.mem_append_right _ hm)) (41 :: r) (.inr ⟨r, rfl⟩)
    have e : (40 :: (noteF d (l.drop a.n) ++ [41])) ++ r = 40 :: (noteF d (l.drop a.n) ++ 41 :: r) := by simp
    rw [e, kidR_yes hk]
    rfl
theorem note_readP : ∀ {d : Nat} {l : List Nd} {s : St}, par d l = some s → (∀ m ∈ l.take s.n, Tid m) → ∀ r, Ends r → arrayP d (noteF d l ++ r) = some (l.take s.n, r)
  | 0, l, s, h, _, _, _ => by cases h
  | d + 1, l, s, h, hT, r, hr => by
    obtain ⟨e, n, l', t, he, rfl, hn, ht, rfl⟩ := par_parts h
    obtain rfl : d = e := by omega
    have htk : (n :: l').take (top n t).n = n :: l'.take t.n := rfl
    rw [htk] at hT ⊢
    have hTn := hT n (by simp)
    have hTk : ∀ m ∈ l'.take t.n, Tid m := fun m hm => hT m (by simp [hm])
    have IH := fun l s h hT r hr => note_readP (d := d) (l := l) (s := s) h hT r hr
    rw [noteF_cons]
    by_cases h5 : n.kind = 5
    · simp only [if_pos h5]
      obtain ⟨hrs, hfill⟩ := ok_right hTn.ok
      have hn0 : n = ⟨5, n.shp, [], []⟩ := by
        unfold fillB at hfill
        rw [if_neg (by omega), if_neg (by omega), if_neg (by omega), if_neg (by omega), if_pos h5] at hfill
        simp only [Bool.and_eq_true, beq_iff_eq] at hfill
        have e1 := List.eq_nil_of_length_eq_zero hfill.1
        have e2 := List.eq_nil_of_length_eq_zero hfill.2
        cases n
        simp_all
      have hkc : kc n = cnt n.shp := by unfold kc; rw [if_pos h5]
      have hpos := hTn.items h5
      have hkr := kids_readP IH ht hTk r
      have hcat0 : ∃ x, catN (par d) (noteF d) (cnt n.shp) l' ++ r = 40 :: x := by
        rw [hkc] at ht
        obtain ⟨c, hc⟩ : ∃ c, cnt n.shp = c + 1 := ⟨cnt n.shp - 1, by omega⟩
        rw [hc] at ht ⊢
        obtain ⟨x, hx⟩ := catN_head (f := noteF d) ht
        exact ⟨x ++ r, by rw [hx]; rfl⟩
      rw [hkc] at hkr ⊢
      have hsp : shapedP (arrayP d) n.shp (catN (par d) (noteF d) (cnt n.shp) l' ++ r) = some (n :: l'.take t.n, r) := by
        unfold shapedP
        rw [if_pos hrs, if_pos (beg_one.2 hcat0), hkr, Option.map_some]
        congr 2
        exact congrArg (· :: _) hn0.symm
      by_cases hs : n.shp = []
      · rw [if_pos hs, List.append_assoc, arrayP_succ, if_pos (by simp [begB, List.isPrefixOf])]
        show shapedP (arrayP d) [] (catN (par d) (noteF d) (cnt n.shp) l' ++ r) = _
        rw [← hsp, hs]
      · rw [if_neg hs, List.append_assoc, shape_readP hs hrs]
        exact hsp
    · simp only [if_neg h5]
      have hk0 : kc n = 0 := by unfold kc; rw [if_neg h5]
      rw [hk0, parK_zero] at ht
      cases ht
      obtain ⟨hrs, hfill⟩ := ok_right hTn.ok
      by_cases hs : n.shp = []
      · rw [if_pos hs, List.nil_append]
        show arrayP (d + 1) (leafT n ++ r) = some ([n], r)
        exact leaf_alone hTn h5 hs hr
      · rw [if_neg hs, List.append_assoc, shape_readP hs hrs]
        exact leaf_shaped hTn h5 hs hr
/-- the program reads a tight array of its notation -/
theorem note_backP {a : List Nd} (hr : rightA a = true) (hf : Fine a) (ht : formA a = a) : arrayP 16 (noteA a) = some (a, []) := by
  obtain ⟨s, hs⟩ := right_some hr
  obtain ⟨h1, _, h3⟩ := whl_some hs
  have hT := tight_tid hr hf ht
  have e : a.take s.n = a := List.take_of_length_le (by omega)
  have := note_readP h1 (by rw [e]; exact hT) [] (.inl rfl)
  rw [List.append_nil, e] at this
  exact this

/-- what the program's reader gives: a row that is no longer than what it took -/
theorem signs_took {sh : List Int} (hsl : sh.length ≤ 1100000) {s r : List UInt8} {a : List Nd} (hs : s.length ≤ 100000) (h : signsP sh s = some (a, r)) : a.length + r.length ≤ s.length ∧ Trim a := by
  unfold signsP at h
  cases hq : Quo.readQ (s.take (quotN s)) with
  | none => rw [hq] at h; cases h
  | some p =>
    obtain ⟨cs, u⟩ := p
    rw [hq] at h
    cases h
    have hl := readQ_len hq
    rw [List.length_take] at hl
    obtain ⟨i1, _, _⟩ := Quo.read_inv hq
    have hin : ∀ x ∈ Quo.intsZ cs, In x := fun x hx => by
      have := Quo.signZ_iff.1 (List.all_eq_true.1 (Quo.all_ints i1) x hx)
      exact ⟨by omega, by omega⟩
    refine ⟨by rw [List.length_drop]; simp only [List.length_cons, List.length_nil]; omega, ?_⟩
    exact Trim.cons ⟨in3, by show sh.length ≤ _; omega, by show (Quo.intsZ cs).length ≤ _; rw [Quo.ints_len]; omega, by simp, fun x hx => by cases hx⟩ hin ⟨by show (Quo.intsZ cs).length ≤ _; rw [Quo.ints_len]; omega, by simp⟩ .nil
theorem nums_took {s r : List UInt8} {ds : List (Int × Int)} (h : numsP s = some (ds, r)) : (∀ d ∈ ds, In d.1 ∧ In d.2) ∧ ds.all decB = true ∧ ds.length ≤ s.length ∧ r.length + 1 ≤ s.length ∧ r = s.drop (numS s) ∧ ds ≠ [] := by
  unfold numsP at h
  cases hq : Num.readO (s.take (numS s)) with
  | none => rw [hq] at h; cases h
  | some p =>
    obtain ⟨l, u⟩ := p
    rw [hq, Option.bind_some] at h
    simp only at h
    by_cases hu : u = []
    · rw [if_pos hu] at h
      cases h
      obtain ⟨q1, q2, x, q3, q4⟩ := Num.readO_right _ _ _ hq
      obtain ⟨f1, f2⟩ := Num.readO_few _ _ _ hq
      have hn := numS_le s
      have hx : 1 ≤ (s.take (numS s)).length := by
        rw [q4, List.length_append]
        have : 1 ≤ x.length := by cases x with
          | nil => exact absurd rfl q3
          | cons c y => simp
        omega
      rw [List.length_take] at hx f1 f2
      exact ⟨fun d hd => (q1 d hd).2, List.all_eq_true.2 fun d hd => (q1 d hd).1, by omega, by rw [List.length_drop]; omega, rfl, q2⟩
    · rw [if_neg hu] at h; cases h
theorem lay_took {sh : List Int} {ds : List (Int × Int)} {s r : List UInt8} {a : List Nd} (hds : ∀ d ∈ ds, In d.1 ∧ In d.2) (hdl : ds.length ≤ 100000) (h : layP sh ds s = some (a, r)) : a.length = 1 ∧ r = s ∧ Trim a := by
  unfold layP at h
  cases hm : numO sh ds with
  | none => rw [hm] at h; cases h
  | some m =>
    rw [hm] at h
    cases h
    unfold numO at hm
    by_cases hc : rightB sh = true ∧ cnt sh = ds.length ∧ ds.all decB = true
    · rw [if_pos hc] at hm
      cases hm
      obtain ⟨_, _, _, _, k5, k6, _⟩ := least_facts hc.1 hc.2.1 hc.2.2 hds (by omega)
      exact ⟨rfl, rfl, Trim.cons k5 k6 (least_slim hdl) .nil⟩
    · rw [if_neg hc] at hm; cases hm
theorem shaped_took {rd : List UInt8 → Option (List Nd × List UInt8)} (hrd : Took rd) {sh : List Int} {s r : List UInt8} {a : List Nd} (hs : s.length ≤ 100000) (h : shapedP rd sh s = some (a, r)) : a.length + r.length ≤ s.length + 1 ∧ Trim a := by
  unfold shapedP at h
  by_cases hr : rightB sh = true
  · rw [if_pos hr] at h
    have hsl := (right_iff.1 hr).1
    by_cases h40 : begB s [40] = true
    · rw [if_pos h40] at h
      cases hq : kidsR rd (cnt sh) s with
      | none => rw [hq] at h; cases h
      | some p =>
        rw [hq] at h
        cases h
        obtain ⟨h1, h2⟩ := kidsR_took hrd (a := p.1) (r := p.2) hs hq
        exact ⟨by rw [List.length_cons]; omega, (trim_box hr).app h2⟩
    · rw [if_neg h40] at h
      by_cases h39 : begB s [39] = true
      · rw [if_pos h39] at h
        obtain ⟨h1, h2⟩ := signs_took (by omega) hs h
        exact ⟨by omega, h2⟩
      · rw [if_neg h39] at h
        by_cases h0 : cnt sh = 0
        · rw [if_pos h0] at h
          by_cases h48 : begB s [48] = true
          · rw [if_pos h48] at h
            obtain ⟨h1, rfl, h2⟩ := lay_took (fun d hd => by cases hd) (by simp) h
            exact ⟨by rw [List.length_drop]; omega, h2⟩
          · rw [if_neg h48] at h; cases h
        · rw [if_neg h0] at h
          cases hq : numsP s with
          | none => rw [hq] at h; cases h
          | some p =>
            rw [hq, Option.bind_some] at h
            obtain ⟨n1, n2, n3, n4, n5, n6⟩ := nums_took (ds := p.1) (r := p.2) hq
            obtain ⟨h1, rfl, h2⟩ := lay_took n1 (by omega) h
            exact ⟨by omega, h2⟩
  · rw [if_neg hr] at h; cases h
theorem arrayP_took : ∀ (d : Nat), Took (arrayP d)
  | 0 => fun s a r _ h => by cases h
  | d + 1 => fun s a r hs h => by
    have IH := arrayP_took d
    rw [arrayP_succ] at h
    by_cases hb : begB s [226, 138, 130] = true
    · rw [if_pos hb] at h
      have hl := beg_len hb
      simp only [List.length_cons, List.length_nil] at hl
      obtain ⟨h1, h2⟩ := shaped_took IH (by rw [List.length_drop]; omega) h
      rw [List.length_drop] at h1
      exact ⟨by omega, h2⟩
    · rw [if_neg hb] at h
      by_cases h39 : begB s [39] = true
      · rw [if_pos h39] at h
        exact signs_took (by simp) hs h
      · rw [if_neg h39] at h
        cases hq : numsP s with
        | none => rw [hq] at h; cases h
        | some p =>
          obtain ⟨ds, u⟩ := p
          rw [hq, Option.bind_some] at h
          simp only at h
          obtain ⟨n1, n2, n3, n4, n5, n6⟩ := nums_took hq
          by_cases hp : begB u [226, 141, 180] = true
          · rw [if_pos hp] at h
            have hl := beg_len hp
            simp only [List.length_cons, List.length_nil] at hl
            cases hw : wholeP ds with
            | none => rw [hw] at h; cases h
            | some sh =>
              rw [hw, Option.bind_some] at h
              obtain ⟨h1, h3⟩ := shaped_took IH (by rw [List.length_drop]; omega) h
              rw [List.length_drop] at h1
              exact ⟨by omega, h3⟩
          · rw [if_neg hp] at h
            obtain ⟨h1, rfl, h2⟩ := lay_took n1 (by omega) h
            exact ⟨by omega, h2⟩
theorem array_fine {d : Nat} {s r : List UInt8} {a : List Nd} (hs : s.length ≤ 100000) (h : arrayP d s = some (a, r)) : Fine a := by
  obtain ⟨h1, h2, h3, h4⟩ := arrayP_took d s a r hs h
  exact ⟨by omega, h2, h3⟩
theorem array_slim {d : Nat} {s r : List UInt8} {a : List Nd} (hs : s.length ≤ 100000) (h : arrayP d s = some (a, r)) : Slim a := (arrayP_took d s a r hs h).2.2.2
/-- the program's own way comes to the document's -/
theorem array_nil (d : Nat) : arrayP d [] = none := by
  cases d with
  | zero => rfl
  | succ d =>
    rw [arrayP_succ, if_neg (by decide), if_neg (by decide)]
    have : Num.readO [] = none := Num.readO_wrong (by rw [Num.npc_nil]; show (Num.oneD []).2 = false; rw [Num.oneD_nil])
    unfold numsP
    show ((Num.readO []).bind _).bind _ = none
    rw [this]
    rfl
theorem parseP_is {s : List UInt8} (hs : s.length ≤ 100000) : parseP s = parseN s := by
  by_cases h0 : s = []
  · subst h0
    rw [empty_none]
    unfold parseP
    rw [array_nil]
    rfl
  · refine (parse_is hs h0 (fun a ha => ?_) (fun a hf hr ht hn => ?_)).symm
    · unfold parseP at ha
      cases hq : arrayP 16 s with
      | none => rw [hq] at ha; cases ha
      | some p =>
        rw [hq, Option.bind_some] at ha
        by_cases hp : noteT p.1 = s
        · rw [if_pos hp] at ha
          cases ha
          have hf := array_fine (r := p.2) hs hq
          unfold noteT at hp
          by_cases ht : rightA p.1 = true ∧ formA p.1 = p.1
          · rw [if_pos ht] at hp
            exact ⟨hf, ht.1, ht.2, hp⟩
          · rw [if_neg ht] at hp
            exact absurd hp.symm h0
        · rw [if_neg hp] at ha; cases ha
    · unfold parseP
      rw [← hn, note_backP hr hf ht, Option.bind_some]
      have e : noteT a = noteA a := by unfold noteT; rw [if_pos ⟨hr, ht⟩]
      rw [if_pos e]
end Go.Proofs.YteoogioanjkacaaGreatDoor
namespace Go.Proofs.YteoogioanjkacaaGreatDoor
open Go.Shelf Go.RowKit Go.Lib Go.Proofs
variable {P : Program} {ρ : Ren}
theorem strA (a t : List UInt8) (x : UInt8) {i : Nat} (h : i < (⟨(a ++ x :: t).toArray⟩ : ByteArray).size) : (⟨(a ++ x :: t).toArray⟩ : ByteArray)[i]'h = (a ++ x :: t)[i]'(by simpa [ByteArray.size] using h) := by
  show (⟨(a ++ x :: t).toArray⟩ : ByteArray).data[i] = _
  simp
set_option maxHeartbeats 4000000 in
set_option maxRecDepth 1000000 in
/-- the set of a text in which a byte of 128 or more stands -/
theorem make_not (L : Lays.n227 P ρ) (hv116 : ∀ w, (zeroValue (ρ.t 116)).run P w = .ok (.agg (Array.replicate 256 (.bool false))) w) (hi116 : (P.info? (ρ.t 116)).map (·.size) = some 256) (a t : List UInt8) (x : UInt8) (w : World)
    (hs : (⟨(a ++ x :: t).toArray⟩ : ByteArray).size < 4294967281) (ha : ∀ b ∈ a, b.toNat < 128) (hx : 128 ≤ x.toNat) :
    Calls P (ρ.f 227) #[.string ⟨(a ++ x :: t).toArray⟩] w fun e w' => e = .returned (.tuple #[.agg (Lib.setCells a), .bool false]) ∧ w' = w.alloc (.cells (Lib.setCells a) (ρ.t 116)) := by
  obtain ⟨S, hS⟩ : ∃ S : ByteArray, (⟨(a ++ x :: t).toArray⟩ : ByteArray) = S := ⟨_, rfl⟩
  have hSZ : S.size = a.length + (t.length + 1) := by rw [← hS]; simp [ByteArray.size]
  have HAT : Hid (∀ i (h : i < S.size), S[i]'h = (a ++ x :: t)[i]'(by rw [List.length_append, List.length_cons]; omega)) := Lib.hid (by
    subst hS
    exact fun i h => strA a t x h)
  have HA := Lib.hid ha
  rw [hS] at hs ⊢
  clear hS ha
  have t3 := L.t3; have a3 := L.a3; have z3 := L.z3; have v3 := L.v3
  have t4 := L.t4; have a4 := L.a4; have z4 := L.z4; have v4 := L.v4
  have t5 := L.t5; have a5 := L.a5; have z5 := L.z5; have v5 := L.v5
  have t9 := L.t9; have a9 := L.a9; have z9 := L.z9; have v9 := L.v9
  have t116 := L.t116
  go_enter L.f227, Body.n227_ntmps ρ
  go_wp2
  rw [← Lib.setCells_nil]
  go_loopg [4] a.length (fun g s4 wx => ∃ i : Nat, i + g = a.length ∧ s4 = .int .i64 i ∧ wx = w.alloc (.cells (Lib.setCells (a.take i)) (ρ.t 116)))
  case atStart => exact ⟨0, by omega, rfl, rfl⟩
  case round =>
    obtain ⟨i, hig, rfl, rfl⟩ := hrel
    have hi : i < S.size := by omega
    have hiz : (i : Int) < (S.size : Int) := by omega
    obtain ⟨y, hy⟩ : ∃ y : UInt8, S[i]'hi = y := ⟨_, rfl⟩
    have HY := Lib.hid ((HAT.out i hi).symm.trans hy)
    cases gk with
    | zero =>
      obtain rfl : i = a.length := by omega
      have hyx : y = x := by have := HY.out; simpa using this.symm
      subst hyx
      have hy128 : ((128 : Int) ≤ (y.toNat : Int)) := by omega
      rw [show a.take a.length = a from List.take_of_length_le (Nat.le_refl _)]
      have hld := run_loadVar_new (P := P) w (ρ.t 116) (Lib.setCells a) 256 (ρ.t 4) L.t116 (by rw [Lib.setCells_size]; exact hi116)
      have hsz := Lib.setCells_size a
      have hlc := run_loadCellsFrom_new (P := P) w (ρ.t 116) (Lib.setCells a) 256 hsz
      have hsc := run_storeCells_new (P := P) w (ρ.t 116) (Lib.setCells a) (Lib.setCells a) (by rw [hsz]; exact hi116) rfl (Lib.setCells_one _)
      go_wp2
      simp only [L.a116, L.z116, Result.andThen, ↓reduceIte, hlc]
      rw [Oper.upon_value]
      go_wp2
      simp only [L.z116, Result.andThen, ↓reduceIte, hsc]
      rw [Oper.upon_skip]
      go_wp2
      (try simp only [Exit.inBlock, Exit.then])
      refine bodyPost_ret (v := .tuple #[.agg (Lib.setCells a), .bool false]) ?_ rfl ⟨rfl, rfl⟩
      rw [results_cell_tmp rfl]
      simp [asAddr, Result.andThen, hld]
    | succ g =>
      have hia : i < a.length := by omega
      have hya : a[i]'hia = y := by have := HY.out; rw [List.getElem_append_left hia] at this; exact this
      have hy0 : y.toNat < 128 := HA.out y (hya ▸ List.getElem_mem hia)
      have hy128 : ¬ ((128 : Int) ≤ (y.toNat : Int)) := by omega
      have hy256 : (y.toNat : Int) < 256 := by omega
      have hcell := Lib.setCells_at (a.take i) y
      have Hy : Hid (a[i]? = some y) := Lib.hid (by rw [List.getElem?_eq_getElem hia, hya])
      clear hya
      go_wp2
      go_roundg g
      case measure => omega
      case rel => exact ⟨i + 1, by omega, by first | rfl | simp, by rw [List.take_add_one, Hy.out]; simp only [Option.toList]; rw [Lib.setCells_snoc]⟩
set_option maxHeartbeats 8000000 in
set_option maxRecDepth 1000000 in
/-- strings.TrimLeft at such a cutset: what trimLeftUnicode gives -/
theorem left_not (L : Lays.n161 P ρ) (hv116 : ∀ w, (zeroValue (ρ.t 116)).run P w = .ok (.agg (Array.replicate 256 (.bool false))) w) (hi116 : (P.info? (ρ.t 116)).map (·.size) = some 256) (s : ByteArray) (a t : List UInt8) (x : UInt8) (w : World) (R : ByteArray)
    (hs : (⟨(a ++ x :: t).toArray⟩ : ByteArray).size < 4294967281) (h2 : 2 ≤ (⟨(a ++ x :: t).toArray⟩ : ByteArray).size) (h0 : 0 < s.size) (ha : ∀ b ∈ a, b.toNat < 128) (hx : 128 ≤ x.toNat)
    (hT : ∀ W, Grow w W → Calls P (ρ.f 235) #[.string s, .string ⟨(a ++ x :: t).toArray⟩] W fun e w' => e = .returned (.string R) ∧ Grow W w') :
    Calls P (ρ.f 161) #[.string s, .string ⟨(a ++ x :: t).toArray⟩] w fun e w' => e = .returned (.string R) ∧ Grow w w' := by
  have hM := make_not (P := P) (ρ := ρ) { L with } hv116 hi116 a t x w hs ha hx
  obtain ⟨S, hS⟩ : ∃ S : ByteArray, (⟨(a ++ x :: t).toArray⟩ : ByteArray) = S := ⟨_, rfl⟩
  rw [hS] at hM hT hs h2 ⊢
  have hemp : S.toList.isEmpty = false := by
    rw [Lib.toList_data]
    cases h : S.data.toList with
    | nil => have := Lib.size_eq S; rw [h, List.length_nil] at this; omega
    | cons _ _ => rfl
  have hemps : s.toList.isEmpty = false := by
    rw [Lib.toList_data]
    cases h : s.data.toList with
    | nil => have := Lib.size_eq s; rw [h, List.length_nil] at this; omega
    | cons _ _ => rfl
  have hn1 : ((S.size : Int) == 1) = false := beq_eq_false_iff_ne.2 (by omega)
  have hsc : (storeCells ⟨w.heap.size + 1, 0, none⟩ (Lib.setCells a).toList 0).run P ((w.alloc (.cells (Lib.setCells a) (ρ.t 116))).alloc (.cells (Array.replicate 256 (.bool false)) (ρ.t 116))) = .ok () ((w.alloc (.cells (Lib.setCells a) (ρ.t 116))).alloc (.cells (Lib.setCells a) (ρ.t 116))) := by
    have := run_storeCells_new (P := P) (w.alloc (.cells (Lib.setCells a) (ρ.t 116))) (ρ.t 116) (Array.replicate 256 (.bool false)) (Lib.setCells a) (by rw [Lib.setCells_size]; exact hi116) (by rw [Lib.setCells_size, Array.size_replicate]) (Lib.setCells_one _)
    simpa using this
  have hG : Grow w ((w.alloc (.cells (Lib.setCells a) (ρ.t 116))).alloc (.cells (Lib.setCells a) (ρ.t 116))) := (grow_new w _).trans (grow_new _ _)
  have hT1 := hT _ hG
  have HG := Lib.hid hG
  clear hT hS hs h2 ha hx hG
  have mixed := L.mixed; have t0 := L.t0; have a0 := L.a0; have z0 := L.z0; have v0 := L.v0; have t3 := L.t3; have a3 := L.a3; have z3 := L.z3; have v3 := L.v3; have t4 := L.t4; have a4 := L.a4; have z4 := L.z4; have v4 := L.v4; have t5 := L.t5; have a5 := L.a5; have z5 := L.z5; have v5 := L.v5; have t9 := L.t9; have a9 := L.a9; have z9 := L.z9; have v9 := L.v9
  have e227 : ∀ args w, (callFunc (ρ.f 227) args).run P w = .ok (.enter (ρ.f 227) args) w := enters_of L.f227 (by kernel_rfl) rfl
  have e235 : ∀ args w, (callFunc (ρ.f 235) args).run P w = .ok (.enter (ρ.f 235) args) w := enters_of L.f235 (by kernel_rfl) rfl
  go_enter L.f161, Body.n161_ntmps ρ
  go_wp2_with (go_at_fn (ρ.f 227); refine hM.mono ?_; rintro e w' ⟨rfl, hw⟩; rw [hw])
  simp only [L.z116, Result.andThen, Lib.setCells_size, ↓reduceIte, hsc]
  rw [Oper.upon_skip]
  clear hM hsc
  go_wp2_with (go_at_fn (ρ.f 235); refine hT1.mono ?_; rintro e w' ⟨rfl, hw⟩)
  go_ret
  exact ⟨rfl, HG.out.trans hw⟩
end Go.Proofs.YteoogioanjkacaaGreatDoor
namespace Go.Proofs.YteoogioanjkacaaGreatDoor.Quo
set_option maxRecDepth 20000
open Go.RowKit Go.Lib
set_option linter.unusedVariables false
set_option linter.unusedSimpArgs false
/-- a range over a text stands at pos -/
structure Going (k : Nat) (l : List UInt8) (pos : Nat) (wr : World) : Prop where
  at_ : wr.heap[k]? = some (.stringIter ⟨l.toArray⟩ pos)
theorem strS (l : List UInt8) : (⟨l.toArray⟩ : ByteArray).size = l.length := by simp [ByteArray.size]
theorem going_new (w : World) (l : List UInt8) : Going w.heap.size l 0 (w.iter ⟨l.toArray⟩ 0) := ⟨World.iter_heap _ _ _⟩
theorem Going.next {k pos : Nat} {l : List UInt8} {wr : World} (h : Going k l pos wr) (hp : pos < l.length) (ty : TypeId) :
    (Instr.next (.pointer (some ⟨k, 0, none⟩)) true ty).run Tryz.prog wr =
      .ok (.tuple #[.bool true, .int .i64 pos, .int .i32 ((runeD (l.drop pos)).1 : Nat)]) (wr.iterAt k ⟨l.toArray⟩ (pos + (runeD (l.drop pos)).2)) := by
  have hp' : pos < (⟨l.toArray⟩ : ByteArray).size := by rw [strS]; exact hp
  have hd := decode_at_rune _ pos hp'
  rw [run_next_any_at (P := Tryz.prog) wr k _ pos ty h.at_ hp', hd]
theorem Going.stop {k pos : Nat} {l : List UInt8} {wr : World} (h : Going k l pos wr) (hp : ¬ pos < l.length) (ty : TypeId) :
    (Instr.next (.pointer (some ⟨k, 0, none⟩)) true ty).run Tryz.prog wr = .ok (.tuple #[.bool false]) wr :=
  run_next_end_at (P := Tryz.prog) wr k _ pos ty h.at_ (by rw [strS]; exact hp)
theorem Going.step {k pos : Nat} {l : List UInt8} {wr : World} (h : Going k l pos wr) (q : Nat) : Going k l q (wr.iterAt k ⟨l.toArray⟩ q) := ⟨iterAt_heap wr k _ pos q h.at_⟩

def CUT : List UInt8 := [48, 49, 50, 51, 52, 53, 54, 55, 56, 57, 69, 194, 175, 32]
/-- a sign of numbers -/
def numC (c : Nat) : Bool := decide (48 ≤ c ∧ c ≤ 57) || (c == 69 || (c == 175 || c == 32))

def okPos (p : Nat) : Prop := p ≤ 11 ∨ p = 13 ∨ p = 14
theorem cut_next {p : Nat} (h : okPos p) (hp : p < 14) : (runeD (CUT.drop p)).1 ≠ 65533 ∧ okPos (p + (runeD (CUT.drop p)).2) ∧ 1 ≤ (runeD (CUT.drop p)).2 ∧ p + (runeD (CUT.drop p)).2 ≤ 14 := by
  unfold okPos at h ⊢
  have hc : p = 0 ∨ p = 1 ∨ p = 2 ∨ p = 3 ∨ p = 4 ∨ p = 5 ∨ p = 6 ∨ p = 7 ∨ p = 8 ∨ p = 9 ∨ p = 10 ∨ p = 11 ∨ p = 13 := by omega
  rcases hc with rfl | rfl | rfl | rfl | rfl | rfl | rfl | rfl | rfl | rfl | rfl | rfl | rfl <;> decide
theorem below_iter {w wr : World} {B k : Nat} (h : Below B w wr) (hk : B ≤ k) (s : ByteArray) (q : Nat) : Below B w (wr.iterAt k s q) :=
  h.trans ⟨rfl, rfl, rfl, by simp [World.iterAt], fun j hj => iterAt_other wr k j s q (by omega)⟩

set_option maxHeartbeats 3200000 in
/-- the sign that no text holds -/
theorem index_bad (w : World) : Calls Tryz.prog 178 #[.string ⟨CUT.toArray⟩, .int .i32 65533] w fun e w' => e = .returned (.int .i64 (-1)) ∧ Grow w w' := by
  have hG0 := Lib.hid (show Grow w (w.iter ⟨CUT.toArray⟩ 0) from grow_new w _)
  have hO0 := Lib.hid (going_new w CUT)
  obtain ⟨C, hC⟩ : ∃ C, CUT = C := ⟨_, rfl⟩
  have HC := Lib.hid hC
  rw [hC] at hG0 hO0 ⊢
  clear hC
  go_enter Tryz.func178, Tryz.ntmps178
  go_wp2
  go_loopg [4] 14 (fun g _ wr => ∃ pos : Nat, pos ≤ 14 ∧ g = 14 - pos ∧ okPos pos ∧ Going w.heap.size C pos wr ∧ Grow w wr)
  case atStart => exact ⟨0, Nat.zero_le _, rfl, .inl (by omega), hO0.out, hG0.out⟩
  case round =>
    obtain ⟨pos, hle, rfl, hok, hgo, hgr⟩ := hrel
    have HG := Lib.hid hgr
    have hCl : C.length = 14 := by rw [← HC.out]; rfl
    by_cases hp : pos < 14
    · obtain ⟨k1, k2, k3, k4⟩ := cut_next hok hp
      rw [HC.out] at k1 k2 k3 k4
      have hnx := fun ty => hgo.next (by rw [hCl]; exact hp) ty
      have HG1 := Lib.hid (show Grow w (wr.iterAt w.heap.size ⟨C.toArray⟩ (pos + (runeD (C.drop pos)).2)) from below_iter HG.out (Nat.le_refl _) _ _)
      have HO1 := Lib.hid (hgo.step (pos + (runeD (C.drop pos)).2))
      obtain ⟨c, hc⟩ : ∃ c, (runeD (C.drop pos)).1 = c := ⟨_, rfl⟩
      obtain ⟨n, hn⟩ : ∃ n, (runeD (C.drop pos)).2 = n := ⟨_, rfl⟩
      rw [hc, hn] at hnx
      rw [hn] at HG1 HO1 k2 k3 k4
      rw [hc] at k1
      have HK := Lib.hid k2
      generalize wr.iterAt w.heap.size ⟨C.toArray⟩ (pos + n) = w1 at hnx HG1 HO1
      have hcb : (((c : Nat) : Int) == 65533) = false := by rw [beq_eq_false_iff_ne]; omega
      clear hgo hgr hc hn k1 k2 hok
      go_wp2
      go_roundg (14 - (pos + n))
      case rel => exact ⟨pos + n, k4, rfl, HK.out, HO1.out, HG1.out⟩
      case measure => omega
    · obtain rfl : pos = 14 := by omega
      have hnx := fun ty => hgo.stop (by rw [hCl]; omega) ty
      clear hgo hgr hok
      go_wp2
      go_ret
      exact ⟨rfl, HG.out⟩

/-- a sign of two bytes or more: its last two bytes -/
theorem last_two {c : Nat} (h : isSign c = true) (h1 : 128 ≤ c) : ∃ (m : Nat) (z b : UInt8), (bytesD c).length = m + 1 ∧ 1 ≤ m ∧ m ≤ 3 ∧ (bytesD c)[m]? = some b ∧ (bytesD c)[m - 1]? = some z ∧ 128 ≤ b.toNat ∧ b.toNat < 192 ∧ ((z = 194 ∧ b = 175) ↔ c = 175) ∧ (c = 175 → m = 1) := by
  have hs := isSign_iff.1 h
  have hn : ∀ n, n < 256 → (UInt8.ofNat n).toNat = n := fun n hn => u8_nat hn
  have h194 : ∀ n, n < 256 → (UInt8.ofNat n = 194 ↔ n = 194) := fun n h => by
    constructor
    · intro e; have := congrArg UInt8.toNat e; rw [hn n h] at this; exact this
    · rintro rfl; rfl
  have h175 : ∀ n, n < 256 → (UInt8.ofNat n = 175 ↔ n = 175) := fun n h => by
    constructor
    · intro e; have := congrArg UInt8.toNat e; rw [hn n h] at this; exact this
    · rintro rfl; rfl
  unfold bytesD
  rw [if_pos h, if_neg (by omega)]
  split
  · exact ⟨1, UInt8.ofNat (192 + c / 64), UInt8.ofNat (128 + c % 64), rfl, by omega, by omega, rfl, rfl, by rw [hn _ (by omega)]; omega, by rw [hn _ (by omega)]; omega, by rw [h194 _ (by omega), h175 _ (by omega)]; omega, fun _ => rfl⟩
  · split
    · exact ⟨2, UInt8.ofNat (128 + c / 64 % 64), UInt8.ofNat (128 + c % 64), rfl, by omega, by omega, rfl, rfl, by rw [hn _ (by omega)]; omega, by rw [hn _ (by omega)]; omega, by rw [h194 _ (by omega), h175 _ (by omega)]; omega, fun _ => by omega⟩
    · exact ⟨3, UInt8.ofNat (128 + c / 64 % 64), UInt8.ofNat (128 + c % 64), rfl, by omega, by omega, rfl, rfl, by rw [hn _ (by omega)]; omega, by rw [hn _ (by omega)]; omega, by rw [h194 _ (by omega), h175 _ (by omega)]; omega, fun _ => by omega⟩
theorem idx_none {b : UInt8} : ∀ {l : List UInt8}, (∀ x ∈ l, x ≠ b) → indexByte l b = -1
  | [], _ => rfl
  | x :: l, h => by
    have h1 : (x == b) = false := beq_eq_false_iff_ne.2 (h x (by simp))
    show (if (x == b) = true then (0 : Int) else if (indexByte l b == -1) = true then -1 else indexByte l b + 1) = -1
    rw [h1, idx_none (fun y hy => h y (by simp [hy]))]
    rfl
theorem cut_idx (m : Nat) (h1 : 1 ≤ m) (h3 : m ≤ 3) {b : UInt8} (h : 128 ≤ b.toNat) (hb : b.toNat < 192) : indexByte (CUT.drop (m + 1)) b = if b = 175 then ((11 - m : Nat) : Int) else -1 := by
  by_cases hb2 : b = 175
  · subst hb2
    have : m = 1 ∨ m = 2 ∨ m = 3 := by omega
    rcases this with rfl | rfl | rfl <;> decide
  · rw [if_neg hb2]
    refine idx_none fun x hx e => ?_
    have hx2 : x ∈ CUT := List.mem_of_mem_drop hx
    subst e
    simp only [CUT, List.mem_cons, List.not_mem_nil, or_false] at hx2
    rcases hx2 with rfl | rfl | rfl | rfl | rfl | rfl | rfl | rfl | rfl | rfl | rfl | rfl | rfl | rfl <;> first | exact hb2 rfl | (simp at h; done) | (simp at hb; done)
theorem cut_get (m : Nat) (h1 : 1 ≤ m) (h3 : m ≤ 3) : CUT[m]? = some (UInt8.ofNat (48 + m)) := by
  have : m = 1 ∨ m = 2 ∨ m = 3 := by omega
  rcases this with rfl | rfl | rfl <;> rfl

end Go.Proofs.YteoogioanjkacaaGreatDoor.Quo
