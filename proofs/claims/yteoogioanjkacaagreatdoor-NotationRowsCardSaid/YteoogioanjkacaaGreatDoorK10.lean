/-
  Contracts, joined: LayP, SignsP, WholeP, KidsP, ShapedP, ArrayP, TextP, ParseP, SmallT, Small, LOnce, LBack, AKids, RValues. Nothing is claimed here by itself.
-/
import Derived.Test.YteoogioanjkacaaGreatDoorK09
import Derived.KernelRfl
import Derived.Deep.CutBlock
import Derived.Deep.DeepCutAuto
namespace Go.Proofs.YteoogioanjkacaaGreatDoor
set_option maxRecDepth 20000
open Go.RowKit Go.Lib
set_option linter.unusedVariables false
set_option linter.unusedSimpArgs false
/-- what a step of the reader that may lay nodes answers -/
def RdP (g : Nat) (ns : List Nd) (o : Option (List Nd × List UInt8)) (w : World) (e : Ending) (w' : World) : Prop :=
  Below g w w' ∧ match o with
    | none => e = .returned (.bool false)
    | some p => e = .returned (.bool true) ∧ ∃ z, Rd g z (ns ++ p.1) p.2 w'
theorem below_put1 {g : Nat} (w : World) (j : Nat) (v : Value) : Below g w (w.setCell ⟨g, j, none⟩ v) := Below.setCell (p := ⟨g, j, none⟩) (Below.refl g w) (Nat.le_refl g) v
theorem OwnRN.own {B : Nat} {v : Value} {ns : List Nd} {w : World} (h : OwnRN B v ns w) : ∀ q, v.ownBlock = some q → q < w.heap.size := by
  obtain ⟨_, vals, ho, _⟩ := h
  exact fun q hq => (World.ownsRow.lt ho q hq).2
/-- the row's value is laid in the reader -/
theorem rd_put {g : Nat} {v v' : Value} {s : List UInt8} {ms : List Nd} {w : World} (h : AtR g v s w) (ho : OwnRN (g + 1) v' ms w) : Rd g w.heap.size ms s (w.setCell ⟨g, 0, none⟩ v') := by
  have hk : Kept (fun k => k = g) w (w.setCell ⟨g, 0, none⟩ v') := (Kept.refl _ _).one _
  exact ⟨v', Boxed.put0 h _, ho.kept (by omega) hk, AtR.lt h, hk.size, ho.own⟩
theorem wpList_append_node {ops : Array Oper} {rest : List Oper} {o : Oper} {a : Act} {w : World} {Q : Exit → Act → World → Prop} (hgd : o.guard = none) (s x : Operand)
    (ho : o.op = .call { callee := .builtin .append, args := #[s, x], argTypes := #[22, 22] }) (B B0 : Nat) (v : Value) (ns : List Nd) (n : Nd) (g : Nat) (A1 A2 A3 : Option Addr) (c1 c2 c3 : Nat)
    (hs : a.eval s = v) (hown : OwnRN B v ns w) (hx : a.eval x = .slice (some ⟨g, 0, none⟩) 1 1) (hbox : BoxN w g n.kind A1 n.shp.length c1 A2 n.ints.length c2 A3 n.decs.length c3)
    (h1 : NewN B0 A1 n.shp w) (h2 : NewN B0 A2 n.ints w) (h3 : NewD B0 A3 n.decs w) (hB : B ≤ B0) (hv0 : ∀ k, v.ownBlock = some k → k < B0) (hb : ns.length ≤ 1100000)
    (h : ∀ v' w', Hid (OwnRN B v' (ns ++ [n]) w') → Hid (Below B w w') → wpList Tryz.prog ops Q rest (a.put o.dst v') w') : wpList Tryz.prog ops Q (o :: rest) a w :=
  wpList_plain hgd fun K hK => wp_append_node s x ho B B0 v ns n g A1 A2 A3 c1 c2 c3 hs hown hx hbox h1 h2 h3 hB hv0 hb fun v' w' k1 k2 => hK _ _ (h v' w' (Lib.hid k1) (Lib.hid k2))
/-- the numbers' node, or none: in either case a node of new memory -/
theorem one_node {o : Option Nd} {w w' : World} {e : Ending} (h : OneP (fun b => w.heap.size ≤ b) o w e w') : ∃ (m : Nd) (β : Bool) (A1 : Option Addr) (c1 : Nat) (A2 : Option Addr) (c2 : Nat) (A3 : Option Addr) (c3 : Nat),
    e = .returned (.tuple #[.agg #[.int .i64 m.kind, .slice A1 m.shp.length c1, .slice A2 m.ints.length c2, .slice A3 m.decs.length c3], .bool β]) ∧ o = (if β = true then some m else none) ∧
    NewN w.heap.size A1 m.shp w' ∧ NewN w.heap.size A2 m.ints w' ∧ NewD w.heap.size A3 m.decs w' ∧ Grow w w' := by
  obtain ⟨hg, h⟩ := h
  cases o with
  | none => exact ⟨⟨0, [], [], []⟩, false, none, 0, none, 0, none, 0, h, rfl, NumsT.nil_, NumsT.nil_, DecsT.nil_, hg⟩
  | some m =>
    obtain ⟨v, rfl, A1, c1, A2, c2, A3, c3, rfl, h1, h2, h3⟩ := h
    exact ⟨m, true, A1, c1, A2, c2, A3, c3, rfl, rfl, h1.lt, h2.lt, h3.lt, hg⟩

/-- what the append reads, at any later world -/
def LayF (g : Nat) (v : Value) (ns : List Nd) (t : List UInt8) (nb z : Nat) (m : Nd) (B1 B2 B3 : Option Addr) (q0 : Int) (q1 d1 q2 d2 q3 d3 : Nat) (w : World) : Prop :=
  AtR g v t w ∧ OwnRN (g + 1) v ns w ∧ BoxN w nb q0 B1 q1 d1 B2 q2 d2 B3 q3 d3 ∧ NewN z B1 m.shp w ∧ NewN z B2 m.ints w ∧ NewD z B3 m.decs w
theorem LayF.grow {g : Nat} {v : Value} {ns : List Nd} {t : List UInt8} {nb z : Nat} {m : Nd} {B1 B2 B3 : Option Addr} {q0 : Int} {q1 d1 q2 d2 q3 d3 : Nat} {w w' : World}
    (h : LayF g v ns t nb z m B1 B2 B3 q0 q1 d1 q2 d2 q3 d3 w) (hg : Grow w w') : LayF g v ns t nb z m B1 B2 B3 q0 q1 d1 q2 d2 q3 d3 w' :=
  ⟨h.1.grow hg, h.2.1.grow hg, h.2.2.1.grow hg, h.2.2.2.1.grow hg, h.2.2.2.2.1.grow hg, h.2.2.2.2.2.grow hg⟩
set_option maxHeartbeats 6400000 in
theorem play_any (g : Nat) (v : Value) (ns : List Nd) (t : List UInt8) (A1 : Option Addr) (n1 c1 : Nat) (sh : List Int) (A : Option Addr) (n c : Nat) (l : List (Int × Int)) (w : World) (hat : AtR g v t w) (ho : OwnRN (g + 1) v ns w)
    (hs : sh.length = n1) (hs1 : n1 ≤ 1100000) (hsh : Nums .i64 w w.heap.size A1 sh) (hn : l.length = n) (hm : n ≤ 1100000) (hi : ∀ x ∈ l, In x.1 ∧ In x.2) (hr : Decs w w.heap.size A l) (hns : ns.length ≤ 1100000) :
    Calls Tryz.prog 52 #[.pointer (some ⟨g, 0, none⟩), .slice A1 n1 c1, .slice A n c] w (RdP g ns (layP sh l t) w) := by
  have HC := Lib.hid (tnumbers_any A1 n1 c1 sh A n c l w hs hs1 hsh hn hm hi hr)
  have HAT := Lib.hid hat
  have HO := Lib.hid ho
  clear hs hsh hn hi hr hat ho
  go_enter Tryz.func52, Tryz.ntmps52
  go_wp2_with fail
  refine (HC.out).mono ?_
  rintro e w1 he
  obtain ⟨m, β, B1, d1, B2, d2, B3, d3, rfl, hβ, k1, k2, k3, hg1⟩ := one_node he
  have HB := Lib.hid hβ
  have HK := Lib.hid (show NewN w.heap.size B1 m.shp w1 ∧ NewN w.heap.size B2 m.ints w1 ∧ NewD w.heap.size B3 m.decs w1 from ⟨k1, k2, k3⟩)
  have HG1 := Lib.hid hg1
  have HBX := Lib.hid (boxN_new w1 m.kind B1 m.shp.length d1 B2 m.ints.length d2 B3 m.decs.length d3)
  have HGN := Lib.hid (grow_new w1 (.cells #[.int .i64 m.kind, .slice B1 m.shp.length d1, .slice B2 m.ints.length d2, .slice B3 m.decs.length d3] 34))
  obtain ⟨q1, hq1⟩ : ∃ q1, m.shp.length = q1 := ⟨_, rfl⟩
  obtain ⟨q2, hq2⟩ : ∃ q2, m.ints.length = q2 := ⟨_, rfl⟩
  obtain ⟨q3, hq3⟩ : ∃ q3, m.decs.length = q3 := ⟨_, rfl⟩
  obtain ⟨q0, hq0⟩ : ∃ q0, m.kind = q0 := ⟨_, rfl⟩
  have HQ := Lib.hid (show m.kind = q0 ∧ m.shp.length = q1 ∧ m.ints.length = q2 ∧ m.decs.length = q3 from ⟨hq0, hq1, hq2, hq3⟩)
  rw [hq0, hq1, hq2, hq3] at HBX HGN
  simp only [hq0, hq1, hq2, hq3]
  obtain ⟨nb, hnb⟩ : ∃ nb, w1.heap.size = nb := ⟨_, rfl⟩
  have HNB := Lib.hid hnb
  rw [hnb] at HBX
  have HF : Hid (LayF g v ns t nb w.heap.size m B1 B2 B3 q0 q1 d1 q2 d2 q3 d3 (w1.alloc (.cells #[.int .i64 q0, .slice B1 q1 d1, .slice B2 q2 d2, .slice B3 q3 d3] 34))) :=
    Lib.hid ⟨(HAT.out.grow hg1).grow HGN.out, (HO.out.grow hg1).grow HGN.out, HBX.out, k1.grow HGN.out, k2.grow HGN.out, k3.grow HGN.out⟩
  have hgw : g < w.heap.size := AtR.lt HAT.out
  have hvz := HO.out.own
  have HVZ := Lib.hid hvz
  have HGA : Hid (Below g w (w1.alloc (.cells #[.int .i64 q0, .slice B1 q1 d1, .slice B2 q2 d2, .slice B3 q3 d3] 34))) := Lib.hid (Below.mono (hg1.trans HGN.out) (Nat.le_of_lt hgw))
  clear he hβ k1 k2 k3 hg1 hq0 hq1 hq2 hq3 HC HK HG1 HBX HGN hnb hvz HAT HO
  go_wp2
  rw [HNB.out]
  generalize w1.alloc (.cells #[.int .i64 q0, .slice B1 q1 d1, .slice B2 q2 d2, .slice B3 q3 d3] 34) = w2 at HF HGA ⊢
  refine wp_region_R ((Below g)) (n := 11) rfl (by kernel_rfl) ?_
  intro W0 hW0e hW0
  have HF0 : LayF g v ns t nb w.heap.size m B1 B2 B3 q0 q1 d1 q2 d2 q3 d3 W0 := HF.out.grow hW0
  have HGW0 : Hid (Below g w W0) := Lib.hid (Below.trans HGA.out (Below.mono hW0 (by have := HF.out.1.lt; omega)))
  have HGS : Hid (g ≤ W0.heap.size) := Lib.hid (Nat.le_of_lt HF0.1.lt)
  clear hW0e
  refine wpR_take (belowOrd g) (i := 0) (v := ?vf1) rfl (by kernel_rfl) (by kernel_rfl) (by kernel_rfl) (fun _ _ _ h => h) (by rfl) ?hf1 ?rf1
  case hf1 => (intro wg hSw; go_simp <;> with_reducible rfl)
  simp only [Act.put, List.setIfInBounds_toArray, List.set_cons_zero, List.set_cons_succ]
  refine wpR_take (belowOrd g) (i := 1) (v := ?vf2) rfl (by kernel_rfl) (by kernel_rfl) (by kernel_rfl) (fun _ _ _ h => h) (by rfl) ?hf2 ?rf2
  case hf2 => (intro wg hSw; go_simp <;> with_reducible rfl)
  simp only [Act.put, List.setIfInBounds_toArray, List.set_cons_zero, List.set_cons_succ]
  refine wpR_take (belowOrd g) (i := 2) (v := ?vf3) rfl (by kernel_rfl) (by kernel_rfl) (by kernel_rfl) (fun _ _ _ h => h) (by rfl) ?hf3 ?rf3
  case hf3 => (intro wg hSw; go_simp <;> with_reducible rfl)
  simp only [Act.put, List.setIfInBounds_toArray, List.set_cons_zero, List.set_cons_succ]
  refine wpR_take (belowOrd g) (i := 3) (v := ?vf4) rfl (by kernel_rfl) (by kernel_rfl) (by kernel_rfl) (fun _ _ _ h => h) (by rfl) ?hf4 ?rf4
  case hf4 => (intro wg hSw; go_simp <;> with_reducible rfl)
  simp only [Act.put, List.setIfInBounds_toArray, List.set_cons_zero, List.set_cons_succ]
  refine wpR_two (i := 4) (j := 5) (by kernel_rfl) ?_ ?_
  · refine wpR_op (i := 4) rfl (by rfl) (fun K hK => ?_)
    have hc4 := Boxed.fst (HF0).1
    go_simp
    refine hK.out _ _ (Below.refl _ _) ?_
    clear hK K hc4
    try simp only [Act.put, List.setIfInBounds_toArray, List.set_cons_zero, List.set_cons_succ]
    obtain ⟨wM4, hwM4⟩ : ∃ wM4, wM4 = W0 := ⟨_, rfl⟩
    have hN4 : Grow W0 wM4 := by rw [hwM4]; exact Grow.refl _
    have hM4 : Below g W0 wM4 := by rw [hwM4]; exact Below.refl _ _
    rw [← hwM4]
    clear hwM4
    refine wpR_one (i := 5) (by kernel_rfl) ?_
    refine wpR_op (i := 5) rfl (by rfl) (fun K hK => ?_)
    have hc5 := ((HF0.grow hN4)).2.2.1.at0
    have hc6 := ((HF0.grow hN4)).2.2.1.at1
    have hc7 := ((HF0.grow hN4)).2.2.1.at2
    have hc8 := ((HF0.grow hN4)).2.2.1.at3
    go_simp
    refine hK.out _ _ (Below.refl _ _) ?_
    clear hK K hc5 hc6 hc7 hc8
    try simp only [Act.put, List.setIfInBounds_toArray, List.set_cons_zero, List.set_cons_succ]
    obtain ⟨wM5, hwM5⟩ : ∃ wM5, wM5 = wM4 := ⟨_, rfl⟩
    have hN5 : Grow wM4 wM5 := by rw [hwM5]; exact Grow.refl _
    have hM5 : Below g wM4 wM5 := by rw [hwM5]; exact Below.refl _ _
    rw [← hwM5]
    clear hwM5
    refine wpR_one (i := 6) (by kernel_rfl) ?_
    refine wpR_op (i := 6) rfl (by rfl) (fun K hK => ?_)
    go_simp
    refine hK.out _ _ (Below.mono (grow_new _ _) (Nat.le_trans HGS.out ((((belowOrd g)).trans (((belowOrd g)).trans (((belowOrd g)).refl W0) hM4) hM5)).size)) ?_
    clear hK K
    try simp only [Act.put, List.setIfInBounds_toArray, List.set_cons_zero, List.set_cons_succ]
    obtain ⟨sb, hsb⟩ : ∃ sb, (wM5).heap.size = sb := ⟨_, rfl⟩
    have hbs := boxN_new wM5 q0 B1 q1 d1 B2 q2 d2 B3 q3 d3
    have hN6 := grow_new wM5 (.cells #[.int .i64 q0, .slice B1 q1 d1, .slice B2 q2 d2, .slice B3 q3 d3] 34)
    rw [hsb] at hbs ⊢
    generalize hwM6 : World.alloc wM5 (Obj.cells #[.int .i64 q0, .slice B1 q1 d1, .slice B2 q2 d2, .slice B3 q3 d3] 34) = wM6 at *
    have hC6 : BoxN wM6 sb q0 B1 q1 d1 B2 q2 d2 B3 q3 d3 := hbs
    have hM6 : Below g wM5 wM6 := Below.mono hN6 (Nat.le_trans HGS.out ((((belowOrd g)).trans (((belowOrd g)).trans (((belowOrd g)).refl W0) hM4) hM5)).size)
    clear hwM6 hsb hbs
    refine wpR_one (i := 7) (by kernel_rfl) ?_
    refine wpR_op (i := 7) rfl (by rfl) (fun K hK => ?_)
    have hf7 := (((HF0.grow hN4).grow hN5).grow hN6)
    refine wp_append_node _ _ rfl (g + 1) w.heap.size v ns m sb B1 B2 B3 d1 d2 d3 rfl hf7.2.1 rfl (by rw [HQ.out.1, HQ.out.2.1, HQ.out.2.2.1, HQ.out.2.2.2]; exact hC6) hf7.2.2.2.1 hf7.2.2.2.2.1 hf7.2.2.2.2.2 (by omega) HVZ.out hns ?_
    intro v7 wM7 hO7 hB7
    have hA7 : Hid (AtR g v t wM7) := Lib.hid ((hB7.block g (by omega)).trans hf7.1)
    have hM7 : Below g wM6 wM7 := Below.mono hB7 (by omega)
    have hN7 := hM7
    refine hK.out _ _ hM7 ?_
    clear hK K
    obtain ⟨A7, c7, hv7, -, -⟩ := hO7.nodes
    subst hv7
    obtain ⟨n7, hn7⟩ : ∃ n7, (ns ++ [m]).length = n7 := ⟨_, rfl⟩
    have HO7 := Lib.hid hO7
    rw [hn7] at HO7 ⊢
    clear hO7 hB7 hn7
    try simp only [Act.put, List.setIfInBounds_toArray, List.set_cons_zero, List.set_cons_succ]
    refine wpR_take (belowOrd g) (i := 8) (v := ?vf5) rfl (by kernel_rfl) (by kernel_rfl) (by kernel_rfl) (fun _ _ _ h => h) (by rfl) ?hf5 ?rf5
    case hf5 => (intro wg hSw; go_simp <;> with_reducible rfl)
    simp only [Act.put, List.setIfInBounds_toArray, List.set_cons_zero, List.set_cons_succ]
    refine wpR_take (belowOrd g) (i := 9) (v := ?vf6) rfl (by kernel_rfl) (by kernel_rfl) (by kernel_rfl) (fun _ _ _ h => h) (by rfl) ?hf6 ?rf6
    case hf6 => (intro wg hSw; go_simp <;> with_reducible rfl)
    simp only [Act.put, List.setIfInBounds_toArray, List.set_cons_zero, List.set_cons_succ]
    refine wpR_one (i := 10) (by kernel_rfl) ?_
    refine wpR_op (i := 10) rfl (by rfl) (fun K hK => ?_)
    have hfz := Boxed.froz hA7.out 0
    have hc10 := Boxed.fst hA7.out
    go_simp
    refine hK.out _ _ (below_put1 _ _ _) ?_
    clear hK K hfz hc10
    try simp only [Act.put, List.setIfInBounds_toArray, List.set_cons_zero, List.set_cons_succ]
    have hRD := Lib.hid (rd_put hA7.out HO7.out)
    generalize hwM10 : World.setCell wM7 ⟨g, 0, none⟩ (.slice A7 n7 c7) = wM10 at *
    have hM10 : Below g wM7 wM10 := by rw [← hwM10]; exact below_put1 _ _ _
    have hN10 := hM10
    clear hwM10
    refine wpR_done (by kernel_rfl) ?_
    have HGW := Lib.hid (Below.trans HGW0.out (((belowOrd g)).trans (((belowOrd g)).trans (((belowOrd g)).trans (((belowOrd g)).trans (((belowOrd g)).trans (((belowOrd g)).refl W0) hM4) hM5) hM6) hM7) hM10))
    go_wp2
    go_ret
    refine ⟨HGW.out, ?_⟩
    unfold layP
    rw [HB.out]
    cases β with
    | false => rfl
    | true => exact ⟨rfl, _, hRD.out⟩
  · refine wpR_op (i := 5) rfl (by rfl) (fun K hK => ?_)
    have hc5 := (HF0).2.2.1.at0
    have hc6 := (HF0).2.2.1.at1
    have hc7 := (HF0).2.2.1.at2
    have hc8 := (HF0).2.2.1.at3
    go_simp
    refine hK.out _ _ (Below.refl _ _) ?_
    clear hK K hc5 hc6 hc7 hc8
    try simp only [Act.put, List.setIfInBounds_toArray, List.set_cons_zero, List.set_cons_succ]
    obtain ⟨wM5, hwM5⟩ : ∃ wM5, wM5 = W0 := ⟨_, rfl⟩
    have hN5 : Grow W0 wM5 := by rw [hwM5]; exact Grow.refl _
    have hM5 : Below g W0 wM5 := by rw [hwM5]; exact Below.refl _ _
    rw [← hwM5]
    clear hwM5
    refine wpR_two (i := 4) (j := 6) (by kernel_rfl) ?_ ?_
    · refine wpR_op (i := 4) rfl (by rfl) (fun K hK => ?_)
      have hc4 := Boxed.fst ((HF0.grow hN5)).1
      go_simp
      refine hK.out _ _ (Below.refl _ _) ?_
      clear hK K hc4
      try simp only [Act.put, List.setIfInBounds_toArray, List.set_cons_zero, List.set_cons_succ]
      obtain ⟨wM4, hwM4⟩ : ∃ wM4, wM4 = wM5 := ⟨_, rfl⟩
      have hN4 : Grow wM5 wM4 := by rw [hwM4]; exact Grow.refl _
      have hM4 : Below g wM5 wM4 := by rw [hwM4]; exact Below.refl _ _
      rw [← hwM4]
      clear hwM4
      refine wpR_one (i := 6) (by kernel_rfl) ?_
      refine wpR_op (i := 6) rfl (by rfl) (fun K hK => ?_)
      go_simp
      refine hK.out _ _ (Below.mono (grow_new _ _) (Nat.le_trans HGS.out ((((belowOrd g)).trans (((belowOrd g)).trans (((belowOrd g)).refl W0) hM5) hM4)).size)) ?_
      clear hK K
      try simp only [Act.put, List.setIfInBounds_toArray, List.set_cons_zero, List.set_cons_succ]
      obtain ⟨sb, hsb⟩ : ∃ sb, (wM4).heap.size = sb := ⟨_, rfl⟩
      have hbs := boxN_new wM4 q0 B1 q1 d1 B2 q2 d2 B3 q3 d3
      have hN6 := grow_new wM4 (.cells #[.int .i64 q0, .slice B1 q1 d1, .slice B2 q2 d2, .slice B3 q3 d3] 34)
      rw [hsb] at hbs ⊢
      generalize hwM6 : World.alloc wM4 (Obj.cells #[.int .i64 q0, .slice B1 q1 d1, .slice B2 q2 d2, .slice B3 q3 d3] 34) = wM6 at *
      have hC6 : BoxN wM6 sb q0 B1 q1 d1 B2 q2 d2 B3 q3 d3 := hbs
      have hM6 : Below g wM4 wM6 := Below.mono hN6 (Nat.le_trans HGS.out ((((belowOrd g)).trans (((belowOrd g)).trans (((belowOrd g)).refl W0) hM5) hM4)).size)
      clear hwM6 hsb hbs
      refine wpR_one (i := 7) (by kernel_rfl) ?_
      refine wpR_op (i := 7) rfl (by rfl) (fun K hK => ?_)
      have hf7 := (((HF0.grow hN5).grow hN4).grow hN6)
      refine wp_append_node _ _ rfl (g + 1) w.heap.size v ns m sb B1 B2 B3 d1 d2 d3 rfl hf7.2.1 rfl (by rw [HQ.out.1, HQ.out.2.1, HQ.out.2.2.1, HQ.out.2.2.2]; exact hC6) hf7.2.2.2.1 hf7.2.2.2.2.1 hf7.2.2.2.2.2 (by omega) HVZ.out hns ?_
      intro v7 wM7 hO7 hB7
      have hA7 : Hid (AtR g v t wM7) := Lib.hid ((hB7.block g (by omega)).trans hf7.1)
      have hM7 : Below g wM6 wM7 := Below.mono hB7 (by omega)
      have hN7 := hM7
      refine hK.out _ _ hM7 ?_
      clear hK K
      obtain ⟨A7, c7, hv7, -, -⟩ := hO7.nodes
      subst hv7
      obtain ⟨n7, hn7⟩ : ∃ n7, (ns ++ [m]).length = n7 := ⟨_, rfl⟩
      have HO7 := Lib.hid hO7
      rw [hn7] at HO7 ⊢
      clear hO7 hB7 hn7
      try simp only [Act.put, List.setIfInBounds_toArray, List.set_cons_zero, List.set_cons_succ]
      refine wpR_take (belowOrd g) (i := 8) (v := ?vf7) rfl (by kernel_rfl) (by kernel_rfl) (by kernel_rfl) (fun _ _ _ h => h) (by rfl) ?hf7 ?rf7
      case hf7 => (intro wg hSw; go_simp <;> with_reducible rfl)
      simp only [Act.put, List.setIfInBounds_toArray, List.set_cons_zero, List.set_cons_succ]
      refine wpR_take (belowOrd g) (i := 9) (v := ?vf8) rfl (by kernel_rfl) (by kernel_rfl) (by kernel_rfl) (fun _ _ _ h => h) (by rfl) ?hf8 ?rf8
      case hf8 => (intro wg hSw; go_simp <;> with_reducible rfl)
      simp only [Act.put, List.setIfInBounds_toArray, List.set_cons_zero, List.set_cons_succ]
      refine wpR_one (i := 10) (by kernel_rfl) ?_
      refine wpR_op (i := 10) rfl (by rfl) (fun K hK => ?_)
      have hfz := Boxed.froz hA7.out 0
      have hc10 := Boxed.fst hA7.out
      go_simp
      refine hK.out _ _ (below_put1 _ _ _) ?_
      clear hK K hfz hc10
      try simp only [Act.put, List.setIfInBounds_toArray, List.set_cons_zero, List.set_cons_succ]
      have hRD := Lib.hid (rd_put hA7.out HO7.out)
      generalize hwM10 : World.setCell wM7 ⟨g, 0, none⟩ (.slice A7 n7 c7) = wM10 at *
      have hM10 : Below g wM7 wM10 := by rw [← hwM10]; exact below_put1 _ _ _
      have hN10 := hM10
      clear hwM10
      refine wpR_done (by kernel_rfl) ?_
      have HGW := Lib.hid (Below.trans HGW0.out (((belowOrd g)).trans (((belowOrd g)).trans (((belowOrd g)).trans (((belowOrd g)).trans (((belowOrd g)).trans (((belowOrd g)).refl W0) hM5) hM4) hM6) hM7) hM10))
      go_wp2
      go_ret
      refine ⟨HGW.out, ?_⟩
      unfold layP
      rw [HB.out]
      cases β with
      | false => rfl
      | true => exact ⟨rfl, _, hRD.out⟩
    · refine wpR_op (i := 6) rfl (by rfl) (fun K hK => ?_)
      go_simp
      refine hK.out _ _ (Below.mono (grow_new _ _) (Nat.le_trans HGS.out ((((belowOrd g)).trans (((belowOrd g)).refl W0) hM5)).size)) ?_
      clear hK K
      try simp only [Act.put, List.setIfInBounds_toArray, List.set_cons_zero, List.set_cons_succ]
      obtain ⟨sb, hsb⟩ : ∃ sb, (wM5).heap.size = sb := ⟨_, rfl⟩
      have hbs := boxN_new wM5 q0 B1 q1 d1 B2 q2 d2 B3 q3 d3
      have hN6 := grow_new wM5 (.cells #[.int .i64 q0, .slice B1 q1 d1, .slice B2 q2 d2, .slice B3 q3 d3] 34)
      rw [hsb] at hbs ⊢
      generalize hwM6 : World.alloc wM5 (Obj.cells #[.int .i64 q0, .slice B1 q1 d1, .slice B2 q2 d2, .slice B3 q3 d3] 34) = wM6 at *
      have hC6 : BoxN wM6 sb q0 B1 q1 d1 B2 q2 d2 B3 q3 d3 := hbs
      have hM6 : Below g wM5 wM6 := Below.mono hN6 (Nat.le_trans HGS.out ((((belowOrd g)).trans (((belowOrd g)).refl W0) hM5)).size)
      clear hwM6 hsb hbs
      refine wpR_one (i := 4) (by kernel_rfl) ?_
      refine wpR_op (i := 4) rfl (by rfl) (fun K hK => ?_)
      have hc4 := Boxed.fst (((HF0.grow hN5).grow hN6)).1
      go_simp
      refine hK.out _ _ (Below.refl _ _) ?_
      clear hK K hc4
      try simp only [Act.put, List.setIfInBounds_toArray, List.set_cons_zero, List.set_cons_succ]
      obtain ⟨wM4, hwM4⟩ : ∃ wM4, wM4 = wM6 := ⟨_, rfl⟩
      have hN4 : Grow wM6 wM4 := by rw [hwM4]; exact Grow.refl _
      have hM4 : Below g wM6 wM4 := by rw [hwM4]; exact Below.refl _ _
      rw [← hwM4]
      clear hwM4
      refine wpR_one (i := 7) (by kernel_rfl) ?_
      refine wpR_op (i := 7) rfl (by rfl) (fun K hK => ?_)
      have hf7 := (((HF0.grow hN5).grow hN6).grow hN4)
      refine wp_append_node _ _ rfl (g + 1) w.heap.size v ns m sb B1 B2 B3 d1 d2 d3 rfl hf7.2.1 rfl (by rw [HQ.out.1, HQ.out.2.1, HQ.out.2.2.1, HQ.out.2.2.2]; exact (hC6.grow hN4)) hf7.2.2.2.1 hf7.2.2.2.2.1 hf7.2.2.2.2.2 (by omega) HVZ.out hns ?_
      intro v7 wM7 hO7 hB7
      have hA7 : Hid (AtR g v t wM7) := Lib.hid ((hB7.block g (by omega)).trans hf7.1)
      have hM7 : Below g wM4 wM7 := Below.mono hB7 (by omega)
      have hN7 := hM7
      refine hK.out _ _ hM7 ?_
      clear hK K
      obtain ⟨A7, c7, hv7, -, -⟩ := hO7.nodes
      subst hv7
      obtain ⟨n7, hn7⟩ : ∃ n7, (ns ++ [m]).length = n7 := ⟨_, rfl⟩
      have HO7 := Lib.hid hO7
      rw [hn7] at HO7 ⊢
      clear hO7 hB7 hn7
      try simp only [Act.put, List.setIfInBounds_toArray, List.set_cons_zero, List.set_cons_succ]
      refine wpR_take (belowOrd g) (i := 8) (v := ?vf9) rfl (by kernel_rfl) (by kernel_rfl) (by kernel_rfl) (fun _ _ _ h => h) (by rfl) ?hf9 ?rf9
      case hf9 => (intro wg hSw; go_simp <;> with_reducible rfl)
      simp only [Act.put, List.setIfInBounds_toArray, List.set_cons_zero, List.set_cons_succ]
      refine wpR_take (belowOrd g) (i := 9) (v := ?vf10) rfl (by kernel_rfl) (by kernel_rfl) (by kernel_rfl) (fun _ _ _ h => h) (by rfl) ?hf10 ?rf10
      case hf10 => (intro wg hSw; go_simp <;> with_reducible rfl)
      simp only [Act.put, List.setIfInBounds_toArray, List.set_cons_zero, List.set_cons_succ]
      refine wpR_one (i := 10) (by kernel_rfl) ?_
      refine wpR_op (i := 10) rfl (by rfl) (fun K hK => ?_)
      have hfz := Boxed.froz hA7.out 0
      have hc10 := Boxed.fst hA7.out
      go_simp
      refine hK.out _ _ (below_put1 _ _ _) ?_
      clear hK K hfz hc10
      try simp only [Act.put, List.setIfInBounds_toArray, List.set_cons_zero, List.set_cons_succ]
      have hRD := Lib.hid (rd_put hA7.out HO7.out)
      generalize hwM10 : World.setCell wM7 ⟨g, 0, none⟩ (.slice A7 n7 c7) = wM10 at *
      have hM10 : Below g wM7 wM10 := by rw [← hwM10]; exact below_put1 _ _ _
      have hN10 := hM10
      clear hwM10
      refine wpR_done (by kernel_rfl) ?_
      have HGW := Lib.hid (Below.trans HGW0.out (((belowOrd g)).trans (((belowOrd g)).trans (((belowOrd g)).trans (((belowOrd g)).trans (((belowOrd g)).trans (((belowOrd g)).refl W0) hM5) hM6) hM4) hM7) hM10))
      go_wp2
      go_ret
      refine ⟨HGW.out, ?_⟩
      unfold layP
      rw [HB.out]
      cases β with
      | false => rfl
      | true => exact ⟨rfl, _, hRD.out⟩
end Go.Proofs.YteoogioanjkacaaGreatDoor
namespace Go.Proofs.YteoogioanjkacaaGreatDoor
set_option maxRecDepth 20000
open Go.RowKit Go.Lib
set_option linter.unusedVariables false
set_option linter.unusedSimpArgs false
theorem quotN_le (s : List UInt8) : quotN s ≤ s.length := by
  unfold quotN
  split <;> omega
theorem NumsT.newN {z : Nat} {w : World} {A : Option Addr} {xs : List Int} (h : NumsT (fun b => z ≤ b) w A xs) : NewN z A xs w := NumsT.lt h

set_option maxHeartbeats 6400000 in
theorem psigns_any (g z : Nat) (v : Value) (ns : List Nd) (t : List UInt8) (A1 : Option Addr) (n1 c1 : Nat) (sh : List Int) (w : World) (hat : AtR g v t w) (ho : OwnRN (g + 1) v ns w) (hz : g < z) (hzw : z ≤ w.heap.size) (hvz : ∀ b, v.ownBlock = some b → b < z)
    (hs : sh.length = n1) (hsh : NumsT (fun b => z ≤ b) w A1 sh) (h1 : 1 ≤ t.length) (hl : t.length ≤ 100000) (hL : LaidG g w) (hns : ns.length ≤ 1100000) :
    Calls Tryz.prog 50 #[.pointer (some ⟨g, 0, none⟩), .slice A1 n1 c1] w (RdP g ns (signsP sh t) w) := by
  have HAT := Lib.hid hat
  have HO := Lib.hid ho
  have HSH := Lib.hid hsh
  have HS := Lib.hid hs
  have HL := Lib.hid hL
  have HV := Lib.hid hvz
  have HQ := Lib.hid (quoted_any t w h1 hl)
  obtain ⟨k, hk⟩ : ∃ k, quotN t = k := ⟨_, rfl⟩
  have HK := Lib.hid hk
  have hkl : k ≤ t.length := by rw [← hk]; exact quotN_le t
  rw [hk] at HQ
  have HCUT := Lib.hid (cut_any' g v t k w hat hkl)
  have HRD := Lib.hid (fun W hW => Quo.read_any (t.take k) (by rw [List.length_take]; omega) W hW)
  have hd1 := Boxed.snd hat
  have hgw := hat.lt
  obtain ⟨S, hS⟩ : ∃ S, (⟨t.toArray⟩ : ByteArray) = S := ⟨_, rfl⟩
  obtain ⟨Z, hZ⟩ : ∃ Z, (⟨(t.take k).toArray⟩ : ByteArray) = Z := ⟨_, rfl⟩
  rw [hS] at hd1 HQ
  rw [hZ] at HCUT HRD
  have HM : Hid (signsP sh t = (Quo.readQ (t.take k)).map fun p => ([⟨3, sh, Quo.intsZ p.1, []⟩], t.drop k)) := Lib.hid (by unfold signsP; rw [hk])
  obtain ⟨⟨xs, r, ok⟩, hm⟩ : ∃ m, Quo.mkL (Quo.readQ (t.take k)) = m := ⟨_, rfl⟩
  rw [hm] at HRD
  have HM2 := Lib.hid hm
  clear hat ho hsh hs hL hvz hk hS hZ hm
  go_enter Tryz.func50, Tryz.ntmps50
  go_wp2_with fail
  refine (HQ.out).mono ?_
  rintro e w ⟨rfl, rfl⟩
  go_wp2_with fail
  refine (HCUT.out).mono ?_
  rintro e w1 ⟨rfl, hst⟩
  have HST := Lib.hid hst
  have HL1 := Lib.hid (HL.out.step hst.2 (Nat.le_of_lt hgw))
  have HO1 := Lib.hid (HO.out.kept (by omega) hst.2)
  clear hst
  go_wp2_with fail
  refine (HRD.out _ HL1.out.now.2).mono ?_
  rintro e w2 ⟨A2, c2, rfl, _, hxs, hg2⟩
  have HSH1 : NumsT (fun b => z ≤ b) w1 A1 sh := HSH.out.lt.keep fun b hb => ⟨hb.1, HST.out.2.block b hb.2 (by have := hb.1; omega)⟩
  have HST2 := Lib.hid (HST.out.grow hg2)
  have HO2 := Lib.hid (HO1.out.grow hg2)
  have HX2 := Lib.hid hxs
  have HSH2 : Hid (NumsT (fun b => z ≤ b) w2 A1 sh) := Lib.hid (NumsT.grow HSH1 hg2)
  have HZ1 : Hid (z ≤ w1.heap.size) := Lib.hid (Nat.le_trans hzw HST.out.2.size)
  clear hxs hg2 HSH1 HST HO1 HL1 HL HQ HCUT HRD HO hd1 HSH
  have hc2 := Boxed.fst HST2.out.1
  have hf2 := Boxed.froz HST2.out.1 0
  obtain ⟨l2, hl2⟩ : ∃ l2, xs.length = l2 := ⟨_, rfl⟩
  have HLX := Lib.hid hl2
  simp only [hl2]
  clear hl2
  have hgn := grow_new w2 (.cells #[.int .i64 3, .slice A1 n1 c1, .slice A2 l2 c2, .slice none 0 0] 34)
  have HGN := Lib.hid hgn
  have HB3 : Hid (BoxN (w2.alloc (.cells #[.int .i64 3, .slice A1 n1 c1, .slice A2 l2 c2, .slice none 0 0] 34)) w2.heap.size 3 A1 sh.length c1 A2 xs.length c2 none 0 0) := Lib.hid (by rw [HS.out, HLX.out]; exact boxN_new _ _ _ _ _ _ _ _ _ _ _)
  have HO3 := Lib.hid (HO2.out.grow hgn)
  have HN1 := Lib.hid ((HSH2.out.newN).grow hgn)
  have HN2 : Hid (NewN z A2 xs (w2.alloc (.cells #[.int .i64 3, .slice A1 n1 c1, .slice A2 l2 c2, .slice none 0 0] 34))) := Lib.hid (NewN.grow (HX2.out.keep fun b hb => ⟨⟨Nat.le_trans HZ1.out hb.1, hb.2⟩, rfl⟩) hgn)
  have HST3 := Lib.hid (HST2.out.grow hgn)
  have hbw : Hid (Below g w (w2.alloc (.cells #[.int .i64 3, .slice A1 n1 c1, .slice A2 l2 c2, .slice none 0 0] 34))) := Lib.hid (below_kept HST3.out.2 (Nat.le_of_lt hgw))
  clear hgn HX2 HSH2 HO2 HST2
  go_wp2_with (at_builtin; refine wpList_append_node rfl _ _ rfl (g + 1) z v ns ⟨3, sh, xs, []⟩ w2.heap.size A1 A2 none c1 c2 0 rfl HO3.out rfl HB3.out HN1.out HN2.out DecsT.nil_ (by omega) HV.out hns ?_; intro v7 w7 hO7 hB7; obtain ⟨A7, c7, hv7, -, -⟩ := hO7.out.nodes; subst hv7; have hA7 : Hid (AtR g v (t.drop k) w7) := Lib.hid ((hB7.out.block g (by omega)).trans HST3.out.1); have hc7 := Boxed.fst hA7.out; have hf7 := Boxed.froz hA7.out 0; generalize hn7 : (ns ++ [(⟨3, sh, xs, []⟩ : Nd)]).length = n7 at hO7)
  have hRD := Lib.hid (rd_put hA7.out hO7.out)
  have hB8 := Lib.hid (Below.trans hbw.out (Below.trans (Below.mono hB7.out (by omega)) (below_put1 w7 0 (.slice A7 n7 c7))))
  go_ret
  refine ⟨hB8.out, ?_⟩
  rw [HM.out]
  cases hq : Quo.readQ (t.take k) with
  | none =>
    rw [hq] at HM2
    have := HM2.out
    simp only [Quo.mkL, Prod.mk.injEq] at this
    rw [← this.2.2]
    rfl
  | some p =>
    rw [hq] at HM2
    have := HM2.out
    simp only [Quo.mkL, Prod.mk.injEq] at this
    rw [← this.2.2]
    refine ⟨rfl, w7.heap.size, ?_⟩
    simp only
    rw [this.1]
    exact hRD.out
end Go.Proofs.YteoogioanjkacaaGreatDoor
namespace Go.Proofs.YteoogioanjkacaaGreatDoor
set_option maxRecDepth 20000
open Go.RowKit Go.Lib
set_option linter.unusedVariables false
set_option linter.unusedSimpArgs false
def WholeP (o : Option (List Int)) (w : World) (e : Ending) (w' : World) : Prop :=
  Grow w w' ∧ match o with
    | none => ∃ x, e = .returned (.tuple #[x, .bool false])
    | some s => ∃ A c, e = .returned (.tuple #[.slice A s.length c, .bool true]) ∧ NewN w.heap.size A s w'

set_option maxHeartbeats 6400000 in
theorem pwhole_any (A : Option Addr) (n c : Nat) (l : List (Int × Int)) (w : World) (hn : l.length = n) (hm : n ≤ 1100000) (hi : ∀ x ∈ l, In x.1 ∧ In x.2) (hr : Decs w w.heap.size A l) :
    Calls Tryz.prog 53 #[.slice A n c] w (WholeP (wholeP l) w) := by
  have hg0 := grow_new w (.cells #[.int .i64 ((n : Nat) : Int)] 3)
  have hnl : Nums .i64 (w.alloc (.cells #[.int .i64 ((n : Nat) : Int)] 3)) (w.alloc (.cells #[.int .i64 ((n : Nat) : Int)] 3)).heap.size (some ⟨w.heap.size, 0, none⟩) [((n : Nat) : Int)] := Quo.nums_lit1 _ _ _
  have HC := Lib.hid (tnumbers_any (some ⟨w.heap.size, 0, none⟩) 1 1 [((n : Nat) : Int)] A n c l _ rfl (by decide) hnl hn hm hi (hr.grow hg0))
  have HW : Hid (wholeP l = (numO [((n : Nat) : Int)] l).bind fun m => if m.kind = 4 then none else some m.ints) := Lib.hid (by unfold wholeP; rw [hn])
  have HG0 := Lib.hid hg0
  clear hn hi hr hnl hg0
  go_enter Tryz.func53, Tryz.ntmps53
  go_wp2_with fail
  refine (HC.out).mono ?_
  rintro e w1 he
  obtain ⟨m, β, B1, d1, B2, d2, B3, d3, rfl, hβ, k1, k2, k3, hg1⟩ := one_node he
  have HB := Lib.hid hβ
  obtain ⟨q1, hq1⟩ : ∃ q1, m.shp.length = q1 := ⟨_, rfl⟩
  obtain ⟨q2, hq2⟩ : ∃ q2, m.ints.length = q2 := ⟨_, rfl⟩
  obtain ⟨q3, hq3⟩ : ∃ q3, m.decs.length = q3 := ⟨_, rfl⟩
  obtain ⟨q0, hq0⟩ : ∃ q0, m.kind = q0 := ⟨_, rfl⟩
  have HQ := Lib.hid (show m.kind = q0 ∧ m.ints.length = q2 from ⟨hq0, hq2⟩)
  have HBX := Lib.hid (boxN_new w1 q0 B1 q1 d1 B2 q2 d2 B3 q3 d3)
  have hgn := grow_new w1 (.cells #[.int .i64 q0, .slice B1 q1 d1, .slice B2 q2 d2, .slice B3 q3 d3] 34)
  have HGA := Lib.hid ((HG0.out.trans hg1).trans hgn)
  have HN2 : Hid (NewN w.heap.size B2 m.ints (w1.alloc (.cells #[.int .i64 q0, .slice B1 q1 d1, .slice B2 q2 d2, .slice B3 q3 d3] 34))) := Lib.hid (NewN.grow (k2.keep fun b hb => ⟨⟨Nat.le_trans HG0.out.size hb.1, hb.2⟩, rfl⟩) hgn)
  simp only [hq0, hq1, hq2, hq3]
  clear he hβ k1 k2 k3 hg1 hq0 hq1 hq2 hq3 HC hgn HG0
  obtain ⟨nb, hnb⟩ : ∃ nb, w1.heap.size = nb := ⟨_, rfl⟩
  have HNB := Lib.hid hnb
  rw [hnb] at HBX
  clear hnb
  go_wp2
  rw [HNB.out]
  generalize w1.alloc (.cells #[.int .i64 q0, .slice B1 q1 d1, .slice B2 q2 d2, .slice B3 q3 d3] 34) = w2 at HBX HGA HN2 ⊢
  have b0 := HBX.out.at0
  have b2 := HBX.out.at2
  cases β with
  | false =>
    have HV : Hid (wholeP l = none) := Lib.hid (by rw [HW.out, HB.out]; rfl)
    go_quiet (fail)
    go_wp2
    go_ret2
    exact ⟨HGA.out.drewN _, by rw [HV.out]; exact ⟨_, rfl⟩⟩
  | true =>
    have hb := HB.out
    rw [if_pos rfl] at hb
    by_cases h4 : q0 = 4
    · have hd : (q0 != 4) = false := by rw [h4]; rfl
      have HV : Hid (wholeP l = none) := Lib.hid (by rw [HW.out, hb, Option.bind_some, if_pos (by rw [HQ.out.1, h4])])
      clear hb h4
      go_quiet (fail)
      go_wp2
      go_ret2
      exact ⟨HGA.out.drewN _, by rw [HV.out]; exact ⟨_, rfl⟩⟩
    · have hd : (q0 != 4) = true := by rw [bne_iff_ne]; exact h4
      have HV : Hid (wholeP l = some m.ints) := Lib.hid (by rw [HW.out, hb, Option.bind_some, if_neg (by rw [HQ.out.1]; exact h4)])
      clear hb h4
      go_quiet (fail)
      go_wp2
      go_ret2
      refine ⟨HGA.out.drewN _, ?_⟩
      rw [HV.out]
      exact ⟨B2, d2, by rw [HQ.out.2]; rfl, HN2.out⟩
end Go.Proofs.YteoogioanjkacaaGreatDoor
namespace Go.Proofs.YteoogioanjkacaaGreatDoor
set_option maxRecDepth 20000
open Go.RowKit Go.Lib
set_option linter.unusedVariables false
set_option linter.unusedSimpArgs false
theorem kidR_way (rd : List UInt8 → Option (List Nd × List UInt8)) (s : List UInt8) : kidR rd s = if begB s [40] = true then (rd (s.drop 1)).bind fun p => if begB p.2 [41] = true then some (p.1, p.2.drop 1) else none else none := by
  cases s with
  | nil => rfl
  | cons b r =>
    unfold kidR
    by_cases hb : b = 40
    · subst hb
      have h1 : begB (40 :: r) [40] = true := beg_one.2 ⟨r, rfl⟩
      rw [if_pos h1]
      simp only [if_true, List.drop_succ_cons, List.drop_zero]
      congr 1
      funext p
      cases hp : p.2 with
      | nil => rfl
      | cons c t =>
        by_cases hc : c = 41
        · subst hc
          have h2 : begB (41 :: t) [41] = true := beg_one.2 ⟨t, rfl⟩
          rw [if_pos h2]
          rfl
        · have h2 : begB (c :: t) [41] = false := beg_not (by simpa using hc)
          rw [if_neg (by rw [h2]; simp)]
          simp only [if_neg hc]
    · have h1 : begB (b :: r) [40] = false := beg_not (by simpa using hb)
      simp only [if_neg hb]
      rw [if_neg (by rw [h1]; simp)]
theorem kidsR_none {rd : List UInt8 → Option (List Nd × List UInt8)} {s : List UInt8} {k : Nat} (h : kidsR rd k s = none) : ∀ m, k ≤ m → kidsR rd m s = none
  | 0, hm => by obtain rfl : k = 0 := by omega
                exact h
  | m + 1, hm => by
    by_cases he : k = m + 1
    · rw [← he]; exact h
    · rw [kidsR_succ, kidsR_none h m (by omega)]; rfl
/-- what array is known to come to -/
def ArrC (d : Nat) (depth : Int) : Prop := ∀ (g z : Nat) (ns : List Nd) (s : List UInt8) (w : World), Rd g z ns s w → s.length ≤ 100000 → ns.length + s.length ≤ 1000000 → LaidG g w →
  Calls Tryz.prog 25 #[.pointer (some ⟨g, 0, none⟩), .int .i64 depth] w (RdP g ns (arrayP d s) w)

theorem Rd.at_ {g z : Nat} {ns : List Nd} {s : List UInt8} {w : World} (h : Rd g z ns s w) : ∃ v, AtR g v s w ∧ OwnRN (g + 1) v ns w := by obtain ⟨v, h1, h2, _⟩ := h; exact ⟨v, h1, h2⟩
theorem Rd.lt {g z : Nat} {ns : List Nd} {s : List UInt8} {w : World} (h : Rd g z ns s w) : g < w.heap.size := by obtain ⟨v, h1, _⟩ := h; exact h1.lt

theorem skip_rd {g z : Nat} {ns : List Nd} {s : List UInt8} {w : World} (h : Rd g z ns s w) (p : List UInt8) : Calls Tryz.prog 47 #[.pointer (some ⟨g, 0, none⟩), .string ⟨p.toArray⟩] w fun e w' => e = .returned (.bool (begB s p)) ∧ Rd g z ns (skipL s p) w' ∧ Below g w w' := by
  obtain ⟨v, hat, ho, hz, hzw, hvz⟩ := h
  refine (skip_any g v s p w hat).mono ?_
  rintro e w' ⟨rfl, hst⟩
  exact ⟨rfl, Rd.step (s := s) ho hz hzw hvz hst, below_kept hst.2 (Nat.le_of_lt hat.lt)⟩
theorem begins_rd {g z : Nat} {ns : List Nd} {s : List UInt8} {w : World} (h : Rd g z ns s w) (p : List UInt8) : Calls Tryz.prog 49 #[.pointer (some ⟨g, 0, none⟩), .string ⟨p.toArray⟩] w fun e w' => e = .returned (.bool (begB s p)) ∧ w' = w := by
  obtain ⟨v, hat, _⟩ := h
  exact begins_any g v s p w hat
set_option maxHeartbeats 6400000 in
theorem kids_anyP (d : Nat) (depth : Int) (hd0 : 0 ≤ depth) (hd1 : depth ≤ 100) (IH : ArrC d (depth + 1)) (g z : Nat) (ns : List Nd) (s : List UInt8) (A1 : Option Addr) (n1 c1 : Nat) (sh : List Int) (m : Nat) (w : World) (hrd : Rd g z ns s w)
    (hs : sh.length = n1) (hsh : NumsT (fun b => z ≤ b) w A1 sh) (hm : m ≤ 1048576) (hl : s.length ≤ 100000) (hns : ns.length + s.length ≤ 1000000 - 1) (hL : LaidG g w) :
    Calls Tryz.prog 90 #[.pointer (some ⟨g, 0, none⟩), .slice A1 n1 c1, .int .i64 m, .int .i64 depth] w (RdP g ns ((kidsR (arrayP d) m s).map fun p => (⟨5, sh, [], []⟩ :: p.1, p.2)) w) := by
  obtain ⟨v, hat, ho, hz, hzw, hvz⟩ := hrd
  have hgw := hat.lt
  have HIH := Lib.hid IH
  have HS := Lib.hid hs
  have HL := Lib.hid hL
  have HV := Lib.hid hvz
  have HTK : Hid (∀ (k : Nat) (r : List UInt8) (a : List Nd), kidsR (arrayP d) k s = some (a, r) → a.length + r.length + 2 * k ≤ s.length ∧ Trim a) := Lib.hid (fun k r a h2 => kidsR_took (arrayP_took d) hl h2)
  have HTA : Hid (∀ (x r : List UInt8) (a : List Nd), x.length ≤ 100000 → arrayP d x = some (a, r) → a.length + r.length ≤ x.length) := Lib.hid (fun x r a h1 h2 => (arrayP_took d x a r h1 h2).1)
  have hgn := grow_new w (.cells #[.int .i64 5, .slice A1 n1 c1, .slice none 0 0, .slice none 0 0] 34)
  have HB3 : Hid (BoxN (w.alloc (.cells #[.int .i64 5, .slice A1 n1 c1, .slice none 0 0, .slice none 0 0] 34)) w.heap.size 5 A1 sh.length c1 none 0 0 none 0 0) := Lib.hid (by rw [hs]; exact boxN_new _ _ _ _ _ _ _ _ _ _ _)
  have HO3 := Lib.hid (ho.grow hgn)
  have HN1 := Lib.hid ((NumsT.newN hsh).grow hgn)
  have HAT := Lib.hid (hat.grow hgn)
  have HBW : Hid (Below g w (w.alloc (.cells #[.int .i64 5, .slice A1 n1 c1, .slice none 0 0, .slice none 0 0] 34))) := Lib.hid (Below.mono hgn (Nat.le_of_lt hgw))
  have hc2 := Boxed.fst hat
  clear IH hs hL hvz hgn hat ho hsh
  go_enter Tryz.func90, Tryz.ntmps90
  go_wp2_with (at_builtin; refine wpList_append_node rfl _ _ rfl (g + 1) z v ns ⟨5, sh, [], []⟩ w.heap.size A1 none none c1 0 0 rfl HO3.out rfl HB3.out HN1.out NumsT.nil_ DecsT.nil_ (by omega) HV.out (by omega) ?_; intro v7 w7 hO7 hB7; obtain ⟨A7, c7, hv7, -, -⟩ := hO7.out.nodes; subst hv7; have hA7 : Hid (AtR g v s w7) := Lib.hid ((hB7.out.block g (by omega)).trans HAT.out); have hc7 := Boxed.fst hA7.out; have hf7 := Boxed.froz hA7.out 0; generalize hn7 : (ns ++ [(⟨5, sh, [], []⟩ : Nd)]).length = n7 at hO7)
  have hRD := Lib.hid (rd_put hA7.out hO7.out)
  have hB8 := Lib.hid (Below.trans HBW.out (Below.trans (Below.mono hB7.out (by omega)) (below_put1 w7 0 (.slice A7 n7 c7))))
  obtain ⟨w8, hw8⟩ : ∃ w8, w7.setCell ⟨g, 0, none⟩ (.slice A7 n7 c7) = w8 := ⟨_, rfl⟩
  rw [hw8] at hRD hB8 ⊢
  generalize w7.heap.size = z8 at hRD
  clear hw8 hc7 hf7 hA7 hO7 hB7 hn7 hc2 HAT HBW HN1 HO3 HB3 HV
  go_loopg [21] m (fun gk s21 wr => ∃ (k : Nat) (acc : List Nd) (r : List UInt8) (zr : Nat), s21 = .int .i64 k ∧ k ≤ m ∧ gk = m - k ∧ Hid (kidsR (arrayP d) k s = some (acc, r)) ∧ Hid (Rd g zr (ns ++ ⟨5, sh, [], []⟩ :: acc) r wr) ∧ Hid (Below g w wr))
  case atStart => exact ⟨0, [], s, z8, rfl, Nat.zero_le _, rfl, Lib.hid rfl, hRD, hB8⟩
  case round =>
    obtain ⟨k, acc, r, zr, rfl, hk, rfl, HK, HR, HB⟩ := hrel
    by_cases hkm : k < m
    · have htk := HTK.out k r acc HK.out
      have hrl : r.length ≤ 100000 := by omega
      have htk1 := htk.1
      have HSK := Lib.hid (skip_rd HR.out [40])
      have hkm1 : ((k : Nat) : Int) < ((m : Nat) : Int) := by omega
      have HKS : Hid (kidsR (arrayP d) (k + 1) s = (kidR (arrayP d) r).map fun q => (acc ++ q.1, q.2)) := Lib.hid (by rw [kidsR_succ, HK.out, Option.bind_some])
      have HKN : Hid (kidR (arrayP d) r = none → (kidsR (arrayP d) m s).map (fun p => ((⟨5, sh, [], []⟩ : Nd) :: p.1, p.2)) = none) := Lib.hid (fun h => by rw [kidsR_none (k := k + 1) (by rw [HKS.out, h]; rfl) m (by omega)]; rfl)
      have HWY := Lib.hid (kidR_way (arrayP d) r)
      clear htk HK
      cases hb : begB r [40] with
      | false =>
        have HF := Lib.hid (HKN.out (by rw [HWY.out, hb]; rfl))
        rw [hb] at HSK
        clear hb HKN HWY HKS
        go_wp2_with fail
        refine (HSK.out).mono ?_
        rintro e w1 ⟨rfl, _, hb1⟩
        have HB1 := Lib.hid (Below.trans HB.out hb1)
        clear hb1
        go_wp2
        go_ret
        exact ⟨HB1.out, by rw [HF.out]; rfl⟩
      | true =>
        have hr1 : 1 ≤ r.length := beg_len hb
        have HWY2 : Hid (kidR (arrayP d) r = (arrayP d (r.drop 1)).bind fun p => if begB p.2 [41] = true then some (p.1, p.2.drop 1) else none) := Lib.hid (by rw [HWY.out, if_pos hb])
        have hsk : skipL r [40] = r.drop 1 := by unfold skipL; rw [if_pos hb]; rfl
        rw [hb, hsk] at HSK
        have hdl : (r.drop 1).length = r.length - 1 := List.length_drop
        generalize r.drop 1 = r1 at *
        clear hb hsk HWY
        go_wp2_with fail
        refine (HSK.out).mono ?_
        rintro e w1 ⟨rfl, hrd1, hb1⟩
        have HB1 := Lib.hid (Below.trans HB.out hb1)
        have HA := Lib.hid (HIH.out g zr (ns ++ ⟨5, sh, [], []⟩ :: acc) r1 w1 hrd1 (by omega) (by simp only [List.length_append, List.length_cons]; omega) (HL.out.below HB1.out))
        clear hb1 hrd1 HSK
        have hdep : IntKind.i64.wrap (depth + 1) = depth + 1 := by rw [IntKind.wrap_i64]; omega
        go_wp2_with fail
        refine (HA.out).mono ?_
        rintro e w2 ⟨hb2, hx⟩
        have HB2 := Lib.hid (Below.trans HB1.out hb2)
        clear hb2 HA
        cases ha : arrayP d r1 with
        | none =>
          rw [ha] at hx
          simp only at hx
          subst hx
          have HF := Lib.hid (HKN.out (by rw [HWY2.out, ha]; rfl))
          clear ha HKN HWY2 HKS
          go_wp2
          go_ret
          exact ⟨HB2.out, by rw [HF.out]; rfl⟩
        | some p =>
          obtain ⟨a1, r2⟩ := p
          rw [ha] at hx
          simp only at hx
          obtain ⟨rfl, z2, hrd2⟩ := hx
          have hta := HTA.out r1 r2 a1 (by omega) ha
          have HSK2 := Lib.hid (skip_rd hrd2 [41])
          clear hrd2
          cases hb2 : begB r2 [41] with
          | false =>
            have HF := Lib.hid (HKN.out (by rw [HWY2.out, ha, Option.bind_some]; simp only; rw [if_neg (by rw [hb2]; simp)]))
            rw [hb2] at HSK2
            clear ha HKN HWY2 HKS hb2
            go_wp2_with fail
            refine (HSK2.out).mono ?_
            rintro e w3 ⟨rfl, _, hb3⟩
            have HB3 := Lib.hid (Below.trans HB2.out hb3)
            clear hb3
            go_wp2
            go_ret
            exact ⟨HB3.out, by rw [HF.out]; rfl⟩
          | true =>
            have HKS2 : Hid (kidsR (arrayP d) (k + 1) s = some (acc ++ a1, r2.drop 1)) := Lib.hid (by rw [HKS.out, HWY2.out, ha, Option.bind_some]; simp only; rw [if_pos hb2]; rfl)
            have hsk2 : skipL r2 [41] = r2.drop 1 := by unfold skipL; rw [if_pos hb2]; rfl
            rw [hb2, hsk2] at HSK2
            clear ha HKN HWY2 HKS hb2 hsk2
            go_wp2_with fail
            refine (HSK2.out).mono ?_
            rintro e w3 ⟨rfl, hrd3, hb3⟩
            have HB3 := Lib.hid (Below.trans HB2.out hb3)
            have HR3 : Hid (Rd g z2 (ns ++ ⟨5, sh, [], []⟩ :: (acc ++ a1)) (r2.drop 1) w3) := Lib.hid (by rw [List.append_assoc, List.cons_append] at hrd3; exact hrd3)
            clear hb3 hrd3 HSK2
            go_wp2
            go_roundg (m - (k + 1))
            case rel => exact ⟨k + 1, acc ++ a1, r2.drop 1, z2, rfl, by omega, rfl, HKS2, HR3, HB3⟩
            case measure => omega
    · obtain rfl : k = m := by omega
      go_wp2
      go_ret
      refine ⟨HB.out, ?_⟩
      rw [HK.out]
      exact ⟨rfl, zr, HR.out⟩
end Go.Proofs.YteoogioanjkacaaGreatDoor
namespace Go.Proofs.YteoogioanjkacaaGreatDoor
set_option maxRecDepth 20000
open Go.RowKit Go.Lib
set_option linter.unusedVariables false
set_option linter.unusedSimpArgs false
theorem RdP.after {g : Nat} {ns : List Nd} {o : Option (List Nd × List UInt8)} {a b : World} {e : Ending} {c : World} (h : RdP g ns o b e c) (hb : Below g a b) : RdP g ns o a e c := ⟨Below.trans hb h.1, h.2⟩
theorem RdP.no {g : Nat} {ns : List Nd} {o : Option (List Nd × List UInt8)} {a b : World} (h : o = none) (hb : Below g a b) : RdP g ns o a (.returned (.bool false)) b := by subst h; exact ⟨hb, rfl⟩
/-- what is known of the answer -/
theorem RdP.val {g : Nat} {ns : List Nd} {o : Option (List Nd × List UInt8)} {a b : World} {e : Ending} (h : RdP g ns o a e b) : ∃ β : Bool, e = .returned (.bool β) := by
  cases o with
  | none => exact ⟨false, h.2⟩
  | some p => exact ⟨true, h.2.1⟩
/-- numbers, laid with a shape -/
theorem rd_lay {g z : Nat} {v : Value} {ns : List Nd} {s t : List UInt8} {A1 : Option Addr} {n1 c1 : Nat} {sh : List Int} {A : Option Addr} {n c : Nat} {l : List (Int × Int)} {w w' : World} (hat : AtR g v s w) (ho : OwnRN (g + 1) v ns w) (hz : g < z)
    (hs : sh.length = n1) (hs1 : n1 ≤ 1100000) (hsh : NumsT (fun b => z ≤ b) w A1 sh) (hst : Step g v t w w') (hn : l.length = n) (hm : n ≤ 1100000) (hi : ∀ x ∈ l, In x.1 ∧ In x.2) (hr : Decs w' w'.heap.size A l) (hns : ns.length ≤ 1100000) :
    Calls Tryz.prog 52 #[.pointer (some ⟨g, 0, none⟩), .slice A1 n1 c1, .slice A n c] w' (RdP g ns (layP sh l t) w') :=
  play_any g v ns t A1 n1 c1 sh A n c l w' hst.1 (ho.kept (by omega) hst.2) hs hs1 (NumsT.nums (T := fun b => True) (hsh.lt.keep fun b hb => ⟨trivial, hst.2.block b hb.2 (by have := hb.1; omega)⟩)) hn hm hi hr hns

set_option maxHeartbeats 6400000 in
theorem pshaped_any (d : Nat) (depth : Int) (hd0 : 0 ≤ depth) (hd1 : depth ≤ 100) (IH : ArrC d (depth + 1)) (g z : Nat) (ns : List Nd) (s : List UInt8) (A1 : Option Addr) (n1 c1 : Nat) (sh : List Int) (w : World) (hrd : Rd g z ns s w)
    (hs : sh.length = n1) (hs1 : n1 ≤ 1100000) (hsh : NumsT (fun b => z ≤ b) w A1 sh) (hl : s.length ≤ 100000) (hns : ns.length + s.length ≤ 1000000 - 1) (hL : LaidG g w) :
    Calls Tryz.prog 48 #[.pointer (some ⟨g, 0, none⟩), .slice A1 n1 c1, .int .i64 depth] w (RdP g ns (shapedP (arrayP d) sh s) w) := by
  have HC := Lib.hid (count_any A1 n1 c1 sh w hs (by omega) hsh.nums)
  have HBG := Lib.hid (fun W (h : Rd g z ns s W) p => begins_rd h p)
  have hgw := hrd.lt
  have HKD := Lib.hid (fun W (h : Rd g z ns s W) (h2 : NumsT (fun b => z ≤ b) W A1 sh) (h3 : LaidG g W) => kids_anyP d depth hd0 hd1 IH g z ns s A1 n1 c1 sh (cnt sh) W h hs h2 (cnt_le1 sh) hl hns h3)
  have HRD := Lib.hid hrd
  have HSH := Lib.hid hsh
  have HS := Lib.hid hs
  have HL := Lib.hid hL
  clear hrd hs hsh hL IH
  cases hr : rightB sh with
  | false =>
    have HF : Hid (shapedP (arrayP d) sh s = none) := Lib.hid (by unfold shapedP; rw [hr]; rfl)
    rw [hr] at HC
    clear hr
    go_enter Tryz.func48, Tryz.ntmps48
    go_wp2_with fail
    refine (HC.out).mono ?_
    rintro e w1 ⟨rfl, hw⟩
    have HG1 := Lib.hid (show Grow w w1 by rw [hw]; exact Grow.refl _)
    clear hw
    go_wp2
    go_ret
    exact RdP.no HF.out (Below.mono HG1.out (Nat.le_of_lt hgw))
  | true =>
    rw [hr] at HC
    have HF1 : Hid (shapedP (arrayP d) sh s = if begB s [40] = true then (kidsR (arrayP d) (cnt sh) s).map (fun p => (⟨5, sh, [], []⟩ :: p.1, p.2)) else if begB s [39] = true then signsP sh s
      else if cnt sh = 0 then (if begB s [48] = true then layP sh [] (s.drop 1) else none) else (numsP s).bind fun p => layP sh p.1 p.2) := Lib.hid (by unfold shapedP; rw [if_pos hr])
    clear hr
    have HB1 := Lib.hid (HBG.out w HRD.out [40])
    have HB2 := Lib.hid (HBG.out w HRD.out [39])
    cases h40 : begB s [40] with
    | true =>
      have HF : Hid (shapedP (arrayP d) sh s = (kidsR (arrayP d) (cnt sh) s).map (fun p => (⟨5, sh, [], []⟩ :: p.1, p.2))) := Lib.hid (by rw [HF1.out, if_pos h40])
      rw [h40] at HB1
      clear h40 HF1
      go_enter Tryz.func48, Tryz.ntmps48
      go_wp2_with fail
      refine (HC.out).mono ?_
      rintro e w ⟨rfl, rfl⟩
      go_wp2_with fail
      refine (HB1.out).mono ?_
      rintro e w ⟨rfl, rfl⟩
      go_wp2_with fail
      refine (HKD.out _ HRD.out HSH.out HL.out).mono ?_
      rintro e w2 hp
      obtain ⟨β, rfl⟩ := hp.val
      have HP := Lib.hid hp
      clear hp
      go_wp2
      go_ret
      rw [HF.out]
      exact HP.out
    | false =>
      rw [h40] at HB1
      cases h39 : begB s [39] with
      | true =>
        have HF : Hid (shapedP (arrayP d) sh s = signsP sh s) := Lib.hid (by rw [HF1.out, if_neg (by rw [h40]; simp), if_pos h39])
        have h1 : 1 ≤ s.length := beg_len h39
        obtain ⟨v, hat, ho, hz, hzw, hvz⟩ := HRD.out
        have HSG := Lib.hid (psigns_any g z v ns s A1 n1 c1 sh w hat ho hz hzw hvz HS.out HSH.out h1 hl HL.out (by omega))
        rw [h39] at HB2
        clear h40 h39 HF1 hat ho hz hzw hvz h1
        go_enter Tryz.func48, Tryz.ntmps48
        go_wp2_with fail
        refine (HC.out).mono ?_
        rintro e w ⟨rfl, rfl⟩
        go_wp2_with fail
        refine (HB1.out).mono ?_
        rintro e w ⟨rfl, rfl⟩
        go_wp2_with fail
        refine (HB2.out).mono ?_
        rintro e w ⟨rfl, rfl⟩
        go_wp2_with fail
        refine (HSG.out).mono ?_
        rintro e w2 hp
        obtain ⟨β, rfl⟩ := hp.val
        have HP := Lib.hid hp
        clear hp
        go_wp2
        go_ret
        rw [HF.out]
        exact HP.out
      | false =>
        rw [h39] at HB2
        obtain ⟨v, hat, ho, hz, hzw, hvz⟩ := HRD.out
        by_cases hc0 : cnt sh = 0
        · have HF2 : Hid (shapedP (arrayP d) sh s = if begB s [48] = true then layP sh [] (s.drop 1) else none) := Lib.hid (by rw [HF1.out, if_neg (by rw [h40]; simp), if_neg (by rw [h39]; simp), if_pos hc0])
          have HSK := Lib.hid (skip_any g v s [48] w hat)
          rw [hc0] at HC
          clear h40 h39 HF1
          cases h48 : begB s [48] with
          | false =>
            have HF : Hid (shapedP (arrayP d) sh s = none) := Lib.hid (by rw [HF2.out, if_neg (by rw [h48]; simp)])
            rw [h48] at HSK
            clear hat ho hz hzw hvz h48 HF2
            go_enter Tryz.func48, Tryz.ntmps48
            go_wp2_with fail
            refine (HC.out).mono ?_
            rintro e w ⟨rfl, rfl⟩
            go_wp2_with fail
            refine (HB1.out).mono ?_
            rintro e w ⟨rfl, rfl⟩
            go_wp2_with fail
            refine (HB2.out).mono ?_
            rintro e w ⟨rfl, rfl⟩
            go_wp2_with fail
            refine (HSK.out).mono ?_
            rintro e w2 ⟨rfl, hst⟩
            have HST := Lib.hid hst
            clear hst
            go_wp2
            go_ret
            exact RdP.no HF.out (below_kept HST.out.2 (Nat.le_of_lt hgw))
          | true =>
            have HF : Hid (shapedP (arrayP d) sh s = layP sh [] (s.drop 1)) := Lib.hid (by rw [HF2.out, if_pos h48])
            have hsk : skipL s [48] = s.drop 1 := by unfold skipL; rw [if_pos h48]; rfl
            rw [h48, hsk] at HSK
            have HLY := Lib.hid (fun W (hst : Step g v (s.drop 1) w W) => rd_lay (A := none) (n := 0) (c := 0) (l := []) (c1 := c1) hat ho hz HS.out hs1 HSH.out hst rfl (by decide) (fun x hx => by cases hx) Decs.none_ (by omega))
            clear hat ho hz hzw hvz h48 HF2 hsk
            go_enter Tryz.func48, Tryz.ntmps48
            go_wp2_with fail
            refine (HC.out).mono ?_
            rintro e w ⟨rfl, rfl⟩
            go_wp2_with fail
            refine (HB1.out).mono ?_
            rintro e w ⟨rfl, rfl⟩
            go_wp2_with fail
            refine (HB2.out).mono ?_
            rintro e w ⟨rfl, rfl⟩
            go_wp2_with fail
            refine (HSK.out).mono ?_
            rintro e w2 ⟨rfl, hst⟩
            have HST := Lib.hid hst
            clear hst
            go_wp2_with fail
            refine (HLY.out _ HST.out).mono ?_
            rintro e w3 hp
            obtain ⟨β, rfl⟩ := hp.val
            have HP := Lib.hid (hp.after (below_kept HST.out.2 (Nat.le_of_lt hgw)))
            clear hp
            go_wp2
            go_ret
            rw [HF.out]
            exact HP.out
        · have HF2 : Hid (shapedP (arrayP d) sh s = (numsP s).bind fun p => layP sh p.1 p.2) := Lib.hid (by rw [HF1.out, if_neg (by rw [h40]; simp), if_neg (by rw [h39]; simp), if_neg hc0])
          have hcb : (((cnt sh : Nat) : Int) == 0) = false := by rw [beq_eq_false_iff_ne]; omega
          have HNM := Lib.hid (pnumbers_any g v s w hat hl HL.out)
          clear h40 h39 HF1 hc0
          cases hq : numsP s with
          | none =>
            have HF : Hid (shapedP (arrayP d) sh s = none) := Lib.hid (by rw [HF2.out, hq]; rfl)
            rw [hq] at HNM
            clear hat ho hz hzw hvz hq HF2
            go_enter Tryz.func48, Tryz.ntmps48
            go_wp2_with fail
            refine (HC.out).mono ?_
            rintro e w ⟨rfl, rfl⟩
            go_wp2_with fail
            refine (HB1.out).mono ?_
            rintro e w ⟨rfl, rfl⟩
            go_wp2_with fail
            refine (HB2.out).mono ?_
            rintro e w ⟨rfl, rfl⟩
            go_wp2_with fail
            refine (HNM.out).mono ?_
            rintro e w2 ⟨⟨x, rfl⟩, hk⟩
            have HKP := Lib.hid hk
            clear hk
            go_wp2
            go_ret
            exact RdP.no HF.out (below_kept HKP.out (Nat.le_of_lt hgw))
          | some p =>
            obtain ⟨ds, r⟩ := p
            have HF : Hid (shapedP (arrayP d) sh s = layP sh ds r) := Lib.hid (by rw [HF2.out, hq]; rfl)
            obtain ⟨t1, _, t3, _⟩ := nums_took hq
            rw [hq] at HNM
            obtain ⟨m, hm⟩ : ∃ m, ds.length = m := ⟨_, rfl⟩
            have HMN := Lib.hid hm
            have HLY := Lib.hid (fun W A c (hst : Step g v r w W) (hr : Decs W W.heap.size A ds) => rd_lay (A := A) (n := m) (c := c) (c1 := c1) hat ho hz HS.out hs1 HSH.out hst hm (by omega) t1 hr (by omega))
            clear hat ho hz hzw hvz hq HF2 t1 t3 hm
            go_enter Tryz.func48, Tryz.ntmps48
            go_wp2_with fail
            refine (HC.out).mono ?_
            rintro e w ⟨rfl, rfl⟩
            go_wp2_with fail
            refine (HB1.out).mono ?_
            rintro e w ⟨rfl, rfl⟩
            go_wp2_with fail
            refine (HB2.out).mono ?_
            rintro e w ⟨rfl, rfl⟩
            go_wp2_with fail
            refine (HNM.out).mono ?_
            rintro e w2 ⟨A, c, rfl, hds, hst⟩
            have HST := Lib.hid hst
            have HDS := Lib.hid hds
            clear hst hds
            simp only [HMN.out]
            go_wp2_with fail
            refine (HLY.out _ A c HST.out HDS.out).mono ?_
            rintro e w3 hp
            obtain ⟨β, rfl⟩ := hp.val
            have HP := Lib.hid (hp.after (below_kept HST.out.2 (Nat.le_of_lt hgw)))
            clear hp
            go_wp2
            go_ret
            rw [HF.out]
            exact HP.out
end Go.Proofs.YteoogioanjkacaaGreatDoor
namespace Go.Proofs.YteoogioanjkacaaGreatDoor
set_option maxRecDepth 20000
open Go.RowKit Go.Lib
set_option linter.unusedVariables false
set_option linter.unusedSimpArgs false
theorem decs_off {g : Nat} {v : Value} {s : List UInt8} {ns : List Nd} {B : Nat} {A : Option Addr} {ds : List (Int × Int)} {w : World} (h : AtR g v s w) (ho : OwnRN (g + 1) v ns w) (hd : Decs w B A ds) : DecsT (fun b => ¬ b = g ∧ b < w.heap.size) w A ds := fun hn => by
  obtain ⟨b, off, rfl, hb, hc⟩ := hd hn
  refine ⟨b, off, rfl, ⟨?_, block_lt_of_cell (hc 0 hn).1⟩, hc⟩
  rintro rfl
  obtain ⟨A7, c7, rfl, -, -⟩ := ho.nodes
  have h0 := (hc 0 hn).1
  rw [Nat.zero_mul, Nat.add_zero] at h0
  unfold AtR Boxed at h
  rw [cell_of_row w b off _ _ (0, 0) h] at h0
  match off, h0 with
  | 0, h0 => cases h0
  | 1, h0 => cases h0
  | k + 2, h0 => simp at h0
theorem decs_step {g : Nat} {v : Value} {s t : List UInt8} {ns : List Nd} {B : Nat} {A : Option Addr} {ds : List (Int × Int)} {w w' : World} (h : AtR g v s w) (ho : OwnRN (g + 1) v ns w) (hd : Decs w B A ds) (hst : Step g v t w w') : Decs w' w'.heap.size A ds :=
  DecsT.decs (T := fun b => True) ((decs_off h ho hd).keep fun b hb => ⟨trivial, hst.2.block b hb.2 hb.1⟩)
theorem Step.trans {g : Nat} {v : Value} {s t : List UInt8} {a b c : World} (h : Step g v s a b) (k : Step g v t b c) : Step g v t a c := ⟨k.1, h.2.trans k.2⟩

theorem whole_len {l : List (Int × Int)} {s : List Int} (h : wholeP l = some s) : s.length ≤ l.length := by
  unfold wholeP numO at h
  split at h
  · rw [Option.bind_some] at h
    split at h
    · cases h
    · cases h
      unfold leastN
      split
      · show (l.map whlV).length ≤ _; rw [List.length_map]; exact Nat.le_refl _
      · simp
  · cases h
set_option maxHeartbeats 6400000 in
theorem array_zero (depth : Int) (hd : depth = 17) : ArrC 0 depth := by
  intro g z ns s w hrd hl hns hL
  subst hd
  have hgw := hrd.lt
  clear hrd hL
  go_enter Tryz.func25, Tryz.ntmps25
  go_wp2
  go_ret
  exact RdP.no rfl (Below.refl _ _)

set_option maxHeartbeats 12800000 in
theorem array_succ (d : Nat) (depth : Int) (hd0 : 0 ≤ depth) (hd1 : depth ≤ 16) (IH : ArrC d (depth + 1)) : ArrC (d + 1) depth := by
  intro g z ns s w hrd hl hns hL
  have hgw := hrd.lt
  have HSHP := Lib.hid (fun (z : Nat) (s : List UInt8) (A1 : Option Addr) (n1 c1 : Nat) (sh : List Int) W (h1 : Rd g z ns s W) h2 h3 (h4 : NumsT (fun b => z ≤ b) W A1 sh) h5 h6 (h7 : LaidG g W) => pshaped_any d depth hd0 (by omega) IH g z ns s A1 n1 c1 sh W h1 h2 h3 h4 h5 h6 h7)
  have HAS := Lib.hid (arrayP_succ d s)
  have hdep : ¬ 16 < depth := by omega
  have HRD := Lib.hid hrd
  have HL := Lib.hid hL
  have HSK := Lib.hid (skip_rd hrd [226, 138, 130])
  clear IH hrd hL hd0 hd1
  cases h226 : begB s [226, 138, 130] with
  | true =>
    have HF : Hid (arrayP (d + 1) s = shapedP (arrayP d) [] (s.drop 3)) := Lib.hid (by rw [HAS.out, if_pos h226])
    have hsk : skipL s [226, 138, 130] = s.drop 3 := by unfold skipL; rw [if_pos h226]; rfl
    have h3 : 3 ≤ s.length := beg_len h226
    have hdl : (s.drop 3).length = s.length - 3 := List.length_drop
    rw [h226, hsk] at HSK
    clear h226 hsk HAS
    go_enter Tryz.func25, Tryz.ntmps25
    go_wp2_with fail
    refine (HSK.out).mono ?_
    rintro e w1 ⟨rfl, hrd1, hb1⟩
    have HB1 := Lib.hid hb1
    have HC := Lib.hid (HSHP.out z (s.drop 3) none 0 0 [] w1 hrd1 rfl (by decide) NumsT.nil_ (by omega) (by omega) (HL.out.below hb1))
    clear hrd1 hb1 HSK
    go_wp2_with fail
    refine (HC.out).mono ?_
    rintro e w2 hp
    obtain ⟨β, rfl⟩ := hp.val
    have HP := Lib.hid (hp.after HB1.out)
    clear hp
    go_wp2
    go_ret
    rw [HF.out]
    exact HP.out
  | false =>
    have hsk : skipL s [226, 138, 130] = s := by unfold skipL; rw [if_neg (by rw [h226]; simp)]
    rw [h226, hsk] at HSK
    have HAS2 : Hid (arrayP (d + 1) s = if begB s [39] = true then signsP [] s else (numsP s).bind fun p =>
      if begB p.2 [226, 141, 180] = true then (wholeP p.1).bind fun sh => shapedP (arrayP d) sh (p.2.drop 3) else layP [] p.1 p.2) := Lib.hid (by rw [HAS.out, if_neg (by rw [h226]; simp)])
    clear h226 hsk HAS HRD
    go_enter Tryz.func25, Tryz.ntmps25
    go_wp2_with fail
    refine (HSK.out).mono ?_
    rintro e w1 ⟨rfl, hrd1, hb1⟩
    have HB1 := Lib.hid hb1
    have HL1 := Lib.hid (HL.out.below hb1)
    have HBG := Lib.hid (begins_rd hrd1 [39])
    have HRD1 := Lib.hid hrd1
    have hgw1 := hrd1.lt
    clear hb1 HSK HL hrd1
    cases h39 : begB s [39] with
    | true =>
      have HF : Hid (arrayP (d + 1) s = signsP [] s) := Lib.hid (by rw [HAS2.out, if_pos h39])
      have h1 : 1 ≤ s.length := beg_len h39
      obtain ⟨v, hat, ho, hz, hzw, hvz⟩ := HRD1.out
      have HSG := Lib.hid (psigns_any g z v ns s none 0 0 [] w1 hat ho hz hzw hvz rfl NumsT.nil_ h1 hl HL1.out (by omega))
      rw [h39] at HBG
      clear h39 HAS2 hat ho hz hzw hvz
      go_wp2_with fail
      refine (HBG.out).mono ?_
      rintro e w2 ⟨rfl, rfl⟩
      go_wp2_with fail
      refine (HSG.out).mono ?_
      rintro e w3 hp
      obtain ⟨β, rfl⟩ := hp.val
      have HP := Lib.hid (hp.after HB1.out)
      clear hp
      go_wp2
      go_ret
      rw [HF.out]
      exact HP.out
    | false =>
      obtain ⟨v, hat, ho, hz, hzw, hvz⟩ := HRD1.out
      have HNM := Lib.hid (pnumbers_any g v s w1 hat hl HL1.out)
      have HAS3 : Hid (arrayP (d + 1) s = (numsP s).bind fun p => if begB p.2 [226, 141, 180] = true then (wholeP p.1).bind fun sh => shapedP (arrayP d) sh (p.2.drop 3) else layP [] p.1 p.2) := Lib.hid (by rw [HAS2.out, if_neg (by rw [h39]; simp)])
      rw [h39] at HBG
      clear h39 HAS2
      go_wp2_with fail
      refine (HBG.out).mono ?_
      rintro e w1 ⟨rfl, rfl⟩
      cases hq : numsP s with
      | none =>
        have HF : Hid (arrayP (d + 1) s = none) := Lib.hid (by rw [HAS3.out, hq]; rfl)
        rw [hq] at HNM
        clear hq HAS3 hat ho hz hzw hvz
        go_wp2_with fail
        refine (HNM.out).mono ?_
        rintro e w2 ⟨⟨x, rfl⟩, hk⟩
        have HKP := Lib.hid (Below.trans HB1.out (below_kept hk (Nat.le_of_lt hgw1)))
        clear hk
        go_wp2
        go_ret
        exact RdP.no HF.out HKP.out
      | some p =>
        obtain ⟨ds, r⟩ := p
        have HAS4 : Hid (arrayP (d + 1) s = if begB r [226, 141, 180] = true then (wholeP ds).bind fun sh => shapedP (arrayP d) sh (r.drop 3) else layP [] ds r) := Lib.hid (by rw [HAS3.out, hq]; rfl)
        obtain ⟨t1, _, t3, t4, _⟩ := nums_took hq
        rw [hq] at HNM
        obtain ⟨m, hm⟩ : ∃ m, ds.length = m := ⟨_, rfl⟩
        have HMN := Lib.hid hm
        have HT1 := Lib.hid t1
        have HPK := Lib.hid (show AtR g v s w1 ∧ OwnRN (g + 1) v ns w1 ∧ ∀ b, v.ownBlock = some b → b < z from ⟨hat, ho, hvz⟩)
        clear hq HAS3 t1 hm hat ho hvz
        go_wp2_with fail
        refine (HNM.out).mono ?_
        rintro e w2 ⟨A, c, rfl, hds, hst⟩
        have HST := Lib.hid hst
        have HSK2 := Lib.hid (skip_any g v r [226, 141, 180] w2 hst.1)
        have HDS3 := Lib.hid (fun (W : World) t (h : Step g v t w2 W) => decs_step hst.1 (HPK.out.2.1.kept (by omega) hst.2) hds h)
        simp only [HMN.out]
        clear hst hds HNM
        cases hrho : begB r [226, 141, 180] with
        | false =>
          have HF : Hid (arrayP (d + 1) s = layP [] ds r) := Lib.hid (by rw [HAS4.out, if_neg (by rw [hrho]; simp)])
          have hsk : skipL r [226, 141, 180] = r := by unfold skipL; rw [if_neg (by rw [hrho]; simp)]
          rw [hrho, hsk] at HSK2
          clear hrho hsk HAS4
          go_wp2_with fail
          refine (HSK2.out).mono ?_
          rintro e w3 ⟨rfl, hst3⟩
          have HST3 := Lib.hid (HST.out.trans hst3)
          have HD3 := Lib.hid (HDS3.out w3 r hst3)
          have HLY := Lib.hid (rd_lay (A1 := none) (n1 := 0) (c1 := 0) (sh := []) (A := A) (n := m) (c := c) HPK.out.1 HPK.out.2.1 hz rfl (by decide) NumsT.nil_ HST3.out HMN.out (by have := HMN.out; omega) HT1.out HD3.out (by omega))
          clear hst3 HSK2 HDS3
          go_wp2_with fail
          refine (HLY.out).mono ?_
          rintro e w4 hp
          obtain ⟨β, rfl⟩ := hp.val
          have HP := Lib.hid (hp.after (Below.trans HB1.out (below_kept HST3.out.2 (Nat.le_of_lt hgw1))))
          clear hp
          go_wp2
          go_ret
          rw [HF.out]
          exact HP.out
        | true =>
          have HF1 : Hid (arrayP (d + 1) s = (wholeP ds).bind fun sh => shapedP (arrayP d) sh (r.drop 3)) := Lib.hid (by rw [HAS4.out, if_pos hrho])
          have hsk : skipL r [226, 141, 180] = r.drop 3 := by unfold skipL; rw [if_pos hrho]; rfl
          have h3 : 3 ≤ r.length := beg_len hrho
          have hdl : (r.drop 3).length = r.length - 3 := List.length_drop
          rw [hrho, hsk] at HSK2
          clear hrho hsk HAS4
          go_wp2_with fail
          refine (HSK2.out).mono ?_
          rintro e w3 ⟨rfl, hst3⟩
          have HST3 := Lib.hid (HST.out.trans hst3)
          have HD3 := Lib.hid (HDS3.out w3 _ hst3)
          have HW := Lib.hid (pwhole_any A m c ds w3 HMN.out (by have := HMN.out; omega) HT1.out HD3.out)
          have HB3 := Lib.hid (Below.trans HB1.out (below_kept HST3.out.2 (Nat.le_of_lt hgw1)))
          have HL3 := Lib.hid (HL1.out.step HST3.out.2 (Nat.le_of_lt hgw1))
          have hg3 : g < w3.heap.size := HST3.out.1.lt
          clear hst3 HSK2 HDS3
          go_wp2_with fail
          refine (HW.out).mono ?_
          rintro e w4 ⟨hg4, hx⟩
          cases hwh : wholeP ds with
          | none =>
            have HF : Hid (arrayP (d + 1) s = none) := Lib.hid (by rw [HF1.out, hwh]; rfl)
            rw [hwh] at hx
            obtain ⟨x, rfl⟩ := hx
            have HB4 := Lib.hid (Below.trans HB3.out (Below.mono hg4 (Nat.le_of_lt hg3)))
            clear hg4 hwh HW HF1
            go_wp2
            go_ret
            exact RdP.no HF.out HB4.out
          | some sh =>
            have HF : Hid (arrayP (d + 1) s = shapedP (arrayP d) sh (r.drop 3)) := Lib.hid (by rw [HF1.out, hwh]; rfl)
            rw [hwh] at hx
            obtain ⟨AS, cS, rfl, hnew⟩ := hx
            have HB4 := Lib.hid (Below.trans HB3.out (Below.mono hg4 (Nat.le_of_lt hg3)))
            have hshl : sh.length ≤ 1100000 := by
              have h0 := whole_len hwh
              have := HMN.out
              omega
            obtain ⟨q, hqq⟩ : ∃ q, sh.length = q := ⟨_, rfl⟩
            have HRD4 : Rd g w3.heap.size ns (r.drop 3) w4 := ⟨v, HST3.out.1.grow hg4, (HPK.out.2.1.kept (by omega) HST3.out.2).grow hg4, hg3, hg4.size, fun b hb => by have := HPK.out.2.2 b hb; have := HST3.out.2.size; omega⟩
            have HC := Lib.hid (HSHP.out w3.heap.size (r.drop 3) AS q cS sh w4 HRD4 hqq (by omega) (hnew.keep fun b hb => ⟨hb.1, rfl⟩) (by omega) (by omega) (HL3.out.below (Below.mono hg4 (Nat.le_of_lt hg3))))
            simp only [hqq]
            clear hg4 hwh HW HF1 hnew HRD4 hqq hshl
            go_wp2_with fail
            refine (HC.out).mono ?_
            rintro e w5 hp
            obtain ⟨β, rfl⟩ := hp.val
            have HP := Lib.hid (hp.after HB4.out)
            clear hp
            go_wp2
            go_ret
            rw [HF.out]
            exact HP.out
/-- what array comes to, at every depth -/
theorem array_any : ∀ (d : Nat) (depth : Int), depth + (d : Int) = 17 → 0 ≤ depth → ArrC d depth
  | 0, depth, h, _ => array_zero depth (by omega)
  | d + 1, depth, h, h0 => array_succ d depth h0 (by omega) (array_any d (depth + 1) (by omega) (by omega))
end Go.Proofs.YteoogioanjkacaaGreatDoor
namespace Go.Proofs.YteoogioanjkacaaGreatDoor
set_option maxRecDepth 20000
open Go.RowKit Go.Lib
set_option linter.unusedVariables false
set_option linter.unusedSimpArgs false
/-- how long a notation may be -/
def wtN (m : Nd) : Nat := 360 + 30 * (m.ints.length + m.decs.length)
def wtL : List Nd → Nat
  | [] => 0
  | m :: l => wtN m + wtL l
theorem wtL_app (a b : List Nd) : wtL (a ++ b) = wtL a + wtL b := by
  induction a with
  | nil => simp [wtL]
  | cons m l ih => simp only [List.cons_append, wtL, ih]; omega
theorem head_len {m : Nd} (h : Wr m) : (headT m).length ≤ 355 := by
  obtain ⟨w1, w2, _⟩ := h.parts
  unfold headT
  split
  · split <;> simp
  · have := Num.ints_len w2
    unfold shpT
    rw [List.length_append, List.length_cons, List.length_cons, List.length_cons, List.length_nil]
    omega
theorem leaf_len {m : Nd} (h : Wr m) : (leafT m).length ≤ 2 + 30 * (m.ints.length + m.decs.length) := by
  obtain ⟨_, _, w3, w4⟩ := h.parts
  unfold leafT
  split
  · rename_i h3
    obtain ⟨_, hfill⟩ := ok_right h.1.ok
    obtain ⟨hz, _, _⟩ := sign_all hfill h3
    rw [quoteT hz]
    have := Quo.qT_le (Quo.natsZ m.ints)
    rw [Quo.nats_len] at this
    simp only [List.length_cons, List.length_append, List.length_nil]
    omega
  · split
    · simp only [List.length_cons, List.length_nil]; omega
    · unfold numsT
      split
      · have := Num.decs_len (fun d hd => (w4 d hd).1); omega
      · have := Num.ints_len w3; omega
theorem cat_len {d : Nat} (hf : ∀ l s, par d l = some s → (∀ m ∈ l.take s.n, Wr m) → (noteF d l).length + 2 ≤ wtL (l.take s.n)) :
    ∀ {c : Nat} {l : List Nd} {t : St}, parK (par d) c l = some t → (∀ m ∈ l.take t.n, Wr m) → (catN (par d) (noteF d) c l).length ≤ wtL (l.take t.n)
  | 0, l, t, h, _ => by simp [catN]
  | c + 1, l, t, h, hW => by
    obtain ⟨a, b, ha, hb, rfl⟩ := parK_some h
    have hab : l.take (a.plus b).n = l.take a.n ++ (l.drop a.n).take b.n := take_app_part
    rw [hab] at hW ⊢
    have h1 := cat_len hf ha (fun m hm => hW m (List.mem_append_left _ hm))
    have h2 := hf _ _ hb (fun m hm => hW m (List.mem_append_right _ hm))
    rw [catN_succ ha, wtL_app]
    simp only [List.length_append, List.length_cons, List.length_nil]
    omega
theorem note_len : ∀ {d : Nat} {l : List Nd} {s : St}, par d l = some s → (∀ m ∈ l.take s.n, Wr m) → (noteF d l).length + 2 ≤ wtL (l.take s.n)
  | 0, l, s, h, _ => by cases h
  | d + 1, l, s, h, hW => by
    obtain ⟨e, n, l', t, he, rfl, hn, ht, rfl⟩ := par_parts h
    obtain rfl : d = e := by omega
    have htk : (n :: l').take (top n t).n = n :: l'.take t.n := rfl
    rw [htk] at hW ⊢
    have hWn := hW n (by simp)
    have h1 := head_len hWn
    have e0 : noteF (d + 1) (n :: l') = headT n ++ (if n.kind = 5 then catN (par d) (noteF d) (kc n) l' else leafT n) := noteF_cons d n l'
    rw [e0, List.length_append]
    show _ ≤ wtN n + wtL (l'.take t.n)
    unfold wtN
    split
    · have h2 := cat_len (fun l s h hW => note_len h hW) ht (fun m hm => hW m (by simp [hm]))
      omega
    · have h2 := leaf_len hWn
      omega
theorem wtL_le {l : List Nd} (h : Slim l) : wtL l ≤ l.length * 6000360 := by
  induction l with
  | nil => simp [wtL]
  | cons m l ih =>
    have h1 := h m (by simp)
    have h2 := ih (fun n hn => h n (by simp [hn]))
    simp only [wtL, wtN, List.length_cons]
    omega
theorem tight_wr {a : List Nd} (hr : rightA a = true) (hf : Fine a) (ht : formA a = a) (hs : Slim a) : ∀ m ∈ a, Wr m := fun m hm => ⟨tight_tid hr hf ht m hm, (hs m hm).1, (hs m hm).2⟩
theorem noteA_len {a : List Nd} (hr : rightA a = true) (hf : Fine a) (ht : formA a = a) (hs : Slim a) : (noteA a).length + 2 ≤ wtL a := by
  obtain ⟨s, hs'⟩ := right_some hr
  obtain ⟨h1, _, h3⟩ := whl_some hs'
  have e : a.take s.n = a := List.take_of_length_le (by omega)
  have := note_len h1 (by rw [e]; exact tight_wr hr hf ht hs)
  rw [e] at this
  exact this

set_option maxHeartbeats 6400000 in
theorem ptext_any (A : Option Addr) (n c : Nat) (ns : List Nd) (w : World) (hn : ns.length = n) (hnc : n ≤ c) (hf : Fine ns) (hs : Slim ns) (hns : Nodes w w.heap.size A ns) (hL : LaidN w) :
    Calls Tryz.prog 13 #[.slice A n c] w fun e w' => e = .returned (.string ⟨(noteT ns).toArray⟩) ∧ Grow w w' := by
  have hnb : n ≤ 1100000 := by have := hf.1; omega
  have hwi : (ws ns).i ≤ 1099999 := by
    unfold ws
    cases hq : whlD ns with
    | none => simp [st0]
    | some s => have := (whl_some hq).2.1; simp only [Option.getD_some]; omega
  have HC := Lib.hid (tright_any A n c ns w hn hnc hf hwi hns)
  have HNS := Lib.hid hns
  have HN := Lib.hid hn
  have HL := Lib.hid hL
  have HFS := Lib.hid (show Fine ns ∧ Slim ns from ⟨hf, hs⟩)
  by_cases ht : rightA ns = true ∧ formA ns = ns
  · have hb : (rightA ns && decide (ns = formA ns)) = true := by rw [ht.1, ht.2]; simp
    have HF : Hid (noteT ns = noteA ns) := Lib.hid (by unfold noteT; rw [if_pos ht])
    obtain ⟨s, hs'⟩ := right_some ht.1
    obtain ⟨q1, _, q3⟩ := whl_some hs'
    have etk : ns.take s.n = ns := List.take_of_length_le (by omega)
    have hW : ∀ m ∈ ns.take s.n, Wr m := by rw [etk]; exact tight_wr ht.1 hf ht.2 hs
    have hlen : (noteF 16 ns).length ≤ 140737488355328 := by
      have h1 := noteA_len ht.1 hf ht.2 hs
      have h2 := wtL_le hs
      have h3 : ns.length * 6000360 ≤ 1100000 * 6000360 := Nat.mul_le_mul (by omega) (Nat.le_refl _)
      unfold noteA at h1
      omega
    have HWR := Lib.hid (fun (B b : Nat) W (h1 : Nodes W B A ns) (h2 : Bld B b [] W) h3 (h4 : LaidG B W) => pwrite_any 16 B b [] A n c ns s W q1 hW hn hnb hnc h1 h2 h3 (by simpa using hlen) h4)
    have HNE := Lib.hid (note_ne ht.1 hf ht.2)
    rw [hb] at HC
    clear hn hf hs hns hL ht hb hs' q1 q3 etk hW hlen hwi
    go_enter Tryz.func13, Tryz.ntmps13
    go_wp2_with fail
    refine (HC.out).mono ?_
    rintro e w1 ⟨rfl, hg1⟩
    obtain ⟨B, hB⟩ : ∃ B, w1.heap.size = B := ⟨_, rfl⟩
    have hbn := bld_new w1
    rw [hB] at hbn
    have hgn := grow_new w1 (.cells #[.pointer none, .slice none 0 0] 59)
    have HB2 := Lib.hid hbn
    have HG2 := Lib.hid (hg1.trans hgn)
    have HBE := Lib.hid hB
    have hwB : w.heap.size ≤ B := by rw [← hB]; exact hg1.size
    have HN2 : Hid (Nodes (w1.alloc (.cells #[.pointer none, .slice none 0 0] 59)) B A ns) := Lib.hid ((HNS.out.below HG2.out).more hwB)
    have HL2 : Hid (LaidG B (w1.alloc (.cells #[.pointer none, .slice none 0 0] 59))) := Lib.hid ⟨w, HL.out, hwB, HG2.out⟩
    have HS2 : Hid (B ≤ (w1.alloc (.cells #[.pointer none, .slice none 0 0] 59)).heap.size) := Lib.hid (by rw [← hB]; exact hgn.size)
    clear hg1 hbn hgn hB HC HNS HL
    go_wp2_with fail
    rw [HBE.out]
    generalize w1.alloc (.cells #[.pointer none, .slice none 0 0] 59) = w2 at HB2 HG2 HN2 HL2 HS2 ⊢
    refine (HWR.out B B w2 HN2.out HB2.out HS2.out HL2.out).mono ?_
    rintro e w3 ⟨A', n', c', rfl, _, _, _, hb3, hB3⟩
    have HST := Lib.hid (build_any B B ([] ++ noteF 16 ns) w3 hb3 (by rw [List.nil_append]; exact HNE.out))
    have HG3 : Hid (Grow w w3) := Lib.hid (Below.trans HG2.out (Below.mono hB3 hwB))
    clear hb3 hB3 HWR
    go_wp2_with fail
    refine (HST.out).mono ?_
    rintro e w4 ⟨rfl, hB4⟩
    have HG4 : Hid (Grow w w4) := Lib.hid (Below.trans HG3.out (Below.mono hB4 hwB))
    clear hB4
    go_wp2
    go_ret
    exact ⟨by rw [HF.out]; rfl, HG4.out⟩
  · have hb : (rightA ns && decide (ns = formA ns)) = false := by
      rw [Bool.and_eq_false_iff]
      by_cases h1 : rightA ns = true
      · exact .inr (by rw [decide_eq_false_iff_not]; exact fun e => ht ⟨h1, e.symm⟩)
      · exact .inl (by simpa using h1)
    have HF : Hid (noteT ns = []) := Lib.hid (by unfold noteT; rw [if_neg ht])
    rw [hb] at HC
    clear hn hf hs hns hL ht hb hwi
    go_enter Tryz.func13, Tryz.ntmps13
    go_wp2_with fail
    refine (HC.out).mono ?_
    rintro e w1 ⟨rfl, hg1⟩
    have HG1 := Lib.hid hg1
    clear hg1
    go_wp2
    go_ret
    exact ⟨by rw [HF.out]; rfl, HG1.out⟩
end Go.Proofs.YteoogioanjkacaaGreatDoor
namespace Go.Proofs.YteoogioanjkacaaGreatDoor
set_option maxRecDepth 20000
open Go.RowKit Go.Lib
set_option linter.unusedVariables false
set_option linter.unusedSimpArgs false
/-- what Parse answers: new memory -/
def ParP (o : Option (List Nd)) (w : World) (e : Ending) (w' : World) : Prop :=
  Grow w w' ∧ match o with
    | none => e = .returned (.tuple #[.slice none 0 0, .bool false])
    | some a => ∃ A c, e = .returned (.tuple #[.slice A a.length c, .bool true]) ∧ a.length ≤ c ∧ NodesT (fun b => w.heap.size ≤ b ∧ b < w'.heap.size) w' A a
set_option maxHeartbeats 6400000 in
theorem pparse_any (s : List UInt8) (hl : s.length ≤ 100000) (w : World) (hL : LaidN w) :
    Calls Tryz.prog 11 #[.string ⟨s.toArray⟩] w (ParP (parseN s) w) := by
  rw [← parseP_is hl]
  obtain ⟨g, hg⟩ : ∃ g, w.heap.size = g := ⟨_, rfl⟩
  have HGE := Lib.hid hg
  have hat0 : AtR g (.slice none 0 0) s (w.alloc (.cells #[.slice none 0 0, .string ⟨s.toArray⟩] 52)) := by rw [← hg]; exact boxed_new _ _ _ _
  have hgn := grow_new w (.cells #[.slice none 0 0, .string ⟨s.toArray⟩] 52)
  have hsz : (w.alloc (.cells #[.slice none 0 0, .string ⟨s.toArray⟩] 52)).heap.size = g + 1 := by rw [← hg]; simp
  have hrd : Rd g (g + 1) [] s (w.alloc (.cells #[.slice none 0 0, .string ⟨s.toArray⟩] 52)) := ⟨_, hat0, ownRN_nil (by rw [hsz]; exact Nat.le_refl _), by omega, by rw [hsz]; exact Nat.le_refl _, fun b hb => by cases hb⟩
  have HA := Lib.hid (array_any 16 1 (by decide) (by decide) g (g + 1) [] s _ hrd hl (by simp; omega) ⟨w, hL, by rw [hg]; exact Nat.le_refl _, hgn⟩)
  have HG1 := Lib.hid hgn
  have HL := Lib.hid hL
  have HM : Hid (parseP s = (arrayP 16 s).bind fun p => if noteT p.1 = s then some p.1 else none) := Lib.hid rfl
  have HFI := Lib.hid (fun (p : List Nd × List UInt8) (h : arrayP 16 s = some p) => (show Fine p.1 ∧ Slim p.1 from ⟨array_fine hl h, array_slim hl h⟩))
  obtain ⟨S, hS⟩ : ∃ S, (⟨s.toArray⟩ : ByteArray) = S := ⟨_, rfl⟩
  have HSS := Lib.hid hS
  rw [hS] at HA HG1 ⊢
  clear hat0 hgn hsz hrd hL hS
  go_enter Tryz.func11, Tryz.ntmps11
  go_wp2_with fail
  generalize w.alloc (.cells #[.slice none 0 0, .string S] 52) = w1 at HA HG1 ⊢
  clear hg
  refine (HA.out).mono ?_
  rintro e w2 ⟨hb2, hx⟩
  have HG2 : Hid (Grow w w2) := Lib.hid (Below.trans HG1.out (by rw [HGE.out]; exact hb2))
  clear hb2 HA
  cases ha : arrayP 16 s with
  | none =>
    rw [ha] at hx
    simp only at hx
    subst hx
    have HF : Hid (parseP s = none) := Lib.hid (by rw [HM.out, ha]; rfl)
    clear ha HFI
    go_wp2
    go_ret2
    exact ⟨HG2.out, by rw [HF.out]; rfl⟩
  | some p =>
    obtain ⟨hfi, hsl⟩ := HFI.out p ha
    rw [ha] at hx
    simp only [List.nil_append] at hx
    obtain ⟨rfl, z, hrd⟩ := hx
    obtain ⟨v, hat, ho, hz, hzw, hvz⟩ := hrd
    obtain ⟨A, c, rfl, hac, hns⟩ := ho.nodes
    have HT := Lib.hid (ptext_any A p.1.length c p.1 w2 rfl hac hfi hsl hns.nodes (HL.out.grow HG2.out))
    have HAT := Lib.hid hat
    have HNS := Lib.hid hns
    have HGS : Hid (w.heap.size ≤ g + 1) := Lib.hid (by rw [HGE.out]; omega)
    have hc := Boxed.fst hat
    have HM2 : Hid (parseP s = if noteT p.1 = s then some p.1 else none) := Lib.hid (by rw [HM.out, ha]; rfl)
    obtain ⟨a, haa⟩ : ∃ a, p.1 = a := ⟨_, rfl⟩
    rw [haa] at HT HNS hc HM2 hac HAT
    clear ha HFI HM hat ho hz hzw hvz hns hfi hsl haa
    obtain ⟨n, hn⟩ : ∃ n, a.length = n := ⟨_, rfl⟩
    have HN := Lib.hid hn
    rw [hn] at HT hc hac HAT
    clear hn
    go_wp2_with fail
    refine (HT.out).mono ?_
    rintro e w3 ⟨rfl, hg3⟩
    have HG3 := Lib.hid (HG2.out.trans hg3)
    have HNS3 : Hid (NodesT (fun b => w.heap.size ≤ b ∧ b < w3.heap.size) w3 A a) := Lib.hid (HNS.out.keep fun b hb => ⟨⟨by have := HGS.out; have := HGE.out; omega, Nat.lt_of_lt_of_le hb.2 hg3.size⟩, hg3.block b hb.2⟩)
    have hc3 := Boxed.fst (HAT.out.grow hg3)
    have hST : S.toList = s := by rw [← HSS.out, Lib.toList_data]
    clear hg3 HNS HT hc HAT
    by_cases hq : noteT a = s
    · have hqb : (noteT a == S.toList) = true := by rw [hST, hq]; simp
      have HF : Hid (parseP s = some a) := Lib.hid (by rw [HM2.out, if_pos hq])
      clear hq hST HM2
      go_wp2
      go_ret2
      exact ⟨HG3.out, by rw [HF.out]; exact ⟨A, c, by rw [HN.out]; rfl, by rw [HN.out]; exact hac, HNS3.out⟩⟩
    · have hqb : (noteT a == S.toList) = false := by rw [hST, beq_eq_false_iff_ne]; exact hq
      have HF : Hid (parseP s = none) := Lib.hid (by rw [HM2.out, if_neg hq])
      clear hq hST HM2 hc3
      go_wp2
      go_ret2
      exact ⟨HG3.out, by rw [HF.out]; rfl⟩
end Go.Proofs.YteoogioanjkacaaGreatDoor
namespace Go.Proofs.YteoogioanjkacaaGreatDoor
set_option maxRecDepth 100000
open Go.RowKit Go.Lib
set_option linter.unusedSimpArgs false
set_option linter.unusedVariables false
def abN : Nd := ⟨3, [2], [97, 98], []⟩
def rowN : List Nd := [⟨5, [2], [], []⟩, abN, ⟨2, [], [3], []⟩]
def chN : List Nd := [⟨3, [0, 2], [], []⟩]
def inN : List Nd := [⟨5, [], [], []⟩, abN]
def deN : List Nd := [⟨4, [], [], [(-15, -1)]⟩]
theorem q1 : parseN [50, 226, 141, 180, 40, 50, 226, 141, 180, 39, 97, 98, 39, 41, 40, 51, 41] = some rowN := by kernel_rfl
theorem q2 : parseN [48, 32, 50, 226, 141, 180, 39, 39] = some chN := by kernel_rfl
theorem q3 : parseN [50, 226, 141, 180, 40, 49, 41, 40, 51, 41] = none := by kernel_rfl
theorem q4 : parseN [49, 226, 141, 180, 51, 32, 52] = none := by kernel_rfl
theorem q5 : parseN [51, 32, 52] = none := by kernel_rfl
theorem q6 : parseN [226, 138, 130, 40, 50, 226, 141, 180, 39, 97, 98, 39, 41] = some inN := by kernel_rfl
theorem q7 : parseN [194, 175, 49, 53, 69, 194, 175, 49] = some deN := by kernel_rfl
theorem q8 : parseN [226, 138, 130, 40, 51, 41] = none := by kernel_rfl
theorem q9 : noteT rowN = [50, 226, 141, 180, 40, 50, 226, 141, 180, 39, 97, 98, 39, 41, 40, 51, 41] := by kernel_rfl
theorem q10 : noteT [⟨2, [0], [], []⟩] = [48, 226, 141, 180, 48] := by kernel_rfl
theorem q11 : noteT [⟨2, [], [1], []⟩] = [] := by kernel_rfl
theorem q12 : noteT [⟨3, [], [97], []⟩] = [39, 97, 39] := by kernel_rfl

/-- nodes that may be handed to Text, so far as a look tells -/
def inB64 (x : Int) : Bool := decide (-9223372036854775808 ≤ x) && decide (x ≤ 9223372036854775807)
def fitB (n : Nd) : Bool := inB64 n.kind && (decide (n.shp.length ≤ 100000) && (decide (n.ints.length ≤ 100000) && (decide (n.decs.length ≤ 100000) && (n.decs.all (fun x => inB64 x.1 && inB64 x.2) && n.ints.all inB64))))
theorem inB_in {x : Int} (h : inB64 x = true) : In x := by
  simp only [inB64, Bool.and_eq_true, decide_eq_true_eq] at h
  exact ⟨by omega, by omega⟩
theorem good_of {ns : List Nd} (hl : ns.length ≤ 1100000) (h : ns.all fitB = true) : Fine ns ∧ Slim ns := by
  rw [List.all_eq_true] at h
  have key : ∀ n ∈ ns, Fit n ∧ (∀ x ∈ n.ints, In x) ∧ n.ints.length ≤ 100000 ∧ n.decs.length ≤ 100000 := fun n hn => by
    have k := h n hn
    simp only [fitB, Bool.and_eq_true, decide_eq_true_eq, List.all_eq_true] at k
    obtain ⟨k1, k2, k3, k4, k5, k6⟩ := k
    exact ⟨⟨inB_in k1, by omega, by omega, by omega, fun x hx => ⟨inB_in (k5 x hx).1, inB_in (k5 x hx).2⟩⟩, fun x hx => inB_in (k6 x hx), k3, k4⟩
  exact ⟨⟨hl, fun n hn => (key n hn).1, fun n hn => (key n hn).2.1⟩, fun n hn => (key n hn).2.2⟩
theorem g1 : Fine rowN ∧ Slim rowN := good_of (by decide) (by decide)
theorem g2 : Fine [⟨2, [0], [], []⟩] ∧ Slim [⟨2, [0], [], []⟩] := good_of (by decide) (by decide)
theorem g3 : Fine [⟨2, [], [1], []⟩] ∧ Slim [⟨2, [], [1], []⟩] := good_of (by decide) (by decide)
theorem g4 : Fine [⟨3, [], [97], []⟩] ∧ Slim [⟨3, [], [97], []⟩] := good_of (by decide) (by decide)
theorem g5 : Fine chN ∧ Slim chN := good_of (by decide) (by decide)
theorem g6 : Fine inN ∧ Slim inN := good_of (by decide) (by decide)
theorem g7 : Fine deN ∧ Slim deN := good_of (by decide) (by decide)

theorem raw1 {w : World} {B : Nat} {A1 A2 A3 : Option Addr} {l1 c1 l2 c2 l3 c3 : Nat} {k : Int} {n : Nd} (hk : n.kind = k) (h1 : n.shp.length = l1) (h2 : n.ints.length = l2) (h3 : n.decs.length = l3) (h : IsNd w B A1 A2 A3 n) :
    RawN w B [.int .i64 k, .slice A1 l1 c1, .slice A2 l2 c2, .slice A3 l3 c3] [n] := by
  subst hk h1 h2 h3
  refine ⟨rfl, fun i hi => ?_⟩
  obtain rfl : i = 0 := by simpa using hi
  exact ⟨A1, c1, A2, c2, A3, c3, rfl, rfl, rfl, rfl, h⟩
theorem lit_nodes {w : World} {vals : List Value} {ns : List Nd} (h : RawN w w.heap.size vals ns) : Nodes (w.alloc (.cells vals.toArray 34)) (w.alloc (.cells vals.toArray 34)).heap.size (some ⟨w.heap.size, 0, none⟩) ns := fun hp => by
  have hg := grow_new w (.cells vals.toArray 34)
  have hn := heap_alloc_new w (.cells vals.toArray 34)
  refine ⟨w.heap.size, 0, rfl, by simp, fun i hi => ?_⟩
  obtain ⟨A1, c1, A2, c2, A3, c3, h0, h1, h2, h3, h4⟩ := h.2 i hi
  have cell : ∀ j v, vals[j]? = some v → (w.alloc (.cells vals.toArray 34)).cell? ⟨w.heap.size, j, none⟩ = some v := fun j v hv => by
    rw [cell_of_row _ w.heap.size j _ _ (0, 0) hn, List.getElem?_toArray]
    exact hv
  rw [Nat.zero_add]
  exact ⟨A1, c1, A2, c2, A3, c3, cell _ _ h0, cell _ _ h1, cell _ _ h2, cell _ _ h3, h4.grow hg⟩
theorem lit3 {w : World} {n1 n2 n3 : Nd} (u1 u2 u3 : List Value) (h1 : RawN w w.heap.size u1 [n1]) (h2 : RawN w w.heap.size u2 [n2]) (h3 : RawN w w.heap.size u3 [n3]) :
    Nodes (w.alloc (.cells (u1 ++ (u2 ++ u3)).toArray 34)) (w.alloc (.cells (u1 ++ (u2 ++ u3)).toArray 34)).heap.size (some ⟨w.heap.size, 0, none⟩) [n1, n2, n3] := lit_nodes (h1.app (h2.app h3))
theorem lit2 {w : World} {n1 n2 : Nd} (u1 u2 : List Value) (h1 : RawN w w.heap.size u1 [n1]) (h2 : RawN w w.heap.size u2 [n2]) :
    Nodes (w.alloc (.cells (u1 ++ u2).toArray 34)) (w.alloc (.cells (u1 ++ u2).toArray 34)).heap.size (some ⟨w.heap.size, 0, none⟩) [n1, n2] := lit_nodes (h1.app h2)

theorem parse_yes {s : List UInt8} {a : List Nd} (h : parseN s = some a) {n : Nat} (hn : a.length = n) (hl : s.length ≤ 100000) {S : ByteArray} (hS : S = ⟨s.toArray⟩) (w : World) (hL : LaidN w) :
    Calls Tryz.prog 11 #[.string S] w fun e w' => Grow w w' ∧ ∃ A c, e = .returned (.tuple #[.slice A n c, .bool true]) ∧ n ≤ c ∧ Nodes w' w'.heap.size A a := by
  subst hS
  refine (pparse_any s hl w hL).mono ?_
  rintro e w' ⟨hg, hx⟩
  rw [h] at hx
  obtain ⟨A, c, rfl, hc, hns⟩ := hx
  rw [hn] at hc ⊢
  exact ⟨hg, A, c, rfl, hc, hns.nodes⟩
theorem parse_no {s : List UInt8} (h : parseN s = none) (hl : s.length ≤ 100000) {S : ByteArray} (hS : S = ⟨s.toArray⟩) (w : World) (hL : LaidN w) :
    Calls Tryz.prog 11 #[.string S] w fun e w' => e = .returned (.tuple #[.slice none 0 0, .bool false]) ∧ Grow w w' := by
  subst hS
  refine (pparse_any s hl w hL).mono ?_
  rintro e w' ⟨hg, hx⟩
  rw [h] at hx
  exact ⟨hx, hg⟩
theorem text_says {ns : List Nd} {t : List UInt8} (h : noteT ns = t) {S : ByteArray} (hS : S = ⟨t.toArray⟩) (A : Option Addr) (n c : Nat) (w : World) (hn : ns.length = n) (hnc : n ≤ c) (hg : Fine ns ∧ Slim ns) (hns : Nodes w w.heap.size A ns) (hL : LaidN w) :
    Calls Tryz.prog 13 #[.slice A n c] w fun e w' => e = .returned (.string S) ∧ Grow w w' := by
  subst hS h
  exact ptext_any A n c ns w hn hnc hg.1 hg.2 hns hL
theorem rsame_says {xs ys : List Nd} (h : decide (xs = ys) = true) (A A' : Option Addr) (n n' cap cap' : Nat) (w : World) (hn : xs.length = n) (hn' : ys.length = n') (hf : Fine xs) (hf' : Fine ys) (hr : Nodes w w.heap.size A xs) (hr' : Nodes w w.heap.size A' ys) :
    Calls Tryz.prog 15 #[.slice A n cap, .slice A' n' cap'] w fun e w' => e = .returned (.bool true) ∧ Grow w w' := by
  have := rsameN_any A A' n n' cap cap' xs ys w hn hn' (by have := hf.1; omega) (by have := hf'.1; omega) hf.2.1 hf'.2.1 hr hr'
  rw [h] at this
  exact this
end Go.Proofs.YteoogioanjkacaaGreatDoor
namespace Go.Proofs.YteoogioanjkacaaGreatDoor
set_option maxRecDepth 20000
open Go.RowKit Go.Lib
set_option linter.unusedSimpArgs false
set_option linter.unusedVariables false
set_option maxHeartbeats 25600000 in
theorem small_any (w : World) (hL : LaidN w) : Calls Tryz.prog 9 #[] w (Says true w) := by
  obtain ⟨z, hz⟩ : ∃ z, w.heap.size = z := ⟨_, rfl⟩
  let w1 := w.alloc (.cells #[.int .i64 2] 3)
  let w2 := w1.alloc (.cells #[.int .i64 97, .int .i64 98] 3)
  let w3 := w2.alloc (.cells #[.int .i64 3, .slice (some ⟨z, 0, none⟩) 1 1, .slice (some ⟨z + 1, 0, none⟩) 2 2, .slice none 0 0] 34)
  let w4 := w3.alloc (.cells #[.int .i64 3] 3)
  let w5 := w4.alloc (.cells #[.int .i64 2, .slice none 0 0, .slice (some ⟨z + 3, 0, none⟩) 1 1, .slice none 0 0] 34)
  let w6 := w5.alloc (.cells #[.int .i64 2] 3)
  let w7 := w6.alloc (.cells #[.int .i64 5, .slice (some ⟨z + 5, 0, none⟩) 1 1, .slice none 0 0, .slice none 0 0, .int .i64 3, .slice (some ⟨z, 0, none⟩) 1 1, .slice (some ⟨z + 1, 0, none⟩) 2 2, .slice none 0 0, .int .i64 2, .slice none 0 0, .slice (some ⟨z + 3, 0, none⟩) 1 1, .slice none 0 0] 34)
  have hs1 : w1.heap.size = z + 1 := by simp [w1, hz]
  have hs2 : w2.heap.size = z + 2 := by simp [w2, w1, hz]
  have hs3 : w3.heap.size = z + 3 := by simp [w3, w2, w1, hz]
  have hs4 : w4.heap.size = z + 4 := by simp [w4, w3, w2, w1, hz]
  have hs5 : w5.heap.size = z + 5 := by simp [w5, w4, w3, w2, w1, hz]
  have hs6 : w6.heap.size = z + 6 := by simp [w6, w5, w4, w3, w2, w1, hz]
  have g1 : Grow w w1 := grow_new _ _
  have g2 : Grow w1 w2 := grow_new _ _
  have g3 : Grow w2 w3 := grow_new _ _
  have g4 : Grow w3 w4 := grow_new _ _
  have g5 : Grow w4 w5 := grow_new _ _
  have g6 : Grow w5 w6 := grow_new _ _
  have g7 : Grow w6 w7 := grow_new _ _
  have HAB : Hid (BoxN w7 (z + 2) 3 (some ⟨z, 0, none⟩) 1 1 (some ⟨z + 1, 0, none⟩) 2 2 none 0 0) := Lib.hid (by
    have h := boxN_new w2 3 (some ⟨z, 0, none⟩) 1 1 (some ⟨z + 1, 0, none⟩) 2 2 none 0 0
    rw [hs2] at h
    exact (((BoxN.grow h g4).grow g5).grow g6).grow g7)
  have i1 : IsNd w3 w3.heap.size (some ⟨z, 0, none⟩) (some ⟨z + 1, 0, none⟩) none abN := by
    have h := nums_lit w [2]
    rw [hz] at h
    have h2 := nums_lit w1 [97, 98]
    rw [hs1] at h2
    exact ⟨(Nums.grow (Nums.grow h g2) g3), Nums.grow h2 g3, Decs.none_⟩
  have i2 : IsNd w5 w5.heap.size none (some ⟨z + 3, 0, none⟩) none ⟨2, [], [3], []⟩ := by
    have h := nums_lit w3 [3]
    rw [hs3] at h
    exact ⟨Nums.none_, Nums.grow h g5, Decs.none_⟩
  have i3 : IsNd w6 w6.heap.size (some ⟨z + 5, 0, none⟩) none none ⟨5, [2], [], []⟩ := by
    have h := nums_lit w5 [2]
    rw [hs5] at h
    exact ⟨h, Nums.none_, Decs.none_⟩
  have i1' : IsNd w6 w6.heap.size (some ⟨z, 0, none⟩) (some ⟨z + 1, 0, none⟩) none abN := ((i1.grow g4).grow g5).grow g6
  have HABN : Hid (IsNd w7 w7.heap.size (some ⟨z, 0, none⟩) (some ⟨z + 1, 0, none⟩) none abN) := Lib.hid (i1'.grow g7)
  have HROW : Hid (Nodes w7 w7.heap.size (some ⟨z + 6, 0, none⟩) rowN) := Lib.hid (by
    have h := lit3 (w := w6) (n1 := ⟨5, [2], [], []⟩) (n2 := abN) (n3 := ⟨2, [], [3], []⟩) [.int .i64 5, .slice (some ⟨z + 5, 0, none⟩) 1 1, .slice none 0 0, .slice none 0 0] [.int .i64 3, .slice (some ⟨z, 0, none⟩) 1 1, .slice (some ⟨z + 1, 0, none⟩) 2 2, .slice none 0 0] [.int .i64 2, .slice none 0 0, .slice (some ⟨z + 3, 0, none⟩) 1 1, .slice none 0 0] (raw1 rfl rfl rfl rfl i3) (raw1 rfl rfl rfl rfl i1') (raw1 rfl rfl rfl rfl (i2.grow g6))
    rw [hs6] at h
    exact h)
  have HG := Lib.hid ((((((g1.trans g2).trans g3).trans g4).trans g5).trans g6).trans g7)
  have HL := Lib.hid hL
  clear g1 g2 g3 g4 g5 g6 g7 hs1 hs2 hs3 hs4 hs5 hs6 i1 i2 i3 i1' hL
  go_enter Tryz.func9, Tryz.ntmps9
  go_upto_region 4 with fail
  obtain ⟨v3, hv3⟩ : ∃ v3, v3 = w7 := ⟨_, rfl⟩
  rw [← hv3] at HAB HABN HROW HG
  change Code.wp _ _ _ _ w7
  rw [← hv3]
  clear hv3
  clear hz w7 w6 w5 w4 w3 w2 w1
  go_wp2_with fail
  refine (parse_yes q1 (n := 3) rfl (by decide) rfl _ (HL.out.grow HG.out)).mono ?_
  rintro e v4 ⟨hg, A4, c4, rfl, hc4, hn4⟩
  replace HAB := Lib.hid (HAB.out.grow hg)
  replace HABN := Lib.hid (HABN.out.grow hg)
  replace HROW := Lib.hid (HROW.out.grow hg)
  replace HG := Lib.hid (HG.out.trans hg)
  have HN4 := Lib.hid hn4
  clear hn4
  clear hg
  go_wp2_with fail
  refine (parse_yes q2 (n := 1) rfl (by decide) rfl _ (HL.out.grow HG.out)).mono ?_
  rintro e v5 ⟨hg, A5, c5, rfl, hc5, hn5⟩
  replace HAB := Lib.hid (HAB.out.grow hg)
  replace HABN := Lib.hid (HABN.out.grow hg)
  replace HROW := Lib.hid (HROW.out.grow hg)
  replace HN4 := Lib.hid (HN4.out.grow hg)
  replace HG := Lib.hid (HG.out.trans hg)
  have HN5 := Lib.hid hn5
  clear hn5
  clear hg
  go_wp2_with fail
  refine (parse_no q3 (by decide) rfl _ (HL.out.grow HG.out)).mono ?_
  rintro e v6 ⟨rfl, hg⟩
  replace HAB := Lib.hid (HAB.out.grow hg)
  replace HABN := Lib.hid (HABN.out.grow hg)
  replace HROW := Lib.hid (HROW.out.grow hg)
  replace HN4 := Lib.hid (HN4.out.grow hg)
  replace HN5 := Lib.hid (HN5.out.grow hg)
  replace HG := Lib.hid (HG.out.trans hg)
  clear hg
  go_wp2_with fail
  refine (parse_no q4 (by decide) rfl _ (HL.out.grow HG.out)).mono ?_
  rintro e v7 ⟨rfl, hg⟩
  replace HAB := Lib.hid (HAB.out.grow hg)
  replace HABN := Lib.hid (HABN.out.grow hg)
  replace HROW := Lib.hid (HROW.out.grow hg)
  replace HN4 := Lib.hid (HN4.out.grow hg)
  replace HN5 := Lib.hid (HN5.out.grow hg)
  replace HG := Lib.hid (HG.out.trans hg)
  clear hg
  go_wp2_with fail
  refine (parse_no q5 (by decide) rfl _ (HL.out.grow HG.out)).mono ?_
  rintro e v8 ⟨rfl, hg⟩
  replace HAB := Lib.hid (HAB.out.grow hg)
  replace HABN := Lib.hid (HABN.out.grow hg)
  replace HROW := Lib.hid (HROW.out.grow hg)
  replace HN4 := Lib.hid (HN4.out.grow hg)
  replace HN5 := Lib.hid (HN5.out.grow hg)
  replace HG := Lib.hid (HG.out.trans hg)
  clear hg
  go_wp2_with fail
  refine (parse_yes q6 (n := 2) rfl (by decide) rfl _ (HL.out.grow HG.out)).mono ?_
  rintro e v9 ⟨hg, A9, c9, rfl, hc9, hn9⟩
  replace HAB := Lib.hid (HAB.out.grow hg)
  replace HABN := Lib.hid (HABN.out.grow hg)
  replace HROW := Lib.hid (HROW.out.grow hg)
  replace HN4 := Lib.hid (HN4.out.grow hg)
  replace HN5 := Lib.hid (HN5.out.grow hg)
  replace HG := Lib.hid (HG.out.trans hg)
  have HN9 := Lib.hid hn9
  clear hn9
  clear hg
  go_wp2_with fail
  refine (parse_yes q7 (n := 1) rfl (by decide) rfl _ (HL.out.grow HG.out)).mono ?_
  rintro e v10 ⟨hg, A10, c10, rfl, hc10, hn10⟩
  replace HAB := Lib.hid (HAB.out.grow hg)
  replace HABN := Lib.hid (HABN.out.grow hg)
  replace HROW := Lib.hid (HROW.out.grow hg)
  replace HN4 := Lib.hid (HN4.out.grow hg)
  replace HN5 := Lib.hid (HN5.out.grow hg)
  replace HN9 := Lib.hid (HN9.out.grow hg)
  replace HG := Lib.hid (HG.out.trans hg)
  have HN10 := Lib.hid hn10
  clear hn10
  clear hg
  go_wp2_with fail
  refine (parse_no empty_none (by decide) rfl _ (HL.out.grow HG.out)).mono ?_
  rintro e v11 ⟨rfl, hg⟩
  replace HAB := Lib.hid (HAB.out.grow hg)
  replace HABN := Lib.hid (HABN.out.grow hg)
  replace HROW := Lib.hid (HROW.out.grow hg)
  replace HN4 := Lib.hid (HN4.out.grow hg)
  replace HN5 := Lib.hid (HN5.out.grow hg)
  replace HN9 := Lib.hid (HN9.out.grow hg)
  replace HN10 := Lib.hid (HN10.out.grow hg)
  replace HG := Lib.hid (HG.out.trans hg)
  clear hg
  go_wp2_with fail
  refine (parse_no q8 (by decide) rfl _ (HL.out.grow HG.out)).mono ?_
  rintro e v12 ⟨rfl, hg⟩
  replace HAB := Lib.hid (HAB.out.grow hg)
  replace HABN := Lib.hid (HABN.out.grow hg)
  replace HROW := Lib.hid (HROW.out.grow hg)
  replace HN4 := Lib.hid (HN4.out.grow hg)
  replace HN5 := Lib.hid (HN5.out.grow hg)
  replace HN9 := Lib.hid (HN9.out.grow hg)
  replace HN10 := Lib.hid (HN10.out.grow hg)
  replace HG := Lib.hid (HG.out.trans hg)
  clear hg
  go_wp2_with fail
  refine (text_says q9 rfl _ 3 3 _ rfl (Nat.le_refl _) g1 HROW.out (HL.out.grow HG.out)).mono ?_
  rintro e v13 ⟨rfl, hg⟩
  replace HAB := Lib.hid (HAB.out.grow hg)
  replace HABN := Lib.hid (HABN.out.grow hg)
  replace HROW := Lib.hid (HROW.out.grow hg)
  replace HN4 := Lib.hid (HN4.out.grow hg)
  replace HN5 := Lib.hid (HN5.out.grow hg)
  replace HN9 := Lib.hid (HN9.out.grow hg)
  replace HN10 := Lib.hid (HN10.out.grow hg)
  replace HG := Lib.hid (HG.out.trans hg)
  clear hg
  go_wp2_with fail
  refine (rsame_says (xs := rowN) (ys := rowN) (by decide) _ _ 3 3 _ _ _ rfl rfl g1.1 g1.1 HN4.out HROW.out).mono ?_
  rintro e v14 ⟨rfl, hg⟩
  replace HAB := Lib.hid (HAB.out.grow hg)
  replace HABN := Lib.hid (HABN.out.grow hg)
  replace HROW := Lib.hid (HROW.out.grow hg)
  replace HN4 := Lib.hid (HN4.out.grow hg)
  replace HN5 := Lib.hid (HN5.out.grow hg)
  replace HN9 := Lib.hid (HN9.out.grow hg)
  replace HN10 := Lib.hid (HN10.out.grow hg)
  replace HG := Lib.hid (HG.out.trans hg)
  clear hg
  obtain ⟨y14, hy⟩ : ∃ y14, v14.heap.size = y14 := ⟨_, rfl⟩
  have hsz1 : (v14.alloc (.cells #[.int .i64 0, .int .i64 2] 3)).heap.size = y14 + 1 := by simp [hy]
  have h1 := nums_lit v14 [0, 2]
  rw [hy] at h1
  have hb : Nodes ((v14.alloc (.cells #[.int .i64 0, .int .i64 2] 3)).alloc (.cells #[.int .i64 3, .slice (some ⟨y14, 0, none⟩) 2 2, .slice none 0 0, .slice none 0 0] 34)) ((v14.alloc (.cells #[.int .i64 0, .int .i64 2] 3)).alloc (.cells #[.int .i64 3, .slice (some ⟨y14, 0, none⟩) 2 2, .slice none 0 0, .slice none 0 0] 34)).heap.size (some ⟨y14 + 1, 0, none⟩) chN := by
    have h := node_lit (v14.alloc (.cells #[.int .i64 0, .int .i64 2] 3)) 3 (some ⟨y14, 0, none⟩) 2 2 none 0 0 none 0 0 ⟨3, [0, 2], [], []⟩ rfl rfl rfl rfl ⟨h1, Nums.none_, Decs.none_⟩
    rw [hsz1] at h
    exact h
  have HB := Lib.hid hb
  have hgb : Grow v14 ((v14.alloc (.cells #[.int .i64 0, .int .i64 2] 3)).alloc (.cells #[.int .i64 3, .slice (some ⟨y14, 0, none⟩) 2 2, .slice none 0 0, .slice none 0 0] 34)) := grow_new2 _ _ _
  replace HAB := Lib.hid (HAB.out.grow hgb)
  replace HABN := Lib.hid (HABN.out.grow hgb)
  replace HROW := Lib.hid (HROW.out.grow hgb)
  replace HN4 := Lib.hid (HN4.out.grow hgb)
  replace HN5 := Lib.hid (HN5.out.grow hgb)
  replace HN9 := Lib.hid (HN9.out.grow hgb)
  replace HN10 := Lib.hid (HN10.out.grow hgb)
  replace HG := Lib.hid (HG.out.trans hgb)
  clear hgb
  clear hsz1 hb
  go_wp2_with fail
  refine (rsame_says (xs := chN) (ys := chN) (by decide) _ _ 1 1 _ _ _ rfl rfl g5.1 g5.1 HN5.out HB.out).mono ?_
  rintro e v15 ⟨rfl, hg⟩
  replace HAB := Lib.hid (HAB.out.grow hg)
  replace HABN := Lib.hid (HABN.out.grow hg)
  replace HROW := Lib.hid (HROW.out.grow hg)
  replace HN4 := Lib.hid (HN4.out.grow hg)
  replace HN5 := Lib.hid (HN5.out.grow hg)
  replace HN9 := Lib.hid (HN9.out.grow hg)
  replace HN10 := Lib.hid (HN10.out.grow hg)
  replace HG := Lib.hid (HG.out.trans hg)
  clear hg
  have ha0 := HAB.out.at0
  have ha1 := HAB.out.at1
  have ha2 := HAB.out.at2
  have ha3 := HAB.out.at3
  obtain ⟨y15, hy⟩ : ∃ y15, v15.heap.size = y15 := ⟨_, rfl⟩
  have hb : Nodes (v15.alloc (.cells #[.int .i64 5, .slice none 0 0, .slice none 0 0, .slice none 0 0, .int .i64 3, .slice (some ⟨z, 0, none⟩) 1 1, .slice (some ⟨z + 1, 0, none⟩) 2 2, .slice none 0 0] 34)) (v15.alloc (.cells #[.int .i64 5, .slice none 0 0, .slice none 0 0, .slice none 0 0, .int .i64 3, .slice (some ⟨z, 0, none⟩) 1 1, .slice (some ⟨z + 1, 0, none⟩) 2 2, .slice none 0 0] 34)).heap.size (some ⟨y15, 0, none⟩) inN := by
    have h := lit2 (w := v15) (n1 := ⟨5, [], [], []⟩) (n2 := abN) [.int .i64 5, .slice none 0 0, .slice none 0 0, .slice none 0 0] [.int .i64 3, .slice (some ⟨z, 0, none⟩) 1 1, .slice (some ⟨z + 1, 0, none⟩) 2 2, .slice none 0 0] (raw1 rfl rfl rfl rfl ⟨Nums.none_, Nums.none_, Decs.none_⟩) (raw1 rfl rfl rfl rfl HABN.out)
    rw [hy] at h
    exact h
  have HB := Lib.hid hb
  have hgb : Grow v15 (v15.alloc (.cells #[.int .i64 5, .slice none 0 0, .slice none 0 0, .slice none 0 0, .int .i64 3, .slice (some ⟨z, 0, none⟩) 1 1, .slice (some ⟨z + 1, 0, none⟩) 2 2, .slice none 0 0] 34)) := grow_new _ _
  replace HAB := Lib.hid (HAB.out.grow hgb)
  replace HABN := Lib.hid (HABN.out.grow hgb)
  replace HROW := Lib.hid (HROW.out.grow hgb)
  replace HN4 := Lib.hid (HN4.out.grow hgb)
  replace HN5 := Lib.hid (HN5.out.grow hgb)
  replace HN9 := Lib.hid (HN9.out.grow hgb)
  replace HN10 := Lib.hid (HN10.out.grow hgb)
  replace HG := Lib.hid (HG.out.trans hgb)
  clear hgb
  clear hb
  go_wp2_with fail
  refine (rsame_says (xs := inN) (ys := inN) (by decide) _ _ 2 2 _ _ _ rfl rfl g6.1 g6.1 HN9.out HB.out).mono ?_
  rintro e v16 ⟨rfl, hg⟩
  replace HAB := Lib.hid (HAB.out.grow hg)
  replace HABN := Lib.hid (HABN.out.grow hg)
  replace HROW := Lib.hid (HROW.out.grow hg)
  replace HN4 := Lib.hid (HN4.out.grow hg)
  replace HN5 := Lib.hid (HN5.out.grow hg)
  replace HN9 := Lib.hid (HN9.out.grow hg)
  replace HN10 := Lib.hid (HN10.out.grow hg)
  replace HG := Lib.hid (HG.out.trans hg)
  clear hg
  clear ha0 ha1 ha2 ha3
  obtain ⟨y16, hy⟩ : ∃ y16, v16.heap.size = y16 := ⟨_, rfl⟩
  have hsz1 : (v16.alloc (.cells #[.int .i64 (-15), .int .i64 (-1)] 41)).heap.size = y16 + 1 := by simp [hy]
  have h1 := decs_lit v16 [(-15, -1)]
  rw [hy] at h1
  have hb : Nodes ((v16.alloc (.cells #[.int .i64 (-15), .int .i64 (-1)] 41)).alloc (.cells #[.int .i64 4, .slice none 0 0, .slice none 0 0, .slice (some ⟨y16, 0, none⟩) 1 1] 34)) ((v16.alloc (.cells #[.int .i64 (-15), .int .i64 (-1)] 41)).alloc (.cells #[.int .i64 4, .slice none 0 0, .slice none 0 0, .slice (some ⟨y16, 0, none⟩) 1 1] 34)).heap.size (some ⟨y16 + 1, 0, none⟩) deN := by
    have h := node_lit (v16.alloc (.cells #[.int .i64 (-15), .int .i64 (-1)] 41)) 4 none 0 0 none 0 0 (some ⟨y16, 0, none⟩) 1 1 ⟨4, [], [], [(-15, -1)]⟩ rfl rfl rfl rfl ⟨Nums.none_, Nums.none_, h1⟩
    rw [hsz1] at h
    exact h
  have HB := Lib.hid hb
  have hgb : Grow v16 ((v16.alloc (.cells #[.int .i64 (-15), .int .i64 (-1)] 41)).alloc (.cells #[.int .i64 4, .slice none 0 0, .slice none 0 0, .slice (some ⟨y16, 0, none⟩) 1 1] 34)) := grow_new2 _ _ _
  replace HAB := Lib.hid (HAB.out.grow hgb)
  replace HABN := Lib.hid (HABN.out.grow hgb)
  replace HROW := Lib.hid (HROW.out.grow hgb)
  replace HN4 := Lib.hid (HN4.out.grow hgb)
  replace HN5 := Lib.hid (HN5.out.grow hgb)
  replace HN9 := Lib.hid (HN9.out.grow hgb)
  replace HN10 := Lib.hid (HN10.out.grow hgb)
  replace HG := Lib.hid (HG.out.trans hgb)
  clear hgb
  clear hsz1 hb
  go_wp2_with fail
  refine (rsame_says (xs := deN) (ys := deN) (by decide) _ _ 1 1 _ _ _ rfl rfl g7.1 g7.1 HN10.out HB.out).mono ?_
  rintro e v17 ⟨rfl, hg⟩
  replace HAB := Lib.hid (HAB.out.grow hg)
  replace HABN := Lib.hid (HABN.out.grow hg)
  replace HROW := Lib.hid (HROW.out.grow hg)
  replace HN4 := Lib.hid (HN4.out.grow hg)
  replace HN5 := Lib.hid (HN5.out.grow hg)
  replace HN9 := Lib.hid (HN9.out.grow hg)
  replace HN10 := Lib.hid (HN10.out.grow hg)
  replace HG := Lib.hid (HG.out.trans hg)
  clear hg
  obtain ⟨y17, hy⟩ : ∃ y17, v17.heap.size = y17 := ⟨_, rfl⟩
  have hsz1 : (v17.alloc (.cells #[.int .i64 0] 3)).heap.size = y17 + 1 := by simp [hy]
  have h1 := nums_lit v17 [0]
  rw [hy] at h1
  have hb : Nodes ((v17.alloc (.cells #[.int .i64 0] 3)).alloc (.cells #[.int .i64 2, .slice (some ⟨y17, 0, none⟩) 1 1, .slice none 0 0, .slice none 0 0] 34)) ((v17.alloc (.cells #[.int .i64 0] 3)).alloc (.cells #[.int .i64 2, .slice (some ⟨y17, 0, none⟩) 1 1, .slice none 0 0, .slice none 0 0] 34)).heap.size (some ⟨y17 + 1, 0, none⟩) [⟨2, [0], [], []⟩] := by
    have h := node_lit (v17.alloc (.cells #[.int .i64 0] 3)) 2 (some ⟨y17, 0, none⟩) 1 1 none 0 0 none 0 0 ⟨2, [0], [], []⟩ rfl rfl rfl rfl ⟨h1, Nums.none_, Decs.none_⟩
    rw [hsz1] at h
    exact h
  have HB := Lib.hid hb
  have hgb : Grow v17 ((v17.alloc (.cells #[.int .i64 0] 3)).alloc (.cells #[.int .i64 2, .slice (some ⟨y17, 0, none⟩) 1 1, .slice none 0 0, .slice none 0 0] 34)) := grow_new2 _ _ _
  replace HAB := Lib.hid (HAB.out.grow hgb)
  replace HABN := Lib.hid (HABN.out.grow hgb)
  replace HROW := Lib.hid (HROW.out.grow hgb)
  replace HN4 := Lib.hid (HN4.out.grow hgb)
  replace HN5 := Lib.hid (HN5.out.grow hgb)
  replace HN9 := Lib.hid (HN9.out.grow hgb)
  replace HN10 := Lib.hid (HN10.out.grow hgb)
  replace HG := Lib.hid (HG.out.trans hgb)
  clear hgb
  clear hsz1 hb
  go_wp2_with fail
  refine (text_says q10 rfl _ 1 1 _ rfl (Nat.le_refl _) g2 HB.out (HL.out.grow HG.out)).mono ?_
  rintro e v18 ⟨rfl, hg⟩
  replace HAB := Lib.hid (HAB.out.grow hg)
  replace HABN := Lib.hid (HABN.out.grow hg)
  replace HROW := Lib.hid (HROW.out.grow hg)
  replace HN4 := Lib.hid (HN4.out.grow hg)
  replace HN5 := Lib.hid (HN5.out.grow hg)
  replace HN9 := Lib.hid (HN9.out.grow hg)
  replace HN10 := Lib.hid (HN10.out.grow hg)
  replace HG := Lib.hid (HG.out.trans hg)
  clear hg
  obtain ⟨y18, hy⟩ : ∃ y18, v18.heap.size = y18 := ⟨_, rfl⟩
  have hsz1 : (v18.alloc (.cells #[.int .i64 1] 3)).heap.size = y18 + 1 := by simp [hy]
  have h1 := nums_lit v18 [1]
  rw [hy] at h1
  have hb : Nodes ((v18.alloc (.cells #[.int .i64 1] 3)).alloc (.cells #[.int .i64 2, .slice none 0 0, .slice (some ⟨y18, 0, none⟩) 1 1, .slice none 0 0] 34)) ((v18.alloc (.cells #[.int .i64 1] 3)).alloc (.cells #[.int .i64 2, .slice none 0 0, .slice (some ⟨y18, 0, none⟩) 1 1, .slice none 0 0] 34)).heap.size (some ⟨y18 + 1, 0, none⟩) [⟨2, [], [1], []⟩] := by
    have h := node_lit (v18.alloc (.cells #[.int .i64 1] 3)) 2 none 0 0 (some ⟨y18, 0, none⟩) 1 1 none 0 0 ⟨2, [], [1], []⟩ rfl rfl rfl rfl ⟨Nums.none_, h1, Decs.none_⟩
    rw [hsz1] at h
    exact h
  have HB := Lib.hid hb
  have hgb : Grow v18 ((v18.alloc (.cells #[.int .i64 1] 3)).alloc (.cells #[.int .i64 2, .slice none 0 0, .slice (some ⟨y18, 0, none⟩) 1 1, .slice none 0 0] 34)) := grow_new2 _ _ _
  replace HAB := Lib.hid (HAB.out.grow hgb)
  replace HABN := Lib.hid (HABN.out.grow hgb)
  replace HROW := Lib.hid (HROW.out.grow hgb)
  replace HN4 := Lib.hid (HN4.out.grow hgb)
  replace HN5 := Lib.hid (HN5.out.grow hgb)
  replace HN9 := Lib.hid (HN9.out.grow hgb)
  replace HN10 := Lib.hid (HN10.out.grow hgb)
  replace HG := Lib.hid (HG.out.trans hgb)
  clear hgb
  clear hsz1 hb
  go_wp2_with fail
  refine (text_says q11 rfl _ 1 1 _ rfl (Nat.le_refl _) g3 HB.out (HL.out.grow HG.out)).mono ?_
  rintro e v19 ⟨rfl, hg⟩
  replace HAB := Lib.hid (HAB.out.grow hg)
  replace HABN := Lib.hid (HABN.out.grow hg)
  replace HROW := Lib.hid (HROW.out.grow hg)
  replace HN4 := Lib.hid (HN4.out.grow hg)
  replace HN5 := Lib.hid (HN5.out.grow hg)
  replace HN9 := Lib.hid (HN9.out.grow hg)
  replace HN10 := Lib.hid (HN10.out.grow hg)
  replace HG := Lib.hid (HG.out.trans hg)
  clear hg
  obtain ⟨y19, hy⟩ : ∃ y19, v19.heap.size = y19 := ⟨_, rfl⟩
  have hsz1 : (v19.alloc (.cells #[.int .i64 97] 3)).heap.size = y19 + 1 := by simp [hy]
  have h1 := nums_lit v19 [97]
  rw [hy] at h1
  have hb : Nodes ((v19.alloc (.cells #[.int .i64 97] 3)).alloc (.cells #[.int .i64 3, .slice none 0 0, .slice (some ⟨y19, 0, none⟩) 1 1, .slice none 0 0] 34)) ((v19.alloc (.cells #[.int .i64 97] 3)).alloc (.cells #[.int .i64 3, .slice none 0 0, .slice (some ⟨y19, 0, none⟩) 1 1, .slice none 0 0] 34)).heap.size (some ⟨y19 + 1, 0, none⟩) [⟨3, [], [97], []⟩] := by
    have h := node_lit (v19.alloc (.cells #[.int .i64 97] 3)) 3 none 0 0 (some ⟨y19, 0, none⟩) 1 1 none 0 0 ⟨3, [], [97], []⟩ rfl rfl rfl rfl ⟨Nums.none_, h1, Decs.none_⟩
    rw [hsz1] at h
    exact h
  have HB := Lib.hid hb
  have hgb : Grow v19 ((v19.alloc (.cells #[.int .i64 97] 3)).alloc (.cells #[.int .i64 3, .slice none 0 0, .slice (some ⟨y19, 0, none⟩) 1 1, .slice none 0 0] 34)) := grow_new2 _ _ _
  replace HAB := Lib.hid (HAB.out.grow hgb)
  replace HABN := Lib.hid (HABN.out.grow hgb)
  replace HROW := Lib.hid (HROW.out.grow hgb)
  replace HN4 := Lib.hid (HN4.out.grow hgb)
  replace HN5 := Lib.hid (HN5.out.grow hgb)
  replace HN9 := Lib.hid (HN9.out.grow hgb)
  replace HN10 := Lib.hid (HN10.out.grow hgb)
  replace HG := Lib.hid (HG.out.trans hgb)
  clear hgb
  clear hsz1 hb
  go_wp2_with fail
  refine (text_says q12 rfl _ 1 1 _ rfl (Nat.le_refl _) g4 HB.out (HL.out.grow HG.out)).mono ?_
  rintro e v20 ⟨rfl, hg⟩
  replace HAB := Lib.hid (HAB.out.grow hg)
  replace HABN := Lib.hid (HABN.out.grow hg)
  replace HROW := Lib.hid (HROW.out.grow hg)
  replace HN4 := Lib.hid (HN4.out.grow hg)
  replace HN5 := Lib.hid (HN5.out.grow hg)
  replace HN9 := Lib.hid (HN9.out.grow hg)
  replace HN10 := Lib.hid (HN10.out.grow hg)
  replace HG := Lib.hid (HG.out.trans hg)
  clear hg
  go_wp2
  go_ret
  exact ⟨rfl, HG.out⟩
end Go.Proofs.YteoogioanjkacaaGreatDoor
namespace Go.Proofs.YteoogioanjkacaaGreatDoor
set_option maxRecDepth 20000
open Go.RowKit Go.Lib
set_option linter.unusedSimpArgs false
set_option linter.unusedVariables false
theorem ws_few (a : List Nd) : (ws a).i ≤ 1099999 := Nat.le_trans (ws_le a) (by decide)
theorem text_eq {a b : List UInt8} {S : ByteArray} (hS : (⟨b.toArray⟩ : ByteArray) = S) (h : a = b) : (a == S.toList) = true := by
  subst h
  rw [← hS, Lib.toList_data]
  simp

end Go.Proofs.YteoogioanjkacaaGreatDoor
namespace Go.Proofs.YteoogioanjkacaaGreatDoor
set_option maxRecDepth 20000
open Go.RowKit Go.Lib
set_option linter.unusedSimpArgs false
set_option linter.unusedVariables false
theorem few_slim {ns : List Nd} (h : fewB ns = true) : Slim ns := fun n hn => by
  have hl := few_len h
  simp only [fewB, Bool.and_eq_true, decide_eq_true_eq] at h
  rw [List.take_of_length_le (by omega)] at h
  have h1 := List.all_eq_true.1 h.1 n hn
  simp only [okF, Bool.and_eq_true, decide_eq_true_eq] at h1
  omega
theorem few_fine {w : World} {a : Option Addr} {len cap : Nat} {ns : List Nd} (h : IsNodes w a len cap ns) (hf : fewB ns = true) : Fine ns ∧ Slim ns ∧ len ≤ 100 := by
  have hl := few_len hf
  exact ⟨⟨by omega, few_fits h hf, fun n hn => (h.2.2.2.2 n hn).2.2.2.2.2⟩, few_slim hf, by have := h.1; omega⟩
theorem wtL_tot (ns : List Nd) : wtL ns = 360 * ns.length + 30 * tot ns := by
  induction ns with
  | nil => rfl
  | cons m l ih => simp only [wtL, wtN, tot, List.length_cons, ih]; omega
theorem few_text {ns : List Nd} (h : fewB ns = true) (hf : Fine ns) (hr : rightA ns = true) (ht : formA ns = ns) : (noteA ns).length ≤ 100000 := by
  have h1 := noteA_len hr hf ht (few_slim h)
  rw [wtL_tot] at h1
  have hl := few_len h
  simp only [fewB, Bool.and_eq_true, decide_eq_true_eq] at h
  rw [List.take_of_length_le (by omega)] at h
  omega
theorem tight_yes {ns : List Nd} (h : rightA ns = true ∧ formA ns = ns) : (rightA ns && decide (ns = formA ns)) = true := by rw [h.1, h.2]; simp
theorem tight_no {ns : List Nd} (h : ¬ (rightA ns = true ∧ formA ns = ns)) : (rightA ns && decide (ns = formA ns)) = false := by
  rw [Bool.and_eq_false_iff]
  by_cases h1 : rightA ns = true
  · exact .inr (by rw [decide_eq_false_iff_not]; exact fun e => h ⟨h1, e.symm⟩)
  · exact .inl (by simpa using h1)

end Go.Proofs.YteoogioanjkacaaGreatDoor
namespace Go.Proofs.YteoogioanjkacaaGreatDoor
set_option maxRecDepth 20000
open Go.RowKit Go.Lib
set_option linter.unusedSimpArgs false
set_option linter.unusedVariables false
theorem take_any (A : Option Addr) (n c : Nat) (ns : List Nd) (w : World) (hn : ns.length = n) (hnb : n ≤ 1100000) (hf : Fits ns) (hns : Nodes w w.heap.size A ns) :
    Calls Tryz.prog 35 #[.slice A n c] w (Ret (.int .i64 ((fs ns).n : Nat)) w) := by
  have HC := Lib.hid (first_any A n c ns w hn hnb hf hns)
  clear hn hf hns
  generalize fs ns = s at *
  generalize (fstD ns).isSome = β at *
  obtain ⟨p, q, u, v⟩ := s
  try dsimp only
  go_enter Tryz.func35, Tryz.ntmps35
  go_wp2_with fail
  refine (HC.out).mono ?_
  rintro x w2 ⟨rfl, hg⟩
  have HG := Lib.hid (hg.trans (grow_new w2 (.cells #[.int .i64 (p : Nat), .int .i64 (q : Nat), .int .i64 (u : Nat), .int .i64 (v : Nat)] 101)))
  clear hg HC
  go_wp2
  go_ret
  exact ⟨rfl, HG.out⟩

set_option maxHeartbeats 3200000 in
theorem kids_any (A : Option Addr) (n c : Nat) (ns : List Nd) (w : World) (hn : ns.length = n) (hnb : n ≤ 1100000) (hnc : n ≤ c) (hf : Fits ns) (hns : Nodes w w.heap.size A ns) :
    Calls Tryz.prog 17 #[.slice A n c] w (KidsP (kidsA ns) w) := by
  have HR := Lib.hid (aright_any A n c ns w hn hnb hf hns)
  have HN := Lib.hid hn
  have HF := Lib.hid hf
  have HNS := Lib.hid hns
  clear hn hf hns
  cases hr : rightA ns with
  | false =>
    have HK : Hid (kidsA ns = []) := Lib.hid (by unfold kidsA; rw [hr]; rfl)
    rw [hr] at HR
    clear hr
    go_enter Tryz.func17, Tryz.ntmps17
    go_wp2_with fail
    refine (HR.out).mono ?_
    rintro e w1 ⟨rfl, hg1⟩
    go_wp2
    go_ret
    exact ⟨none, 0, by rw [HK.out]; rfl, fun _ => rfl, by rw [HK.out]; exact Nat.le_refl _, by rw [HK.out]; exact KidsAt.none_, hg1⟩
  | true =>
    obtain ⟨hne, hky⟩ := right_kidsy hr
    have hpos : 1 ≤ n := by rw [← HN.out]; exact List.length_pos_iff.2 hne
    have HK : Hid (kidsA ns = kd (ns.drop 1)) := Lib.hid (by unfold kidsA; rw [hr]; rfl)
    rw [hr] at HR
    have HKY := Lib.hid hky
    clear hr hne hky
    have hc1 : ∀ W : World, (Instr.slice 22 (.slice A n c) (some (.int .i64 1)) none none).run Tryz.prog W = .ok (.slice (cutA A c 1) (n - 1) (c - 1)) W := fun W => run_cut_lo A n c 1 hpos W
    obtain ⟨A1, hA1⟩ : ∃ A1, cutA A c 1 = A1 := ⟨_, rfl⟩
    rw [hA1] at hc1
    have HN1 := Lib.hid (show Nodes w w.heap.size A1 (ns.drop 1) by rw [← hA1]; exact HNS.out.cut c 1 (by rw [HN.out]; exact hnc))
    clear hA1
    go_enter Tryz.func17, Tryz.ntmps17
    go_wp2_with fail
    refine (HR.out).mono ?_
    rintro e w1 ⟨rfl, hg1⟩
    have HG1 := Lib.hid hg1
    clear hg1 HR
    go_wp2
    clear hc1
    go_loopg [3, 4] (n - 1) (fun gk s3 s4 wr => ∃ (v : Value) (dn : List (List Nd)) (l : List Nd) (AL : Option Addr) (nl cl : Nat), v = s3 ∧ s4 = .slice AL nl cl ∧ nl = gk ∧ nl ≤ n ∧ nl ≤ cl ∧ Hid (l.length = nl) ∧ Hid (dn.length + nl ≤ n) ∧ Hid (Kidsy l) ∧ Hid (Fits l) ∧
      Hid (kd (ns.drop 1) = dn ++ kd l) ∧ Hid (Nodes w w.heap.size AL l) ∧ Hid (OwnK w.heap.size v dn wr) ∧ Hid (Grow w wr))
    case atStart =>
      refine ⟨_, [], ns.drop 1, A1, n - 1, c - 1, rfl, rfl, rfl, by omega, by omega, Lib.hid (by rw [List.length_drop, HN.out]), Lib.hid (by simp), HKY, Lib.hid (HF.out.drop 1), Lib.hid rfl, HN1, Lib.hid (ownK_nil _ _), HG1⟩
    case round =>
      obtain ⟨v, dn, l, AL, nl, cl, rfl, rfl, rfl, hnl, hcl, HL, HDN, HKL, HFL, HKE, HNL, HO, HGR⟩ := hrel
      by_cases h0 : nl = 0
      · subst h0
        have HE : Hid (kd (ns.drop 1) = dn) := Lib.hid (by rw [HKE.out, List.eq_nil_of_length_eq_zero HL.out, kd_nil, List.append_nil])
        go_wp2
        go_ret
        obtain ⟨A', c', hv, h1, h2, h3⟩ := HO.out.kids
        exact ⟨A', c', by rw [HK.out, HE.out, ← hv]; rfl, h1, by rw [HK.out, HE.out]; exact h2, by rw [HK.out, HE.out]; exact h3, HGR.out⟩
      · have hln : l ≠ [] := fun e => h0 (by rw [← HL.out, e]; rfl)
        have hpi : (0 : Int) < ((nl : Nat) : Int) := by omega
        obtain ⟨s, hp15, hfs, hta, hs1, hsl, hky⟩ := HKL.out.step hln
        rw [HL.out] at hsl
        have HT := Lib.hid (take_any AL nl cl l wr HL.out (by omega) HFL.out (HNL.out.grow HGR.out))
        rw [fs_some hfs] at HT
        have HKS := Lib.hid (kd_step hln (by rw [hta]; omega))
        rw [hta] at HKS
        have HKD := Lib.hid hky
        obtain ⟨z, hz⟩ : ∃ z, s.n = z := ⟨_, rfl⟩
        rw [hz] at HT HKS HKD hs1 hsl
        have hc1 := run_cut_hi AL nl cl z (by omega)
        have hc2 := run_cut_lo AL nl cl z hsl
        obtain ⟨A2, hA2⟩ : ∃ A2, cutA AL cl z = A2 := ⟨_, rfl⟩
        rw [hA2] at hc2
        have HN2 := Lib.hid (show Nodes w w.heap.size A2 (l.drop z) by rw [← hA2]; exact HNL.out.cut cl z (by rw [HL.out]; exact hcl))
        have HTL : Hid ((l.take z).length = z) := Lib.hid (by rw [List.length_take, HL.out]; omega)
        have HC := Lib.hid (fun W h => copy_any AL z cl (l.take z) W HTL.out (by omega) (HFL.out.take z) h)
        clear hA2 hky hp15 hfs hta hz hln
        go_wp2_with fail
        refine (HT.out).mono ?_
        rintro e w2 ⟨rfl, hg2⟩
        have HG2 := Lib.hid (HGR.out.trans hg2)
        have HO2 := Lib.hid (HO.out.grow hg2)
        clear hg2 HT HO
        go_wp2_with fail
        refine (HC.out _ ((HNL.out.take z).grow HG2.out)).mono ?_
        rintro e w3 ⟨rfl, hcp, hg3⟩
        have HG3 := Lib.hid (HG2.out.trans hg3)
        have HO3 := Lib.hid (HO2.out.grow hg3)
        have HCP := Lib.hid hcp
        have HZ3 := Lib.hid (HG2.out.size)
        have HOL := Lib.hid (show ∀ k, v.ownBlock = some k → k < w2.heap.size by obtain ⟨vals, ho, _⟩ := HO2.out; exact fun k hk => (ho.lt k hk).2)
        clear hg3 hcp HC HO2
        have HG4 := Lib.hid (grow_new w3 (.cells #[.slice (some ⟨w2.heap.size, 0, none⟩) z z] 22))
        have HO4 := Lib.hid (HO3.out.grow HG4.out)
        have HCELL : Hid ((w3.alloc (.cells #[.slice (some ⟨w2.heap.size, 0, none⟩) z z] 22)).cell? ⟨w3.heap.size, 0, none⟩ = some (.slice (some ⟨w2.heap.size, 0, none⟩) (l.take z).length z)) := Lib.hid (by rw [HTL.out, World.cell?_alloc_new]; rfl)
        have HKID := Lib.hid (((HCP.out.grow HG4.out).nodesT).keep (T' := fun b => w.heap.size ≤ b ∧ v.ownBlock ≠ some b ∧ b < (w3.alloc (.cells #[.slice (some ⟨w2.heap.size, 0, none⟩) z z] 22)).heap.size) (fun b hb => ⟨⟨Nat.le_trans HZ3.out hb.1, fun e => by have := HOL.out b e; omega, hb.2⟩, rfl⟩))
        have HB4 := Lib.hid (Nat.le_trans HG3.out.size HG4.out.size)
        have hdn : dn.length ≤ 1100000 := by have := HDN.out; omega
        have HGA := Lib.hid (HG3.out.trans HG4.out)
        go_wp2_with (at_builtin; refine wpList_append_kid rfl _ _ rfl w.heap.size v dn (l.take z) w3.heap.size (some ⟨w2.heap.size, 0, none⟩) z rfl HO4.out rfl HCELL.out (by rw [HTL.out]; exact Nat.le_refl _) HKID.out hdn HB4.out ?_; intro v' w5 HO5 HB5)
        go_roundg (nl - z)
        case rel =>
          refine ⟨v', dn ++ [l.take z], l.drop z, A2, nl - z, cl - z, rfl, rfl, rfl, by omega, by omega, Lib.hid (by rw [List.length_drop, HL.out]), Lib.hid (by have := HDN.out; rw [List.length_append]; simp only [List.length_singleton]; omega), HKD, Lib.hid (HFL.out.drop z), Lib.hid (by rw [HKE.out, HKS.out]; simp), HN2, HO5, Lib.hid (Below.trans HGA.out HB5.out)⟩
        case measure => omega
end Go.Proofs.YteoogioanjkacaaGreatDoor
namespace Go.Proofs.YteoogioanjkacaaGreatDoor
set_option maxRecDepth 20000
open Go.RowKit Go.Lib
set_option linter.unusedSimpArgs false
set_option linter.unusedVariables false
def valsR (x : Nd) : List (Int × Int) := x.decs ++ x.ints.map ofD
end Go.Proofs.YteoogioanjkacaaGreatDoor
