/-
  Owns, KindOf, Signs, Numbers, one behind the other.
-/
import Derived.Test.YtcljpcbgokgcdaaRCopy
import Derived.Test.YtcljpcbgokgcdaaTightA
section
/-
  Numbers of one's own, whole ones and exact ones, behind which any others are laid. Nothing is claimed here by itself.
-/
namespace Go.Proofs.Ytcljpcbgokgcdaa
open Go.RowKit Go.Lib
set_option linter.unusedSimpArgs false
set_option linter.unusedVariables false

theorem run_append_empty (t ty e : TypeId) (i : TypeInfo) (ht : Try.prog.underlying t = some (.slice e)) (hi : Try.prog.info? e = some i) (w : World) (B size n : Nat) (v : Value) (xs : List Value)
    (hv : w.ownsRow B e size v n xs) (A : Option Addr) (c : Nat) :
    (Builtin.append_ #[t, t] ty #[v, .slice A 0 c]).run Try.prog w = .ok v w := by
  rcases hv.2 with ⟨rfl, rfl⟩ | ⟨g, cap, cur, rfl, _, _, hnc, _⟩
  · cases A <;> simp [Builtin.append_, run_underlying ht, sizeOf, typeInfo, hi, Builtin.lenOf, Builtin.firstCells, loadCells, loadCellsFrom, storeCells]
  · cases A <;> simp [Builtin.append_, run_underlying ht, sizeOf, typeInfo, hi, Builtin.lenOf, Builtin.firstCells, loadCells, loadCellsFrom, storeCells, hnc]
/-- nothing but the row itself has turned, and the new row is it, or new -/
def Apart (v v' : Value) (w w' : World) : Prop := (∀ b, b < w.heap.size → v.ownBlock ≠ some b → w'.heap[b]? = w.heap[b]?) ∧ (v'.ownBlock = v.ownBlock ∨ v'.ownBlock = some w.heap.size)
theorem run_append_any (w : World) (B : Nat) (t ty e : TypeId) (i : TypeInfo) (z : Value) (size bytes : Nat) (ht : Try.prog.underlying t = some (.slice e)) (hi : Try.prog.info? e = some i) (hz : i.zero = some z)
    (hsize : i.size = size) (hby : i.bytes = bytes) (hzs : z.cells.size = size) (hsz : 0 < size) (v : Value) (n : Nat) (xs : List Value) (hown : w.ownsRow B e size v n xs)
    (A : Option Addr) (m c : Nat) (news : List Value) (hl : news.length = m * size) (hsrc : Src w A news) (h1 : Ones news) (hb : (n + m) * bytes ≤ 140737488355328) (hb2 : n + m ≤ 1000000000) (hB : B ≤ w.heap.size) :
    ∃ v' w', (Builtin.append_ #[t, t] ty #[v, .slice A m c]).run Try.prog w = .ok v' w' ∧ w'.ownsRow B e size v' (n + m) (xs ++ news) ∧ Below B w w' ∧ Apart v v' w w' := by
  by_cases h0 : m = 0
  · subst h0
    have hn0 : news = [] := List.eq_nil_of_length_eq_zero (by omega)
    subst hn0
    exact ⟨v, w, run_append_empty t ty e i ht hi w B size n v xs hown A c, by simpa using hown, Below.refl _ _, (fun _ _ _ => rfl), .inl rfl⟩
  · obtain ⟨ad, rfl, hc⟩ := hsrc (by rw [hl]; exact Nat.mul_pos (by omega) hsz)
    obtain ⟨v', w', hr, h2, h3, _, h5⟩ := run_append_own_at (P := Try.prog) w B t ty e i z size bytes ht hi hz hsize hby hzs hsz v n xs hown ad m c news hl hc h1 (by unfold maxLen; omega) hb hB
    exact ⟨v', w', hr, h2, Below.grown (Below.refl _ _) h3 hB (fun g hg => (hown.lt g hg).1), (fun b hb hne => h3.block b hb (fun e => hne e.symm)), h5⟩

/-- whole numbers of one's own, exact ones of one's own -/
def OwnI (B : Nat) (v : Value) (xs : List Int) (w : World) : Prop := w.ownsRow B 3 1 v xs.length (ivs xs)
def OwnD (B : Nat) (v : Value) (ds : List (Int × Int)) (w : World) : Prop := w.ownsRow B 42 2 v ds.length (dvs ds)
theorem ownI_nil (B : Nat) (w : World) : OwnI B (.slice none 0 0) [] w := World.ownsRow_nil _ _ _ _
theorem ownD_nil (B : Nat) (w : World) : OwnD B (.slice none 0 0) [] w := World.ownsRow_nil _ _ _ _
theorem OwnI.grow {B : Nat} {v : Value} {xs : List Int} {w w' : World} (h : OwnI B v xs w) (hg : Grow w w') : OwnI B v xs w' := ownsRow_grow h hg
theorem OwnD.grow {B : Nat} {v : Value} {ds : List (Int × Int)} {w w' : World} (h : OwnD B v ds w) (hg : Grow w w') : OwnD B v ds w' := ownsRow_grow h hg
theorem ivs_app (a b : List Int) : ivs (a ++ b) = ivs a ++ ivs b := by simp [ivs]
theorem dvs_app (a b : List (Int × Int)) : dvs (a ++ b) = dvs a ++ dvs b := by simp [dvs]
theorem own_at {w : World} {B size n : Nat} {e : TypeId} {v : Value} {xs : List Value} (h : w.ownsRow B e size v n xs) :
    ∃ A c, v = .slice A n c ∧ n ≤ c ∧ (A = none → c = 0) ∧ (0 < n → ∃ g, A = some ⟨g, 0, none⟩ ∧ B ≤ g ∧ g < w.heap.size ∧ ∀ j u, xs[j]? = some u → w.cell? ⟨g, j, none⟩ = some u) := by
  rcases h.2 with ⟨rfl, rfl⟩ | ⟨g, cap, cur, rfl, hbg, hgg, hnc, hcm, hsz, htake⟩
  · exact ⟨none, 0, rfl, Nat.le_refl _, fun _ => rfl, fun h => absurd h (Nat.lt_irrefl _)⟩
  · refine ⟨some ⟨g, 0, none⟩, cap, rfl, hnc, (fun e => by cases e), fun _ => ⟨g, rfl, hbg, heap_lt hgg, fun j u hj => ?_⟩⟩
    have hjl : j < n * size := by
      have := (List.getElem?_eq_some_iff.1 hj).1
      rw [h.1] at this
      exact this
    rw [cell_of_row w g j cur _ (0, 0) hgg, ← hj, ← htake, List.getElem?_take, if_pos hjl, Array.getElem?_toList]
theorem OwnI.new {B : Nat} {v : Value} {xs : List Int} {w : World} (h : OwnI B v xs w) : ∃ A c, v = .slice A xs.length c ∧ xs.length ≤ c ∧ NewN B A xs w := by
  obtain ⟨A, c, rfl, hc, _, hg⟩ := own_at h
  refine ⟨A, c, rfl, hc, fun hp => ?_⟩
  obtain ⟨g, rfl, h1, h2, h3⟩ := hg hp
  refine ⟨g, 0, rfl, ⟨h1, h2⟩, fun i hi => ?_⟩
  rw [Nat.zero_add]
  exact h3 i _ (by simp [ivs, hi])
theorem OwnD.new {B : Nat} {v : Value} {ds : List (Int × Int)} {w : World} (h : OwnD B v ds w) : ∃ A c, v = .slice A ds.length c ∧ ds.length ≤ c ∧ NewD B A ds w := by
  obtain ⟨A, c, rfl, hc, _, hg⟩ := own_at h
  refine ⟨A, c, rfl, hc, fun hp => ?_⟩
  obtain ⟨g, rfl, h1, h2, h3⟩ := hg hp
  refine ⟨g, 0, rfl, ⟨h1, h2⟩, fun i hi => ?_⟩
  obtain ⟨k1, k2⟩ := dvs_get ds i hi
  rw [Nat.zero_add]
  exact ⟨h3 _ _ k1, h3 _ _ k2⟩
theorem NewN.nums {B : Nat} {A : Option Addr} {xs : List Int} {w : World} (h : NewN B A xs w) : Nums .i64 w w.heap.size A xs := NumsT.nums h
theorem NewD.decs {B : Nat} {A : Option Addr} {ds : List (Int × Int)} {w : World} (h : NewD B A ds w) : Decs w w.heap.size A ds := DecsT.decs h

theorem wp_more_ints {o : Oper} {a : Act} {w : World} {K : Act → World → Prop} {Q : Exit → Act → World → Prop} (s x : Operand)
    (ho : o.op = .call { callee := .builtin .append, args := #[s, x], argTypes := #[23, 23] }) (B : Nat) (v : Value) (xs : List Int) (A : Option Addr) (m c : Nat) (ys : List Int)
    (hs : a.eval s = v) (hown : OwnI B v xs w) (hx : a.eval x = .slice A m c) (hm : ys.length = m) (hys : Nums .i64 w w.heap.size A ys) (hb : xs.length + m ≤ 1000000000) (hB : B ≤ w.heap.size)
    (h : ∀ v' w', Hid (OwnI B v' (xs ++ ys) w') → Hid (Below B w w') → Hid (Apart v v' w w') → K (a.put o.dst v') w') : o.wp Try.prog a w K Q := by
  obtain ⟨i0, hi, hz0, hz1, hz2⟩ := info_of info_int
  subst hm
  obtain ⟨v', w', hr, h2, h3, h4⟩ := run_append_any w B 23 o.type 3 i0 _ 1 8 Try.underlying23 hi hz0 hz1 hz2 rfl (by decide) v xs.length (ivs xs) hown A ys.length c (ivs ys) (ivs_len ys) (src_nums hys) (ivs_one ys) (by omega) hb hB
  unfold Oper.wp
  simp [execOp, ho, resolve, invoke, builtin, hs, hx, hr, Result.andThen]
  exact h v' w' (Lib.hid (by rw [← ivs_app] at h2; rw [← List.length_append] at h2; exact h2)) (Lib.hid h3) (Lib.hid h4)
theorem wp_more_decs {o : Oper} {a : Act} {w : World} {K : Act → World → Prop} {Q : Exit → Act → World → Prop} (s x : Operand)
    (ho : o.op = .call { callee := .builtin .append, args := #[s, x], argTypes := #[24, 24] }) (B : Nat) (v : Value) (xs : List (Int × Int)) (A : Option Addr) (m c : Nat) (ys : List (Int × Int))
    (hs : a.eval s = v) (hown : OwnD B v xs w) (hx : a.eval x = .slice A m c) (hm : ys.length = m) (hys : Decs w w.heap.size A ys) (hb : xs.length + m ≤ 1000000000) (hB : B ≤ w.heap.size)
    (h : ∀ v' w', Hid (OwnD B v' (xs ++ ys) w') → Hid (Below B w w') → Hid (Apart v v' w w') → K (a.put o.dst v') w') : o.wp Try.prog a w K Q := by
  obtain ⟨i0, hi, hz0, hz1, hz2⟩ := info_of info_dec
  subst hm
  obtain ⟨v', w', hr, h2, h3, h4⟩ := run_append_any w B 24 o.type 42 i0 _ 2 16 Try.underlying24 hi hz0 hz1 hz2 rfl (by decide) v xs.length (dvs xs) hown A ys.length c (dvs ys) (dvs_len ys) (src_decs hys) (dvs_one ys) (by omega) hb hB
  unfold Oper.wp
  simp [execOp, ho, resolve, invoke, builtin, hs, hx, hr, Result.andThen]
  exact h v' w' (Lib.hid (by rw [← dvs_app] at h2; rw [← List.length_append] at h2; exact h2)) (Lib.hid h3) (Lib.hid h4)
theorem wpList_more_ints {ops : Array Oper} {rest : List Oper} {o : Oper} {a : Act} {w : World} {Q : Exit → Act → World → Prop} (hgd : o.guard = none) (s x : Operand)
    (ho : o.op = .call { callee := .builtin .append, args := #[s, x], argTypes := #[23, 23] }) (B : Nat) (v : Value) (xs : List Int) (A : Option Addr) (m c : Nat) (ys : List Int)
    (hs : a.eval s = v) (hown : OwnI B v xs w) (hx : a.eval x = .slice A m c) (hm : ys.length = m) (hys : Nums .i64 w w.heap.size A ys) (hb : xs.length + m ≤ 1000000000) (hB : B ≤ w.heap.size)
    (h : ∀ v' w', Hid (OwnI B v' (xs ++ ys) w') → Hid (Below B w w') → Hid (Apart v v' w w') → wpList Try.prog ops Q rest (a.put o.dst v') w') : wpList Try.prog ops Q (o :: rest) a w :=
  wpList_plain hgd fun K hK => wp_more_ints s x ho B v xs A m c ys hs hown hx hm hys hb hB fun v' w' h1 h2 h3 => hK _ _ (h v' w' h1 h2 h3)
theorem wpList_more_decs {ops : Array Oper} {rest : List Oper} {o : Oper} {a : Act} {w : World} {Q : Exit → Act → World → Prop} (hgd : o.guard = none) (s x : Operand)
    (ho : o.op = .call { callee := .builtin .append, args := #[s, x], argTypes := #[24, 24] }) (B : Nat) (v : Value) (xs : List (Int × Int)) (A : Option Addr) (m c : Nat) (ys : List (Int × Int))
    (hs : a.eval s = v) (hown : OwnD B v xs w) (hx : a.eval x = .slice A m c) (hm : ys.length = m) (hys : Decs w w.heap.size A ys) (hb : xs.length + m ≤ 1000000000) (hB : B ≤ w.heap.size)
    (h : ∀ v' w', Hid (OwnD B v' (xs ++ ys) w') → Hid (Below B w w') → Hid (Apart v v' w w') → wpList Try.prog ops Q rest (a.put o.dst v') w') : wpList Try.prog ops Q (o :: rest) a w :=
  wpList_plain hgd fun K hK => wp_more_decs s x ho B v xs A m c ys hs hown hx hm hys hb hB fun v' w' h1 h2 h3 => hK _ _ (h v' w' h1 h2 h3)
end Go.Proofs.Ytcljpcbgokgcdaa
end

section
/-
  What tight.kindOf comes to: the least kind that has whole numbers.
-/
namespace Go.Proofs.Ytcljpcbgokgcdaa
open Go.RowKit Go.Lib
set_option linter.unusedSimpArgs false
set_option linter.unusedVariables false

theorem beyond1_any (x : Int) (w : World) : Calls Try.prog 73 #[.int .i64 x] w (Gives (.bool (!bitB x)) w) := by
  by_cases h0 : x = 0
  · subst h0
    have e : bitB 0 = true := rfl
    rw [e]
    go_enter Try.func73, Try.ntmps73
    go_wp2
    go_ret
    exact ⟨rfl, rfl⟩
  · by_cases h1 : x = 1
    · subst h1
      have e : bitB 1 = true := rfl
      rw [e]
      go_enter Try.func73, Try.ntmps73
      go_wp2
      go_ret
      exact ⟨rfl, rfl⟩
    · have e : bitB x = false := by simp [bitB, h0, h1]
      have e0 : (x != 0) = true := by simpa using h0
      have e1 : (x != 1) = true := by simpa using h1
      rw [e]
      clear e h0 h1
      go_enter Try.func73, Try.ntmps73
      go_wp2
      go_ret
      exact ⟨rfl, rfl⟩

set_option maxRecDepth 10000 in
set_option maxHeartbeats 800000 in
theorem indexb_any (A : Option Addr) (n c : Nat) (xs : List Int) (w : World) (hn : xs.length = n) (hm : n ≤ 9223372036854775807) (hr : Nums .i64 w w.heap.size A xs) :
    Calls Try.prog 71 #[.slice A n c, .func (.func 73) #[] #[]] w (Finds bitB xs w) := by
  have HR := Lib.hid hr
  have HN := Lib.hid hn
  clear hr hn
  go_enter Try.func71, Try.ntmps71
  go_wp2
  go_loopg [8] n (fun g s8 wr => ∃ k : Nat, k ≤ n ∧ g = n - k ∧ s8 = .int .i64 k ∧ Hid ((xs.drop k).all bitB = xs.all bitB) ∧ w = wr)
  case atStart => exact ⟨0, Nat.zero_le _, rfl, rfl, Lib.hid rfl, rfl⟩
  case round =>
    obtain ⟨k, hk, rfl, rfl, HA, rfl⟩ := hrel
    by_cases hlt : k < n
    · have hkl : k < xs.length := by rw [HN.out]; exact hlt
      obtain ⟨b, off, rfl, hb, hcl⟩ := HR.out (by omega)
      have hc := hcl k hkl
      have HT := Lib.hid (fun h => all_drop (p := bitB) hkl h)
      have HF := Lib.hid (fun h => all_fails (p := bitB) hkl h)
      clear hcl hkl
      generalize xs.getD k 0 = x at hc HT HF
      cases hx : bitB x with
      | true =>
        have HT' := Lib.hid (HT.out hx)
        have hx' : (!bitB x) = false := by rw [hx]; rfl
        have HB := Lib.hid (beyond1_any x w)
        rw [hx'] at HB
        clear hx hx' HT HF
        go_wp2_with (go_at_call 73; refine (HB.out).mono ?_; rintro e w2 ⟨rfl, rfl⟩)
        go_roundg (n - (k + 1))
        case rel => exact ⟨k + 1, by omega, rfl, by go_num, Lib.hid (HT'.out.symm.trans HA.out), rfl⟩
        case measure => omega
      | false =>
        have HF' := Lib.hid (HF.out hx)
        have hx' : (!bitB x) = true := by rw [hx]; rfl
        have HB := Lib.hid (beyond1_any x w)
        rw [hx'] at HB
        clear hx hx' HT HF
        go_wp2_with (go_at_call 73; refine (HB.out).mono ?_; rintro e w2 ⟨rfl, rfl⟩)
        go_ret
        refine ⟨_, rfl, ?_, rfl⟩
        rw [← HA.out, HF'.out]
        simp
    · obtain rfl : n = k := by omega
      have HF := Lib.hid (show xs.all bitB = true by rw [← HA.out, List.drop_of_length_le (by rw [HN.out]; exact Nat.le_refl _)]; rfl)
      go_wp2
      go_ret
      refine ⟨_, rfl, ?_, rfl⟩
      rw [HF.out]
      rfl
theorem containsb_any (A : Option Addr) (n c : Nat) (xs : List Int) (w : World) (hn : xs.length = n) (hm : n ≤ 9223372036854775807) (hr : Nums .i64 w w.heap.size A xs) :
    Calls Try.prog 52 #[.slice A n c, .func (.func 73) #[] #[]] w (Gives (.bool (!(xs.all bitB))) w) := by
  have HI := Lib.hid (indexb_any A n c xs w hn hm hr)
  clear hr hn
  go_enter Try.func52, Try.ntmps52
  go_wp2_with fail
  refine (HI.out).mono ?_
  rintro e w2 ⟨j, rfl, hj, rfl⟩
  have HJ := Lib.hid hj
  clear hj HI
  go_wp2
  go_ret
  exact ⟨by rw [← HJ.out]; rfl, rfl⟩

set_option maxRecDepth 10000 in
set_option maxHeartbeats 800000 in
theorem kindOf_any (A : Option Addr) (n c : Nat) (xs : List Int) (w : World) (hn : xs.length = n) (hm : n ≤ 9223372036854775807) (hr : Nums .i64 w w.heap.size A xs) :
    Calls Try.prog 57 #[.slice A n c] w (Gives (.int .i64 (kindI xs)) w) := by
  have HC := Lib.hid (containsb_any A n c xs w hn hm hr)
  by_cases h0 : n = 0
  · subst h0
    have e : kindI xs = 2 := by unfold kindI; rw [if_pos (.inl hn)]
    rw [e]
    clear hn hr HC e
    go_enter Try.func57, Try.ntmps57
    go_wp2
    go_ret
    exact ⟨rfl, rfl⟩
  · have h0' : (((n : Nat) : Int) == 0) = false := by simp; omega
    cases hb : xs.all bitB with
    | true =>
      have e : kindI xs = 1 := by
        unfold kindI
        rw [if_neg]
        rintro (h | h)
        · omega
        · rw [hb] at h; cases h
      rw [e]
      rw [hb] at HC
      clear hb e hn hr h0
      go_enter Try.func57, Try.ntmps57
      go_wp2_with fail
      refine (HC.out).mono ?_
      rintro e w2 ⟨rfl, rfl⟩
      go_wp2
      go_ret
      exact ⟨rfl, rfl⟩
    | false =>
      have e : kindI xs = 2 := by unfold kindI; rw [if_pos (.inr hb)]
      rw [e]
      rw [hb] at HC
      clear hb e hn hr h0
      go_enter Try.func57, Try.ntmps57
      go_wp2_with fail
      refine (HC.out).mono ?_
      rintro e w2 ⟨rfl, rfl⟩
      go_wp2
      go_ret
      exact ⟨rfl, rfl⟩
end Go.Proofs.Ytcljpcbgokgcdaa
end

section
/-
  What tight.signs comes to: the signs of nodes.
-/
namespace Go.Proofs.Ytcljpcbgokgcdaa
open Go.RowKit Go.Lib
set_option linter.unusedSimpArgs false
set_option linter.unusedVariables false

theorem ints_step {ks : List Nd} {k : Nat} (h : k < ks.length) : intsK (ks.take (k + 1)) = intsK (ks.take k) ++ (ks.getD k nd0).ints := by
  rw [take_one h]; simp [intsK]
theorem ints_le (ks : List Nd) (k : Nat) : (intsK (ks.take k)).length ≤ (intsK ks).length := by
  have h : intsK ks = intsK (ks.take k) ++ intsK (ks.drop k) := by unfold intsK; rw [← List.flatMap_append, List.take_append_drop]
  rw [h, List.length_append]
  omega
theorem vals_step {ks : List Nd} {k : Nat} (h : k < ks.length) : valsK (ks.take (k + 1)) = valsK (ks.take k) ++ valsN (ks.getD k nd0) := by
  rw [take_one h]; simp [valsK]
theorem vals_le (ks : List Nd) (k : Nat) : (valsK (ks.take k)).length ≤ (valsK ks).length := by
  have h : valsK ks = valsK (ks.take k) ++ valsK (ks.drop k) := by unfold valsK; rw [← List.flatMap_append, List.take_append_drop]
  rw [h, List.length_append]
  omega
def NewIP (xs : List Int) (w : World) (e : Ending) (w' : World) : Prop := ∃ A c, e = .returned (.slice A xs.length c) ∧ xs.length ≤ c ∧ NewN w.heap.size A xs w' ∧ Grow w w'
def NewDP (ds : List (Int × Int)) (w : World) (e : Ending) (w' : World) : Prop := ∃ A c, e = .returned (.slice A ds.length c) ∧ ds.length ≤ c ∧ NewD w.heap.size A ds w' ∧ Grow w w'

set_option maxRecDepth 10000 in
set_option maxHeartbeats 1600000 in
theorem signs_any (A : Option Addr) (n c : Nat) (ks : List Nd) (w : World) (hn : ks.length = n) (hnb : n ≤ 1100000) (hl : (intsK ks).length ≤ 1100000) (hns : Nodes w w.heap.size A ks) :
    Calls Try.prog 89 #[.slice A n c] w (NewIP (intsK ks) w) := by
  have HN := Lib.hid hn
  have HL := Lib.hid hl
  have HNS := Lib.hid hns
  clear hn hl hns
  obtain ⟨B, hB⟩ : ∃ B, w.heap.size = B := ⟨_, rfl⟩
  have HBE := Lib.hid hB
  rw [hB] at HNS
  clear hB
  go_enter Try.func89, Try.ntmps89
  go_wp2
  go_loopg [3, 8] n (fun g s3 s8 wr => ∃ (k : Nat) (v : Value), k ≤ n ∧ g = n - k ∧ s8 = .int .i64 k ∧ v = s3 ∧ Hid (OwnI B v (intsK (ks.take k)) wr) ∧ Hid (Below B w wr))
  case atStart => exact ⟨0, _, Nat.zero_le _, rfl, rfl, rfl, Lib.hid (ownI_nil _ _), Lib.hid (Below.refl _ _)⟩
  case round =>
    obtain ⟨k, v, hk, rfl, rfl, rfl, HO, HG⟩ := hrel
    by_cases hlt : k < n
    · have hlti : ((k : Nat) : Int) < ((n : Nat) : Int) := by omega
      have hkl : k < ks.length := by rw [HN.out]; exact hlt
      obtain ⟨b, off, rfl, hb, hat⟩ := HNS.out.below HG.out (by omega)
      obtain ⟨A1, c1, A2, c2, A3, c3, p0, p1, p2, p3, hnd⟩ := hat k hkl
      have HST := Lib.hid (ints_step hkl)
      have hle1 := ints_le ks (k + 1)
      rw [HST.out, List.length_append] at hle1
      have HLE := Lib.hid (Nat.le_trans hle1 HL.out)
      have HZ : Hid (B ≤ wr.heap.size) := Lib.hid (by rw [← HBE.out]; exact HG.out.size)
      clear hat hb hle1 hkl
      generalize ks.getD k nd0 = x at *
      have HNX := Lib.hid (hnd.2.1.more HZ.out)
      clear hnd
      have hbx := boxN_new wr x.kind A1 x.shp.length c1 A2 x.ints.length c2 A3 x.decs.length c3
      have b2 := hbx.at2
      have HG2 := Lib.hid (grow_new wr (.cells #[.int .i64 x.kind, .slice A1 x.shp.length c1, .slice A2 x.ints.length c2, .slice A3 x.decs.length c3] 30))
      have HO2 := Lib.hid (HO.out.grow HG2.out)
      have HNX2 := Lib.hid (HNX.out.grow HG2.out)
      have HZ2 := Lib.hid (Nat.le_trans HZ.out HG2.out.size)
      have HGB := Lib.hid (Below.trans HG.out (Below.mono HG2.out HZ.out))
      clear hbx HO HNX
      go_wp2_with (at_builtin; refine wpList_more_ints rfl _ _ rfl B v (intsK (ks.take k)) A2 x.ints.length c2 x.ints rfl HO2.out rfl rfl HNX2.out (by have := HLE.out; omega) HZ2.out ?_; intro v' w5 HO5 HB5 HA5)
      go_roundg (n - (k + 1))
      case rel => exact ⟨k + 1, v', by omega, rfl, by go_num, rfl, Lib.hid (by rw [HST.out]; exact HO5.out), Lib.hid (Below.trans HGB.out HB5.out)⟩
      case measure => omega
    · obtain rfl : n = k := by omega
      have HTA := Lib.hid (show ks.take n = ks from List.take_of_length_le (by rw [HN.out]; exact Nat.le_refl _))
      rw [HTA.out] at HO
      go_wp2
      go_ret
      obtain ⟨A', c', hv, hc, hN⟩ := HO.out.new
      exact ⟨A', c', by rw [← hv]; rfl, hc, by rw [HBE.out]; exact hN, show Below w.heap.size w _ by rw [HBE.out]; exact HG.out⟩
end Go.Proofs.Ytcljpcbgokgcdaa
end

section
/-
  What tight.numbers comes to: the numbers of nodes.
-/
namespace Go.Proofs.Ytcljpcbgokgcdaa
open Go.RowKit Go.Lib
set_option linter.unusedSimpArgs false
set_option linter.unusedVariables false

theorem map_step {xs : List Int} {j : Nat} (h : j < xs.length) : (xs.take (j + 1)).map ofD = (xs.take j).map ofD ++ [ofD (xs.getD j 0)] := by
  rw [List.take_add_one, List.map_append]
  congr 1
  simp [List.getD, h]
theorem decs_lit1 (w : World) (q r : Int) : Decs (w.alloc (.cells #[.int .i64 q, .int .i64 r] 42)) (w.alloc (.cells #[.int .i64 q, .int .i64 r] 42)).heap.size (some ⟨w.heap.size, 0, none⟩) [(q, r)] :=
  decs_cells (ds := [(q, r)]) (heap_alloc_new w _)

set_option maxRecDepth 10000 in
set_option maxHeartbeats 3200000 in
theorem numbers_any (A : Option Addr) (n c : Nat) (ks : List Nd) (w : World) (hn : ks.length = n) (hnb : n ≤ 1100000) (hl : (valsK ks).length ≤ 1100000) (hv : Vals ks) (hns : Nodes w w.heap.size A ks) :
    Calls Try.prog 77 #[.slice A n c] w (NewDP (valsK ks) w) := by
  have HN := Lib.hid hn
  have HL := Lib.hid hl
  have HV := Lib.hid hv
  have HNS := Lib.hid hns
  clear hn hl hns hv
  obtain ⟨B, hB⟩ : ∃ B, w.heap.size = B := ⟨_, rfl⟩
  have HBE := Lib.hid hB
  rw [hB] at HNS
  clear hB
  go_enter Try.func77, Try.ntmps77
  go_wp2
  go_loopg [3, 10] n (fun g s3 s10 wr => ∃ (k : Nat) (v : Value), k ≤ n ∧ g = n - k ∧ s10 = .int .i64 k ∧ v = s3 ∧ Hid (OwnD B v (valsK (ks.take k)) wr) ∧ Hid (Below B w wr))
  case atStart => exact ⟨0, _, Nat.zero_le _, rfl, rfl, rfl, Lib.hid (ownD_nil _ _), Lib.hid (Below.refl _ _)⟩
  case round =>
    obtain ⟨k, v, hk, rfl, rfl, rfl, HO, HG⟩ := hrel
    obtain ⟨w1, hw1⟩ : ∃ w1, w1 = wr := ⟨_, rfl⟩
    subst hw1
    by_cases hlt : k < n
    · have hlti : ((k : Nat) : Int) < ((n : Nat) : Int) := by omega
      have hkl : k < ks.length := by rw [HN.out]; exact hlt
      obtain ⟨b, off, rfl, hb, hat⟩ := HNS.out (by omega)
      obtain ⟨A1, c1, A2, c2, A3, c3, r0, r1, r2, r3, hnd⟩ := hat k hkl
      have p0 := (HG.out.cell (p := ⟨b, off + k * 4, none⟩) hb).trans r0
      have p1 := (HG.out.cell (p := ⟨b, off + k * 4 + 1, none⟩) hb).trans r1
      have p2 := (HG.out.cell (p := ⟨b, off + k * 4 + 2, none⟩) hb).trans r2
      have p3 := (HG.out.cell (p := ⟨b, off + k * 4 + 3, none⟩) hb).trans r3
      have HST := Lib.hid (vals_step hkl)
      have hle1 := vals_le ks (k + 1)
      rw [HST.out, List.length_append] at hle1
      have HLE := Lib.hid (Nat.le_trans hle1 HL.out)
      have HIN : Hid (∀ x ∈ (ks.getD k nd0).ints, In x) := Lib.hid (by
        rw [show ks.getD k nd0 = ks[k] by simp [List.getD, hkl]]
        exact HV.out _ (List.getElem_mem hkl))
      have HZ : Hid (B ≤ w1.heap.size) := Lib.hid (by rw [← HBE.out]; exact HG.out.size)
      clear hat hb hle1 hkl r0 r1 r2 r3
      obtain ⟨D, hD⟩ : ∃ D, valsK (ks.take k) = D := ⟨_, rfl⟩
      rw [hD] at HO HST HLE
      clear hD
      generalize ks.getD k nd0 = x at *
      have hvl : (valsN x).length = x.ints.length + x.decs.length := by simp [valsN]
      rw [hvl] at HLE
      clear hvl
      have HNX := Lib.hid hnd.2.1
      have HDX := Lib.hid hnd.2.2
      clear hnd
      have hbx := boxN_new w1 x.kind A1 x.shp.length c1 A2 x.ints.length c2 A3 x.decs.length c3
      have b2 := hbx.at2
      have HBX := Lib.hid hbx
      have HG2 := Lib.hid (grow_new w1 (.cells #[.int .i64 x.kind, .slice A1 x.shp.length c1, .slice A2 x.ints.length c2, .slice A3 x.decs.length c3] 30))
      have HO2 := Lib.hid (HO.out.grow HG2.out)
      have HGB := Lib.hid (Below.trans HG.out (Below.mono HG2.out HZ.out))
      have HV0 : Hid (∀ q, v.ownBlock = some q → q < w1.heap.size) := Lib.hid (fun q hq => (World.ownsRow.lt HO.out q hq).2)
      clear hbx HO HG2
      have HVX : Hid (valsN x = x.ints.map ofD ++ x.decs) := Lib.hid rfl
      obtain ⟨kk, sh, xs, ds⟩ := x
      dsimp only at *
      obtain ⟨li, hli⟩ : ∃ li, xs.length = li := ⟨_, rfl⟩
      have HLI := Lib.hid hli
      obtain ⟨ld, hld⟩ : ∃ ld, ds.length = ld := ⟨_, rfl⟩
      have HLD := Lib.hid hld
      rw [hli] at p2 b2 HBX HO2 HGB HLE
      rw [hld] at p3 b2 HBX HO2 HGB HLE
      clear hli hld
      have hlib : li ≤ 1100000 := by have := HLE.out; omega
      have hbr : ∀ q, w1.heap.size = q → B ≤ q := fun q hq => hq ▸ HZ.out
      obtain ⟨bx, hbx⟩ : ∃ bx, w1.heap.size = bx := ⟨_, rfl⟩
      have HBXE := Lib.hid hbx
      rw [hbx] at HBX HV0
      clear hbx hbr
      generalize sh.length = l1 at *
      go_wp2
      clear p0 p1 p2 p3 b2
      go_loopg [3, 17] li (fun g2 s3 s17 w2 => ∃ (j : Nat) (u : Value), j ≤ li ∧ g2 = li - j ∧ s17 = .int .i64 j ∧ u = s3 ∧ Hid (OwnD B u (D ++ (xs.take j).map ofD) w2) ∧ Hid (Below B w w2) ∧
        Hid (BoxN w2 bx kk A1 l1 c1 A2 li c2 A3 ld c3) ∧ Hid (∀ q, u.ownBlock = some q → q ≠ bx))
      case atStart =>
        refine ⟨0, v, Nat.zero_le _, rfl, rfl, rfl, ?_, HGB, HBX, ?_⟩
        · exact Lib.hid (by simpa using HO2.out)
        · exact Lib.hid (fun q hq => by have := HV0.out q hq; omega)
      case round =>
        obtain ⟨j, u, hj, rfl, rfl, rfl, HOJ, HGJ, HBJ, HUJ⟩ := hrel
        have HZJ : Hid (B ≤ wr.heap.size) := Lib.hid (by rw [← HBE.out]; exact HGJ.out.size)
        by_cases hjl : j < li
        · have hjli : ((j : Nat) : Int) < ((li : Nat) : Int) := by omega
          have hjx : j < xs.length := by rw [HLI.out]; exact hjl
          obtain ⟨b', off', rfl, hb', hcl⟩ := (HNX.out.below HGJ.out) (by omega)
          have hc := hcl j hjx
          have HMS := Lib.hid (map_step hjx)
          have HIJ : Hid (In (xs.getD j 0)) := Lib.hid (by
            rw [show xs.getD j 0 = xs[j] by simp [List.getD, hjx]]
            exact HIN.out _ (List.getElem_mem hjx))
          have HLJ : Hid ((D ++ (xs.take j).map ofD).length ≤ 1100000) := Lib.hid (by
            have := HLE.out
            rw [List.length_append, List.length_map, List.length_take]
            omega)
          clear hcl hb' hjx
          generalize xs.getD j 0 = y at *
          have HC := Lib.hid (fun W => of_any y W HIJ.out)
          have HOFD : Hid (ofD y = (norm y 0).1) := Lib.hid rfl
          generalize norm y 0 = ny at *
          obtain ⟨⟨q, r⟩, b0⟩ := ny
          dsimp only at HC HOFD
          go_wp2_with fail
          refine (HC.out _).mono ?_
          rintro e w3 ⟨rfl, hg3⟩
          have HG3 := Lib.hid (hg3.trans (grow_new w3 (.cells #[.int .i64 q, .int .i64 r] 42)))
          have HO3 := Lib.hid (HOJ.out.grow HG3.out)
          have HL3 := Lib.hid (decs_lit1 w3 q r)
          have HB3 := Lib.hid (HBJ.out.grow HG3.out)
          have HZ3 := Lib.hid (Nat.le_trans HZJ.out HG3.out.size)
          have HGB3 := Lib.hid (Below.trans HGJ.out (Below.mono HG3.out HZJ.out))
          clear hg3 HC HOJ HBJ
          go_wp2_with (at_builtin; refine wpList_more_decs rfl _ _ rfl B u _ (some ⟨w3.heap.size, 0, none⟩) 1 1 [(q, r)] rfl HO3.out rfl rfl HL3.out (by have := HLJ.out; omega) HZ3.out ?_; intro v' w5 HO5 HB5 HA5)
          go_roundg (li - (j + 1))
          case rel =>
            refine ⟨j + 1, v', by omega, rfl, by go_num, rfl, Lib.hid ?_, Lib.hid (Below.trans HGB3.out HB5.out), Lib.hid ?_, Lib.hid ?_⟩
            · rw [HMS.out, HOFD.out, ← List.append_assoc]
              exact HO5.out
            · exact (HA5.out.1 bx HB3.out.lt (fun h => HUJ.out bx h rfl)).trans HB3.out
            · intro q' hq' e'
              rcases HA5.out.2 with h | h
              · exact HUJ.out q' (h ▸ hq') e'
              · rw [h] at hq'
                cases hq'
                have := HB3.out.lt
                omega
          case measure => omega
        · obtain rfl : li = j := by omega
          have hjj : ¬ ((li : Nat) : Int) < ((li : Nat) : Int) := by omega
          have HXA := Lib.hid (show xs.take li = xs from List.take_of_length_le (by rw [HLI.out]; exact Nat.le_refl _))
          rw [HXA.out] at HOJ
          have b3 := HBJ.out.at3
          have hds := (HDX.out.below HGJ.out).more HZJ.out
          have HDS := Lib.hid hds
          have HLJ : Hid ((D ++ xs.map ofD).length + ld ≤ 1100000) := Lib.hid (by
            have := HLE.out
            rw [List.length_append, List.length_map]
            have := HLI.out
            omega)
          clear hds
          rw [← HBXE.out] at b3
          go_wp2_with (at_builtin; refine wpList_more_decs rfl _ _ rfl B u _ A3 ld c3 ds rfl HOJ.out rfl HLD.out HDS.out (by have := HLJ.out; omega) HZJ.out ?_; intro v' w5 HO5 HB5 HA5)
          go_roundg (n - (k + 1))
          case rel => exact ⟨k + 1, v', by omega, rfl, by go_num, rfl, Lib.hid (by rw [HST.out, HVX.out, ← List.append_assoc]; exact HO5.out), Lib.hid (Below.trans HGJ.out HB5.out)⟩
          case measure => omega
    · obtain rfl : n = k := by omega
      have HTA := Lib.hid (show ks.take n = ks from List.take_of_length_le (by rw [HN.out]; exact Nat.le_refl _))
      rw [HTA.out] at HO
      go_wp2
      go_ret
      obtain ⟨A', c', hv, hc, hN⟩ := HO.out.new
      exact ⟨A', c', by rw [← hv]; rfl, hc, by rw [HBE.out]; exact hN, show Below w.heap.size w _ by rw [HBE.out]; exact HG.out⟩
end Go.Proofs.Ytcljpcbgokgcdaa
end
