import PyProof.Rows.All
import Wide.All
import OpenK.AllK
import Wide.FinOn
import HandS.ForMost
import HandS.IsInst
import HandS.Conv
import HandS.Style
import HandS.More
import HandS.Evl
import HandS.Zip
import HandS.SetFor
import HandS.Sort
import HandS.Wide
import HandS.Deep
import KE.SortData
import PyProof.ReprRoads
import HandS.Exc
import HandS.ExcOwn
import HandS.ExcIs
import HandS.ExcValue
import HandS.Small
import HandS.WordsExc
import KE.KDictZip
import HandS.Base
import HandS.RaiseMore
import HandS.FStr
import HandS.Text
import PySem.Challenge.RW_farorders_k61_bounds_refused
set_option Elab.async false
set_option linter.all false
set_option maxRecDepth 100000
namespace Fo
open PySem PySem.Spec PyProof.Rows L2
/-! ### lists and orders -/
def rg (n : Nat) : List Int := (List.range n).map fun k => ((k : Nat) : Int)
def IsOrd (n : Nat) (ns : List Int) : Prop := ns.Perm (rg n)
theorem rg_len (n : Nat) : (rg n).length = n := by
  unfold rg
  rw [List.length_map, List.length_range]
theorem rg_mem {n : Nat} {x : Int} : x ∈ rg n ↔ 0 ≤ x ∧ x < n := by
  unfold rg
  rw [List.mem_map]
  constructor
  · rintro ⟨k, hk, rfl⟩
    have := List.mem_range.mp hk
    omega
  · rintro ⟨h0, h1⟩
    exact ⟨x.toNat, List.mem_range.mpr (by omega), by omega⟩
theorem rg_nodup (n : Nat) : (rg n).Nodup := by
  unfold rg
  exact List.Pairwise.map _ (fun a b h e => h (by omega)) List.nodup_range
theorem rg_sorted (n : Nat) : (rg n).Pairwise (· ≤ ·) := by
  unfold rg
  exact List.Pairwise.map _ (fun a b h => by omega) List.pairwise_lt_range
theorem rg_V (n : Nat) : rgV 0 (n : Int) = (rg n).map V.int := by
  unfold rgV rg
  rw [List.map_map, show ((n : Int) - 0).toNat = n by omega]
  apply List.map_congr_left
  intro a _
  show V.int (0 + (a : Int)) = V.int (a : Int)
  rw [Int.zero_add]
theorem IsOrd.len {n : Nat} {ns : List Int} (h : IsOrd n ns) : ns.length = n := (List.Perm.length_eq h).trans (rg_len n)
theorem IsOrd.mem {n : Nat} {ns : List Int} (h : IsOrd n ns) {x : Int} (m : x ∈ ns) : 0 ≤ x ∧ x < n := rg_mem.mp ((List.Perm.mem_iff h).mp m)
theorem IsOrd.nodup {n : Nat} {ns : List Int} (h : IsOrd n ns) : ns.Nodup := (List.Perm.nodup_iff h).mpr (rg_nodup n)
/-- two sorted lists of the same things are one -/
theorem sorted_eq : ∀ {a b : List Int}, a.Perm b → a.Pairwise (· ≤ ·) → b.Pairwise (· ≤ ·) → a = b := by
  intro a b hp ha hb
  exact List.Perm.eq_of_pairwise (fun x y _ _ h1 h2 => by omega) ha hb hp
/-- the things at p and p + 1 change places -/
def sw (xs : List Int) (p : Nat) : List Int := (xs.set p (xs.getD (p + 1) 0)).set (p + 1) (xs.getD p 0)
theorem split2 : ∀ {xs : List Int} {p : Nat}, p + 1 < xs.length → ∃ A a b B, xs = A ++ a :: b :: B ∧ A.length = p
  | [], p, h => by simp at h
  | [_], p, h => by simp at h
  | a :: b :: r, 0, _ => ⟨[], a, b, r, rfl, rfl⟩
  | a :: b :: r, p + 1, h => by
    obtain ⟨A, x, y, B, e, l⟩ := split2 (xs := b :: r) (p := p) (by simpa using h)
    exact ⟨a :: A, x, y, B, by rw [e]; rfl, by rw [List.length_cons, l]⟩
theorem sw_at : ∀ (A : List Int) (a b : Int) (B : List Int), sw (A ++ a :: b :: B) A.length = A ++ b :: a :: B
  | [], a, b, B => rfl
  | x :: A, a, b, B => by
    have ih := sw_at A a b B
    unfold sw at ih ⊢
    show x :: _ = x :: _
    exact congrArg (x :: ·) ih
theorem sw_perm {xs : List Int} {p : Nat} (h : p + 1 < xs.length) : (sw xs p).Perm xs := by
  obtain ⟨A, a, b, B, rfl, rfl⟩ := split2 h
  rw [sw_at]
  exact List.Perm.append_left A (List.Perm.swap a b B)
theorem sw_len (xs : List Int) (p : Nat) : (sw xs p).length = xs.length := by
  unfold sw
  rw [List.length_set, List.length_set]
theorem sw_ord {n : Nat} {xs : List Int} {p : Nat} (o : IsOrd n xs) (h : p + 1 < n) : IsOrd n (sw xs p) :=
  (sw_perm (by rw [o.len]; exact h)).trans o
theorem sw_V {xs : List Int} {p : Nat} {a b : Int} (ha : xs[p]? = some a) (hb : xs[p + 1]? = some b) : ((xs.map V.int).set p (V.int b)).set (p + 1) (V.int a) = (sw xs p).map V.int := by
  unfold sw
  rw [List.getD_eq_getElem?_getD, List.getD_eq_getElem?_getD, ha, hb, List.map_set, List.map_set]
  rfl
theorem pop_ins {xs : List Int} {p : Nat} {a : Int} (h : p + 1 < xs.length) (ha : xs[p]? = some a) : (xs.eraseIdx p).take (p + 1) ++ [a] ++ (xs.eraseIdx p).drop (p + 1) = sw xs p := by
  obtain ⟨A, x, y, B, rfl, rfl⟩ := split2 h
  have ex : x = a := by
    rw [List.getElem?_append_right (Nat.le_refl _), Nat.sub_self] at ha
    exact Option.some.inj ha
  subst ex
  rw [sw_at, List.eraseIdx_append_of_length_le (Nat.le_refl _), Nat.sub_self]
  show (A ++ y :: B).take (A.length + 1) ++ [x] ++ (A ++ y :: B).drop (A.length + 1) = _
  rw [List.take_append, List.drop_append]
  have t : A.length + 1 - A.length = 1 := by omega
  rw [t, List.take_of_length_le (by omega), List.drop_of_length_le (by omega)]
  simp
/-- the order at a walk's end -/
def wEnd (xs : List Int) (ws : List Int) : List Int := ws.foldl (fun x p => sw x p.toNat) xs
theorem wEnd_more {xs ws : List Int} {i : Nat} {p : Int} (h : ws[i]? = some p) : wEnd xs (ws.take (i + 1)) = sw (wEnd xs (ws.take i)) p.toNat := by
  unfold wEnd
  rw [List.take_add_one, h, List.foldl_append]
  rfl
theorem wEnd_ord {n : Nat} {xs : List Int} (o : IsOrd n xs) : ∀ {ws : List Int}, (∀ p ∈ ws, 0 ≤ p ∧ p + 1 < n) → IsOrd n (wEnd xs ws) := by
  intro ws
  induction ws generalizing xs with
  | nil => intro _; exact o
  | cons p ws ih =>
    intro h
    have hp := h p List.mem_cons_self
    exact ih (sw_ord o (by omega)) fun q hq => h q (List.mem_cons_of_mem _ hq)
theorem nodup_len : ∀ {l m : List Int}, l.Nodup → (∀ x ∈ l, x ∈ m) → l.length ≤ m.length
  | [], m, _, _ => Nat.zero_le _
  | a :: l, m, hn, hs => by
    obtain ⟨h1, h2⟩ := List.nodup_cons.mp hn
    have ha := hs a List.mem_cons_self
    have ih := nodup_len (l := l) (m := m.erase a) h2 fun x hx => by
      have ne : x ≠ a := fun e => h1 (by rw [← e]; exact hx)
      exact (List.mem_erase_of_ne ne).mpr (hs x (List.mem_cons_of_mem _ hx))
    rw [List.length_erase_of_mem ha] at ih
    have : 0 < m.length := List.length_pos_of_mem ha
    rw [List.length_cons]
    omega
theorem int_at {ns : List Int} {i : Nat} {x : Int} (h : ns[i]? = some x) : (ns.map V.int)[i]? = some (V.int x) := by
  rw [List.getElem?_map, h]
  rfl
theorem int_at_inv {ns : List Int} {i : Nat} {v : V} (h : (ns.map V.int)[i]? = some v) : ∃ x, ns[i]? = some x ∧ v = V.int x := by
  rw [List.getElem?_map] at h
  cases e : ns[i]? with
  | none => rw [e] at h; cases h
  | some x => rw [e] at h; exact ⟨x, rfl, (Option.some.inj h).symm⟩
theorem line_small {n : Nat} (h : n ≤ 16777216) : n ≤ sizeLine := by rw [sizeLine_eq]; exact h
theorem line_lt {n : Nat} (h : n < 16777216) : n < sizeLine := by rw [sizeLine_eq]; exact h
/-! ### data of ints -/
theorem dp_ints {K : PySem.W.Frag} {H : Hp} : ∀ ns : List Int, DpAll K H (ns.map V.int) (ns.map PyData.int)
  | [] => .nil
  | n :: r => .cons (.int n) (dp_ints r)
theorem dp_list {K : PySem.W.Frag} {H : Hp} {a : Addr} {ns : List Int} (h : H a = some (.lst (ns.map V.int))) : Dp K H (.ref a) (.list (ns.map PyData.int)) := .lst (SqL.of h) (dp_ints ns)
theorem eqv_int (i j : Int) : PyData.eqv (.int i) (.int j) = (i == j) := rfl
end Fo
namespace Fo
open PySem PySem.Spec PyProof.Rows L2
abbrev dI (ns : List Int) : List PyData := ns.map PyData.int
abbrev dL (ns : List Int) : PyData := .list (dI ns)
abbrev dLL (l : List (List Int)) : PyData := .list (l.map dL)
theorem lay_ints : ∀ ns : List Int, PyData.canLayAll0 (dI ns) = true
  | [] => rfl
  | n :: r => by
    show (PyData.canLay0 (.int n) && PyData.canLayAll0 (dI r)) = true
    rw [lay_ints r]
    rfl
theorem depth_ints : ∀ ns : List Int, PyData.depthAll (dI ns) = 0
  | [] => by simp [PyData.depthAll]
  | n :: r => by
    show PyData.depthAll (.int n :: dI r) = 0
    rw [PyData.depthAll, depth_ints r]
    simp [PyData.depth]
theorem lay_list (ns : List Int) : PyData.canLay0 (dL ns) = true := by
  rw [PyData.canLay0]
  exact lay_ints ns
theorem depth_list (ns : List Int) : PyData.depth (dL ns) = 1 := by
  rw [PyData.depth, depth_ints]
theorem shaped_list (ns : List Int) : SeqAt.shaped (dL ns) = true := by
  unfold SeqAt.shaped
  rw [lay_list, depth_list]
  rfl
theorem lay_lists : ∀ l : List (List Int), PyData.canLayAll0 (l.map dL) = true
  | [] => rfl
  | n :: r => by
    show (PyData.canLay0 (dL n) && PyData.canLayAll0 (r.map dL)) = true
    rw [lay_lists r, lay_list]
    rfl
theorem depth_lists : ∀ l : List (List Int), PyData.depthAll (l.map dL) ≤ 1
  | [] => by simp [PyData.depthAll]
  | n :: r => by
    show PyData.depthAll (dL n :: r.map dL) ≤ 1
    rw [PyData.depthAll, depth_list]
    have := depth_lists r
    omega
theorem shaped_lists (l : List (List Int)) : SeqAt.shaped (dLL l) = true := by
  unfold SeqAt.shaped
  rw [Bool.and_eq_true_iff]
  constructor
  · rw [PyData.canLay0]
    exact lay_lists l
  · apply decide_eq_true
    rw [PyData.depth]
    have := depth_lists l
    omega
theorem eqv_list (ns : List Int) : PyData.eqv (dL ns) (dL ns) = true := SeqAt.eqv_refl _ (lay_list ns)
theorem eqv_lists (l : List (List Int)) : PyData.eqv (dLL l) (dLL l) = true := SeqAt.eqv_refl _ (SeqAt.canLay_of_shaped (shaped_lists l))
theorem eqvAll_ints : ∀ a b : List Int, PyData.eqvAll (dI a) (dI b) = decide (a = b)
  | [], [] => by simp [PyData.eqvAll]
  | [], _ :: _ => by simp [PyData.eqvAll]
  | _ :: _, [] => by simp [PyData.eqvAll]
  | x :: a, y :: b => by
    show PyData.eqvAll (.int x :: dI a) (.int y :: dI b) = _
    rw [PyData.eqvAll, eqvAll_ints a b]
    show ((x == y) && decide (a = b)) = decide (x :: a = y :: b)
    by_cases h : x = y
    · subst h
      simp
    · simp [h]
theorem eqv_ints (a b : List Int) : PyData.eqv (dL a) (dL b) = decide (a = b) := by
  rw [PyData.eqv]
  exact eqvAll_ints a b
end Fo
namespace Fo
open PySem PySem.Spec PyProof.Rows L2
/-! ### slices of ints -/
def cutI (ws : List Int) (lo hi : Option Int) : List Int := (ws.drop (HT.sIx ws.length 0 lo)).take (HT.sIx ws.length ws.length hi - HT.sIx ws.length 0 lo)
theorem cut_ints (ws : List Int) (lo hi : Option Int) : cutV (ws.map V.int) lo hi = (cutI ws lo hi).map V.int := by
  unfold cutV cutI
  rw [List.length_map, List.map_take, List.map_drop]
theorem cutI_mem {ws : List Int} {lo hi : Option Int} {x : Int} (h : x ∈ cutI ws lo hi) : x ∈ ws := List.mem_of_mem_drop (List.mem_of_mem_take h)
theorem cutI_len (ws : List Int) (lo hi : Option Int) : (cutI ws lo hi).length ≤ ws.length := by
  unfold cutI
  rw [List.length_take, List.length_drop]
  omega
theorem cutI_head (ws : List Int) (k : Nat) : cutI ws none (some (k : Int)) = ws.take k := by
  unfold cutI
  rw [HT.sIx_none, HT.sIx_nat, List.drop_zero, Nat.sub_zero]
  by_cases h : k ≤ ws.length
  · rw [Nat.min_eq_left h]
  · rw [Nat.min_eq_right (by omega), List.take_length, List.take_of_length_le (by omega)]
theorem cutI_tail (ws : List Int) (k : Nat) : cutI ws (some (k : Int)) none = ws.drop k := by
  unfold cutI
  rw [HT.sIx_none, HT.sIx_nat]
  by_cases h : k ≤ ws.length
  · rw [Nat.min_eq_left h, List.take_of_length_le (by rw [List.length_drop]; exact Nat.le_refl _)]
  · rw [Nat.min_eq_right (by omega), List.drop_of_length_le (Nat.le_refl _), List.drop_of_length_le (by omega), List.take_nil]
end Fo
namespace Fo
open PySem PySem.Spec PyProof.Rows L2
/-! ### the text -/
def topS (i : Nat) : Stmt := PySem.Challenge.pw_farorders_k61_bounds_refused.main.body.getD i (.Pass ⟨0, 0, 0, 0⟩)
abbrev s_OrderError : Stmt := topS 1
abbrev s_NoOrder : Stmt := topS 2
abbrev s_NoWay : Stmt := topS 3
abbrev s_NoFit : Stmt := topS 4
abbrev s_NoPlace : Stmt := topS 5
abbrev s_NoNumber : Stmt := topS 6
abbrev s_TooMany : Stmt := topS 7
abbrev s_NoText : Stmt := topS 8
abbrev s_NoName : Stmt := topS 9
abbrev s_NoRow : Stmt := topS 10
abbrev s_is_whole : Stmt := topS 13
abbrev s_check_way : Stmt := topS 14
abbrev s_check_from : Stmt := topS 15
abbrev s_check_size : Stmt := topS 16
abbrev s_check_apart : Stmt := topS 17
abbrev s_places_in : Stmt := topS 21
abbrev s_seats_in : Stmt := topS 22
abbrev s_known_far : Stmt := topS 23
abbrev s_far_by_swap : Stmt := topS 24
abbrev s_far_by_spot : Stmt := topS 25
abbrev s_far_by_shift : Stmt := topS 26
abbrev s_all_orders : Stmt := topS 27
abbrev s_orders_with : Stmt := topS 28
abbrev s_count_orders : Stmt := topS 29
abbrev s_is_near : Stmt := topS 32
abbrev s_first_parting : Stmt := topS 33
abbrev s_first_near : Stmt := topS 34
abbrev s_known_within : Stmt := topS 36
abbrev s_swap_counts : Stmt := topS 37
abbrev s_swap_counts_with_one_more : Stmt := topS 38
abbrev s_spot_counts : Stmt := topS 39
abbrev s_count_all_moved : Stmt := topS 40
abbrev s_shift_within : Stmt := topS 41
abbrev s_things_near : Stmt := topS 42
abbrev s_one_place_further : Stmt := topS 43
abbrev s_bounds_by_rounds : Stmt := topS 45
abbrev s_most_by_places : Stmt := topS 46
abbrev s_best_bound : Stmt := topS 47
abbrev s_law_pool : Stmt := topS 49
abbrev s_law_take : Stmt := topS 50
abbrev s_law_far : Stmt := topS 51
abbrev s_law_ways : Stmt := topS 52
abbrev s_law_is : Stmt := topS 53
abbrev s_law_bad_way : Stmt := topS 54
abbrev s_law_caught : Stmt := topS 55
abbrev s_law_no_number : Stmt := topS 56
abbrev s_law_right : Stmt := topS 57
abbrev s_law : Stmt := topS 58
/-- a def of the text, where it stands -/
structure Df (K : PySem.W.Frag) (mg : Str → Option Value) (x : Str) (st : Stmt) (ps : List Str) (f : Addr) (fd : FuncData) : Prop where
  F : Fun K x x st f fd
  b : Binds K fd ps []
  g : mg x = some (.ref f)
/-- the built-in names as they were -/
structure Bi (mg : Str → Option Value) : Prop where
  ValueError : mg "ValueError" = none
  abs : mg "abs" = none
  all : mg "all" = none
  bool : mg "bool" = none
  enumerate : mg "enumerate" = none
  int : mg "int" = none
  isinstance : mg "isinstance" = none
  len : mg "len" = none
  list : mg "list" = none
  max : mg "max" = none
  min : mg "min" = none
  range : mg "range" = none
  str : mg "str" = none
  sum : mg "sum" = none
end Fo
namespace Fo
open PySem PySem.Spec PyProof.Rows L2
theorem same_new {H : Hp} {p : Addr} {o : HO} (h : H p = none) : Same H (upd H p o) := fun b x e => by
  rw [upd_ne (ne_of_none e h)]
  exact e
theorem at2_0 {x y : V} : atI [x, y] 0 = some x := rfl
theorem at2_1 {x y : V} : atI [x, y] 1 = some y := rfl
end Fo
namespace Fo
open PySem PySem.Spec PyProof.Rows L2
theorem pop_perm : ∀ {xs : List Int} {k : Nat} {y : Int}, xs[k]? = some y → (y :: xs.eraseIdx k).Perm xs
  | [], k, y, h => by simp at h
  | a :: r, 0, y, h => by
    have e : a = y := Option.some.inj h
    subst e
    exact List.Perm.refl _
  | a :: r, k + 1, y, h => by
    have ih := pop_perm (xs := r) (k := k) (y := y) h
    show (y :: a :: r.eraseIdx k).Perm (a :: r)
    exact (List.Perm.swap a y _).trans (List.Perm.cons a ih)
theorem map_erase : ∀ (xs : List Int) (k : Nat), (xs.map V.int).eraseIdx k = (xs.eraseIdx k).map V.int
  | [], k => rfl
  | a :: r, 0 => rfl
  | a :: r, k + 1 => congrArg (V.int a :: ·) (map_erase r k)
/-- what len asks of a list or a tuple -/
abbrev rLenS (K : PySem.W.Frag) : List V → Hp → VK → Prop := fun xs H Q => ∃ p ys, xs = [.ref p] ∧ (SqL K H p ys ∨ SqT K H p ys) ∧ Q (.int ys.length) H
theorem seq_ix {i : Int} {k n : Nat} (e : i = (k : Int)) (h : k < n) : seqIndex? i n = some k := by
  subst e
  unfold seqIndex?
  have h1 : ¬ ((k : Int) < 0) := by omega
  simp only [h1, if_false]
  have h2 : (decide ((0 : Int) ≤ (k : Int)) && decide ((k : Int) < (n : Int))) = true := by
    simp
    omega
  rw [if_pos h2, Int.toNat_natCast]
theorem ix_n {i : Int} {k n : Nat} (e : i = (k : Int)) (h : k < n) : ixN n i = some k := by
  subst e
  unfold ixN
  rw [if_pos (by omega), if_pos (by omega), Int.toNat_natCast]
end Fo
namespace Fo
open PySem PySem.Spec PyProof.Rows L2
abbrev rMax2 : List V → Hp → VK → Prop := fun xs H Q => ∃ i j, xs = [.int i, .int j] ∧ Q (.int (if j > i then j else i)) H
abbrev rMin2 : List V → Hp → VK → Prop := fun xs H Q => ∃ i j, xs = [.int i, .int j] ∧ Q (.int (if j < i then j else i)) H
abbrev rInt1 : List V → Hp → VK → Prop := fun xs H Q => (∃ i, xs = [.int i] ∧ Q (.int i) H) ∨ ∃ k, xs = [.bl k] ∧ Q (.int (if k then 1 else 0)) H
theorem filter_more {l : List Int} {m : Nat} {x : Int} (p : Int → Bool) (h : l[m]? = some x) : (l.take (m + 1)).filter p = (l.take m).filter p ++ (if p x then [x] else []) := by
  rw [List.take_add_one, h, List.filter_append]
  show _ ++ List.filter p [x] = _
  rw [List.filter_cons]
  rfl
end Fo
namespace Fo
open PySem PySem.Spec PyProof.Rows L2
/-- what is tracked lies elsewhere than the table of modules -/
def SysAt (base : Heap) : Prop := ∃ o, base.get? sysModules = some o
/-! defs that ask repr: they want to know that no other repr is under way (A.guards) -/
structure FnG (P : Program) (w : World) (K : PySem.W.Frag) (mg : Str → Option Value) (base : Heap) (k : Nat) (f : Addr) (fd : FuncData) (ps : List Str) (sp : Sp) : Prop where
  len : ∀ vs H Q E, sp vs H Q E → vs.length = ps.length
  go : ∀ (A : Around) (outer : List Env) (s : Shared) (H : Hp) (args : Args) (us : List Value) (vs : List V) (Q : VK) (E : XK), A.guards = some [] → Room k A → Env0 P w K mg base A outer s H → BindsTo s fd args (ps.zip us) → Vals vs us → sp vs H Q E → codeAny (model P w) A (.call (.ref f) args) (CR CX0 outer P w H s Q E) s
section
variable {P : Program} {w : World} {K : PySem.W.Frag} {mg : Str → Option Value} {base : Heap}
/-- as Fun.ok -/
theorem okG {y qual : Str} {st : Stmt} {f : Addr} {fd : FuncData} {N ps : List Str} {k : Nat} {sp : Sp} (F : Fun K y qual st f fd) (S : FnScope N ps (defScope st)) (len : ∀ vs H Q E, sp vs H Q E → vs.length = ps.length)
    (body : ∀ (cdv : Value) (A : Around) (outer : List Env) (s : Shared) (H : Hp) (vs : List V) (Q : VK) (E : XK), A.guards = some [] → Room k (A.deeper (envOfC qual (defScope st) s.heap.objs.size f cdv)) → sp vs H Q E →
      ∃ t, PSs (cxOf CX0 P w K mg base N qual (defScope st) f cdv A outer s H E).nox (defBody st) t ∧ t { nx := fun _ H' => Q .non H', rt := Q } (start N vs) H) : FnG P w K mg base (k + 1) f fd ps sp := by
  obtain ⟨oc, od, kV, dc, pm, an, cdv, ct, osl, rfl, lk, hcd⟩ := F.ex
  refine ⟨len, fun A outer s H args us vs Q E gA rm ev bn rv h => ?_⟩
  have kin : K.In s.heap := ev.mod.kin.keeps fun b o e => (ev.bs b o e).1
  have nol : s.heap.NoLimit := ev.mod.nolimit.keeps fun b o e => (ev.bs b o e).1
  refine codeAny_call_function rm.depth (kin _ _ lk) rfl S.co S.gen rfl (PySem.W.codeRec_of kin hcd) (bn _ _ _ _ ?_)
  refine wpAny_newFunctionEnv_cells S.kind (fun yv hy => ?_) fun env he s1 inc => ?_
  · rcases S.par yv.1 (List.of_mem_zip hy).1 with z | z
    · exact .inl z
    · exact .inr ⟨z, PySem.W.cellsFrom_some _ _ _ (.inl z)⟩
  · subst he
    refine ⟨nol.keeps inc.toInCall.keep, codeAny_func ?_⟩
    obtain ⟨t, pt, qt⟩ := body cdv A outer s H vs Q E gA (rm.deeper _) h
    have J : Inv (cxOf CX0 P w K mg base N qual (defScope st) f cdv A outer s H E) [] (start N vs) H s1 := inv_start S rm.hd ev (len _ _ _ _ h) rv inc
    refine wpAny_mono (pt.nox.run [] s1 (start N vs) H _ J qt) (fun fl s' z => ?_) fun _ _ z => z
    cases fl with
    | brk => exact z.choose_spec.choose_spec.2.elim
    | cont => exact z.choose_spec.choose_spec.2.elim
    | next =>
      obtain ⟨σ', H', J', q⟩ := z
      exact ⟨V.non, H', J'.os, J'.bare, J'.base, J'.hok, rfl, q⟩
    | ret u =>
      obtain ⟨v, σ', H', J', r', q⟩ := z
      exact ⟨v, H', J'.os, J'.bare, J'.base, J'.hok, r', q⟩
end
section
variable {X : Cx}
/-- the call of such a def -/
theorem pe_callG {k : Nat} {f : Addr} {fd : FuncData} {ps : List Str} {sp : Sp} {y : Str} {p pos : Pos} {e : Expr} {es : List Expr} {t : TA} (F : FnG X.prog X.w X.K X.mg X.base k f fd ps sp) (gA : X.A.guards = some []) (hr : Room k X.A) (hg : Gl X y) (hm : X.mg y = some (.ref f)) (hk : PySem.W.keepIn X.K (.ref f) = true) (hb : Binds X.K fd ps [])
    (ha : PA X (e :: es) t) (hdb : (y == ("__debug__" : Str)) = false := by decide) (he : starEach (e :: es) X.env = (false, eval e X.env) :: starEach es X.env := by rfl) (hpl : (backTo pos (starEach es X.env)).any (·.1) = false := by rfl) :
    PE X (.Call (.Name y p) (e :: es) [] pos) (tCall sp [] E0 t) := by
  refine ⟨fun pins s σ H Q I h => wpAny_Call_Name_kw (ld_glob I hg hm (PySem.W.callWith_K (h₀ := X.base) I.ok.mod.kin hk (thn (ha.run pos pins s σ H _ I h) fun us s1 ⟨vs, H1, I1, r, q⟩ => ⟨I1.kIn, ?_⟩) he hpl) hdb)⟩
  have r2 : Vals (vs ++ []) (us ++ []) := r.append .nil
  have hl : (us ++ []).length = ps.length := by rw [← r2.length]; exact F.len _ _ _ _ q
  refine wpAny_call (codeAny_mono (F.go X.A X.stack s1 H1 ⟨us, []⟩ (us ++ []) (vs ++ []) Q E0 gA hr I1.env0 (hb s1 us I1.kIn hl) r2 q) fun rs s' hq => ?_)
  match rs, hq with
  | .error _, hq => exact hq.elim
  | .ok (.ret u), hq => exact I1.after hq
  | .ok .next, hq => exact False.elim hq
  | .ok .brk, hq => exact False.elim hq
  | .ok .cont, hq => exact False.elim hq
end
/-! the end of such a law -/
section
variable {P : Program} {w : World} {K : PySem.W.Frag} {mg mb : Str → Option Value} {k : Nat} {fa a : Addr} {fd : FuncData} {y : Str} {sp : Sp} {s : Shared} {us : List Value} {ns : List Int}
theorem lawG_at (kin : K.In s.heap) (ng : s.heap.Ns mainGlobals mg) (nb : s.heap.Ns builtinsNs mb) (eb : ∀ x : Str, x ≠ "__name__" → mb x = bootBuiltins x) (lim : s.heap.NoLimit) (eg : s.gens = #[]) (oa : s.heap.get? a = some { cls := .type "list", data := .seq us.toArray }) (rm : Room k callerA)
    (sy : ∃ m, s.heap.Ns sysModules m) (F : ∀ base : Heap, K.In base → base.Ns mainGlobals mg → SysAt base → FnG P w K mg base k fa fd [y] sp) (bn : ∀ (s : Shared) (u : Value), BindsTo s fd ⟨[u], []⟩ [(y, u)]) {H : Hp} (only : Only H) (hok : HOk P w H s.heap) (h1 : ∀ b, H b ≠ none → b = a) (h2 : H a ≠ none → K.lookup a = none) (h : sp [.ref a] H (fun v _ => v = .bl true) fun _ _ _ => False) :
    codeAny (model P w) callerA (.call (.ref fa) ⟨[.ref a], []⟩) (fun r s' => r = .ok (.ret (.bool true)) ∧ OldK s.heap s'.heap ∧ s'.os = s.os ∧ AllBare s'.gens) s := by
  have trk : ∀ {b : Addr} {u : HO}, H b = some u → b = a := fun {b u} e => h1 b (by rw [e]; exact fun z => nomatch z)
  have noD : ∀ {b : Addr} {o : Obj} {es : Array DictEntry} {ep : Nat}, s.heap.get? b = some o → o.data = .dict es ep → H b = none := fun {b o es ep} e dd => by
    cases q : H b with
    | none => rfl
    | some u =>
      have eq := trk q
      rw [eq, oa] at e
      cases e
      cases (show Data.seq us.toArray _ = Data.dict es ep from dd)
  have nsB : ∀ {b : Addr} {m : Str → Option Value}, s.heap.Ns b m → (hidT s.heap H).Ns b m := fun {b m} ⟨o, es, ep, e, dd, r⟩ => ⟨o, es, ep, hidT_get e (noD e dd), dd, r⟩
  have kinB : K.In (hidT s.heap H) := fun b o e => hidT_get (kin b o e) (by
    cases q : H b with
    | none => rfl
    | some u =>
      have eq := trk q
      rw [eq] at e q
      rw [h2 (by rw [q]; exact fun z => nomatch z)] at e
      cases e)
  have md : Mod K mg (hidT s.heap H) := ⟨kinB, nsB ng, ⟨mb, nsB nb, eb⟩, let ⟨mc, l1, l2⟩ := lim; ⟨mc, nsB l1, l2⟩⟩
  have noF : ∀ b : Addr, b ∉ ([] : List Addr) := fun b z => nomatch z
  have ev : Env0 P w K mg (hidT s.heap H) callerA [] s H := ⟨rfl, md, fun b o e => of_hidT e, Nat.le_of_eq (hidT_size _ _), trivial, fun b z => absurd (show b ∈ ([] : List Addr) from z) (noF b), hok, .of_eq eg⟩
  have sB : SysAt (hidT s.heap H) := by
    obtain ⟨m, z⟩ := sy
    obtain ⟨o, _, _, e, _⟩ := nsB z
    exact ⟨o, e⟩
  refine codeAny_mono ((F _ kinB (nsB ng) sB).go callerA [] s H ⟨[.ref a], []⟩ [.ref a] [.ref a] _ _ rfl rm ev (bn s (.ref a)) (.cons rfl .nil) h) fun rs s' z => ?_
  match rs, z with
  | .error _, z => exact z.elim
  | .ok .next, z => exact False.elim z
  | .ok .brk, z => exact False.elim z
  | .ok .cont, z => exact False.elim z
  | .ok (.ret u), z =>
    obtain ⟨v, H', os, ba, un, hok', rv, q⟩ := z
    obtain rfl : v = .bl true := q
    obtain rfl : u = Value.bool true := rv
    refine ⟨rfl, OldK.of_keep fun b o e => ?_, os, ba⟩
    rcases only b with z | ⟨ob, xs, z⟩
    · exact un.keep b o e z (fun y => absurd (show b ∈ ([] : List Addr) from y) (noF b)) (noF b)
    · obtain ⟨g1, _⟩ := hok b _ z
      obtain ⟨g2, _⟩ := hok' b _ (un.frzs b ob _ z)
      rw [e] at g1
      cases g1
      exact g2
theorem lawG (kin : K.In s.heap) (ng : s.heap.Ns mainGlobals mg) (nb : s.heap.Ns builtinsNs mb) (eb : ∀ x : Str, x ≠ "__name__" → mb x = bootBuiltins x) (lim : s.heap.NoLimit) (eg : s.gens = #[]) (oa : s.heap.get? a = some { cls := .type "list", data := .seq us.toArray }) (hi : IntsAre us ns) (hl : ns.length ≤ sizeLine) (rm : Room k callerA)
    (sy : ∃ m, s.heap.Ns sysModules m) (F : ∀ base : Heap, K.In base → base.Ns mainGlobals mg → SysAt base → FnG P w K mg base k fa fd [y] sp) (bn : ∀ (s : Shared) (u : Value), BindsTo s fd ⟨[u], []⟩ [(y, u)]) (hsp : ∀ H : Hp, Only H → SqL K H a (ns.map V.int) → sp [.ref a] H (fun v _ => v = .bl true) fun _ _ _ => False) :
    codeAny (model P w) callerA (.call (.ref fa) ⟨[.ref a], []⟩) (fun r s' => r = .ok (.ret (.bool true)) ∧ OldK s.heap s'.heap ∧ s'.os = s.os ∧ AllBare s'.gens) s := by
  have rv := vals_ints hi
  have el := hi.length
  cases hk : K.lookup a with
  | some o =>
    have e := kin a o hk
    rw [oa] at e
    cases e
    have o0 : Only (fun _ => none) := fun _ => .inl rfl
    exact lawG_at kin ng nb eb lim eg oa rm sy F bn o0 (fun b u z => absurd (show (none : Option HO) = some u from z) (fun y => nomatch y)) (fun b z => absurd rfl z) (fun z => absurd rfl z) (hsp _ o0 (.inr ⟨_, us.toArray, _, hk, rfl, rfl, rfl, by rw [List.size_toArray, el]; exact hl, by simpa using rv⟩))
  | none =>
    obtain ⟨ob, eo⟩ : ∃ ob : Obj, ob = { cls := .type "list", data := .seq us.toArray } := ⟨_, rfl⟩
    obtain ⟨H, eH⟩ : ∃ H : Hp, H = fun b => if b = a then some (.frz ob (.lst (ns.map V.int))) else none := ⟨_, rfl⟩
    have ha : H a = some (.frz ob (.lst (ns.map V.int))) := by rw [eH]; exact if_pos rfl
    have hb : ∀ b, b ≠ a → H b = none := fun b z => by rw [eH]; exact if_neg z
    have on : Only H := fun b => by
      by_cases z : b = a
      · rw [z]
        exact .inr ⟨_, _, ha⟩
      · exact .inl (hb b z)
    refine lawG_at kin ng nb eb lim eg oa rm sy F bn on (fun b u z => ?_) (fun b z => ?_) (fun _ => hk) (hsp H on (.inl (.inr ⟨ob, ha⟩)))
    · by_cases y : b = a
      · subst y
        rw [ha] at z
        cases z
        rw [eo]
        exact ⟨oa, by rw [List.length_map]; exact hl, us, _, rv, oa⟩
      · rw [hb b y] at z
        cases z
    · by_cases y : b = a
      · exact y
      · exact absurd (hb b y) z
end
theorem walkG {l : PySem.W.OpenLaw} {n k : Nat} {q : Program} {loose : List Str} {XP : (Str → Option Value) → Heap → Prop} {YP : World → Heap → Prop} {d : DefRec} {K : Params → PySem.W.Frag} {sp : World → Sp} {y : Str} (hn : l.most = some n) (hn2 : n ≤ sizeLine) (hdf : d.params.defaults = []) (rm : Room k callerA) (hY : ∀ (w : World) (h : Heap), YP w h → (K w.params).In h) (him : importsNone q = true)
    (F : ∀ (w : World) (mg : Str → Option Value) (fa : Addr) (h : Heap), (K w.params).In h → h.Ns mainGlobals mg → mg d.name = some (.ref fa) → ∃ fd : FuncData, (∀ (s : Shared) (u : Value), BindsTo s fd ⟨[u], []⟩ [(y, u)]) ∧ ∀ base : Heap, (K w.params).In base → base.Ns mainGlobals mg → SysAt base → FnG l.prog w (K w.params) mg base k fa fd [y] (sp w))
    (hsp : ∀ (w : World) (H : Hp) (a : Addr) (ns : List Int), ns.length ≤ n → Only H → SqL (K w.params) H a (ns.map V.int) → sp w [.ref a] H (fun v _ => v = .bl true) fun _ _ _ => False) : PySem.W.WalkO q loose XP YP l.row.toRowW d [] (fun f vs => PySem.call f vs) := by
  refine Att.attach_call hn hdf fun w sA sB mg mb fa o1 pm cd dc ad us ns G Y ho hd hcd hmg hob hin hle hge => ?_
  have KX := hY w _ Y
  obtain ⟨fd, hb, hF⟩ := F w mg fa _ KX G.T.g hmg
  obtain ⟨mm, sy, _⟩ := (G.T.seer him).mods
  exact lawG KX G.T.g G.T.b G.T.builtins G.T.nolimit hge hob hin (Nat.le_trans hle hn2) rm ⟨mm, sy⟩ hF hb fun H hH hS => hsp w H ad ns hle hH hS
end Fo
namespace Fo
open PySem PySem.Spec PyProof.Rows L2
/-! an error that was caught is known behind the try, too -/
def ExV (cls : Value) (d : Option Addr) (a : Addr) : HO := .ext fun h => ∃ oe : Obj, h.get? a = some oe ∧ Zc cls d oe ∧ ∃ vs, oe.data = .fields vs
theorem exV_ok {P : Program} {w : World} {H : Hp} {h : Heap} {a : Addr} {cls : Value} {d : Option Addr} {oe : Obj} (e : h.get? a = some oe) (z : Zc cls d oe) (f : ∃ vs, oe.data = .fields vs) : ObjOk P w H h a (ExV cls d a) :=
  ⟨⟨oe, e, z, f⟩, ⟨oe, e⟩, fun _ _ ⟨o, q, r⟩ k => ⟨o, k o q, r⟩⟩
theorem inv_track {X : Cx} {pins : List (Addr × Obj)} {σ : L2.St} {H : Hp} {s : Shared} {a : Addr} {o : HO} (I : Inv X pins σ H s) (na : H a = none) (n0 : X.s_0.heap.get? a = none) (nL : a ≠ X.env.locals) (nC : ∀ x c, X.env.cells.lookup x = some c → c ≠ a) (nP : ∀ p ∈ X.pn ++ pins, p.1 ≠ a) (new : ObjOk X.prog X.w (upd H a o) s.heap a o) :
    Inv X pins σ (upd H a o) s := by
  have n1 : ∀ b u, X.s_0.heap.get? b = some u → b ≠ a := fun b u e z => by rw [z, n0] at e; cases e
  refine ⟨I.ok, I.os, I.bare, ⟨I.base.keep, I.base.slot, fun b u e n hq => ?_, I.base.there, fun b xs e => ?_, fun b u xs e => ?_, fun b ps e => ?_⟩, I.loc, I.cell, ?_, fun x c e => ?_, fun p hp => ?_, I.hok.laidN (fun _ _ e => e) na new, I.len⟩
  · rw [upd_ne (n1 b u e)]
    exact I.base.free b u e n hq
  · have q := I.base.tups b xs e
    rw [upd_ne (ne_of_none q na)]
    exact q
  · have q := I.base.frzs b u xs e
    rw [upd_ne (ne_of_none q na)]
    exact q
  · obtain ⟨m, q⟩ := I.base.tbls b ps e
    exact ⟨m, by rw [upd_ne (ne_of_none q na)]; exact q⟩
  · rw [upd_ne (Ne.symm nL)]
    exact I.free
  · rw [upd_ne (nC x c e)]
    exact I.freeC x c e
  · obtain ⟨e, n, ne, nf, d⟩ := I.pin p hp
    exact ⟨e, by rw [upd_ne (nP p hp)]; exact n, ne, nf, d⟩
/-- what an «except x as n» wishes, the error known behind it -/
def wAsK (K : PySem.W.Frag) (c : Value) (i : Nat) (ts : Addr → Value → Option Addr → TS) (Wout : WX) (D : Ends) : WX := fun cls d σ H =>
  ∃ b, PySem.W.exmOne K cls c = some b ∧ (b = true → ∀ a, H a = none → ts a cls d ⟨fun σ' H' => D.nx (σ'.set i none) (upd H' a (ExV cls d a)), fun v H' => D.rt v (upd H' a (ExV cls d a)), fun σ' H' => D.bk (σ'.set i none) (upd H' a (ExV cls d a)), fun σ' H' => D.ct (σ'.set i none) (upd H' a (ExV cls d a))⟩ (σ.set i (some (.ref a))) H) ∧ (b = false → Wout cls d σ H)
section
variable {X : Cx} {x n : Str} {c : Value} {i : Nat} {body suite : List Stmt} {b₀ : Stmt} {np pos pos' : Pos} {tb : WX → TS} {ts : Addr → Value → Option Addr → TS} {Wout : WX}
theorem ps_try_k (hs : X.stack = X.env :: X.outer) (hf : X.env.frame = some X.env.locals) (hex : X.ex = []) (hN : X.N.Nodup) (hi : X.N[i]? = some n) (hln : X.env.kindOf n = some .local) (hc : Names X x c) (tk : Takes X Wout)
    (hb : ∀ (W : WX) (pn : List (Addr × Obj)) (xe : Value → Shared → Prop), Takes (X.tr pn xe) W → PassesOwn (model X.prog X.w) X.A X.env xe → PSs (X.tr pn xe) body (tb W)) (hsu : ∀ (a : Addr) (oe : Obj) (cls : Value) (d : Option Addr) (pn : List (Addr × Obj)), Zc cls d oe → (∃ vs, oe.data = .fields vs) → PSs (X.suite a ((a, oe) :: pn)) (b₀ :: suite) (ts a cls d)) : PS X (.Try body [.ExceptHandler (some (.Name x np)) (some n) (b₀ :: suite) pos'] [] [] pos) (fun D σ H => tb (wAsK X.K c i ts Wout D) D σ H) := by
  refine ⟨fun pins s σ H D I hw => ?_⟩
  have okX := I.ok
  have frX : X.A.frames = some (X.env :: X.outer) := by rw [okX.frames, hs]
  have lcN : Loc X.env.scope n := .inl hln
  refine wpAny_Try_except (wpAny_mono ((hb (wAsK X.K c i ts Wout D) (X.pn ++ pins) (fun e s₁ => wpAny (model X.prog X.w) X.A (noteFrame e X.env) (fun _ s₂ => wpAny (model X.prog X.w) X.A (setFlight e none) (fun _ s₃ => wpAny (model X.prog X.w) X.A (handleBy e X.env [.ExceptHandler (some (.Name x np)) (some n) (b₀ :: suite) pos']) (SP X pins D) X.xe s₃) X.xe s₂) X.xe s₁) (fun u s' xx => ?_) PassesOwn.looking).run [] s σ H D (I.toTry _) hw) (fun fl s1 hsp => ?_) (fun _ _ he => he))
  · obtain ⟨a, Bg, sI, pins', σ', H', cls, d, rfl, J', nb, up, sky, na, os, ag, b, hb1, hyes, hno⟩ := xx
    have Ja : Inv X pins σ' H' sI := J'.ofTry okX
    have skyE : Sky Bg (X.env :: X.outer) a (Zc cls d) X.env.locals s'.heap := by rw [← hs]; exact sky
    show wpAny (model X.prog X.w) X.A (noteFrame (.ref a) X.env) _ _ _
    refine Sky.land Zc.steady frX hf skyE fun h3 fl3 up3 => ?_
    have Jb : Inv X pins σ' H' { s' with heap := h3 } := Ja.landed nb fl3.1 (up.trans up3) os ag
    obtain ⟨oe3, vs3, he3, hz3, hd3⟩ := fl3.there
    have nfr : a ∉ frs (X.env :: X.outer) := fun hm => by
      obtain ⟨_, o', e', hnf⟩ := fl3.2.2.1.mem hm
      rw [he3] at e'
      cases e'
      exact hnf _ hd3
    have nL : a ≠ X.env.locals := fun z => nfr (List.mem_filterMap.mpr ⟨X.env, List.mem_cons_self, by rw [hf, z]⟩)
    have nF : a ∉ X.fs := fun hm => by
      obtain ⟨e, hem, q⟩ := List.mem_filterMap.mp hm
      exact nfr (List.mem_filterMap.mpr ⟨e, List.mem_cons_of_mem _ hem, q⟩)
    have nB : Bg.get? a = none := fl3.2.1
    have n0 : X.s_0.heap.get? a = none := by
      cases e : X.s_0.heap.get? a with
      | none => rfl
      | some o =>
        obtain ⟨o', q⟩ := Ja.base.there a o e (by rw [hex]; exact fun z => nomatch z)
        have z := nb a o' q (by rw [hs]; exact nfr)
        rw [nB] at z
        cases z
    have nP : ∀ p ∈ X.pn ++ pins, p.1 ≠ a := fun p hp z => by
      obtain ⟨e, _, ne, nf, _⟩ := Ja.pin p hp
      have q := nb p.1 p.2 e (fun hm => by
        rcases List.mem_cons.mp (Ja.stkSub p.1 hm) with y | y
        · exact ne y
        · exact nf y)
      rw [z, nB] at q
      cases q
    have Sb := Jb.suite he3 hd3 na nL nF
    refine wpAny_handleBy_cons (codeAny_handlers_test ?_) (by intro q; cases q)
    have tyA : PySem.W.Looks (model X.prog X.w) h3 (typeOf (.ref a)) cls := fun A Q E s k q => wpAny_typeOf_ref (k _ _ he3) (by rw [hz3.1]; exact q)
    have exA := PySem.W.exm_one (M := model X.prog X.w) (Jb.kIn) tyA hb1
    have nameA : ∀ {Q : Value → Shared → Prop} {E : Value → Shared → Prop}, Q c { s' with heap := h3 } → wpAny (model X.prog X.w) (X.A.mark (some (.ref a))) (eval (.Name x np) X.env) Q E { s' with heap := h3 } := fun {Q E} q => by
      rcases hc with ⟨hg, hdbg, hm | ⟨hm, hv, hnn⟩⟩
      · exact ld_glob (X := X.suite a ((a, oe3) :: (X.pn ++ pins))) Sb hg hm q hdbg
      · exact ld_blt (X := X.suite a ((a, oe3) :: (X.pn ++ pins))) Sb hg hm hv q hnn hdbg
    refine nameA (exA.here ?_)
    cases b with
    | false =>
      show wpAny _ X.A (handleBy (.ref a) X.env []) _ _ _
      refine wpAny_handleBy_nil ?_
      obtain ⟨k1, k2, k3, oe, vs, T, oT, ts', he, hz, hd, h1, hr⟩ := id fl3
      unfold PySem.passOn
      refine wpAny_bind (wpAny_field he hd h1 ?_)
      rw [if_neg (show ¬ ((Value.ref T == Value.none) = true) from by simp)]
      have out : wpAny (model X.prog X.w) X.A (setFlight (.ref a) X.env.frame) (fun _ s4 => wpAny (model X.prog X.w) X.A (throw (.ref a) : Sem Flow) (SP X pins D) X.xe s4) X.xe { s' with heap := h3 } := by
        rw [hf]
        exact HandSPX.setFlight_upZ fl3 fun h4 hh4 up4 => wpAny_throw (tk _ _ ⟨a, Bg, sI, pins, σ', H', cls, d, rfl, Ja, nb, (up.trans up3).trans up4, .inr (.inr (by rw [hs]; exact hh4)), na, os, ag, hno rfl⟩)
      first
        | exact wpAny_bind (wpAny_pure (wpAny_bind out))
        | exact wpAny_bind out
    | true =>
      refine codeAny_handlers_suite_as (HandSPX.lands_againZ fl3 fun h4 fl4 up4 => ?_)
      have Jc : Inv X pins σ' H' { s' with heap := h4 } := Ja.landed nb fl4.1 ((up.trans up3).trans up4) os ag
      obtain ⟨oe4, vs4, he4, hz4, hd4⟩ := fl4.there
      have Sc := Jc.suite he4 hd4 na nL nF
      refine store_ok (X := X.suite a ((a, oe4) :: (X.pn ++ pins))) (v := .ref a) Sc hN hi lcN rfl (fun s5 S5 => ?_) (.inr hln)
      refine wpAny_mono ((hsu a oe4 cls d (X.pn ++ pins) hz4 ⟨_, hd4⟩).run [] s5 _ H' _ S5 (hyes rfl a na)) (fun fl s6 hsp => ?_) (fun _ _ z => False.elim z)
      have fin : ∀ {σ6 : L2.St} {H6 : Hp} {Q : Shared → Prop}, Inv (X.suite a ((a, oe4) :: (X.pn ++ pins))) [] σ6 H6 s6 → (∀ s7, Inv X pins (σ6.set i none) (upd H6 a (ExV cls d a)) s7 → Q s7) → wpAny (model X.prog X.w) X.A (do bindName X.env n .none; unbindBehindTheSuite X.env n pos') (fun _ s7 => Q s7) X.xe s6 := fun {σ6 H6 Q} S6 hq =>
        gone_ok (X := X.suite a ((a, oe4) :: (X.pn ++ pins))) S6 hN hi hln fun s7 S7 => by
          obtain ⟨g7, n7, _, _, _⟩ := S7.pin (a, oe4) (List.mem_append.mpr (.inl List.mem_cons_self))
          have U7 : Inv X pins (σ6.set i none) H6 s7 := S7.unsuite okX
          refine hq s7 (inv_track U7 n7 n0 nL (fun y cc e z => ?_) nP (exV_ok g7 hz4 ⟨_, hd4⟩))
          obtain ⟨v, o, ho, hdo⟩ := U7.cell y cc e
          rw [z, show s7.heap.get? a = some oe4 from g7] at ho
          cases ho
          rw [hd4] at hdo
          cases hdo
      cases fl with
      | next => obtain ⟨σ6, H6, S6, q6⟩ := hsp; exact fin S6 fun s7 J7 => ⟨_, _, J7, q6⟩
      | brk => obtain ⟨σ6, H6, S6, q6⟩ := hsp; exact fin S6 fun s7 J7 => ⟨_, _, J7, q6⟩
      | cont => obtain ⟨σ6, H6, S6, q6⟩ := hsp; exact fin S6 fun s7 J7 => ⟨_, _, J7, q6⟩
      | ret u => obtain ⟨v6, σ6, H6, S6, r6, q6⟩ := hsp; exact fin S6 fun s7 J7 => ⟨_, _, _, J7, r6, q6⟩
  · cases fl with
    | next => obtain ⟨σ', H', J', q⟩ := hsp; exact wpAny_execs_nil ⟨σ', H', J'.ofTry okX, q⟩
    | brk => obtain ⟨σ', H', J', q⟩ := hsp; exact ⟨σ', H', J'.ofTry okX, q⟩
    | cont => obtain ⟨σ', H', J', q⟩ := hsp; exact ⟨σ', H', J'.ofTry okX, q⟩
    | ret u => obtain ⟨v, σ', H', J', r, q⟩ := hsp; exact ⟨v, σ', H', J'.ofTry okX, r, q⟩
end
/-! isinstance of such an error -/
theorem inst_of {X : Cx} {pins : List (Addr × Obj)} {σ : L2.St} {H : Hp} {s : Shared} {a C : Addr} (I : Inv X pins σ H s) (h : H a = some (ExV (.ref C) none a)) : ∃ oe, PySem.W.InstAt s.heap a oe C none := by
  obtain ⟨⟨oe, g, ⟨h1, h2⟩, vs, hv⟩, _, _⟩ := I.hok a _ h
  obtain ⟨oc, od, oda, osl⟩ := oe
  dsimp only at h1 h2 hv
  subst h1 h2 hv
  exact ⟨_, g, rfl, rfl, trivial⟩
/-- types, errors among them -/
inductive TyZ (K : PySem.W.Frag) (H : Hp) : V → Value → Prop where
  | x {v : V} {t : Value} (h : TyX K H v t) : TyZ K H v t
  | exc {a C : Addr} (h : H a = some (ExV (.ref C) none a)) (c : ExcC K C) : TyZ K H (.ref a) (.ref C)
theorem kitz_of {X : Cx} {pins : List (Addr × Obj)} {σ : L2.St} {H : Hp} {s : Shared} {v : V} {u t : Value} (I : Inv X pins σ H s) (rv : RelV v u) (ty : TyZ X.K H v t) : ∃ Pz : Heap → Prop, PySem.W.KitX X.K u t Pz ∧ Pz s.heap ∧ u ≠ .builtin "__main__.__loader__#opaque" := by
  cases ty with
  | x h => exact kit_of I rv h
  | @exc a C h c =>
    cases (show u = Value.ref a from rv)
    obtain ⟨oe, J⟩ := inst_of I h
    exact ⟨_, PySem.W.handS_kitx_exc c.hg c.hk c.hs c.hd c.ha c.hn c.ht c.hm, J, fun z => nomatch z⟩
def rIsZ (K : PySem.W.Frag) : List V → Hp → VK → Prop := fun xs H Q => ∃ (v c : V) (t u : Value) (b : Bool), xs = [v, c] ∧ ClsV c u ∧ TyZ K H v t ∧ PySem.W.kitOne K t u = some b ∧ Q (.bl b) H
def rIsZT (K : PySem.W.Frag) : List V → Hp → VK → Prop := fun xs H Q => ∃ (v : V) (tp : Addr) (cs : List V) (t : Value) (us : List Value) (b : Bool), xs = [v, .ref tp] ∧ H tp = some (.tup cs) ∧ Paired ClsV cs us ∧ TyZ K H v t ∧ PySem.W.kitAny K t us = some b ∧ Q (.bl b) H
theorem call_isZ {X : Cx} : CallR X (.builtin "isinstance") (rIsZ X.K) := by
  intro pins s σ H xs us Q I r h
  obtain ⟨v, c, t, u, b, rfl, k, ty, e, q⟩ := h
  obtain ⟨w1, w2, rfl, r1, r2⟩ := vals2 r
  obtain rfl := k.eq r2
  obtain ⟨Pz, Z, p, hx⟩ := kitz_of I r1 ty
  exact PySem.W.kia_one Z I.kIn p e hx fun tk => ⟨.bl b, H, I.tok tk, rfl, q⟩
theorem call_isZT {X : Cx} : CallR X (.builtin "isinstance") (rIsZT X.K) := by
  intro pins s σ H xs us Q I r h
  obtain ⟨v, tp, cs, t, ws, b, rfl, hT, k, ty, e, q⟩ := h
  obtain ⟨w1, w2, rfl, r1, r2⟩ := vals2 r
  cases (show w2 = Value.ref tp from r2)
  obtain ⟨Pz, Z, p, hx⟩ := kitz_of I r1 ty
  obtain ⟨_, its, rv, ob, h1, h2, n, h3⟩ := (show ObjOk X.prog X.w H s.heap tp (.tup cs) from I.hok tp _ hT)
  obtain rfl := ClsV.all k rv
  obtain ⟨oc, od, dt, sl⟩ := ob
  simp only at h2 h3
  subst h2 h3
  exact PySem.W.kia_tup Z I.kIn p h1 e hx fun tk => ⟨.bl b, H, I.tok tk, rfl, q⟩
end Fo
namespace Fo
open PySem PySem.Spec PyProof.Rows L2
/-! things of any kind, as data; repr of them -/
def keyD : Key → PyData
  | .inl i => .int i
  | .inr x => .str x
inductive Kvs : List (Key × V) → List (PyData × PyData) → Prop
  | nil : Kvs [] []
  | cons {k : Key} {i : Int} {r : List (Key × V)} {s : List (PyData × PyData)} : Kvs r s → Kvs ((k, .int i) :: r) ((keyD k, .int i) :: s)
mutual
inductive Dq (H : Hp) : V → PyData → Prop
  | non : Dq H .non .none
  | bl (b : Bool) : Dq H (.bl b) (.bool b)
  | int (i : Int) : Dq H (.int i) (.int i)
  | str (x : Str) : Dq H (.str x) (.str x)
  | lst {a : Addr} {xs : List V} {ds : List PyData} : H a = some (.lst xs) → DqAll H xs ds → Dq H (.ref a) (.list ds)
  | tup {a : Addr} {xs : List V} {ds : List PyData} : H a = some (.tup xs) → DqAll H xs ds → Dq H (.ref a) (.tuple ds)
  | dic {a : Addr} {kvs : List (Key × V)} {ks : List (PyData × PyData)} : H a = some (.dK kvs) → Kvs kvs ks → Dq H (.ref a) (.dict ks)
inductive DqAll (H : Hp) : List V → List PyData → Prop
  | nil : DqAll H [] []
  | cons {v : V} {vs : List V} {d : PyData} {ds : List PyData} : Dq H v d → DqAll H vs ds → DqAll H (v :: vs) (d :: ds)
end
mutual
theorem Dq.keep {H H' : Hp} (k : ∀ b o, H b = some o → H' b = some o) : ∀ (d : PyData) (v : V), Dq H v d → Dq H' v d
  | .none, _, h => by cases h; exact .non
  | .bool b, _, h => by cases h; exact .bl b
  | .int i, _, h => by cases h; exact .int i
  | .str x, _, h => by cases h; exact .str x
  | .list ds, _, h => by
    cases h with
    | lst e a => exact .lst (k _ _ e) (DqAll.keep k ds _ a)
  | .tuple ds, _, h => by
    cases h with
    | tup e a => exact .tup (k _ _ e) (DqAll.keep k ds _ a)
  | .dict ks, _, h => by
    cases h with
    | dic e a => exact .dic (k _ _ e) a
theorem DqAll.keep {H H' : Hp} (k : ∀ b o, H b = some o → H' b = some o) : ∀ (ds : List PyData) (vs : List V), DqAll H vs ds → DqAll H' vs ds
  | [], _, h => by cases h; exact .nil
  | d :: ds, _, h => by
    cases h with
    | cons h1 h2 => exact .cons (Dq.keep k d _ h1) (DqAll.keep k ds _ h2)
end
theorem Dq.same {H H' : Hp} {d : PyData} {v : V} (h : Dq H v d) (s : Same H H') : Dq H' v d := Dq.keep s d v h
theorem DqAll.same {H H' : Hp} {ds : List PyData} {vs : List V} (h : DqAll H vs ds) (s : Same H H') : DqAll H' vs ds := DqAll.keep s ds vs h
theorem DqAll.len {H : Hp} : ∀ {ds : List PyData} {vs : List V}, DqAll H vs ds → vs.length = ds.length
  | [], _, h => by cases h; rfl
  | d :: ds, _, h => by
    cases h with
    | cons h1 h2 => rw [List.length_cons, List.length_cons, DqAll.len h2]
theorem DqAll.get {H : Hp} : ∀ {ds : List PyData} {vs : List V} {i : Nat} {v : V}, DqAll H vs ds → vs[i]? = some v → ∃ d, ds[i]? = some d ∧ Dq H v d
  | [], _, i, v, h, e => by cases h; simp at e
  | d :: ds, _, 0, v, h, e => by
    cases h with
    | cons h1 h2 =>
      cases (Option.some.inj e)
      exact ⟨d, rfl, h1⟩
  | d :: ds, _, i + 1, v, h, e => by
    cases h with
    | cons h1 h2 => exact DqAll.get (i := i) h2 e
theorem DqAll.app {H : Hp} : ∀ {ds es : List PyData} {vs us : List V}, DqAll H vs ds → DqAll H us es → DqAll H (vs ++ us) (ds ++ es)
  | [], _, _, _, h, g => by cases h; exact g
  | d :: ds, _, _, _, h, g => by
    cases h with
    | cons h1 h2 => exact .cons h1 (DqAll.app h2 g)
theorem DqAll.take {H : Hp} : ∀ {ds : List PyData} {vs : List V} (n : Nat), DqAll H vs ds → DqAll H (vs.take n) (ds.take n)
  | [], _, n, h => by cases h; rw [List.take_nil, List.take_nil]; exact .nil
  | d :: ds, _, 0, h => .nil
  | d :: ds, _, n + 1, h => by
    cases h with
    | cons h1 h2 => exact .cons h1 (DqAll.take n h2)
theorem DqAll.drop {H : Hp} : ∀ {ds : List PyData} {vs : List V} (n : Nat), DqAll H vs ds → DqAll H (vs.drop n) (ds.drop n)
  | [], _, n, h => by cases h; rw [List.drop_nil, List.drop_nil]; exact .nil
  | d :: ds, _, 0, h => h
  | d :: ds, _, n + 1, h => by
    cases h with
    | cons h1 h2 => exact DqAll.drop n h2
theorem dq_ints {H : Hp} : ∀ ns : List Int, DqAll H (ns.map V.int) (ns.map PyData.int)
  | [] => .nil
  | n :: r => .cons (.int n) (dq_ints r)
theorem dq_list {H : Hp} {a : Addr} {ns : List Int} (h : H a = some (.lst (ns.map V.int))) : Dq H (.ref a) (.list (ns.map PyData.int)) := .lst h (dq_ints ns)
section
variable {X : Cx} {pins : List (Addr × Obj)} {σ : L2.St} {H : Hp} {s : Shared}
theorem not_sys (I : Inv X pins σ H s) (z : SysAt X.base) {a : Addr} {o : HO} (e : H a = some o) : sysModules ≠ a := fun q => by
  obtain ⟨ob, eb⟩ := z
  have := (I.env0.bs _ _ eb).2
  rw [q, e] at this
  cases this
theorem kvs_reads (h : Heap) : ∀ {kvs : List (Key × V)} {ks : List (PyData × PyData)} {vs : List (Key × Value)} {es : List DictEntry}, Kvs kvs ks → KV kvs vs → Pairs (mixKind X.prog X.w) es vs → ReadsAll h (es.map (·.key)) (ks.map (·.1)) [] ∧ ReadsAll h (es.map (·.val)) (ks.map (·.2)) []
  | [], _, _, _, q, r, p => by
    cases q
    cases r
    cases p
    exact ⟨.nil, .nil⟩
  | kv :: kvs, _, _, _, q, r, p => by
    cases q with
    | cons q' =>
      cases r with
      | cons r1 r2 =>
        cases p with
        | cons p1 p2 =>
          obtain ⟨hk, hv⟩ := r1
          obtain ⟨t1, t2⟩ := kvs_reads h q' r2 (by assumption)
          obtain ⟨tv, ev⟩ := hv
          rename_i kk ii ss bb l2 ee ees p3
          have e1 : ∃ u, Reads h ee.key (keyD kk) u ∧ u = [] := by
            have p1' : keyIs bb.1 ee.key = true := p1
            rw [← hk] at p1'
            rcases keyIs_shape p1' with ⟨i, t, a1, a2⟩ | ⟨x, t, a1, a2⟩
            · have a1 : kk = Sum.inl i := a1
              rw [a2, a1]
              exact ⟨_, .int i t, rfl⟩
            · have a1 : kk = Sum.inr x := a1
              rw [a2, a1]
              exact ⟨_, .str x t, rfl⟩
          obtain ⟨_, e1, rfl⟩ := e1
          refine ⟨ReadsAll.cons e1 t1, ReadsAll.cons (as := []) (d := .int ii) ?_ t2⟩
          show Reads h ee.val _ _
          rw [p2, ev]
          exact .int ii tv
mutual
theorem Dq.reads (I : Inv X pins σ H s) (z : SysAt X.base) : ∀ (d : PyData) (v : V) (u : Value), Dq H v d → RelV v u → ∃ as, Reads s.heap u d as ∧ sysModules ∉ as
  | .none, _, _, h, r => by
    cases h
    cases r
    exact ⟨_, .none, List.not_mem_nil⟩
  | .bool b, _, _, h, r => by
    cases h
    cases r
    exact ⟨_, .bool b, List.not_mem_nil⟩
  | .int i, _, _, h, r => by
    cases h
    obtain ⟨t, rfl⟩ := r
    exact ⟨_, .int i t, List.not_mem_nil⟩
  | .str x, _, _, h, r => by
    cases h
    obtain ⟨t, rfl⟩ := r
    exact ⟨_, .str x t, List.not_mem_nil⟩
  | .list ds, _, _, h, r => by
    cases h with
    | lst e ha =>
      cases r
      obtain ⟨its, rv, ⟨o, n, ho, hc, _, hd⟩, _⟩ := I.list (SqL.of e)
      obtain ⟨as, hr, hn⟩ := Dq.readsAll I z ds _ its ha rv
      exact ⟨_, .list ho hc hd hr, fun q => by
        rcases List.mem_cons.mp q with q | q
        · exact not_sys I z e q
        · exact hn q⟩
  | .tuple ds, _, _, h, r => by
    cases h with
    | tup e ha =>
      cases r
      obtain ⟨its, rv, ⟨o, ho, hc, n, hd⟩, _⟩ := I.tuple (SqT.of e)
      obtain ⟨as, hr, hn⟩ := Dq.readsAll I z ds _ its ha rv
      exact ⟨_, .tuple ho hc hd hr, hn⟩
  | .dict ks, _, _, h, r => by
    cases h with
    | dic e hk =>
      cases r
      obtain ⟨_, nsys, vs, rel, dof⟩ := dk_of I.hok e
      obtain ⟨ep, ob, es, ho, exd, hdat, hko, hpr, hnd⟩ := dof.dictAt
      obtain ⟨r1, r2⟩ := kvs_reads (X := X) s.heap hk rel hpr
      exact ⟨_, .dict ho exd.1 hdat r1 r2, fun q => by
        rcases List.mem_cons.mp q with q | q
        · exact not_sys I z e q
        · cases q⟩
theorem Dq.readsAll (I : Inv X pins σ H s) (z : SysAt X.base) : ∀ (ds : List PyData) (vs : List V) (us : List Value), DqAll H vs ds → Vals vs us → ∃ as, ReadsAll s.heap us ds as ∧ sysModules ∉ as
  | [], _, _, h, r => by
    cases h
    cases r
    exact ⟨_, .nil, List.not_mem_nil⟩
  | d :: ds, _, _, h, r => by
    cases h with
    | cons h1 h2 =>
      cases r with
      | cons r1 r2 =>
        obtain ⟨as, q1, n1⟩ := Dq.reads I z d _ _ h1 r1
        obtain ⟨bs, q2, n2⟩ := Dq.readsAll I z ds _ _ h2 r2
        exact ⟨_, .cons q1 q2, fun q => by
          rcases List.mem_append.mp q with q | q
          · exact n1 q
          · exact n2 q⟩
end
/-- fit to be shown -/
structure Rp (m : Nat) (d : PyData) : Prop where
  show' : d.showable = true
  len : d.shown.length ≤ m
  dep : d.depth ≤ 20
/-- repr of a thing -/
def rReprD : List V → Hp → VK → Prop := fun xs H Q => ∃ (v : V) (d : PyData) (m : Nat), xs = [v] ∧ Dq H v d ∧ Rp m d ∧ m ≤ 16777216 ∧ Q (.str d.shown) H
theorem call_reprD {k : Nat} (g : X.A.guards = some []) (rm : Room k X.A) (z : SysAt X.base) : CallR X (.builtin "repr") rReprD := by
  intro pins s σ H xs us Q I r h
  obtain ⟨v, d, m, rfl, hd, rp, hm, q⟩ := h
  obtain ⟨u, rfl, ru⟩ := vals1 r
  have hun := rm.un
  have hdp := rp.dep
  have hsz : d.shown.length ≤ sizeLine := by rw [sizeLine_eq]; exact Nat.le_trans rp.len hm
  obtain ⟨as, rd, ns⟩ := Dq.reads I z d v u hd ru
  have big : ∀ {a : Addr}, u = .ref a → wpAny (model X.prog X.w) X.A (PySem.call (.builtin "repr") [u]) (EP X pins σ Q) X.xe s := fun {a} e => by
    subst e
    exact repr_of_reads' rd rp.show' (fun _ => ns) g (by omega) (fun _ _ e => e) (fun h' tk' tk kp => ⟨.str d.shown, H, I.kept (t' := tk) kp, ⟨_, rfl⟩, q⟩) hsz
  cases hd with
  | non =>
    cases ru
    have e : PyData.shown .none = "None" := by rw [PyData.shown]
    rw [e] at q
    exact PySem.P.repr_of_none ⟨.str _, H, I.tok _, ⟨_, rfl⟩, q⟩
  | bl b =>
    cases ru
    have e : PyData.shown (.bool b) = (if b = true then Str.ofString "True" else Str.ofString "False") := by rw [PyData.shown]
    rw [e] at q
    exact PySem.P.repr_of_bool ⟨.str _, H, I.tok _, ⟨_, rfl⟩, q⟩
  | int i =>
    obtain ⟨t, rfl⟩ := ru
    have e : PyData.shown (.int i) = Str.ofString (toString i) := by rw [PyData.shown]
    rw [e] at q
    exact PySem.P.repr_of_int (by have := rp.show'; rw [PyData.showable] at this; exact of_decide_eq_true this) ⟨.str _, H, I.tok _, ⟨_, rfl⟩, q⟩
  | str x =>
    obtain ⟨t, rfl⟩ := ru
    have e : PyData.shown (.str x) = reprText x := by rw [PyData.shown]
    rw [e] at q hsz
    exact PySem.P.repr_of_str ⟨.str _, H, I.tok _, ⟨_, rfl⟩, q⟩ hsz
  | lst e _ => exact big ru
  | tup e _ => exact big ru
  | dic e _ => exact big ru
end
/-! how long the texts are -/
theorem textFrom_le : ∀ (ts : List Str) (k : Nat) (acc : Str), (textFrom k acc ts).length ≤ acc.length + piled ts
  | [], k, acc => by rw [textFrom]; exact Nat.le_add_right _ _
  | t :: ts, k, acc => by
    rw [textFrom, piled_cons]
    have := textFrom_le ts (k + 1) (acc ++ Str.ofString (if k > 0 then ", " else "") ++ t)
    have e : (Str.ofString (if k > 0 then ", " else "")).length ≤ 2 := by split <;> decide
    rw [strLen_append, strLen_append] at this
    omega
theorem listText_le (ts : List Str) : (listText ts).length ≤ piled ts + 2 := by
  unfold listText
  have := textFrom_le ts 0 (Str.ofString "[")
  rw [strLen_append]
  have e1 : (Str.ofString "[").length = 1 := rfl
  have e2 : (Str.ofString "]").length = 1 := rfl
  omega
theorem piled_le : ∀ {ts : List Str} {m : Nat}, (∀ t ∈ ts, t.length ≤ m) → piled ts ≤ ts.length * (m + 2)
  | [], m, _ => by rw [piled_nil]; exact Nat.zero_le _
  | t :: ts, m, h => by
    rw [piled_cons, List.length_cons, Nat.succ_mul]
    have h1 := piled_le (ts := ts) fun x hx => h x (List.mem_cons_of_mem _ hx)
    have h2 := h t List.mem_cons_self
    omega
theorem join_le (ts : List Str) : (Str.join ", " ts).length ≤ piled ts := by
  by_cases h : ts = []
  · subst h
    decide
  · have := join_length_add ts h
    omega
theorem shownAll_eq : ∀ xs : List PyData, PyData.shownAll xs = xs.map PyData.shown
  | [] => by rw [PyData.shownAll]; rfl
  | x :: xs => by rw [PyData.shownAll, shownAll_eq xs]; rfl
theorem showableAll_of : ∀ {xs : List PyData}, (∀ x ∈ xs, PyData.showable x = true) → PyData.showableAll xs = true
  | [], _ => by rw [PyData.showableAll]
  | x :: xs, h => by rw [PyData.showableAll, h x List.mem_cons_self, showableAll_of fun y hy => h y (List.mem_cons_of_mem _ hy)]; rfl
theorem depthAll_of : ∀ {xs : List PyData} {k : Nat}, (∀ x ∈ xs, PyData.depth x ≤ k) → PyData.depthAll xs ≤ k
  | [], _, _ => by rw [PyData.depthAll]; exact Nat.zero_le _
  | x :: xs, k, h => by
    rw [PyData.depthAll]
    have h1 := h x List.mem_cons_self
    have h2 := depthAll_of fun y hy => h y (List.mem_cons_of_mem _ hy)
    exact Nat.max_le.mpr ⟨h1, h2⟩
/-- shown in m signs, k deep -/
structure Rq (m k : Nat) (d : PyData) : Prop where
  s : d.showable = true
  l : d.shown.length ≤ m
  d : d.depth ≤ k
theorem Rq.rp {m k : Nat} {d : PyData} (h : Rq m k d) (hk : k ≤ 20) : Rp m d := ⟨h.s, h.l, Nat.le_trans h.d hk⟩
theorem Rq.mono {m k m' k' : Nat} {d : PyData} (h : Rq m k d) (hm : m ≤ m') (hk : k ≤ k') : Rq m' k' d := ⟨h.s, Nat.le_trans h.l hm, Nat.le_trans h.d hk⟩
theorem rq_none : Rq 110 0 .none := ⟨by rw [PyData.showable], by rw [PyData.shown]; decide, by rw [PyData.depth]; exact Nat.le_refl _⟩
theorem rq_bool (b : Bool) : Rq 110 0 (.bool b) := ⟨by rw [PyData.showable], by rw [PyData.shown]; cases b <;> decide, by rw [PyData.depth]; exact Nat.le_refl _⟩
theorem rq_int {i : Int} (h : i.natAbs.log2 < 100) : Rq 110 0 (.int i) := by
  refine ⟨by rw [PyData.showable]; exact decide_eq_true (by omega), ?_, by rw [PyData.depth]; exact Nat.le_refl _⟩
  rw [PyData.shown]
  have := int_text_length_le (k := 100) (by decide) h
  show (Str.ofString (toString i)).length ≤ 110
  rw [PySem.ofString_length]
  omega
theorem rq_str {x : Str} (h : (reprText x).length ≤ 110) : Rq 110 0 (.str x) := ⟨by rw [PyData.showable], by rw [PyData.shown]; exact h, by rw [PyData.depth]; exact Nat.le_refl _⟩
theorem rq_list {xs : List PyData} {m k n : Nat} (h : ∀ x ∈ xs, Rq m k x) (hn : xs.length ≤ n) : Rq (n * (m + 2) + 2) (k + 1) (.list xs) := by
  refine ⟨by rw [PyData.showable]; exact showableAll_of fun x hx => (h x hx).s, ?_, by rw [PyData.depth]; exact Nat.succ_le_succ (depthAll_of fun x hx => (h x hx).d)⟩
  rw [PyData.shown, shownAll_eq]
  have h1 := listText_le (xs.map PyData.shown)
  have h2 := piled_le (ts := xs.map PyData.shown) (m := m) fun t ht => by
    obtain ⟨x, hx, rfl⟩ := List.mem_map.mp ht
    exact (h x hx).l
  rw [List.length_map] at h2
  have h3 := Nat.mul_le_mul_right (m + 2) hn
  omega
theorem rq_tup {xs : List PyData} {m k n : Nat} (h : ∀ x ∈ xs, Rq m k x) (hn : xs.length ≤ n) : Rq (n * (m + 2) + 3) (k + 1) (.tuple xs) := by
  refine ⟨by rw [PyData.showable]; exact showableAll_of fun x hx => (h x hx).s, ?_, by rw [PyData.depth]; exact Nat.succ_le_succ (depthAll_of fun x hx => (h x hx).d)⟩
  rw [PyData.shown, shownAll_eq]
  unfold tupleText
  rw [strLen_append, strLen_append]
  have h1 := join_le (xs.map PyData.shown)
  have h2 := piled_le (ts := xs.map PyData.shown) (m := m) fun t ht => by
    obtain ⟨x, hx, rfl⟩ := List.mem_map.mp ht
    exact (h x hx).l
  rw [List.length_map] at h2
  have h3 := Nat.mul_le_mul_right (m + 2) hn
  have e1 : (Str.ofString "(").length = 1 := rfl
  have e2 : (Str.ofString (if ((xs.map PyData.shown).length == 1) = true then ",)" else ")")).length ≤ 2 := by split <;> decide
  omega
theorem showableKv_of : ∀ {ks : List (PyData × PyData)}, (∀ p ∈ ks, PyData.showable p.1 = true ∧ PyData.showable p.2 = true) → PyData.showableKv ks = true
  | [], _ => by rw [PyData.showableKv]
  | (a, b) :: ks, h => by
    obtain ⟨h1, h2⟩ := h (a, b) List.mem_cons_self
    rw [PyData.showableKv, h1, h2, showableKv_of fun y hy => h y (List.mem_cons_of_mem _ hy)]
    rfl
theorem depthKv_of : ∀ {ks : List (PyData × PyData)} {k : Nat}, (∀ p ∈ ks, PyData.depth p.1 ≤ k ∧ PyData.depth p.2 ≤ k) → PyData.depthKv ks ≤ k
  | [], _, _ => by rw [PyData.depthKv]; exact Nat.zero_le _
  | (a, b) :: ks, k, h => by
    rw [PyData.depthKv]
    obtain ⟨h1, h3⟩ := h (a, b) List.mem_cons_self
    exact Nat.max_le.mpr ⟨Nat.max_le.mpr ⟨h1, h3⟩, depthKv_of fun y hy => h y (List.mem_cons_of_mem _ hy)⟩
theorem shownKv_map : ∀ ks : List (PyData × PyData), PyData.shownKv ks = ks.map fun p => p.1.shown ++ Str.ofString ": " ++ p.2.shown
  | [] => by rw [PyData.shownKv]; rfl
  | (a, b) :: ks => by rw [PyData.shownKv, shownKv_map ks]; rfl
theorem rq_dict {ks : List (PyData × PyData)} {m k n : Nat} (h : ∀ p ∈ ks, Rq m k p.1 ∧ Rq m k p.2) (hn : ks.length ≤ n) : Rq (n * (2 * m + 4) + 2) (k + 1) (.dict ks) := by
  refine ⟨by rw [PyData.showable]; exact showableKv_of fun p hp => ⟨(h p hp).1.s, (h p hp).2.s⟩, ?_, by rw [PyData.depth]; exact Nat.succ_le_succ (depthKv_of fun p hp => ⟨(h p hp).1.d, (h p hp).2.d⟩)⟩
  rw [PyData.shown, shownKv_map]
  unfold dictText
  rw [strLen_append, strLen_append]
  have h1 := join_le (ks.map fun p => p.1.shown ++ Str.ofString ": " ++ p.2.shown)
  have h2 := piled_le (ts := ks.map fun p => p.1.shown ++ Str.ofString ": " ++ p.2.shown) (m := 2 * m + 2) fun t ht => by
    obtain ⟨p, hp, rfl⟩ := List.mem_map.mp ht
    have a1 := (h p hp).1.l
    have a2 := (h p hp).2.l
    have e3 : (Str.ofString ": ").length = 2 := rfl
    rw [strLen_append, strLen_append]
    omega
  rw [List.length_map, show 2 * m + 2 + 2 = 2 * m + 4 by omega] at h2
  have h3 := Nat.mul_le_mul_right (2 * m + 4) hn
  have e1 : (Str.ofString "{").length = 1 := rfl
  have e2 : (Str.ofString "}").length = 1 := rfl
  omega
end Fo
namespace Fo
open PySem PySem.Spec PyProof.Rows L2
/-! dict(enumerate(xs)) of a list of ints -/
def enumKV : Nat → List Int → List (Key × V)
  | _, [] => []
  | i, x :: r => (.inl (i : Int), .int x) :: enumKV (i + 1) r
theorem enumKV_len : ∀ (i : Nat) (ns : List Int), (enumKV i ns).length = ns.length
  | _, [] => rfl
  | i, x :: r => by rw [enumKV, List.length_cons, List.length_cons, enumKV_len (i + 1) r]
def enumD : Nat → List Int → List (PyData × PyData)
  | _, [] => []
  | i, x :: r => (.int (i : Int), .int x) :: enumD (i + 1) r
theorem enumD_len : ∀ (i : Nat) (ns : List Int), (enumD i ns).length = ns.length
  | _, [] => rfl
  | i, x :: r => by rw [enumD, List.length_cons, List.length_cons, enumD_len (i + 1) r]
theorem enum_kvs : ∀ (i : Nat) (ns : List Int), Kvs (enumKV i ns) (enumD i ns)
  | _, [] => .nil
  | i, x :: r => .cons (k := .inl (i : Int)) (enum_kvs (i + 1) r)
theorem enumD_mem : ∀ {i : Nat} {ns : List Int} {p : PyData × PyData}, p ∈ enumD i ns → ∃ (j : Nat) (x : Int), p = (.int (j : Int), .int x) ∧ j < i + ns.length ∧ x ∈ ns
  | _, [], _, h => absurd h List.not_mem_nil
  | i, x :: r, p, h => by
    rcases List.mem_cons.mp h with h | h
    · exact ⟨i, x, h, by rw [List.length_cons]; omega, List.mem_cons_self⟩
    · obtain ⟨j, y, e, hj, hy⟩ := enumD_mem h
      exact ⟨j, y, e, by rw [List.length_cons]; omega, List.mem_cons_of_mem _ hy⟩
theorem merge_enum : ∀ (ns : List Int) (acc : List (Key × V)) (i : Nat), (∀ p ∈ acc, ∃ j : Nat, p.1 = .inl (j : Int) ∧ j < i) → mergeK acc (enumKV i ns) = acc ++ enumKV i ns
  | [], acc, i, _ => by
    rw [enumKV, List.append_nil]
    rfl
  | x :: r, acc, i, h => by
    have e : valV acc (.inl (i : Int)) = none := by
      unfold valV
      rw [Option.map_eq_none_iff, List.find?_eq_none]
      intro p hp hd
      obtain ⟨j, ej, hj⟩ := h p hp
      have := of_decide_eq_true hd
      rw [ej] at this
      injection this with this
      omega
    show mergeK (putK acc (.inl (i : Int)) (.int x)) (enumKV (i + 1) r) = _
    rw [putK_new _ e, merge_enum r _ (i + 1) (fun p hp => ?_), List.append_assoc]
    · rfl
    · rcases List.mem_append.mp hp with hp | hp
      · obtain ⟨j, ej, hj⟩ := h p hp
        exact ⟨j, ej, by omega⟩
      · rw [List.mem_singleton.mp hp]
        exact ⟨i, rfl, by omega⟩
/-- what the dict holds, by the list's own values -/
def enumV : Nat → List Value → List (Key × Value)
  | _, [] => []
  | i, x :: r => (.inl (i : Int), x) :: enumV (i + 1) r
theorem enumV_len : ∀ (i : Nat) (us : List Value), (enumV i us).length = us.length
  | _, [] => rfl
  | i, x :: r => by rw [enumV, List.length_cons, List.length_cons, enumV_len (i + 1) r]
theorem enumV_at : ∀ {j i : Nat} {us : List Value} {v : Value}, us[j]? = some v → (enumV i us)[j]? = some (.inl ((i + j : Nat) : Int), v)
  | _, _, [], _, h => by simp at h
  | 0, i, x :: r, v, h => by
    cases (Option.some.inj h)
    rfl
  | j + 1, i, x :: r, v, h => by
    have := enumV_at (j := j) (i := i + 1) (us := r) h
    rw [show i + (j + 1) = i + 1 + j by omega]
    exact this
theorem enumV_rel : ∀ {i : Nat} {ns : List Int} {us : List Value}, Vals (ns.map V.int) us → KV (enumKV i ns) (enumV i us)
  | _, [], _, h => by cases h; exact .nil
  | i, x :: r, _, h => by
    cases h with
    | cons h1 h2 => exact .cons ⟨rfl, h1⟩ (enumV_rel h2)
section
variable {X : Cx}
def tDictEnum (K : PySem.W.Frag) (te : TE) : TE := fun σ H Q => te σ H fun x H1 => ∃ (a : Addr) (ns : List Int), x = .ref a ∧ SqL K H1 a (ns.map V.int) ∧ ∀ p, H1 p = none → Q (.ref p) (upd H1 p (.dK (enumKV 0 ns)))
theorem pe_dictEnum {e : Expr} {te : TE} {p q pos qos : Pos} (calm : X.calm = true) (gd : Gl X "dict") (md : X.mg "dict" = none) (ge : Gl X "enumerate") (me : X.mg "enumerate" = none) (he : PE X e te)
    (st : starEach [Expr.Call (.Name "enumerate" q) [e] [] qos] X.env = [(false, eval (Expr.Call (.Name "enumerate" q) [e] [] qos) X.env)] := by rfl) (su : starEach [e] X.env = [(false, eval e X.env)] := by rfl) :
    PE X (.Call (.Name "dict" p) [.Call (.Name "enumerate" q) [e] [] qos] [] pos) (tDictEnum X.K te) := by
  refine ⟨fun pins s σ H Q I h => ?_⟩
  refine wpAny_Call_Name_kw (ld_blt I gd md (u := .type "dict") (by decide +kernel) ?_ (by decide +kernel) (by decide +kernel))
  rw [st]
  refine PySem.callWith_type1 ?_
  refine wpAny_Call_Name_kw (ld_blt I ge me (u := .type "enumerate") (by decide +kernel) ?_ (by decide +kernel) (by decide +kernel))
  rw [su]
  refine PySem.callWith_type1 (thn (he.run pins s σ H _ I h) fun u s1 ⟨x, H1, I1, r1, a, ns, ex, sq, qk⟩ => ?_)
  subst ex
  obtain rfl : u = Value.ref a := r1
  obtain ⟨its, rv, pl, hz⟩ := I1.list sq
  have hlt := Heap.lt_size pl.isList.choose_spec.1
  refine call_enumerate_list pl.isList fun h' en it sz kp => ?_
  have I2 : Inv X pins σ H1 { s1 with heap := h' } := I1.kept (t' := s1.toks) kp
  have lis : h'.IsList a its.toArray := pl.isList.at fun o e => kp _ _ e
  have ln : its.length = ns.length := by rw [← rv.length, List.length_map]
  have hzn : ns.length ≤ sizeLine := by rw [List.length_map] at hz; exact hz
  refine PySem.call_dict_pairs (knd := mixKind X.prog X.w) (kvs := enumV 0 its) (PairArg.enumerate (s1.heap.objs.size + 1) s1.heap.objs.size a (Nat.succ_ne_self _) (Nat.ne_of_lt (Nat.lt_succ_of_lt hlt)) (Nat.ne_of_lt hlt) its.toArray) (I.ok.hd calm) ⟨⟨_, en⟩, it, lis⟩ ⟨by rw [enumV_len]; simp, fun i key v hr => ?_⟩ (by simp only [List.size_toArray]; omega) fun h2 tk hd2 kp2 => ?_
  · obtain ⟨⟨t, rfl⟩, hv⟩ := hr
    refine ⟨.inl (i : Int), ?_, ?_⟩
    · have := enumV_at (j := i) (i := 0) (us := its) (v := v) (by simpa using hv)
      rw [Nat.zero_add] at this
      exact this
    · show Value.isInt (i : Int) (.int (i : Int) t) = true
      simp [Value.isInt]
  · have em : KV (enumKV 0 ns) (merged [] (enumV 0 its)) := by
      have := KV.merge (enumV_rel (i := 0) rv) (.nil : KV (κ := Key) [] [])
      rw [merge_enum ns [] 0 (fun p hp => absurd hp List.not_mem_nil)] at this
      exact this
    have nn : H1 h'.objs.size = none := I2.hok.fresh (Nat.le_refl _)
    refine ⟨.ref h'.objs.size, upd H1 h'.objs.size (.dK (enumKV 0 ns)), I1.laid (t' := tk) (fun b o e => kp2 b o (fun z => ?_) (kp b o e)) (by rw [sz]; omega) (show ObjOk X.prog X.w _ _ _ (.dK (enumKV 0 ns)) from ⟨by rw [enumKV_len]; exact hzn, beq_eq_false_iff_ne.mpr (Nat.ne_of_gt I2.big), merged [] (enumV 0 its), em, hd2⟩), rfl, qk _ nn⟩
    have := Heap.lt_size e
    simp only [List.mem_cons, List.not_mem_nil, or_false] at z
    rcases z with z | z
    · rw [z] at this
      exact absurd this (Nat.not_lt.mpr (Nat.le_succ _))
    · rw [z] at this
      exact absurd this (Nat.lt_irrefl _)
end
end Fo
namespace Fo
open PySem PySem.Spec PyProof.Rows L2
/-! kinds of things -/
def tyD : PyData → String
  | .none => "NoneType"
  | .bool _ => "bool"
  | .int _ => "int"
  | .str _ => "str"
  | .list _ => "list"
  | .tuple _ => "tuple"
  | .dict _ => "dict"
theorem dq_ty {K : PySem.W.Frag} {H : Hp} {v : V} {d : PyData} (h : Dq H v d) : TyX K H v (.type (tyD d)) := by
  cases h with
  | non => exact .base .non
  | bl b => exact .base (.bl b)
  | int i => exact .base (.int i)
  | str x => exact .base (.str x)
  | lst e _ => exact .base (.lst e)
  | tup e _ => exact .base (.tup e)
  | dic e _ => exact .base (.dK e)
def isIntD : PyData → Bool
  | .int _ => true
  | .bool _ => true
  | _ => false
def isBoolD : PyData → Bool
  | .bool _ => true
  | _ => false
def isListD : PyData → Bool
  | .list _ => true
  | _ => false
def isStrD : PyData → Bool
  | .str _ => true
  | _ => false
theorem kit_intD {K : PySem.W.Frag} : ∀ d : PyData, PySem.W.kitOne K (.type (tyD d)) (.type "int") = some (isIntD d)
  | .none => show PySem.W.kitOne K (.type "NoneType") (.type "int") = some false from kit_ty (by decide +kernel)
  | .bool _ => show PySem.W.kitOne K (.type "bool") (.type "int") = some true from kit_ty (by decide +kernel)
  | .int _ => show PySem.W.kitOne K (.type "int") (.type "int") = some true from kit_ty (by decide +kernel)
  | .str _ => show PySem.W.kitOne K (.type "str") (.type "int") = some false from kit_ty (by decide +kernel)
  | .list _ => show PySem.W.kitOne K (.type "list") (.type "int") = some false from kit_ty (by decide +kernel)
  | .tuple _ => show PySem.W.kitOne K (.type "tuple") (.type "int") = some false from kit_ty (by decide +kernel)
  | .dict _ => show PySem.W.kitOne K (.type "dict") (.type "int") = some false from kit_ty (by decide +kernel)
theorem kit_boolD {K : PySem.W.Frag} : ∀ d : PyData, PySem.W.kitOne K (.type (tyD d)) (.type "bool") = some (isBoolD d)
  | .none => show PySem.W.kitOne K (.type "NoneType") (.type "bool") = some false from kit_ty (by decide +kernel)
  | .bool _ => show PySem.W.kitOne K (.type "bool") (.type "bool") = some true from kit_ty (by decide +kernel)
  | .int _ => show PySem.W.kitOne K (.type "int") (.type "bool") = some false from kit_ty (by decide +kernel)
  | .str _ => show PySem.W.kitOne K (.type "str") (.type "bool") = some false from kit_ty (by decide +kernel)
  | .list _ => show PySem.W.kitOne K (.type "list") (.type "bool") = some false from kit_ty (by decide +kernel)
  | .tuple _ => show PySem.W.kitOne K (.type "tuple") (.type "bool") = some false from kit_ty (by decide +kernel)
  | .dict _ => show PySem.W.kitOne K (.type "dict") (.type "bool") = some false from kit_ty (by decide +kernel)
theorem kit_listD {K : PySem.W.Frag} : ∀ d : PyData, PySem.W.kitOne K (.type (tyD d)) (.type "list") = some (isListD d)
  | .none => show PySem.W.kitOne K (.type "NoneType") (.type "list") = some false from kit_ty (by decide +kernel)
  | .bool _ => show PySem.W.kitOne K (.type "bool") (.type "list") = some false from kit_ty (by decide +kernel)
  | .int _ => show PySem.W.kitOne K (.type "int") (.type "list") = some false from kit_ty (by decide +kernel)
  | .str _ => show PySem.W.kitOne K (.type "str") (.type "list") = some false from kit_ty (by decide +kernel)
  | .list _ => show PySem.W.kitOne K (.type "list") (.type "list") = some true from kit_ty (by decide +kernel)
  | .tuple _ => show PySem.W.kitOne K (.type "tuple") (.type "list") = some false from kit_ty (by decide +kernel)
  | .dict _ => show PySem.W.kitOne K (.type "dict") (.type "list") = some false from kit_ty (by decide +kernel)
theorem kit_strD {K : PySem.W.Frag} : ∀ d : PyData, PySem.W.kitOne K (.type (tyD d)) (.type "str") = some (isStrD d)
  | .none => show PySem.W.kitOne K (.type "NoneType") (.type "str") = some false from kit_ty (by decide +kernel)
  | .bool _ => show PySem.W.kitOne K (.type "bool") (.type "str") = some false from kit_ty (by decide +kernel)
  | .int _ => show PySem.W.kitOne K (.type "int") (.type "str") = some false from kit_ty (by decide +kernel)
  | .str _ => show PySem.W.kitOne K (.type "str") (.type "str") = some true from kit_ty (by decide +kernel)
  | .list _ => show PySem.W.kitOne K (.type "list") (.type "str") = some false from kit_ty (by decide +kernel)
  | .tuple _ => show PySem.W.kitOne K (.type "tuple") (.type "str") = some false from kit_ty (by decide +kernel)
  | .dict _ => show PySem.W.kitOne K (.type "dict") (.type "str") = some false from kit_ty (by decide +kernel)
def wholeD : PyData → Bool
  | .int _ => true
  | _ => false
def GoodD (d : PyData) : Prop := ∃ ns : List Int, d = .list (ns.map PyData.int) ∧ IsOrd ns.length ns ∧ 1 ≤ ns.length ∧ ns.length ≤ 12
theorem all_ints : ∀ {ds : List PyData}, ds.all wholeD = true → ∃ ns : List Int, ds = ns.map PyData.int
  | [], _ => ⟨[], rfl⟩
  | d :: ds, h => by
    rw [List.all_cons, Bool.and_eq_true] at h
    obtain ⟨ns, e⟩ := all_ints h.2
    cases d with
    | int i => exact ⟨i :: ns, by rw [e]; rfl⟩
    | _ => cases h.1
theorem dq_intsV {H : Hp} : ∀ {ns : List Int} {vs : List V}, DqAll H vs (ns.map PyData.int) → vs = ns.map V.int
  | [], _, h => by cases h; rfl
  | n :: r, _, h => by
    rw [List.map_cons] at h
    cases h with
    | cons h1 h2 =>
      cases h1
      rw [dq_intsV h2]
      rfl
theorem intD_inj : ∀ {a b : List Int}, a.map PyData.int = b.map PyData.int → a = b
  | [], [], _ => rfl
  | [], _ :: _, h => by cases h
  | _ :: _, [], h => by cases h
  | x :: a, y :: b, h => by
    rw [List.map_cons, List.map_cons] at h
    injection h with h1 h2
    injection h1 with h1
    rw [h1, intD_inj h2]
theorem good_all {ds : List PyData} (h : GoodD (.list ds)) : ds.all wholeD = true := by
  obtain ⟨ns, e, _⟩ := h
  injection e with e
  rw [e, List.all_eq_true]
  intro x hx
  obtain ⟨i, _, rfl⟩ := List.mem_map.mp hx
  rfl
def spWholeD : Sp := fun vs H Q _ => ∃ (v : V) (d : PyData), vs = [v] ∧ Dq H v d ∧ Q (.bl (wholeD d)) H
def spIsOrdD : Sp := fun vs H Q _ => ∃ (v : V) (d : PyData), vs = [v] ∧ Dq H v d ∧ ∀ (b : Bool) (H' : Hp), (b = true ↔ GoodD d) → Same H H' → Q (.bl b) H'
def spGoodL : Sp := fun vs H Q _ => ∃ (v : V) (d : PyData), vs = [v] ∧ Dq H v d ∧ ∀ (b : Bool) (H' : Hp), (b = true ↔ GoodD d) → Same H H' → Q (.bl b) H'
theorem not_good {d : PyData} (h : isListD d = false) : (false = true ↔ GoodD d) := by
  refine ⟨fun z => absurd z Bool.false_ne_true, fun z => ?_⟩
  obtain ⟨ns, e, _⟩ := z
  rw [e] at h
  cases h
theorem not_good_len {ds : List PyData} (h : ds.length < 1 ∨ 12 < ds.length) : (false = true ↔ GoodD (.list ds)) := by
  refine ⟨fun z => absurd z Bool.false_ne_true, fun z => ?_⟩
  obtain ⟨ns, e, _, h1, h2⟩ := z
  injection e with e
  rw [e, List.length_map] at h
  omega
theorem not_good_all {ds : List PyData} (h : ds.all wholeD = false) : (false = true ↔ GoodD (.list ds)) := ⟨fun z => absurd z Bool.false_ne_true, fun z => by rw [good_all z] at h; cases h⟩
theorem all_map_id (ds : List PyData) : (ds.map wholeD).all id = ds.all wholeD := by
  rw [List.all_map]
  rfl
theorem perm_sub : ∀ {a b : List Int}, a.Nodup → (∀ x ∈ a, x ∈ b) → b.length ≤ a.length → a.Perm b
  | [], b, _, _, h => by
    have : b = [] := List.eq_nil_of_length_eq_zero (Nat.le_zero.mp h)
    rw [this]
  | x :: a, b, nd, sub, h => by
    have hx := sub x List.mem_cons_self
    have nx := (List.nodup_cons.mp nd).1
    have h1 := List.length_erase_of_mem hx
    rw [List.length_cons] at h
    refine List.Perm.trans (List.Perm.cons x (perm_sub (b := b.erase x) (List.nodup_cons.mp nd).2 (fun y hy => ?_) (by omega))) (List.perm_cons_erase hx).symm
    exact (List.mem_erase_of_ne (fun z => nx (by rw [← z]; exact hy))).mpr (sub y (List.mem_cons_of_mem _ hy))
theorem ord_of {ns : List Int} (nd : ns.Nodup) (h : ∀ x ∈ ns, 0 ≤ x ∧ x < (ns.length : Int)) : IsOrd ns.length ns := by
  have sub : ∀ x ∈ ns, x ∈ rg ns.length := fun x hx => rg_mem.mpr (h x hx)
  exact perm_sub nd sub (by rw [rg_len]; exact Nat.le_refl _)
theorem inV_ints (t : Int) : ∀ row : List Int, inV (.int t) (row.map V.int) = decide (t ∈ row)
  | [] => rfl
  | x :: r => by
    have ih := inV_ints t r
    unfold inV at ih ⊢
    have eqI : eqV (.int x) (.int t) = decide (x = t) := by
      unfold eqV
      by_cases e : x = t
      · subst e
        simp
      · simp [e]
    rw [List.map_cons, List.any_cons, ih, eqI]
    by_cases e : x = t
    · subst e
      simp
    · have e1 : ¬ t = x := fun z => e z.symm
      simp [e, e1]
theorem flatI (row : List Int) : (row.map V.int).all flatV = true := by
  rw [List.all_eq_true]
  intro x hx
  obtain ⟨i, _, rfl⟩ := List.mem_map.mp hx
  rfl
section
variable {P : Program} {w : World} {K : PySem.W.Frag} {mg : Str → Option Value} {base : Heap}
theorem scWholeD : FnScope ["thing"] ["thing"] (defScope s_is_whole) := ⟨rfl, rfl, rfl, by decide +kernel, rfl, by decide +kernel, by decide +kernel⟩
theorem ok_wholeD {f : Addr} {fd : FuncData} {k : Nat} (T : Df K mg "is_whole" s_is_whole ["thing"] f fd) (B : Bi mg) : FnOk P w K mg base CX0 (k + 1) f fd ["thing"] spWholeD := by
  refine T.F.ok scWholeD (fun vs H Q E h => ?_) (fun cdv A outer s H vs Q E hr h => ?_)
  · obtain ⟨v, d, rfl, _⟩ := h
    rfl
  · obtain ⟨v, d, rfl, hd, q⟩ := h
    refine ⟨_, 
      (pss_one (ps_ret (pe_and (pe_callB call_isi (by rfl) B.isinstance (by decide +kernel) (pa_cons (pv 0) (pa_cons (pe_bltn (v := .ty "int") (by rfl) B.int (by decide +kernel) rfl) pa_nil))) (pe_one (pe_not (pe_callB call_isi (by rfl) B.isinstance (by decide +kernel) (pa_cons (pv 0) (pa_cons (pe_bltn (v := .ty "bool") (by rfl) B.bool (by decide +kernel) rfl) pa_nil)))))))), ?_⟩
    refine ⟨_, rfl, _, _, _, _, isIntD d, rfl, .ty _, dq_ty hd, kit_intD d, _, rfl, ?_⟩
    cases d with
    | int i => exact iteT ⟨_, rfl, _, _, _, _, false, rfl, .ty _, dq_ty hd, kit_boolD _, false, rfl, q⟩
    | bool b => exact iteT ⟨_, rfl, _, _, _, _, true, rfl, .ty _, dq_ty hd, kit_boolD _, true, rfl, q⟩
    | _ => exact iteF q
end
end Fo
namespace Fo
open PySem PySem.Spec PyProof.Rows L2
/-! how long a thing is, shown: added up -/
mutual
def wt : PyData → Nat
  | .none => 4
  | .bool _ => 5
  | .int i => (Str.ofString (toString i)).length
  | .str x => (reprText x).length
  | .list xs => wtL xs + 2
  | .tuple xs => wtL xs + 3
  | .dict kvs => wtK kvs + 2
def wtL : List PyData → Nat
  | [] => 0
  | x :: xs => wt x + 2 + wtL xs
def wtK : List (PyData × PyData) → Nat
  | [] => 0
  | (k, v) :: r => wt k + wt v + 4 + wtK r
end
theorem kvLen {k v : Str} : (k ++ Str.ofString ": " ++ v).length = k.length + v.length + 2 := by
  rw [strLen_append, strLen_append, show (Str.ofString ": ").length = 2 from rfl]
  omega
mutual
theorem shown_le : ∀ d : PyData, d.shown.length ≤ wt d
  | .none => by rw [PyData.shown, wt]; decide
  | .bool b => by rw [PyData.shown, wt]; cases b <;> decide
  | .int i => by rw [PyData.shown, wt]; exact Nat.le_refl _
  | .str x => by rw [PyData.shown, wt]; exact Nat.le_refl _
  | .list xs => by
    rw [PyData.shown, wt]
    have h1 := listText_le (PyData.shownAll xs)
    have h2 := piled_shown xs
    omega
  | .tuple xs => by
    rw [PyData.shown, wt]
    unfold tupleText
    rw [strLen_append, strLen_append]
    have h1 := join_le (PyData.shownAll xs)
    have h2 := piled_shown xs
    have e1 : (Str.ofString "(").length = 1 := rfl
    have e2 : (Str.ofString (if ((PyData.shownAll xs).length == 1) = true then ",)" else ")")).length ≤ 2 := by split <;> decide
    omega
  | .dict kvs => by
    rw [PyData.shown, wt]
    unfold dictText
    rw [strLen_append, strLen_append]
    have h1 := join_le (PyData.shownKv kvs)
    have h2 := piled_kv kvs
    have e1 : (Str.ofString "{").length = 1 := rfl
    have e2 : (Str.ofString "}").length = 1 := rfl
    omega
theorem piled_shown : ∀ xs : List PyData, piled (PyData.shownAll xs) ≤ wtL xs
  | [] => by rw [PyData.shownAll, piled_nil]; exact Nat.zero_le _
  | x :: xs => by
    rw [PyData.shownAll, piled_cons, wtL]
    have h1 := shown_le x
    have h2 := piled_shown xs
    omega
theorem piled_kv : ∀ ks : List (PyData × PyData), piled (PyData.shownKv ks) ≤ wtK ks
  | [] => by rw [PyData.shownKv, piled_nil]; exact Nat.zero_le _
  | (a, b) :: ks => by
    rw [PyData.shownKv, piled_cons, wtK]
    have h1 := shown_le a
    have h2 := shown_le b
    have h3 := piled_kv ks
    have e : (PyData.shown a ++ ": " ++ PyData.shown b).length = (PyData.shown a).length + (PyData.shown b).length + 2 := kvLen
    omega
end
/-- fit to be shown, in m signs, k deep -/
structure Rw (m k : Nat) (d : PyData) : Prop where
  s : d.showable = true
  l : wt d ≤ m
  d : d.depth ≤ k
structure Rws (m k : Nat) (ds : List PyData) : Prop where
  s : PyData.showableAll ds = true
  l : wtL ds ≤ m
  d : PyData.depthAll ds ≤ k
theorem Rw.rp {m k : Nat} {d : PyData} (h : Rw m k d) (hk : k ≤ 20) : Rp m d := ⟨h.s, Nat.le_trans (shown_le d) h.l, Nat.le_trans h.d hk⟩
theorem Rw.mono {m k m' k' : Nat} {d : PyData} (h : Rw m k d) (hm : m ≤ m') (hk : k ≤ k') : Rw m' k' d := ⟨h.s, Nat.le_trans h.l hm, Nat.le_trans h.d hk⟩
theorem Rws.mono {m k m' k' : Nat} {d : List PyData} (h : Rws m k d) (hm : m ≤ m') (hk : k ≤ k') : Rws m' k' d := ⟨h.s, Nat.le_trans h.l hm, Nat.le_trans h.d hk⟩
theorem rw_none : Rw 4 0 .none := ⟨by rw [PyData.showable], by rw [wt]; exact Nat.le_refl _, by rw [PyData.depth]; exact Nat.le_refl _⟩
theorem rw_bool (b : Bool) : Rw 5 0 (.bool b) := ⟨by rw [PyData.showable], by rw [wt]; exact Nat.le_refl _, by rw [PyData.depth]; exact Nat.le_refl _⟩
theorem log2_100 {i : Int} (h1 : -100000000000000000000000000 ≤ i) (h2 : i ≤ 100000000000000000000000000) : i.natAbs.log2 < 100 := by
  by_cases z : i.natAbs = 0
  · rw [z]
    decide
  · rw [Nat.log2_lt z]
    have : (2 : Nat) ^ 100 = 1267650600228229401496703205376 := by decide
    omega
theorem rw_int {i : Int} (h1 : -100000000000000000000000000 ≤ i) (h2 : i ≤ 100000000000000000000000000) : Rw 110 0 (.int i) := by
  have h := log2_100 h1 h2
  refine ⟨by rw [PyData.showable]; exact decide_eq_true (by omega), ?_, by rw [PyData.depth]; exact Nat.le_refl _⟩
  rw [wt]
  have := int_text_length_le (k := 100) (by decide) h
  rw [PySem.ofString_length]
  omega
theorem rw_str {x : Str} {n : Nat} (h : (reprText x).length ≤ n) : Rw n 0 (.str x) := ⟨by rw [PyData.showable], by rw [wt]; exact h, by rw [PyData.depth]; exact Nat.le_refl _⟩
theorem rws_nil {k : Nat} : Rws 0 k [] := ⟨by rw [PyData.showableAll], by rw [wtL]; exact Nat.le_refl _, by rw [PyData.depthAll]; exact Nat.zero_le _⟩
theorem rws_cons {a b k : Nat} {d : PyData} {ds : List PyData} (h : Rw a k d) (g : Rws b k ds) : Rws (a + 2 + b) k (d :: ds) :=
  ⟨by rw [PyData.showableAll, h.s, g.s]; rfl, by rw [wtL]; have := h.l; have := g.l; omega, by rw [PyData.depthAll]; exact Nat.max_le.mpr ⟨h.d, g.d⟩⟩
theorem rws_ints {b : Nat} : ∀ {ns : List Int}, (∀ x ∈ ns, -100000000000000000000000000 ≤ x ∧ x ≤ 100000000000000000000000000) → Rws (ns.length * 112) b (ns.map PyData.int)
  | [], _ => by rw [List.map_nil, List.length_nil, Nat.zero_mul]; exact rws_nil
  | x :: r, h => by
    have h1 := h x List.mem_cons_self
    have h2 := rws_cons ((rw_int h1.1 h1.2).mono (Nat.le_refl _) (Nat.zero_le b)) (rws_ints (b := b) (ns := r) fun y hy => h y (List.mem_cons_of_mem _ hy))
    exact h2.mono (by rw [List.length_cons, Nat.succ_mul]; omega) (Nat.le_refl _)
theorem rw_list {m k : Nat} {ds : List PyData} (h : Rws m k ds) : Rw (m + 2) (k + 1) (.list ds) := ⟨by rw [PyData.showable]; exact h.s, by rw [wt]; have := h.l; omega, by rw [PyData.depth]; exact Nat.succ_le_succ h.d⟩
theorem rw_tup {m k : Nat} {ds : List PyData} (h : Rws m k ds) : Rw (m + 3) (k + 1) (.tuple ds) := ⟨by rw [PyData.showable]; exact h.s, by rw [wt]; have := h.l; omega, by rw [PyData.depth]; exact Nat.succ_le_succ h.d⟩
theorem wtL_app : ∀ a b : List PyData, wtL (a ++ b) = wtL a + wtL b
  | [], b => by rw [List.nil_append, wtL, Nat.zero_add]
  | x :: a, b => by
    rw [List.cons_append, wtL, wtL, wtL_app a b]
    omega
theorem showAll_app : ∀ a b : List PyData, PyData.showableAll (a ++ b) = (PyData.showableAll a && PyData.showableAll b)
  | [], b => by rw [List.nil_append, PyData.showableAll, Bool.true_and]
  | x :: a, b => by rw [List.cons_append, PyData.showableAll, PyData.showableAll, showAll_app a b, Bool.and_assoc]
theorem depAll_app : ∀ a b : List PyData, PyData.depthAll (a ++ b) = max (PyData.depthAll a) (PyData.depthAll b)
  | [], b => by rw [List.nil_append, PyData.depthAll, Nat.zero_max]
  | x :: a, b => by
    rw [List.cons_append, PyData.depthAll, PyData.depthAll, depAll_app a b]
    omega
theorem Rws.app {m n k : Nat} {a b : List PyData} (h : Rws m k a) (g : Rws n k b) : Rws (m + n) k (a ++ b) :=
  ⟨by rw [showAll_app, h.s, g.s]; rfl, by rw [wtL_app]; have := h.l; have := g.l; omega, by rw [depAll_app]; exact Nat.max_le.mpr ⟨h.d, g.d⟩⟩
theorem Rws.left {m k : Nat} {a b : List PyData} (h : Rws m k (a ++ b)) : Rws m k a := by
  have h1 := h.s
  have h2 := h.l
  have h3 := h.d
  rw [showAll_app, Bool.and_eq_true] at h1
  rw [wtL_app] at h2
  rw [depAll_app] at h3
  exact ⟨h1.1, by omega, by omega⟩
theorem Rws.right {m k : Nat} {a b : List PyData} (h : Rws m k (a ++ b)) : Rws m k b := by
  have h1 := h.s
  have h2 := h.l
  have h3 := h.d
  rw [showAll_app, Bool.and_eq_true] at h1
  rw [wtL_app] at h2
  rw [depAll_app] at h3
  exact ⟨h1.2, by omega, by omega⟩
theorem Rws.take {m k : Nat} {a : List PyData} (h : Rws m k a) (n : Nat) : Rws m k (a.take n) := Rws.left (b := a.drop n) (by rw [List.take_append_drop]; exact h)
theorem Rws.drop {m k : Nat} {a : List PyData} (h : Rws m k a) (n : Nat) : Rws m k (a.drop n) := Rws.right (a := a.take n) (by rw [List.take_append_drop]; exact h)
theorem Rws.mem {m k : Nat} {x : PyData} : ∀ {a : List PyData}, Rws m k a → x ∈ a → Rw m k x
  | [], _, h => absurd h List.not_mem_nil
  | y :: a, h, hx => by
    have h1 := h.s
    have h2 := h.l
    have h3 := h.d
    rw [PyData.showableAll, Bool.and_eq_true] at h1
    rw [wtL] at h2
    rw [PyData.depthAll] at h3
    rcases List.mem_cons.mp hx with rfl | hx
    · exact ⟨h1.1, by omega, by omega⟩
    · exact Rws.mem (a := a) ⟨h1.2, by omega, by omega⟩ hx
theorem Rw.lst {m k : Nat} {ds : List PyData} (h : Rw m k (.list ds)) : ∃ j, j + 1 = k ∧ Rws m j ds := by
  have h1 := h.s
  have h2 := h.l
  have h3 := h.d
  rw [PyData.showable] at h1
  rw [wt] at h2
  rw [PyData.depth] at h3
  exact ⟨k - 1, by omega, h1, by omega, by omega⟩
theorem Rw.lsts {m k : Nat} {ds : List PyData} (h : Rw m k (.list ds)) : Rws m k ds := by
  obtain ⟨j, e, h⟩ := h.lst
  exact h.mono (Nat.le_refl _) (by omega)
theorem rw_cat {m n k : Nat} {a b : List PyData} (h : Rw m k (.list a)) (g : Rw n k (.list b)) : Rw (m + n) k (.list (a ++ b)) := by
  have h1 := h.s
  have h2 := h.l
  have h3 := h.d
  have g1 := g.s
  have g2 := g.l
  have g3 := g.d
  rw [PyData.showable] at h1 g1
  rw [wt] at h2 g2
  rw [PyData.depth] at h3 g3
  exact ⟨by rw [PyData.showable, showAll_app, h1, g1]; rfl, by rw [wt, wtL_app]; omega, by rw [PyData.depth, depAll_app]; omega⟩
theorem rw_take {m k : Nat} {a : List PyData} (h : Rw m k (.list a)) (n : Nat) : Rw m k (.list (a.take n)) := by
  have h1 := h.s
  have h2 := h.l
  have h3 := h.d
  rw [PyData.showable] at h1
  rw [wt] at h2
  rw [PyData.depth] at h3
  obtain ⟨g1, g2, g3⟩ := Rws.take ⟨h1, Nat.le_refl _, Nat.le_refl _⟩ n
  exact ⟨by rw [PyData.showable]; exact g1, by rw [wt]; omega, by rw [PyData.depth]; omega⟩
theorem rw_drop {m k : Nat} {a : List PyData} (h : Rw m k (.list a)) (n : Nat) : Rw m k (.list (a.drop n)) := by
  have h1 := h.s
  have h2 := h.l
  have h3 := h.d
  rw [PyData.showable] at h1
  rw [wt] at h2
  rw [PyData.depth] at h3
  obtain ⟨g1, g2, g3⟩ := Rws.drop ⟨h1, Nat.le_refl _, Nat.le_refl _⟩ n
  exact ⟨by rw [PyData.showable]; exact g1, by rw [wt]; omega, by rw [PyData.depth]; omega⟩
theorem rw_mem {m k : Nat} {a : List PyData} {x : PyData} (h : Rw m k (.list a)) (hx : x ∈ a) : Rw m k x := h.lsts.mem hx
theorem rw_totup {m k : Nat} {a : List PyData} (h : Rw m k (.list a)) : Rw (m + 1) k (.tuple a) := by
  have h1 := h.s
  have h2 := h.l
  have h3 := h.d
  rw [PyData.showable] at h1
  rw [wt] at h2
  rw [PyData.depth] at h3
  exact ⟨by rw [PyData.showable]; exact h1, by rw [wt]; omega, by rw [PyData.depth]; omega⟩
theorem rw_repl {m k : Nat} {x : PyData} (h : Rw m k x) : ∀ n : Nat, Rws (n * (m + 2)) k (List.replicate n x)
  | 0 => rws_nil.mono (Nat.zero_le _) (Nat.le_refl _)
  | n + 1 => by
    rw [List.replicate_succ]
    exact (rws_cons h (rw_repl h n)).mono (by rw [Nat.succ_mul]; omega) (Nat.le_refl _)
theorem rw_dict1 {m n : Nat} {k v : PyData} (h : Rw m 0 k) (g : Rw n 0 v) : Rw (m + n + 6) 1 (.dict [(k, v)]) :=
  ⟨by rw [PyData.showable, PyData.showableKv, h.s, g.s, PyData.showableKv]; rfl, by rw [wt, wtK, wtK]; have := h.l; have := g.l; omega, by
    rw [PyData.depth, PyData.depthKv, PyData.depthKv]
    have := h.d
    have := g.d
    omega⟩
theorem rw_dict0 : Rw 2 1 (.dict []) := ⟨by rw [PyData.showable, PyData.showableKv], by rw [wt, wtK]; decide, by rw [PyData.depth, PyData.depthKv]; decide⟩
end Fo
namespace Fo
open PySem PySem.Spec PyProof.Rows L2
/-! expressions that make things of any kind: what they are, and how long they are shown -/
/-- what draws numbers, and what stays while it draws -/
structure Src where
  At : Hp → Prop
  Kp : Hp → Hp → Prop
  cut : Hp → Hp
  refl : ∀ H, Kp H H
  trans : ∀ {a b c}, Kp a b → Kp b c → Kp a c
  kp : ∀ {H H'}, Kp H H' → Same (cut H) (cut H')
  le : ∀ H, Same (cut H) H
  same : ∀ {H H'}, At H → Same H H' → At H' ∧ Kp H H'
  put : ∀ {H H1 p} (o : HO), At H → Kp H H1 → At H1 → H p = none → At (upd H1 p o) ∧ Kp H (upd H1 p o) ∧ (cut (upd H1 p o)) p = some o ∧ ∀ b, b ≠ p → cut (upd H1 p o) b = cut H1 b
theorem Src.new (S : Src) {H : Hp} {p : Addr} (o : HO) (h : S.At H) (np : H p = none) : (S.cut (upd H p o)) p = some o := (S.put o h (S.refl H) h np).2.2.1
def Od (S : Src) (m k : Nat) (B : PyData → Prop) (H : Hp) (v : V) : Prop := ∃ d, Dq (S.cut H) v d ∧ Rw m k d ∧ B d
theorem Od.kp {S : Src} {m k : Nat} {B : PyData → Prop} {H H' : Hp} {v : V} (h : Od S m k B H v) (e : S.Kp H H') : Od S m k B H' v := by
  obtain ⟨d, h1, h2, h3⟩ := h
  exact ⟨d, h1.same (S.kp e), h2, h3⟩
theorem Od.mono {S : Src} {m k m' k' : Nat} {B C : PyData → Prop} {H : Hp} {v : V} (h : Od S m k B H v) (hm : m ≤ m') (hk : k ≤ k') (i : ∀ d, B d → C d) : Od S m' k' C H v := by
  obtain ⟨d, h1, h2, h3⟩ := h
  exact ⟨d, h1, h2.mono hm hk, i d h3⟩
abbrev bT : PyData → Prop := fun _ => True
abbrev oL (A : List PyData → Prop) : PyData → Prop := fun d => ∃ ds, d = .list ds ∧ A ds
abbrev oT (A : List PyData → Prop) : PyData → Prop := fun d => ∃ ds, d = .tuple ds ∧ A ds
abbrev oI (A : Int → Prop) : PyData → Prop := fun d => ∃ i, d = .int i ∧ A i
abbrev oS (A : Str → Prop) : PyData → Prop := fun d => ∃ x, d = .str x ∧ A x
def OE (S : Src) (t : TE) (σ : L2.St) (H : Hp) (m k : Nat) (B : PyData → Prop) : Prop := ∀ H1 Q, S.Kp H H1 → S.At H1 → (∀ v H2, S.Kp H1 H2 → S.At H2 → Od S m k B H2 v → Q v H2) → t σ H1 Q
def OA (S : Src) (t : TA) (σ : L2.St) (H : Hp) (m k : Nat) (A : List PyData → Prop) : Prop := ∀ H1 Q, S.Kp H H1 → S.At H1 → (∀ vs H2, S.Kp H1 H2 → S.At H2 → (∃ ds, DqAll (S.cut H2) vs ds ∧ Rws m k ds ∧ A ds) → Q vs H2) → t σ H1 Q
def OO (S : Src) (t : TO) (σ : L2.St) (H : Hp) (P : Option Int → Prop) : Prop := ∀ H1 Q, S.Kp H H1 → S.At H1 → (∀ o H2, S.Kp H1 H2 → S.At H2 → P o → Q o H2) → t σ H1 Q
section
variable {S : Src} {σ : L2.St} {H : Hp} {m k a b : Nat} {B C : PyData → Prop} {t u : TE}
theorem OE.kp (h : OE S t σ H m k B) {H' : Hp} (e : S.Kp H H') : OE S t σ H' m k B := fun H1 Q e1 at1 q => h H1 Q (S.trans e e1) at1 q
theorem OE.mono (h : OE S t σ H m k B) {m' k' : Nat} (hm : m ≤ m') (hk : k ≤ k') (i : ∀ d, B d → C d) : OE S t σ H m' k' C := fun H1 Q e1 at1 q => h H1 Q e1 at1 fun v H2 e2 at2 o => q v H2 e2 at2 (o.mono hm hk i)
theorem OE.imp (h : OE S t σ H m k B) (i : ∀ d, B d → C d) : OE S t σ H m k C := h.mono (Nat.le_refl _) (Nat.le_refl _) i
theorem oe_var {i : Nat} {v : V} (e : σ[i]? = some (some v)) (o : Od S m a B H v) (hk : a ≤ k) : OE S (tVar i) σ H m k B := fun H1 _ e1 at1 q => ⟨v, e, q v H1 (S.refl _) at1 ((o.kp e1).mono (Nat.le_refl _) hk fun _ h => h)⟩
theorem oe_v {i : Nat} {v : V} (e : σ[i]? = some (some v)) (o : Od S m k B H v) : OE S (tVar i) σ H m k B := fun H1 _ e1 at1 q => ⟨v, e, q v H1 (S.refl _) at1 (o.kp e1)⟩
theorem oe_c {v : V} {d : PyData} (h : ∀ G, Dq G v d) (r : Rw m 0 d) : OE S (tC v) σ H m 0 (fun x => x = d) := fun H1 _ _ at1 q => q v H1 (S.refl _) at1 ⟨d, h _, r, rfl⟩
theorem oe_non : OE S (tC .non) σ H 4 0 (fun x => x = .none) := oe_c (fun _ => .non) rw_none
theorem oe_bl (x : Bool) : OE S (tC (.bl x)) σ H 5 0 (fun d => d = .bool x) := oe_c (fun _ => .bl x) (rw_bool x)
theorem oe_int {i : Int} (h : -100000000000000000000000000 ≤ i ∧ i ≤ 100000000000000000000000000) : OE S (tC (.int i)) σ H 110 0 (fun d => d = .int i) := oe_c (fun _ => .int i) (rw_int h.1 h.2)
theorem oe_intI {i : Int} (h : -100000000000000000000000000 ≤ i ∧ i ≤ 100000000000000000000000000) : OE S (tC (.int i)) σ H 110 0 (oI fun j => j = i) := (oe_int h).imp fun _ e => ⟨i, e, rfl⟩
theorem oe_str {x : Str} (n : Nat) (h : (reprText x).length ≤ n) : OE S (tC (.str x)) σ H n 0 (fun d => d = .str x) := oe_c (fun _ => .str x) (rw_str h)
theorem oa_nil : OA S tNil σ H 0 0 (fun ds => ds = []) := fun H1 _ _ at1 q => q [] H1 (S.refl _) at1 ⟨[], .nil, rws_nil, rfl⟩
theorem oa_nilN (C : PyData → Prop) : OA S tNil σ H 0 0 (fun ds => ds.length = 0 ∧ ∀ x ∈ ds, C x) := fun H1 _ _ at1 q => q [] H1 (S.refl _) at1 ⟨[], .nil, rws_nil, rfl, fun _ h => absurd h List.not_mem_nil⟩
theorem oa_cons {r : TA} {k2 : Nat} {A : List PyData → Prop} (h : OE S t σ H a k B) (g : OA S r σ H b k2 A) : OA S (tCons t r) σ H (a + 2 + b) (max k k2) (fun ds => ∃ x y, ds = x :: y ∧ B x ∧ A y) := fun H1 Q e1 at1 q =>
  h H1 _ e1 at1 fun v H2 e2 at2 o => g H2 _ (S.trans e1 e2) at2 fun vs H3 e3 at3 p => by
    obtain ⟨x, h1, h2, h3⟩ := o.kp e3
    obtain ⟨y, g1, g2, g3⟩ := p
    exact q (v :: vs) H3 (S.trans e2 e3) at3 ⟨x :: y, .cons h1 g1, rws_cons (h2.mono (Nat.le_refl _) (Nat.le_max_left _ _)) (g2.mono (Nat.le_refl _) (Nat.le_max_right _ _)), x, y, rfl, h3, g3⟩
theorem oa_consN {r : TA} {n k2 : Nat} {C : PyData → Prop} (h : OE S t σ H a k B) (i : ∀ d, B d → C d) (g : OA S r σ H b k2 (fun ds => ds.length = n ∧ ∀ x ∈ ds, C x)) : OA S (tCons t r) σ H (a + 2 + b) (max k k2) (fun ds => ds.length = n + 1 ∧ ∀ x ∈ ds, C x) := fun H1 Q e1 at1 q =>
  oa_cons h g H1 Q e1 at1 fun vs H2 e2 at2 o => by
    obtain ⟨_, h1, h2, x, y, rfl, h3, h4, h5⟩ := o
    refine q vs H2 e2 at2 ⟨x :: y, h1, h2, by rw [List.length_cons, h4], fun z hz => ?_⟩
    rcases List.mem_cons.mp hz with rfl | hz
    · exact i _ h3
    · exact h5 z hz
theorem wtL_len : ∀ ds : List PyData, ds.length ≤ wtL ds
  | [] => Nat.zero_le _
  | d :: ds => by
    rw [wtL, List.length_cons]
    have := wtL_len ds
    omega
theorem oe_lst {r : TA} {A : List PyData → Prop} (h : OA S r σ H m k A) (hm : m ≤ 16777216) : OE S (tLst r) σ H (m + 2) (k + 1) (oL A) := fun H1 Q e1 at1 q =>
  h H1 _ e1 at1 fun vs H2 e2 at2 o => by
    obtain ⟨ds, h1, h2, h3⟩ := o
    have hl := wtL_len ds
    have := h2.l
    refine ⟨line_small (by rw [h1.len]; omega), fun p np => ?_⟩
    obtain ⟨at3, e3⟩ := S.same at2 (same_new (o := .lst vs) np)
    exact q _ _ (S.trans e2 e3) at3 ⟨.list ds, .lst (S.new _ at2 np) (h1.same (S.kp e3)), rw_list h2, ds, rfl, h3⟩
theorem oe_tup {r : TA} {A : List PyData → Prop} (h : OA S r σ H m k A) (hm : m ≤ 16777216) : OE S (tTup r) σ H (m + 3) (k + 1) (oT A) := fun H1 Q e1 at1 q =>
  h H1 _ e1 at1 fun vs H2 e2 at2 o => by
    obtain ⟨ds, h1, h2, h3⟩ := o
    have hl := wtL_len ds
    have := h2.l
    refine ⟨line_small (by rw [h1.len]; omega), fun p np => ?_⟩
    obtain ⟨at3, e3⟩ := S.same at2 (same_new (o := .tup vs) np)
    exact q _ _ (S.trans e2 e3) at3 ⟨.tuple ds, .tup (S.new _ at2 np) (h1.same (S.kp e3)), rw_tup h2, ds, rfl, h3⟩
theorem dq_lst {G : Hp} {v : V} {ds : List PyData} (h : Dq G v (.list ds)) : ∃ p xs, v = .ref p ∧ G p = some (.lst xs) ∧ DqAll G xs ds := by
  cases h with
  | @lst p xs _ e al => exact ⟨p, xs, rfl, e, al⟩
theorem dq_tupI {G : Hp} {v : V} {ds : List PyData} (h : Dq G v (.tuple ds)) : ∃ p xs, v = .ref p ∧ G p = some (.tup xs) ∧ DqAll G xs ds := by
  cases h with
  | @tup p xs _ e al => exact ⟨p, xs, rfl, e, al⟩
theorem dq_intI {G : Hp} {v : V} {i : Int} (h : Dq G v (.int i)) : v = .int i := by
  cases h with
  | int => rfl
theorem dq_strI {G : Hp} {v : V} {x : Str} (h : Dq G v (.str x)) : v = .str x := by
  cases h with
  | str => rfl
theorem rw_len {ds : List PyData} (h : Rw m k (.list ds)) : ds.length ≤ m := by
  have h2 := h.l
  rw [wt] at h2
  have := wtL_len ds
  omega
theorem oe_cat {k2 : Nat} {A A' : List PyData → Prop} (h : OE S t σ H a k (oL A)) (g : OE S u σ H b k2 (oL A')) (hm : a + b ≤ 16777216) : OE S (tOp rCat t u) σ H (a + b) (max k k2) (oL fun ds => ∃ x y, ds = x ++ y ∧ A x ∧ A' y) := fun H1 Q e1 at1 q =>
  h H1 _ e1 at1 fun v H2 e2 at2 o => g H2 _ (S.trans e1 e2) at2 fun w H3 e3 at3 o' => by
    obtain ⟨_, h1, h2, x, rfl, h3⟩ := o.kp e3
    obtain ⟨_, g1, g2, y, rfl, g3⟩ := o'
    obtain ⟨p, xs, rfl, hp, ax⟩ := dq_lst h1
    obtain ⟨r, ys, rfl, hr, ay⟩ := dq_lst g1
    have l1 := rw_len h2
    have l2 := rw_len g2
    refine ⟨p, r, xs, ys, rfl, rfl, S.le _ _ _ hp, S.le _ _ _ hr, line_small (by rw [ax.len, ay.len]; omega), fun c nc => ?_⟩
    obtain ⟨at4, e4⟩ := S.same at3 (same_new (o := .lst (xs ++ ys)) nc)
    exact q _ _ (S.trans (S.trans e2 e3) e4) at4 ⟨.list (x ++ y), .lst (S.new _ at3 nc) ((ax.app ay).same (S.kp e4)), rw_cat (h2.mono (Nat.le_refl _) (Nat.le_max_left _ _)) (g2.mono (Nat.le_refl _) (Nat.le_max_right _ _)), x ++ y, rfl, x, y, rfl, h3, g3⟩
theorem oe_catN {n1 n2 k2 : Nat} (h : OE S t σ H a k (oL fun ds => ds.length = n1 ∧ ∀ x ∈ ds, C x)) (g : OE S u σ H b k2 (oL fun ds => ds.length = n2 ∧ ∀ x ∈ ds, C x)) (hm : a + b ≤ 16777216) : OE S (tOp rCat t u) σ H (a + b) (max k k2) (oL fun ds => ds.length = n1 + n2 ∧ ∀ x ∈ ds, C x) :=
  (oe_cat h g hm).imp fun d hd => by
    obtain ⟨_, rfl, x, y, rfl, ⟨h1, h2⟩, g1, g2⟩ := hd
    refine ⟨_, rfl, by rw [List.length_append, h1, g1], fun z hz => ?_⟩
    rcases List.mem_append.mp hz with hz | hz
    · exact h2 z hz
    · exact g2 z hz
/-- a slice of anything -/
def cutG {α : Type} (xs : List α) (lo hi : Option Int) : List α := (xs.drop (HT.sIx xs.length 0 lo)).take (HT.sIx xs.length xs.length hi - HT.sIx xs.length 0 lo)
theorem DqAll.cut {G : Hp} {vs : List V} {ds : List PyData} (h : DqAll G vs ds) (lo hi : Option Int) : DqAll G (cutV vs lo hi) (cutG ds lo hi) := by
  unfold cutV cutG
  rw [h.len]
  exact (h.drop _).take _
theorem oo_none : OO S tNoPart σ H (fun o => o = none) := fun H1 _ _ at1 q => q none H1 (S.refl _) at1 rfl
theorem oo_some {A : Int → Prop} (h : OE S t σ H m k (oI A)) : OO S (tPart t) σ H (fun o => ∃ i, o = some i ∧ A i) := fun H1 _ e1 at1 q => h H1 _ e1 at1 fun v H2 e2 at2 o => by
  obtain ⟨_, h1, _, i, rfl, h3⟩ := o
  exact ⟨i, dq_intI h1, q _ _ e2 at2 ⟨i, rfl, h3⟩⟩
theorem oe_sl {K : PySem.W.Frag} {A : List PyData → Prop} {tl th : TO} {P R : Option Int → Prop} (h : OE S t σ H m k (oL A)) (hl : OO S tl σ H P) (hh : OO S th σ H R) : OE S (tSl (rSlL K) t tl th) σ H m k (oL fun ds => ∃ x l u, ds = cutG x l u ∧ A x ∧ P l ∧ R u) := fun H1 Q e1 at1 q =>
  h H1 _ e1 at1 fun v H2 e2 at2 o => hl H2 _ (S.trans e1 e2) at2 fun l H3 e3 at3 pl => hh H3 _ (S.trans e1 (S.trans e2 e3)) at3 fun u H4 e4 at4 pu => by
    obtain ⟨_, h1, h2, x, rfl, h3⟩ := o.kp (S.trans e3 e4)
    obtain ⟨p, xs, rfl, hp, ax⟩ := dq_lst h1
    refine ⟨p, xs, rfl, SqL.of (S.le _ _ _ hp), fun c nc => ?_⟩
    obtain ⟨at5, e5⟩ := S.same at4 (same_new (o := .lst (cutV xs l u)) nc)
    exact q _ _ (S.trans (S.trans (S.trans e2 e3) e4) e5) at5 ⟨.list (cutG x l u), .lst (S.new _ at4 nc) ((ax.cut l u).same (S.kp e5)), rw_take (rw_drop h2 _) _, _, rfl, x, l, u, rfl, h3, pl, pu⟩
theorem oe_add {A A' : Int → Prop} (h : OE S t σ H m a (oI A)) (g : OE S u σ H m b (oI A')) (hb : ∀ i j, A i → A' j → -100000000000000000000000000 ≤ i + j ∧ i + j ≤ 100000000000000000000000000) : OE S (tOp (rI0 fun i j => .int (i + j)) t u) σ H 110 0 (oI fun z => ∃ i j, z = i + j ∧ A i ∧ A' j) := fun H1 Q e1 at1 q =>
  h H1 _ e1 at1 fun v H2 e2 at2 o => g H2 _ (S.trans e1 e2) at2 fun w H3 e3 at3 o' => by
    obtain ⟨_, h1, _, i, rfl, h3⟩ := o.kp e3
    obtain ⟨_, g1, _, j, rfl, g3⟩ := o'
    have hz := hb i j h3 g3
    exact ⟨i, j, dq_intI h1, dq_intI g1, q _ _ (S.trans e2 e3) at3 ⟨.int (i + j), .int _, rw_int hz.1 hz.2, _, rfl, i, j, rfl, h3, g3⟩⟩
theorem oe_sub {A A' : Int → Prop} (h : OE S t σ H m a (oI A)) (g : OE S u σ H m b (oI A')) (hb : ∀ i j, A i → A' j → -100000000000000000000000000 ≤ i - j ∧ i - j ≤ 100000000000000000000000000) : OE S (tOp (rI0 fun i j => .int (i - j)) t u) σ H 110 0 (oI fun z => ∃ i j, z = i - j ∧ A i ∧ A' j) := fun H1 Q e1 at1 q =>
  h H1 _ e1 at1 fun v H2 e2 at2 o => g H2 _ (S.trans e1 e2) at2 fun w H3 e3 at3 o' => by
    obtain ⟨_, h1, _, i, rfl, h3⟩ := o.kp e3
    obtain ⟨_, g1, _, j, rfl, g3⟩ := o'
    have hz := hb i j h3 g3
    exact ⟨i, j, dq_intI h1, dq_intI g1, q _ _ (S.trans e2 e3) at3 ⟨.int (i - j), .int _, rw_int hz.1 hz.2, _, rfl, i, j, rfl, h3, g3⟩⟩
theorem oe_neg {A : Int → Prop} (h : OE S t σ H m a (oI A)) (hb : ∀ i, A i → -100000000000000000000000000 ≤ -i ∧ -i ≤ 100000000000000000000000000) : OE S (tUn (rU fun i => .int (-i)) t) σ H 110 0 (oI fun z => ∃ i, z = -i ∧ A i) := fun H1 Q e1 at1 q =>
  h H1 _ e1 at1 fun v H2 e2 at2 o => by
    obtain ⟨_, h1, _, i, rfl, h3⟩ := o
    have hz := hb i h3
    exact ⟨i, dq_intI h1, q _ _ e2 at2 ⟨.int (-i), .int _, rw_int hz.1 hz.2, _, rfl, i, rfl, h3⟩⟩
theorem oe_pow {i j : Int} (hc : CPow i j) (hb : -100000000000000000000000000 ≤ i ^ j.toNat ∧ i ^ j.toNat ≤ 100000000000000000000000000) : OE S (tOp (rI CPow fun i j => .int (i ^ j.toNat)) (tC (.int i)) (tC (.int j))) σ H 110 0 (oI fun z => z = i ^ j.toNat) := fun H1 Q e1 at1 q =>
  ⟨i, j, rfl, rfl, hc, q _ _ (S.refl _) at1 ⟨.int (i ^ j.toNat), .int _, rw_int hb.1 hb.2, _, rfl, rfl⟩⟩
theorem oe_ix {K : PySem.W.Frag} {n : Nat} {A : Int → Prop} (h : OE S t σ H m k (oL fun ds => ds.length = n ∧ ∀ x ∈ ds, B x)) (g : OE S u σ H a b (oI A)) (hi : ∀ i, A i → 0 ≤ i ∧ i < (n : Int)) : OE S (tOp (rIxL K) t u) σ H m k B := fun H1 Q e1 at1 q =>
  h H1 _ e1 at1 fun v H2 e2 at2 o => g H2 _ (S.trans e1 e2) at2 fun w H3 e3 at3 o' => by
    obtain ⟨_, h1, h2, x, rfl, h3, h4⟩ := o.kp e3
    obtain ⟨_, g1, _, i, rfl, gi⟩ := o'
    obtain ⟨i0, i1⟩ := hi i gi
    obtain ⟨p, xs, rfl, hp, ax⟩ := dq_lst h1
    have hl := ax.len
    have hi : i.toNat < xs.length := by omega
    have ev : xs[i.toNat]? = some xs[i.toNat] := List.getElem?_eq_getElem hi
    obtain ⟨d, ed, hd⟩ := ax.get ev
    have md := List.mem_of_getElem? ed
    refine ⟨p, xs, i, xs[i.toNat], rfl, dq_intI g1, SqL.of (S.le _ _ _ hp), at_of (j := i.toNat) (Int.toNat_of_nonneg i0).symm ev, ?_⟩
    exact q _ _ (S.trans e2 e3) at3 ⟨d, hd, rw_mem h2 md, h4 d md⟩
theorem oe_ixI {K : PySem.W.Frag} {ns : List Int} {A : Int → Prop} (h : OE S t σ H m k (oL fun ds => ds = ns.map PyData.int)) (g : OE S u σ H a b (oI A)) (hi : ∀ i, A i → 0 ≤ i ∧ i < (ns.length : Int)) : OE S (tOp (rIxL K) t u) σ H m k (oI fun z => z ∈ ns) :=
  oe_ix (n := ns.length) (h.imp fun d hd => by obtain ⟨ds, rfl, rfl⟩ := hd; exact ⟨_, rfl, List.length_map _, fun x hx => by obtain ⟨y, hy, rfl⟩ := List.mem_map.mp hx; exact ⟨y, rfl, hy⟩⟩) g hi
theorem oe_lenI {K : PySem.W.Frag} {ns : List Int} (h : OE S t σ H m a (oL fun ds => ds = ns.map PyData.int)) (hn : ns.length ≤ 10000) : OE S (tCB (rLenS K) (tCons t tNil)) σ H 110 0 (oI fun z => z = (ns.length : Int)) := fun H1 Q e1 at1 q =>
  h H1 _ e1 at1 fun v H2 e2 at2 o => by
    obtain ⟨_, h1, h2, x, rfl, rfl⟩ := o
    obtain ⟨p, xs, rfl, hp, ax⟩ := dq_lst h1
    refine ⟨p, xs, rfl, .inl (SqL.of (S.le _ _ _ hp)), ?_⟩
    rw [ax.len, List.length_map]
    exact q _ _ e2 at2 ⟨.int (ns.length : Int), .int _, rw_int (by omega) (by omega), _, rfl, rfl⟩
theorem od_isI {i : Int} (h : Od S m k B H (.int i)) : Od S m k (oI fun j => j = i) H (.int i) := by
  obtain ⟨d, h1, h2, _⟩ := h
  cases h1 with
  | int => exact ⟨_, .int i, h2, i, rfl, rfl⟩
theorem oe_len {K : PySem.W.Frag} {A : List PyData → Prop} (h : OE S t σ H m a (oL A)) (hm : m ≤ 16777216) : OE S (tCB (rLenS K) (tCons t tNil)) σ H 110 0 (oI fun z => ∃ ds : List PyData, z = ds.length ∧ A ds ∧ ds.length ≤ m) := fun H1 Q e1 at1 q =>
  h H1 _ e1 at1 fun v H2 e2 at2 o => by
    obtain ⟨_, h1, h2, x, rfl, h3⟩ := o
    obtain ⟨p, xs, rfl, hp, ax⟩ := dq_lst h1
    have hl := rw_len h2
    refine ⟨p, xs, rfl, .inl (SqL.of (S.le _ _ _ hp)), ?_⟩
    rw [ax.len]
    exact q _ _ e2 at2 ⟨.int (x.length : Int), .int _, rw_int (by omega) (by omega), _, rfl, x, rfl, h3, hl⟩
theorem oe_tupOf {K : PySem.W.Frag} {A : List PyData → Prop} (h : OE S t σ H m k (oL A)) : OE S (tCB (fun xs H Q => ∃ p ys, xs = [.ref p] ∧ ((SqL K H p ys ∧ ∀ l, H l = none → Q (.ref l) (upd H l (.tup ys))) ∨ (SqT K H p ys ∧ Q (.ref p) H))) (tCons t tNil)) σ H (m + 1) k (oT A) := fun H1 Q e1 at1 q =>
  h H1 _ e1 at1 fun v H2 e2 at2 o => by
    obtain ⟨_, h1, h2, x, rfl, h3⟩ := o
    obtain ⟨p, xs, rfl, hp, ax⟩ := dq_lst h1
    refine ⟨p, xs, rfl, .inl ⟨SqL.of (S.le _ _ _ hp), fun c nc => ?_⟩⟩
    obtain ⟨at3, e3⟩ := S.same at2 (same_new (o := .tup xs) nc)
    exact q _ _ (S.trans e2 e3) at3 ⟨.tuple x, .tup (S.new _ at2 nc) (ax.same (S.kp e3)), rw_totup h2, x, rfl, h3⟩
theorem oe_listOf {K : PySem.W.Frag} {A : List PyData → Prop} (h : OE S t σ H m k (oL A)) : OE S (tCB (fun xs H Q => ∃ p ys, xs = [.ref p] ∧ (SqL K H p ys ∨ SqT K H p ys) ∧ ∀ l, H l = none → Q (.ref l) (upd H l (.lst ys))) (tCons t tNil)) σ H m k (oL A) := fun H1 Q e1 at1 q =>
  h H1 _ e1 at1 fun v H2 e2 at2 o => by
    obtain ⟨_, h1, h2, x, rfl, h3⟩ := o
    obtain ⟨p, xs, rfl, hp, ax⟩ := dq_lst h1
    refine ⟨p, xs, rfl, .inl (SqL.of (S.le _ _ _ hp)), fun c nc => ?_⟩
    obtain ⟨at3, e3⟩ := S.same at2 (same_new (o := .lst xs) nc)
    exact q _ _ (S.trans e2 e3) at3 ⟨.list x, .lst (S.new _ at2 nc) (ax.same (S.kp e3)), h2, x, rfl, h3⟩
theorem flat_rep {α : Type} (x : α) : ∀ n : Nat, (List.replicate n [x]).flatten = List.replicate n x
  | 0 => rfl
  | n + 1 => by
    rw [List.replicate_succ, List.flatten_cons, flat_rep x n]
    rfl
theorem DqAll.repl {G : Hp} {v : V} {d : PyData} (h : Dq G v d) : ∀ n : Nat, DqAll G (List.replicate n v) (List.replicate n d)
  | 0 => .nil
  | n + 1 => by
    rw [List.replicate_succ, List.replicate_succ]
    exact .cons h (DqAll.repl h n)
/-- [x] * n -/
theorem oe_rep1 {n : Nat} (h : OE S t σ H m k B) (hn : n ≤ 1000) (hm : m ≤ 10000) : OE S (tOp rRep (tLst (tCons t tNil)) (tC (.int (n : Int)))) σ H (n * (m + 2) + 2) (k + 1) (oL fun ds => ∃ x, ds = List.replicate n x ∧ B x) := fun H1 Q e1 at1 q =>
  oe_lst (oa_cons h oa_nil) (by omega) H1 _ e1 at1 fun v H2 e2 at2 o => by
    rw [Nat.max_eq_left (Nat.zero_le k)] at o
    obtain ⟨_, h1, h2, _, rfl, x, _, rfl, h3, rfl⟩ := o
    obtain ⟨p, xs, rfl, hp, ax⟩ := dq_lst h1
    cases ax with
    | @cons v _ _ _ hv an =>
      cases an
      refine ⟨p, (n : Int), [v], rfl, rfl, S.le _ _ _ hp, by omega, by omega, line_small (by rw [Int.toNat_natCast]; show 1 * n ≤ _; omega), fun c nc => ?_⟩
      rw [Int.toNat_natCast, flat_rep]
      obtain ⟨at3, e3⟩ := S.same at2 (same_new (o := .lst (List.replicate n v)) nc)
      obtain ⟨j, ej, h4⟩ := h2.lst
      have h5 := rw_repl (h4.mem List.mem_cons_self) n
      refine q _ _ (S.trans e2 e3) at3 ⟨.list (List.replicate n x), .lst (S.new _ at2 nc) ((DqAll.repl hv n).same (S.kp e3)), ?_, _, rfl, x, rfl, h3⟩
      have h6 : Rw m k x := by
        have s1 := h4.s
        have s2 := h4.l
        have s3 := h4.d
        have t2 := h2.l
        have t3 := h2.d
        rw [PyData.showableAll, Bool.and_eq_true] at s1
        rw [wt, wtL, wtL] at t2
        rw [PyData.depth, PyData.depthAll] at t3
        exact ⟨s1.1, by omega, by omega⟩
      exact rw_list (rw_repl h6 n)
theorem oe_d0 : OE S (fun _ H1 Q => ∀ d, H1 d = none → Q (.ref d) (upd H1 d (.dK []))) σ H 2 1 (fun d => d = .dict []) := fun H1 Q e1 at1 q => fun c nc => by
  obtain ⟨at3, e3⟩ := S.same at1 (same_new (o := .dK []) nc)
  exact q _ _ e3 at3 ⟨.dict [], .dic (S.new _ at1 nc) .nil, rw_dict0, rfl⟩
/-! statements -/
theorem os_set {i : Nat} {v : TS} {D : Ends} (at1 : S.At H) (h : OE S t σ H m k B) (q : ∀ x H', S.Kp H H' → S.At H' → Od S m k B H' x → v D (σ.set i (some x)) H') : tSeq (tAsg t (gName i)) v D σ H := h H _ (S.refl _) at1 q
theorem os_ret {D : Ends} (at1 : S.At H) (h : OE S t σ H m k B) (q : ∀ x H', S.Kp H H' → S.At H' → Od S m k B H' x → D.rt x H') : tRet t D σ H := h H _ (S.refl _) at1 q
end
end Fo
namespace Fo
open PySem PySem.Spec PyProof.Rows L2
/-! comprehensions whose values are flat; ranges; the store as a source -/
def flatD : PyData → Bool
  | .none => true
  | .bool _ => true
  | .int _ => true
  | .str _ => true
  | _ => false
theorem dq_flat {G G' : Hp} {v : V} {d : PyData} (h : Dq G v d) (f : flatD d = true) : Dq G' v d := by
  cases h with
  | non => exact .non
  | bl b => exact .bl b
  | int i => exact .int i
  | str x => exact .str x
  | _ => cases f
theorem dqAll_flat {G G' : Hp} : ∀ {vs : List V} {ds : List PyData}, DqAll G vs ds → (∀ d ∈ ds, flatD d = true) → DqAll G' vs ds
  | _, [], h, _ => by cases h; exact .nil
  | _, d :: ds, h, f => by
    cases h with
    | cons h1 h2 => exact .cons (dq_flat h1 (f d List.mem_cons_self)) (dqAll_flat h2 fun x hx => f x (List.mem_cons_of_mem _ hx))
/-- two lists, one by one -/
inductive Two2 {α β : Type} (R : α → β → Prop) : List α → List β → Prop
  | nil : Two2 R [] []
  | snoc {xs : List α} {ys : List β} {x : α} {y : β} : Two2 R xs ys → R x y → Two2 R (xs ++ [x]) (ys ++ [y])
theorem Two2.len {α β : Type} {R : α → β → Prop} {xs : List α} {ys : List β} (h : Two2 R xs ys) : xs.length = ys.length := by
  induction h with
  | nil => rfl
  | snoc _ _ ih => rw [List.length_append, List.length_append, ih]; rfl
theorem Two2.memR {α β : Type} {R : α → β → Prop} {xs : List α} {ys : List β} (h : Two2 R xs ys) : ∀ y ∈ ys, ∃ x ∈ xs, R x y := by
  induction h with
  | nil => exact fun _ h => absurd h List.not_mem_nil
  | snoc h r ih =>
    intro y hy
    rcases List.mem_append.mp hy with hy | hy
    · obtain ⟨x, hx, hr⟩ := ih y hy
      exact ⟨x, List.mem_append_left _ hx, hr⟩
    · rw [List.mem_singleton.mp hy]
      exact ⟨_, List.mem_append_right _ List.mem_cons_self, r⟩
theorem Two2.memL {α β : Type} {R : α → β → Prop} {xs : List α} {ys : List β} (h : Two2 R xs ys) : ∀ x ∈ xs, ∃ y ∈ ys, R x y := by
  induction h with
  | nil => exact fun _ h => absurd h List.not_mem_nil
  | snoc h r ih =>
    intro x hx
    rcases List.mem_append.mp hx with hx | hx
    · obtain ⟨y, hy, hr⟩ := ih x hx
      exact ⟨y, List.mem_append_left _ hy, hr⟩
    · rw [List.mem_singleton.mp hx]
      exact ⟨_, List.mem_append_right _ List.mem_cons_self, r⟩
theorem rws_snoc {a b k : Nat} {d : PyData} {ds : List PyData} (g : Rws b k ds) (h : Rw a k d) : Rws (b + (a + 2)) k (ds ++ [d]) := (g.app (rws_cons h rws_nil)).mono (by omega) (Nat.le_refl _)
theorem DqAll.snoc {G : Hp} {vs : List V} {ds : List PyData} {v : V} {d : PyData} (h : DqAll G vs ds) (g : Dq G v d) : DqAll G (vs ++ [v]) (ds ++ [d]) := h.app (.cons g .nil)
section
variable {S : Src} {σ : L2.St} {H : Hp} {m k a b : Nat} {B C : PyData → Prop} {t u : TE}
theorem oe_lcF {K : PySem.W.Frag} {j : Nat} {vs : List Nat} {A : List PyData → Prop} {R : PyData → PyData → Prop} {me ke n : Nat} {te : TE} (h : OE S t σ H m a (oL A)) (hn : ∀ ds, A ds → ds.length ≤ n) (hz : n * (me + 2) ≤ 16777216)
    (hw : ∀ x : V, wipe ((wipe σ vs).set j (some x)) vs = wipe σ vs) (he : ∀ ds x v H', A ds → x ∈ ds → S.Kp H H' → S.At H' → Dq (S.cut H') v x → OE S te ((wipe σ vs).set j (some v)) H' me ke (R x)) (hf : ∀ x y, R x y → flatD y = true) :
    OE S (tLc (iList K t) (gName j) tYes te vs) σ H (n * (me + 2) + 2) (ke + 1) (oL fun ys => ∃ xs, A xs ∧ Two2 R xs ys) := fun H1 Q e1 at1 q =>
  h H1 _ e1 at1 fun v H2 e2 at2 o => by
    obtain ⟨_, h1, h2, ds, rfl, h3⟩ := o
    obtain ⟨p, xs, rfl, hp, ax⟩ := dq_lst h1
    refine ⟨p, rfl, ⟨xs, SqL.of (S.le _ _ _ hp)⟩, fun D nD => ?_⟩
    have hD0 := S.put (.lst []) at2 (S.refl _) at2 nD
    have hpD : p ≠ D := fun z => by rw [z] at hp; have := S.le _ _ _ hp; rw [nD] at this; cases this
    refine lc_list (K := K) (a := p) (xs := xs) (fun i H3 => ∃ acc ys, H3 D = some (.lst acc) ∧ S.cut H3 D = some (.lst acc) ∧ acc.length = i ∧ DqAll H3 acc ys ∧ (∀ d ∈ ys, flatD d = true) ∧ Rws (i * (me + 2)) ke ys ∧ Two2 R (ds.take i) ys ∧ S.Kp H2 H3 ∧ S.At H3)
      ⟨[], [], upd_same, hD0.2.2.1, rfl, .nil, fun _ h => absurd h List.not_mem_nil, rws_nil.mono (Nat.zero_le _) (Nat.le_refl _), by rw [List.take_zero]; exact .nil, hD0.2.1, hD0.1⟩
      (fun i H3 _ hP => by obtain ⟨_, _, _, _, _, _, _, _, _, k3, _⟩ := hP; exact SqL.of (S.le _ _ _ (S.kp k3 _ _ hp))) (fun i x H3 hx hP => ?_) (fun H3 hP => ?_)
    · obtain ⟨acc, ys, hD, hcD, la, ay, fy, ry, ty, k3, at3⟩ := hP
      obtain ⟨d, ed, hd⟩ := (ax.same (S.kp k3)).get hx
      have hi := (List.getElem?_eq_some_iff.mp ed).1
      have hin := hn ds h3
      refine ⟨hw x, ?_⟩
      refine (he ds d x H3 h3 (List.mem_of_getElem? ed) (S.trans e1 (S.trans e2 k3)) at3 hd) H3 _ (S.refl _) at3 fun y H4 k4 at4 o4 => ?_
      obtain ⟨z, hz4, rz, bz⟩ := o4
      have hD4 : H4 D = some (.lst acc) := S.le _ _ _ (S.kp k4 _ _ hcD)
      have pD := S.put (.lst (acc ++ [y])) at2 (S.trans k3 k4) at4 nD
      refine ⟨acc, hD4, line_small (by
        have : i * 2 ≤ 16777216 := by
          have a1 : i * (me + 2) ≤ n * (me + 2) := Nat.mul_le_mul_right _ (by omega)
          have a2 : i * 2 ≤ i * (me + 2) := Nat.mul_le_mul_left _ (by omega)
          omega
        omega), acc ++ [y], ys ++ [z], upd_same, pD.2.2.1, by rw [List.length_append, la]; rfl, (dqAll_flat ay fy).snoc (dq_flat hz4 (hf _ _ bz)), fun w hw => ?_, ?_, ?_, pD.2.1, pD.1⟩
      · rcases List.mem_append.mp hw with hw | hw
        · exact fy w hw
        · rw [List.mem_singleton.mp hw]
          exact hf _ _ bz
      · rw [Nat.succ_mul]
        exact rws_snoc ry rz
      · rw [List.take_add_one, ed]
        exact ty.snoc bz
    · obtain ⟨acc, ys, hD, hcD, la, ay, fy, ry, ty, k3, at3⟩ := hP
      rw [ax.len, List.take_length] at ty
      have hin := hn ds h3
      exact q _ _ (S.trans e2 k3) at3 ⟨.list ys, .lst hcD (dqAll_flat ay fy), rw_list (ry.mono (Nat.mul_le_mul_right _ (by rw [ax.len]; exact hin)) (Nat.le_refl _)), ys, rfl, ds, h3, ty⟩
theorem od_int {A : Int → Prop} {v : V} (h : Od S m k (oI A) H v) : ∃ i, v = .int i ∧ A i := by
  obtain ⟨_, h1, _, i, rfl, h3⟩ := h
  exact ⟨i, dq_intI h1, h3⟩
theorem od_of_int {i : Int} {A : Int → Prop} (h : -100000000000000000000000000 ≤ i ∧ i ≤ 100000000000000000000000000) (g : A i) : Od S 110 0 (oI A) H (.int i) := ⟨.int i, .int i, rw_int h.1 h.2, i, rfl, g⟩
theorem dqAll_intsG {G : Hp} : ∀ {ns : List Int}, DqAll G (ns.map V.int) (ns.map PyData.int)
  | [] => .nil
  | n :: r => .cons (.int n) dqAll_intsG
theorem od_ints {a : Addr} {ns : List Int} {n : Nat} (h : S.cut H a = some (.lst (ns.map V.int))) (hb : ∀ x ∈ ns, -100000000000000000000000000 ≤ x ∧ x ≤ 100000000000000000000000000) (hn : ns.length ≤ n) : Od S (n * 112 + 2) 1 (oL fun ds => ds = ns.map PyData.int) H (.ref a) :=
  ⟨.list (ns.map PyData.int), .lst h dqAll_intsG, rw_list ((rws_ints hb).mono (Nat.mul_le_mul_right _ hn) (Nat.le_refl 0)), _, rfl, rfl⟩
theorem od_str {x : Str} {A : Str → Prop} {n : Nat} (h : (reprText x).length ≤ n) (g : A x) : Od S n 0 (oS A) H (.str x) := ⟨.str x, .str x, rw_str h, x, rfl, g⟩
end
end Fo
namespace Fo
open PySem PySem.Spec PyProof.Rows L2
/-! ### a slice with a step that is reckoned, 1 or -1 -/
theorem pick_one (items : Array Value) : slicePick items none none (some 1) = items := by
  have e : slicePick items none none (some 1) = slicePick items none none none := rfl
  rw [e, PySem.W.kmk_pick_nat (a := 0) (b := items.size) items rfl, List.drop_zero, Nat.sub_zero, ← Array.length_toList, List.take_length]
def tStepL (K : PySem.W.Frag) (te ts : TE) : TE := fun σ H Q => te σ H fun x H1 => ∃ a, x = .ref a ∧ tPart ts σ H1 fun o H2 => ∃ xs, SqL K H2 a xs ∧
  ((o = some 1 ∧ ∀ p, H2 p = none → Q (.ref p) (upd H2 p (.lst xs))) ∨ (o = some (-1) ∧ ∀ p, H2 p = none → Q (.ref p) (upd H2 p (.lst xs.reverse))))
theorem pe_stepL {X : Cx} {e st : Expr} {te ts : TE} {p3 pos : Pos} (he : PE X e te) (hst : PE X st ts)
    (hsub : ∀ u : Value, ∀ r : Addr, subscripted (.Slice none none (some st) p3) false u (.ref r) = operate [u, .ref r] (getItem u (.ref r)) := by intro _ _; with_unfolding_all rfl) : PE X (.Subscript e (.Slice none none (some st) p3) pos) (tStepL X.K te ts) := by
  refine ⟨fun pins s σ H Q I h => ?_⟩
  refine Subscript_ (thn (he.run pins s σ H _ I h) fun v s1 z1 => ?_)
  obtain ⟨x, H1, I1, r1, a, ex, q1⟩ := z1
  subst ex
  cases r1
  refine wpAny_Slice (thn (po_none.run pins s1 σ H1 (fun o H2 => o = none ∧ H2 = H1) I1 ⟨rfl, rfl⟩) fun vl s2 z2 => ?_)
  obtain ⟨l, H2, I2, pl, el, e2⟩ := z2
  subst el e2
  refine thn (po_none.run pins s2 σ H2 (fun o H3 => o = none ∧ H3 = H2) I2 ⟨rfl, rfl⟩) fun vu s3 z3 => ?_
  obtain ⟨u, H3, I3, pu, eu, e3⟩ := z3
  subst eu e3
  refine thn ((po_some hst).run pins s3 σ H3 _ I3 q1) fun vs s4 z4 => ?_
  obtain ⟨o, H4, I4, ps, xs, hx, q⟩ := z4
  have I5 : Inv X pins σ H4 { s4 with heap := s4.heap.push { cls := .type "slice", data := .fields #[vl, vu, vs] } } := I4.kept (t' := s4.toks) fun b ob w => Heap.get?_push_of_some _ w
  obtain ⟨its, r, ht, hz⟩ := I5.list hx
  have hlen := r.length
  show wpAny (model X.prog X.w) X.A (subscriptTail e (.Slice none none (some st) p3) (.ref a) (.ref s4.heap.objs.size)) (EP X pins σ Q) X.xe _
  refine tail_any (ops := [.ref a, .ref s4.heap.objs.size]) ht.isList.typeIs (PySem.slot_list_getitem.lookup) ?_ (hsub _ _)
  rcases q with ⟨eo, q⟩ | ⟨eo, q⟩
  · subst eo
    refine wpAny_getItem_list_slice ht.isList (Heap.IsSliceOf.new _ vl vu vs) pl pu ps (by decide) ?_ (by rw [List.size_toArray]; omega)
    rw [pick_one]
    refine ⟨.ref _, _, I5.laid (t' := s4.toks) (o := .lst xs) (fun b ob w => Heap.get?_push_of_some _ w) (Nat.le_refl _) ?_, rfl, q _ (I5.hok.fresh (Nat.le_refl _))⟩
    exact ⟨hz, _, 0, r, Heap.get?_push_size _ rfl⟩
  · subst eo
    refine wpAny_getItem_list_slice ht.isList (Heap.IsSliceOf.new _ vl vu vs) pl pu ps (by decide) ?_ (by rw [List.size_toArray]; omega)
    rw [PySem.W.krv_pick]
    refine ⟨.ref _, _, I5.laid (t' := s4.toks) (o := .lst xs.reverse) (fun b ob w => Heap.get?_push_of_some _ w) (Nat.le_refl _) ?_, rfl, q _ (I5.hok.fresh (Nat.le_refl _))⟩
    exact ⟨by rw [List.length_reverse]; exact hz, _, 0, r.reverse, Heap.get?_push_size _ rfl⟩
end Fo
namespace Fo
open PySem PySem.Spec PyProof.Rows L2
/-- a loop over enumerate of a list that stands still -/
theorem for_enumL {K : PySem.W.Frag} {a : Addr} {xs : List V} {g : TG} {tb : TS} {D : Ends} {σ : L2.St} {H : Hp} (Pv : Nat → L2.St → Hp → Prop) (h0 : Pv 0 σ H) (hq : ∀ i σ H, Pv i σ H → SqL K H a xs)
    (hs : ∀ (i : Nat) (x : V) (T : Addr) (σ : L2.St) (H : Hp), xs[i]? = some x → Pv i σ H → H T = none → g (.ref T) σ (upd H T (.tup [.int (i : Nat), x])) fun σ2 H2 => tb { D with nx := Pv (i + 1), ct := Pv (i + 1), bk := D.nx } σ2 H2) (hd : ∀ σ H, Pv xs.length σ H → D.nx σ H) :
    ∃ W : Nat → Nat → L2.St → Hp → Prop, (∃ m, W 0 m σ H) ∧ ∀ i m σ H, W i m σ H →
      ((Ite K a).stop i H ∧ D.nx σ H) ∨ ((Ite K a).go i H ∧ ∃ N : L2.St → Hp → Prop, (∀ σ' H', N σ' H' → ∃ m', m' < m ∧ W (i + 1) m' σ' H') ∧ ∀ v H', (Ite K a).yld i H v H' → g v σ H' fun σ2 H2 => tb { D with nx := N, ct := N, bk := D.nx } σ2 H2) := by
  refine ⟨fun i m σ H => m = xs.length - i ∧ i ≤ xs.length ∧ Pv i σ H, ⟨xs.length, rfl, Nat.zero_le _, h0⟩, ?_⟩
  rintro i m σ H ⟨rfl, hi, p⟩
  have qx := hq i σ H p
  by_cases hlt : i < xs.length
  · have hx : xs[i]? = some xs[i] := List.getElem?_eq_getElem hlt
    refine .inr ⟨⟨xs, _, qx, hx⟩, Pv (i + 1), fun σ' H' p' => ⟨xs.length - (i + 1), by omega, rfl, hlt, p'⟩, fun v H' y => ?_⟩
    obtain ⟨T, x', rfl, hT, rfl, f1⟩ := y
    exact hs i x' T σ H (f1 xs qx) p hT
  · have e : i = xs.length := by omega
    subst e
    exact .inl ⟨⟨xs, qx, Nat.le_refl _⟩, hd σ H p⟩
/-- a comprehension over enumerate of a list that stands still -/
theorem lc_enumL {K : PySem.W.Frag} {a : Addr} {xs : List V} {g : TG} {tt : TT} {te : TE} {vs : List Nat} {σ : L2.St} {H1 : Hp} {D : Addr} {Qd : Hp → Prop} (Pv : Nat → Hp → Prop) (h0 : Pv 0 (upd H1 D (.lst []))) (hl : ∀ i H, i ≤ xs.length → Pv i H → SqL K H a xs)
    (hs : ∀ (i : Nat) (x : V) (T : Addr) (H : Hp), xs[i]? = some x → Pv i H → H T = none → g (.ref T) (wipe σ vs) (upd H T (.tup [.int (i : Nat), x])) fun σ2 H2 => wipe σ2 vs = wipe σ vs ∧ tt σ2 H2 fun b H3 =>
      if b = true then te σ2 H3 fun y H4 => ∃ acc, H4 D = some (.lst acc) ∧ acc.length < sizeLine ∧ Pv (i + 1) (upd H4 D (.lst (acc ++ [y]))) else Pv (i + 1) H3) (hd : ∀ H, Pv xs.length H → Qd H) :
    ∃ W : Nat → Nat → Hp → Prop, (∃ m, W 0 m (upd H1 D (.lst []))) ∧ ∀ i m H, W i m H →
      ((Ite K a).stop i H ∧ Qd H) ∨ ((Ite K a).go i H ∧ ∃ Nx : Hp → Prop, (∀ H', Nx H' → ∃ m', m' < m ∧ W (i + 1) m' H') ∧ ∀ x H', (Ite K a).yld i H x H' → g x (wipe σ vs) H' fun σ2 H2 => wipe σ2 vs = wipe σ vs ∧ tt σ2 H2 fun b H3 =>
        if b = true then te σ2 H3 fun y H4 => ∃ acc, H4 D = some (.lst acc) ∧ acc.length < sizeLine ∧ Nx (upd H4 D (.lst (acc ++ [y]))) else Nx H3) := by
  refine ⟨fun i m H => m = xs.length - i ∧ i ≤ xs.length ∧ Pv i H, ⟨xs.length, by simp, Nat.zero_le _, h0⟩, ?_⟩
  rintro i m H ⟨rfl, hi, p⟩
  have q := hl i H hi p
  by_cases hlt : i < xs.length
  · refine .inr ⟨⟨xs, xs[i], q, by simp [hlt]⟩, Pv (i + 1), fun H' p' => ⟨xs.length - (i + 1), by omega, rfl, hlt, p'⟩, fun x H' y => ?_⟩
    obtain ⟨T, x', rfl, hT, rfl, f1⟩ := y
    exact hs i x' T H (f1 xs q) p hT
  · have e : i = xs.length := by omega
    subst e
    exact .inl ⟨⟨xs, q, Nat.le_refl _⟩, hd H p⟩
/-! ### the back of an order -/
def IsBack (ns ps : List Int) : Prop := ps.length = ns.length ∧ ∀ (j : Nat) (x : Int), ns[j]? = some x → ps[x.toNat]? = some (j : Int)
theorem ord_at {n : Nat} {ns : List Int} (o : IsOrd n ns) {t : Nat} (h : t < n) : ∃ j : Nat, j < n ∧ ns[j]? = some (t : Int) := by
  have m : (t : Int) ∈ ns := (List.Perm.mem_iff o).mpr (rg_mem.mpr ⟨by omega, by omega⟩)
  obtain ⟨j, hj⟩ := List.mem_iff_getElem?.mp m
  exact ⟨j, by have := (List.getElem?_eq_some_iff.mp hj).1; rw [o.len] at this; exact this, hj⟩
theorem ord_ix {n : Nat} {ns : List Int} (o : IsOrd n ns) {j : Nat} (h : j < n) : ∃ x : Int, ns[j]? = some x ∧ 0 ≤ x ∧ x < n := by
  have hj : j < ns.length := by rw [o.len]; exact h
  exact ⟨ns[j], List.getElem?_eq_getElem hj, o.mem (List.getElem_mem hj)⟩
theorem back_eq {n : Nat} {ns a b : List Int} (o : IsOrd n ns) (ha : IsBack ns a) (hb : IsBack ns b) : a = b := by
  apply List.ext_getElem?
  intro t
  by_cases h : t < n
  · obtain ⟨j, _, hj⟩ := ord_at o h
    have h1 := ha.2 j _ hj
    have h2 := hb.2 j _ hj
    rw [Int.toNat_natCast] at h1 h2
    rw [h1, h2]
  · rw [List.getElem?_eq_none (by rw [ha.1, o.len]; omega), List.getElem?_eq_none (by rw [hb.1, o.len]; omega)]
def behindL (ns ms : List Int) : List Int := ms.map fun p => ns.getD p.toNat 0
theorem behind_at {ns ms : List Int} {i : Nat} {p x : Int} (hp : ms[i]? = some p) (hx : ns[p.toNat]? = some x) : (behindL ns ms)[i]? = some x := by
  unfold behindL
  rw [List.getElem?_map, hp]
  show some (ns.getD p.toNat 0) = some x
  rw [List.getD_eq_getElem?_getD, hx]
  rfl
theorem behind_len (ns ms : List Int) : (behindL ns ms).length = ms.length := by
  unfold behindL
  rw [List.length_map]
theorem take_more {l : List Int} {i : Nat} {x : Int} (h : l[i]? = some x) : l.take (i + 1) = l.take i ++ [x] := by
  rw [List.take_add_one, h]
  rfl
theorem flat_ints : ∀ ns : List Int, (ns.map V.int).all flatV = true
  | [] => rfl
  | n :: r => by
    show (flatV (V.int n) && (r.map V.int).all flatV) = true
    rw [flat_ints r]
    rfl
theorem eqV_int (i j : Int) : eqV (.int i) (.int j) = (i == j) := rfl
end Fo
namespace Fo
open PySem PySem.Spec PyProof.Rows L2
/-! short texts -/
structure TxOk (m : Nat) (x : Str) : Prop where
  l : x.length ≤ m
  c : ∀ c ∈ x.cps.toList, c < 16 ^ 8
theorem TxOk.app {m n : Nat} {x y : Str} (a : TxOk m x) (b : TxOk n y) : TxOk (m + n) (x ++ y) := by
  refine ⟨?_, fun c hc => ?_⟩
  · rw [strLen_append]
    have := a.l
    have := b.l
    omega
  · have e : (x ++ y).cps.toList = x.cps.toList ++ y.cps.toList := by
      show (x.cps ++ y.cps).toList = _
      simp
    rw [e] at hc
    rcases List.mem_append.mp hc with h | h
    · exact a.c c h
    · exact b.c c h
theorem TxOk.cut {m : Nat} {x : Str} (a : TxOk m x) (lo hi : Option Int) : TxOk m (cutS x lo hi) := by
  refine ⟨?_, fun c hc => ?_⟩
  · have := a.l
    show (((x.cps.toList.drop _).take _).toArray).size ≤ m
    rw [List.size_toArray, List.length_take, List.length_drop, Array.length_toList]
    have e : x.length = x.cps.size := rfl
    omega
  · have hc : c ∈ (x.cps.toList.drop _).take _ := hc
    exact a.c c (List.mem_of_mem_drop (List.mem_of_mem_take hc))
theorem TxOk.mono {m n : Nat} {x : Str} (a : TxOk m x) (h : m ≤ n) : TxOk n x := ⟨Nat.le_trans a.l h, a.c⟩
theorem TxOk.rw {m : Nat} {x : Str} (a : TxOk m x) : Rw (10 * m + 2) 0 (.str x) := rw_str (by
  have h1 := StrLaws.reprText_len x a.c
  have h2 := a.l
  omega)
theorem tx_one {c : Nat} (h : c < 16 ^ 8) : TxOk 1 ⟨#[c]⟩ := ⟨Nat.le_refl _, fun d hd => by
  have : d = c := List.mem_singleton.mp hd
  rw [this]
  exact h⟩
theorem at_memG {α : Type} {xs : List α} {i : Int} (h0 : 0 ≤ i) (h1 : i < (xs.length : Int)) : ∃ v, atI xs i = some v ∧ v ∈ xs := by
  have hl : i.toNat < xs.length := by omega
  refine ⟨xs[i.toNat], ?_, List.getElem_mem hl⟩
  unfold atI ixN
  rw [if_pos h0, if_pos h1]
  exact List.getElem?_eq_getElem hl
abbrev oX (m : Nat) (A : Str → Prop) : PyData → Prop := oS fun x => TxOk m x ∧ A x
section
variable {S : Src} {σ : L2.St} {H : Hp} {m n k a b : Nat} {t u : TE} {A A' : Str → Prop}
theorem oe_tx {x : Str} (n : Nat) (h : TxOk n x) : OE S (tC (.str x)) σ H (10 * n + 2) 0 (oX n fun y => y = x) := (oe_c (fun _ => .str x) h.rw).imp fun _ e => ⟨x, e, h, rfl⟩
theorem od_tx {v : V} (h : Od S a k (oX m A) H v) : ∃ x, v = .str x ∧ TxOk m x ∧ A x := by
  obtain ⟨_, h1, _, x, rfl, h3⟩ := h
  exact ⟨x, dq_strI h1, h3⟩
theorem od_of_tx {x : Str} (h : TxOk m x) (g : A x) : Od S (10 * m + 2) 0 (oX m A) H (.str x) := ⟨.str x, .str x, h.rw, x, rfl, h, g⟩
theorem oe_catS (h : OE S t σ H a k (oX m A)) (g : OE S u σ H b k (oX n A')) (hm : m + n ≤ 16777216) : OE S (tOp (fun x y H Q => ∃ i j, x = .str i ∧ y = .str j ∧ i.length + j.length ≤ sizeLine ∧ Q (.str (i ++ j)) H) t u) σ H (10 * (m + n) + 2) 0 (oX (m + n) fun z => ∃ x y, z = x ++ y ∧ A x ∧ A' y) := fun H1 Q e1 at1 q =>
  h H1 _ e1 at1 fun v H2 e2 at2 o => g H2 _ (S.trans e1 e2) at2 fun w H3 e3 at3 o' => by
    obtain ⟨x, rfl, x1, x2⟩ := od_tx o
    obtain ⟨y, rfl, y1, y2⟩ := od_tx o'
    have l1 := x1.l
    have l2 := y1.l
    exact ⟨x, y, rfl, rfl, line_small (by omega), q _ _ (S.trans e2 e3) at3 (od_of_tx (x1.app y1) ⟨x, y, rfl, x2, y2⟩)⟩
theorem oe_slS {tl th : TO} {P R : Option Int → Prop} (h : OE S t σ H a k (oX m A)) (hl : OO S tl σ H P) (hh : OO S th σ H R) (hm : m ≤ 16777216) : OE S (tSl rSlS t tl th) σ H (10 * m + 2) 0 (oX m fun z => ∃ x l u, z = cutS x l u ∧ A x ∧ P l ∧ R u) := fun H1 Q e1 at1 q =>
  h H1 _ e1 at1 fun v H2 e2 at2 o => hl H2 _ (S.trans e1 e2) at2 fun l H3 e3 at3 pl => hh H3 _ (S.trans e1 (S.trans e2 e3)) at3 fun u H4 e4 at4 pu => by
    obtain ⟨x, rfl, x1, x2⟩ := od_tx o
    have l1 := x1.l
    exact ⟨x, rfl, line_small (by omega), q _ _ (S.trans (S.trans e2 e3) e4) at4 (od_of_tx (x1.cut l u) ⟨x, l, u, rfl, x2, pl, pu⟩)⟩
theorem oe_ixS {z : Str} {B : Int → Prop} (hl : z.length = n) (hz : n ≤ 16777216) (hc : ∀ c ∈ z.cps.toList, c < 16 ^ 8) (g : OE S u σ H a b (oI B)) (hi : ∀ i, B i → 0 ≤ i ∧ i < (n : Int)) : OE S (tOp rIxS (tC (.str z)) u) σ H 12 0 (oX 1 fun y => ∃ c ∈ z.cps.toList, y = ⟨#[c]⟩) := fun H1 Q e1 at1 q =>
  g H1 _ e1 at1 fun w H3 e3 at3 o' => by
    obtain ⟨i, rfl, gi⟩ := od_int o'
    obtain ⟨i0, i1⟩ := hi i gi
    obtain ⟨c, ec, mc⟩ := at_memG (xs := z.cps.toList) i0 (by rw [Array.length_toList]; show i < ((z.length : Nat) : Int); rw [hl]; exact i1)
    exact ⟨z, i, c, rfl, rfl, line_small (by rw [hl]; exact hz), ec, q _ _ e3 at3 ((od_of_tx (tx_one (hc c mc)) ⟨c, mc, rfl⟩))⟩
theorem oe_upper (h : OE S t σ H a b (oX m A)) (hm : m ≤ 5592405) (hu : ∀ x, A x → TxOk n (Txt.upper x)) : OE S (tM0 (fun x xs H Q => ∃ a, x = .str a ∧ xs = [] ∧ a.length ≤ 5592405 ∧ Q (.str (Txt.upper a)) H) t) σ H (10 * n + 2) 0 (oX n fun z => ∃ x, z = Txt.upper x ∧ A x) := fun H1 Q e1 at1 q =>
  h H1 _ e1 at1 fun v H2 e2 at2 o => by
    obtain ⟨x, rfl, x1, x2⟩ := od_tx o
    have l1 := x1.l
    exact ⟨⟨x, rfl⟩, x, rfl, rfl, by omega, q _ _ e2 at2 (od_of_tx (hu x x2) ⟨x, rfl, x2⟩)⟩
theorem oe_lenS (h : OE S t σ H a b (oX m A)) (hm : m ≤ 16777216) : OE S (tCB (fun xs H Q => ∃ z, xs = [.str z] ∧ z.length ≤ sizeLine ∧ Q (.int z.length) H) (tCons t tNil)) σ H 110 0 (oI fun i => ∃ x : Str, i = (x.length : Int) ∧ A x) := fun H1 Q e1 at1 q =>
  h H1 _ e1 at1 fun v H2 e2 at2 o => by
    obtain ⟨x, rfl, x1, x2⟩ := od_tx o
    have l1 := x1.l
    exact ⟨x, rfl, line_small (by omega), q _ _ e2 at2 (od_of_int ⟨by omega, by omega⟩ ⟨x, rfl, x2⟩)⟩
/-- {text: number} -/
theorem oe_d1 {i : Nat} {z : Str} {y : Int} (e : σ[i]? = some (some (.str z))) (h : TxOk m z) (hy : -100 ≤ y ∧ y ≤ 100) : OE S (tDisp [(tVar i, tC (.int y))]) σ H (10 * m + 2 + 110 + 6) 1 (fun d => d = .dict [(.str z, .int y)]) := fun H1 Q e1 at1 q => fun p np => by
  refine ⟨_, e, upd_same, [(.inr z, .int y)], rfl, (by show 1 ≤ 15; decide), ?_⟩
  have p1 := S.put (.dK []) at1 (S.refl _) at1 np
  have p2 := S.put (.dK (mergeK [] [(.inr z, .int y)])) at1 p1.2.1 p1.1 np
  exact q _ _ p2.2.1 p2.1 ⟨.dict [(.str z, .int y)], .dic p2.2.2.1 (.cons .nil), rw_dict1 (m := 10 * m + 2) (n := 110) h.rw (rw_int (i := y) (by omega) (by omega)), rfl⟩
/-- list(range(n)) -/
theorem oe_lrg {n : Nat} (hn : n ≤ 1000) (h : OE S t σ H a b (oI fun i => i = (n : Int))) : OE S (tLstRg (tRg1 t)) σ H (n * 112 + 2) 1 (oL fun ds => ds = (rg n).map PyData.int) := fun H1 Q e1 at1 q =>
  h H1 _ e1 at1 fun v H2 e2 at2 o => by
    obtain ⟨i, rfl, rfl⟩ := od_int o
    refine ⟨_, rfl, ⟨by omega, by omega, by omega, by omega, by omega⟩, fun p np => ?_⟩
    obtain ⟨at3, e3⟩ := S.same at2 (same_new (o := .lst (rgV 0 (n : Int))) np)
    have hb : ∀ x ∈ rg n, -100000000000000000000000000 ≤ x ∧ x ≤ 100000000000000000000000000 := fun x hx => by
      have := rg_mem.mp hx
      omega
    refine q _ _ (S.trans e2 e3) at3 ⟨.list ((rg n).map PyData.int), .lst (by rw [S.new _ at2 np, rg_V]) dqAll_intsG, ?_, _, rfl, rfl⟩
    exact (rw_list (rws_ints (b := 0) hb)).mono (by rw [rg_len]; exact Nat.le_refl _) (Nat.le_refl _)
end
end Fo
namespace Fo
open PySem PySem.Spec PyProof.Rows L2
theorem oe_strI {S : Src} {σ : L2.St} {H : Hp} {m a : Nat} {t : TE} {A : Int → Prop} (h : OE S t σ H m a (oI A)) (hb : ∀ i, A i → -100000000000000000000000000 ≤ i ∧ i ≤ 100000000000000000000000000) : OE S (tCB (fun xs H Q => ∃ i, xs = [.int i] ∧ i.natAbs.log2 < 1920 ∧ Q (.str (toString i)) H) (tCons t tNil)) σ H 1102 0 (oX 110 fun x => ∃ i : Int, x = toString i ∧ A i) := fun H1 Q e1 at1 q =>
  h H1 _ e1 at1 fun v H2 e2 at2 o => by
    obtain ⟨i, rfl, hi⟩ := od_int o
    obtain ⟨b1, b2⟩ := hb i hi
    have hl := log2_100 b1 b2
    have ht : TxOk 110 (Str.ofString (toString i)) := ⟨by
      have := int_text_length_le (k := 100) (by decide) hl
      rw [PySem.ofString_length]
      omega, fun c hc => by
      rw [PyProof.Rows.signs_ofString] at hc
      obtain ⟨ch, _, rfl⟩ := List.mem_map.mp hc
      exact ch.val.toNat_lt⟩
    exact ⟨i, rfl, by omega, q _ _ e2 at2 (od_of_tx ht ⟨i, rfl, hi⟩)⟩
end Fo
namespace Fo
open PySem PySem.Spec PyProof.Rows L2
/-! sources: none, and one that stands at one address -/
def src0 : Src where
  At := fun _ => True
  Kp := Same
  cut := fun H => H
  refl := Same.refl
  trans := Same.trans
  kp := fun k => k
  le := Same.refl
  same := fun _ s => ⟨trivial, s⟩
  put := fun {H H1 p} o _ k _ np => ⟨trivial, fun b x e => by rw [upd_ne (ne_of_none e np)]; exact k b x e, upd_same, fun b hb => upd_ne hb⟩
open Classical in
noncomputable def cut1 (d : Addr) (H : Hp) : Hp := fun b => if b = d then none else H b
theorem cut1_ne {d : Addr} {H : Hp} {b : Addr} (h : b ≠ d) : cut1 d H b = H b := by
  unfold cut1
  rw [if_neg h]
theorem cut1_of {d : Addr} {H : Hp} {b : Addr} {o : HO} (h : cut1 d H b = some o) : H b = some o ∧ b ≠ d := by
  unfold cut1 at h
  split at h
  · cases h
  · exact ⟨h, by assumption⟩
noncomputable def src1 (d : Addr) (X : HO → Prop) : Src where
  At := fun H => ∃ o, H d = some o ∧ X o
  Kp := fun H H' => ∀ b o, H b = some o → b ≠ d → H' b = some o
  cut := cut1 d
  refl := fun _ _ _ e _ => e
  trans := fun k l b o e n => l b o (k b o e n) n
  kp := fun k b o e => by
    obtain ⟨e1, e2⟩ := cut1_of e
    rw [cut1_ne e2]
    exact k b o e1 e2
  le := fun _ _ _ e => (cut1_of e).1
  same := fun h s => ⟨by obtain ⟨o, e, x⟩ := h; exact ⟨o, s _ _ e, x⟩, fun b o e _ => s b o e⟩
  put := fun {H H1 p} o h k h1 np => by
    obtain ⟨q, e, x⟩ := h
    have n1 : p ≠ d := fun z => by rw [z, e] at np; cases np
    refine ⟨by obtain ⟨q1, e1, x1⟩ := h1; exact ⟨q1, by rw [upd_ne n1.symm]; exact e1, x1⟩, fun b x e f => ?_, by rw [cut1_ne n1]; exact upd_same, fun b hb => ?_⟩
    · rw [upd_ne (ne_of_none e np)]
      exact k b x e f
    · unfold cut1
      split
      · rfl
      · exact upd_ne hb
theorem os_put1 {d : Addr} {X : HO → Prop} {H : Hp} {o : HO} (x : X o) : (src1 d X).At (upd H d o) ∧ (src1 d X).Kp H (upd H d o) := ⟨⟨o, upd_same, x⟩, fun b q e n => by rw [upd_ne n]; exact e⟩
/-- the whole list made a source: it is added to -/
theorem od_1 {d : Addr} {X : HO → Prop} {m k : Nat} {B : PyData → Prop} {H H' : Hp} {v : V} (h : Od src0 m k B H v) (e : ∀ b o, H b = some o → (src1 d X).cut H' b = some o) : Od (src1 d X) m k B H' v := by
  obtain ⟨x, h1, h2, h3⟩ := h
  exact ⟨x, h1.same e, h2, h3⟩
end Fo
namespace Fo
open PySem PySem.Spec PyProof.Rows L2
/-! ### a pool: three numbers, of which others are drawn -/
def PoolAt (H : Hp) (d : Addr) (c : Nat) : Prop := ∃ a b s : Int, H d = some (.lst [.int a, .int b, .int s]) ∧ 0 ≤ s ∧ s ≤ c
def KeepD (d : Addr) (H H' : Hp) : Prop := ∀ b o, H b = some o → b ≠ d → H' b = some o
theorem KeepD.refl (d : Addr) (H : Hp) : KeepD d H H := fun _ _ e _ => e
theorem KeepD.trans {d : Addr} {H H1 H2 : Hp} (a : KeepD d H H1) (b : KeepD d H1 H2) : KeepD d H H2 := fun c o e f => b c o (a c o e f) f
theorem KeepD.of_same {d : Addr} {H H' : Hp} (h : Same H H') : KeepD d H H' := fun b o e _ => h b o e
theorem KeepD.none {d : Addr} {H H1 : Hp} (k : KeepD d H H1) {p : Addr} (np : H1 p = none) (nf : p ≠ d) : H p = none := by
  cases e : H p with
  | none => rfl
  | some o =>
    have z := k p o e nf
    rw [np] at z
    cases z
theorem PoolAt.same {H H' : Hp} {d : Addr} {c : Nat} (h : PoolAt H d c) (s : Same H H') : PoolAt H' d c := by
  obtain ⟨a, b, t, e, r⟩ := h
  exact ⟨a, b, t, s _ _ e, r⟩
theorem PoolAt.mono {H : Hp} {d : Addr} {c c' : Nat} (h : PoolAt H d c) (hc : c ≤ c') : PoolAt H d c' := by
  obtain ⟨a, b, t, e, h0, h1⟩ := h
  exact ⟨a, b, t, e, h0, by omega⟩
theorem PoolAt.ne {H : Hp} {d : Addr} {c : Nat} (h : PoolAt H d c) {p : Addr} (e : H p = none) : p ≠ d := by
  obtain ⟨a, b, t, e1, _⟩ := h
  exact (ne_of_none e1 e).symm
theorem PoolAt.upd {H : Hp} {d : Addr} {c : Nat} (h : PoolAt H d c) {p : Addr} {o : HO} (n1 : p ≠ d) : PoolAt (upd H p o) d c := by
  obtain ⟨a, b, t, e, r⟩ := h
  exact ⟨a, b, t, by rw [upd_ne n1.symm]; exact e, r⟩
def spPool (K : PySem.W.Frag) : Sp := fun vs H Q _ => ∃ (a : Addr) (ns : List Int) (k : Nat), vs = [.ref a, .int k] ∧ SqL K H a (ns.map V.int) ∧ ns.length ≤ 63 ∧ k < 63 ∧ ∀ (d : Addr) (H' : Hp), H d = none → PoolAt H' d 5000 → Same H H' → Q (.ref d) H'
def spTake : Sp := fun vs H Q _ => ∃ (d : Addr) (many : Int) (c : Nat), vs = [.ref d, .int many] ∧ PoolAt H d c ∧ c < 1048576 ∧ 0 < many ∧ many < 1073741824 ∧ ∀ (v : Int) (H' : Hp), 0 ≤ v → v < many → PoolAt H' d (c + 1) → KeepD d H H' → Q (.int v) H'
def spFarN : Sp := fun vs H Q _ => ∃ (d : Addr) (c : Nat), vs = [.ref d] ∧ PoolAt H d c ∧ c + 5 < 1048576 ∧ ∀ (v : Int) (H' : Hp), 0 ≤ v → PoolAt H' d (c + 5) → KeepD d H H' → Q (.int v) H'
theorem mod_b (x : Int) {m : Int} (h : 0 < m) : 0 ≤ x % m ∧ x % m < m := ⟨Int.emod_nonneg x (by omega), Int.emod_lt_of_pos x h⟩
theorem mul_b {x y a b : Int} (hx : 0 ≤ x) (hxa : x ≤ a) (hy : 0 ≤ y) (hyb : y ≤ b) : 0 ≤ x * y ∧ x * y ≤ a * b := ⟨Int.mul_nonneg hx hy, Int.mul_le_mul hxa hyb hy (by omega)⟩
theorem at3_0 {x y z : V} : atI [x, y, z] 0 = some x := rfl
theorem at3_1 {x y z : V} : atI [x, y, z] 1 = some y := rfl
theorem at3_2 {x y z : V} : atI [x, y, z] 2 = some z := rfl
section
variable {P : Program} {w : World} {K : PySem.W.Frag} {mg : Str → Option Value} {base : Heap}
theorem scTake : FnScope ["pool", "many", "found", "step", "mark"] ["pool", "many"] (defScope s_law_take) := ⟨rfl, rfl, rfl, by decide +kernel, rfl, by decide +kernel, by decide +kernel⟩
set_option maxHeartbeats 1000000 in
theorem ok_take {f : Addr} {fd : FuncData} {k : Nat} (T : Df K mg "_law_take" s_law_take ["pool", "many"] f fd) (B : Bi mg) : FnOk P w K mg base CX0 (k + 1) f fd ["pool", "many"] spTake := by
  refine T.F.ok scTake (fun vs H Q E h => ?_) (fun cdv A outer s H vs Q E hr h => ?_)
  · obtain ⟨d, m, c, rfl, _⟩ := h
    rfl
  · obtain ⟨d, m, c, rfl, ⟨a, b, st, hd, s0, s1⟩, hc, hm, hm2, q⟩ := h
    refine ⟨_, 
      (pss_cons (ps_if (pt_cmpR op_eq (pe_ix ix_list (pv 0) pe_int (fun _ _ => rfl)) pe_int (nomark _))
        (pss_cons (ps_set (i := 2) scTake.nd rfl (.inl rfl) (pe_op op_mod (pe_ix ix_list (pv 0) pe_int (fun _ _ => rfl)) (pv 1)))
        (pss_cons (ps_asg (pe_op op_fdiv (pe_ix ix_list (pv 0) pe_int (fun _ _ => rfl)) (pv 1)) (pg_sub (pv 0) pe_int set_list))
        (pss_one (ps_ret (pv 2)))))
        pss_nil)
      (pss_cons (ps_asg (pe_op op_add (pe_ix ix_list (pv 0) pe_int (fun _ _ => rfl)) pe_int) (pg_sub (pv 0) pe_int set_list))
      (pss_cons (ps_set (i := 3) scTake.nd rfl (.inl rfl) (pe_ix ix_list (pv 0) pe_int (fun _ _ => rfl)))
      (Evl.pss_cut (ps_set (i := 4) scTake.nd rfl (.inl rfl) (pe_op op_mul (pe_op op_add (pe_op op_mod (pe_ix ix_list (pv 0) pe_int (fun _ _ => rfl)) pe_int) pe_int) (pe_op op_add (pe_op op_mul pe_int (pv 3)) pe_int)))
      (Evl.pss_cut (ps_set (i := 4) scTake.nd rfl (.inl rfl) (pe_op op_add (pv 4) (pe_op op_mul (pe_op op_mul pe_int (pv 3)) (pv 3))))
      (Evl.pss_cut (ps_set (i := 4) scTake.nd rfl (.inl rfl) (pe_op op_mod (pe_op op_mul (pv 4) (pv 4)) pe_int))
      (pss_one (ps_ret (pe_op op_mod (pe_op op_fdiv (pe_op op_mod (pe_op op_mul (pv 4) (pe_op op_add (pv 4) pe_int)) pe_int) pe_int) (pv 1)))))))))), ?_⟩
    refine ⟨_, rfl, d, _, 1, _, rfl, rfl, SqL.of hd, at3_1, rfl, _, rfl, ite2 (fun _ => ?_) (fun _ => ?_)⟩
    · refine ⟨_, rfl, d, _, 0, _, rfl, rfl, SqL.of hd, at3_0, _, rfl, a, m, rfl, rfl, hm, ?_⟩
      refine ⟨_, rfl, d, _, 0, _, rfl, rfl, SqL.of hd, at3_0, _, rfl, a, m, rfl, rfl, ⟨hm, hm2⟩, _, rfl, d, _, 0, 0, rfl, rfl, hd, rfl, ?_⟩
      obtain ⟨c1, c2⟩ := mod_b a hm
      exact ⟨_, rfl, q _ _ c1 c2 ⟨a / m, b, st, upd_same, s0, by omega⟩ fun b o e nb => by rw [upd_ne nb]; exact e⟩
    · refine ⟨_, rfl, d, _, 2, _, rfl, rfl, SqL.of hd, at3_2, st, 1, rfl, rfl, _, rfl, d, _, 2, 2, rfl, rfl, hd, rfl, ?_⟩
      have hd1 : (upd H d (.lst [.int a, .int b, .int (st + 1)])) d = some (.lst [.int a, .int b, .int (st + 1)]) := upd_same
      have kp : KeepD d H (upd H d (.lst [.int a, .int b, .int (st + 1)])) := fun b o e nb => by rw [upd_ne nb]; exact e
      show _
      refine ⟨_, rfl, d, _, 2, _, rfl, rfl, SqL.of hd1, at3_2, ?_⟩
      have kp2 : (upd H d (.lst (([.int a, .int b, .int st] : List V).set 2 (.int (st + 1))))) = upd H d (.lst [.int a, .int b, .int (st + 1)]) := rfl
      rw [kp2]
      generalize upd H d (.lst [.int a, .int b, .int (st + 1)]) = H1 at hd1 kp ⊢
      obtain ⟨m1, m2⟩ := mod_b a (m := 9999999463) (by decide)
      refine ⟨fun τ G => ∃ x : Int, 0 ≤ x ∧ x ≤ 640000000000000000 ∧ τ = [some (.ref d), some (.int m), none, some (.int (st + 1)), some (.int x)] ∧ G = H1, ?_, fun τ G hM => ?_⟩
      · obtain ⟨z1, z2⟩ := mul_b (x := a % 9999999463 + 1039) (y := 61 * (st + 1) + 97) (a := 10000000502) (b := 63963294) (by omega) (by omega) (by omega) (by omega)
        exact ⟨_, rfl, d, _, 0, _, rfl, rfl, SqL.of hd1, at3_0, _, 9999999463, rfl, rfl, (show (0 : Int) < 9999999463 by decide), _, 1039, rfl, rfl, _, rfl, 61, _, rfl, rfl, .inl ⟨by decide, by decide⟩, _, 97, rfl, rfl, _, _, rfl, rfl, .inl ⟨by omega, by omega⟩, _, z1, Int.le_trans z2 (by decide), rfl, rfl⟩
      obtain ⟨x, x0, x1, rfl, e1⟩ := hM
      subst e1
      refine ⟨fun τ G' => ∃ y : Int, 0 ≤ y ∧ y ≤ 645000000000000000 ∧ τ = [some (.ref d), some (.int m), none, some (.int (st + 1)), some (.int y)] ∧ G' = G, ?_, fun τ G' hM => ?_⟩
      · obtain ⟨z1, z2⟩ := mul_b (x := 3617 * (st + 1)) (y := st + 1) (a := 3792699392) (b := 1048576) (by omega) (by omega) (by omega) (by omega)
        exact ⟨_, rfl, _, rfl, 3617, _, rfl, rfl, .inl ⟨by decide, by decide⟩, _, rfl, _, _, rfl, rfl, .inr ⟨by omega, by omega⟩, x, _, rfl, rfl, _, by omega, by omega, rfl, rfl⟩
      obtain ⟨y, y0, y1, rfl, e1⟩ := hM
      subst e1
      refine ⟨fun τ G'' => ∃ z : Int, 0 ≤ z ∧ z < 99999999547 ∧ τ = [some (.ref d), some (.int m), none, some (.int (st + 1)), some (.int z)] ∧ G'' = G', ?_, fun τ G'' hM => ?_⟩
      · exact ⟨_, rfl, _, rfl, y, y, rfl, rfl, .inl ⟨by omega, by omega⟩, _, 99999999547, rfl, rfl, (show (0 : Int) < 99999999547 by decide), _, (mod_b _ (by decide)).1, (mod_b _ (by decide)).2, rfl, rfl⟩
      obtain ⟨z, z0, z1, rfl, e1⟩ := hM
      subst e1
      obtain ⟨c1, c2⟩ := mod_b (z * (z + 73) % 99999999829 / 131) hm
      exact ⟨_, rfl, _, rfl, z, 73, rfl, rfl, z, _, rfl, rfl, .inl ⟨by omega, by omega⟩, _, 99999999829, rfl, rfl, (show (0 : Int) < 99999999829 by decide), _, 131, rfl, rfl, ⟨by decide, by decide⟩, _, rfl, _, m, rfl, rfl, hm, q _ _ c1 c2 ⟨a, b, st + 1, hd1, by omega, by omega⟩ kp⟩
theorem scPool : FnScope ["script", "k", "cell"] ["script", "k"] (defScope s_law_pool) := ⟨rfl, rfl, rfl, by decide +kernel, rfl, by decide +kernel, by decide +kernel⟩
theorem ok_pool {f : Addr} {fd : FuncData} {k : Nat} (T : Df K mg "_law_pool" s_law_pool ["script", "k"] f fd) (B : Bi mg) : FnOk P w K mg base CX0 (k + 1) f fd ["script", "k"] (spPool K) := by
  refine T.F.ok scPool (fun vs H Q E h => ?_) (fun cdv A outer s H vs Q E hr h => ?_)
  · obtain ⟨a, ns, k, rfl, _⟩ := h
    rfl
  · obtain ⟨a, ns, k, rfl, hS, hlen, hk, q⟩ := h
    refine ⟨_, 
      (pss_cons (ps_set (i := 2) scPool.nd rfl (.inl rfl) pe_int)
      (Evl.pss_cut (ps_if (pt_cmpR op_lt (pv 1) (pe_callB call_len_seq (by rfl) B.len PySem.boot_len (pa_cons (pv 0) pa_nil)) (nomark _))
        (pss_one (ps_set (i := 2) scPool.nd rfl (.inl rfl) (pe_ix ix_list (pv 0) (pv 1) (fun _ _ => rfl))))
        pss_nil)
      (pss_cons (ps_if (pt_cmpR op_ge (pv 2) (pe_op op_pow pe_int pe_int) (nomark _))
        (pss_one (ps_ret (pe_lst (pa_cons (pe_op op_sub (pv 2) (pe_op op_pow pe_int pe_int)) (pa_cons pe_int (pa_cons pe_int pa_nil))))))
        pss_nil)
      (pss_one (ps_ret (pe_lst (pa_cons (pv 2) (pa_cons pe_int (pa_cons (pe_op op_mul pe_int (pv 1)) pa_nil))))))))), ?_⟩
    refine ⟨fun τ G => ∃ x : Int, τ = [some (.ref a), some (.int k), some (.int x)] ∧ G = H, ?_, fun τ G hM => ?_⟩
    · refine ⟨_, rfl, _, rfl, a, _, rfl, .inl hS, (k : Int), _, rfl, rfl, _, rfl, ite2 (fun c => ?_) (fun _ => ⟨0, rfl, rfl⟩)⟩
      have hl : (k : Int) < (((ns.map V.int).length : Nat) : Int) := of_decide_eq_true c
      rw [List.length_map] at hl
      exact ⟨_, rfl, _, rfl, a, _, _, _, rfl, rfl, hS, at_of (j := k) rfl (int_at (List.getElem?_eq_getElem (show k < ns.length by omega))), _, rfl, rfl⟩
    obtain ⟨x, rfl, rfl⟩ := hM
    refine ⟨_, rfl, 10, 18, rfl, rfl, ⟨by decide, by decide, by decide⟩, x, _, rfl, rfl, _, rfl, ite2 (fun _ => ?_) (fun _ => ?_)⟩
    · refine ⟨_, rfl, 10, 18, rfl, rfl, ⟨by decide, by decide, by decide⟩, x, _, rfl, rfl, line_small (by show 3 ≤ 16777216; decide), fun d nd => ?_⟩
      exact q d _ nd ⟨_, 1, 0, upd_same, by omega, by omega⟩ (same_new nd)
    · refine ⟨_, rfl, _, rfl, 71, (k : Int), rfl, rfl, .inl ⟨by decide, by decide⟩, line_small (by show 3 ≤ 16777216; decide), fun d nd => ?_⟩
      exact q d _ nd ⟨_, 0, _, upd_same, by omega, by omega⟩ (same_new nd)
end
end Fo
namespace Fo
open PySem PySem.Spec PyProof.Rows L2
/-! a source that stands at a pool: between two draws it is a source like any other -/
noncomputable def srcP (d : Addr) (c : Nat) : Src where
  At := fun H => PoolAt H d c
  Kp := KeepD d
  cut := cut1 d
  refl := KeepD.refl d
  trans := KeepD.trans
  kp := fun k b o e => by
    obtain ⟨e1, e2⟩ := cut1_of e
    rw [cut1_ne e2]
    exact k b o e1 e2
  le := fun _ _ _ e => (cut1_of e).1
  same := fun h s => ⟨h.same s, KeepD.of_same s⟩
  put := fun {H H1 p} o h k h1 np => by
    have n1 : p ≠ d := h.ne np
    refine ⟨h1.upd n1, fun b x e f => ?_, by rw [cut1_ne n1]; exact upd_same, fun b hb => ?_⟩
    · rw [upd_ne (ne_of_none e np)]
      exact k b x e f
    · unfold cut1
      split
      · rfl
      · exact upd_ne hb
/-- a thing of d's source, however many are drawn -/
theorem od_p {d : Addr} {c c' m k : Nat} {B : PyData → Prop} {H : Hp} {v : V} (h : Od (srcP d c) m k B H v) : Od (srcP d c') m k B H v := h
theorem od_keep {d : Addr} {c m k : Nat} {B : PyData → Prop} {H H' : Hp} {v : V} (h : Od (srcP d c) m k B H v) (e : KeepD d H H') : Od (srcP d c) m k B H' v := h.kp (S := srcP d c) e
/-- what a thing is, in the whole heap -/
theorem od_dq {d : Addr} {c m k : Nat} {B : PyData → Prop} {H : Hp} {v : V} (h : Od (srcP d c) m k B H v) : ∃ x, Dq H v x ∧ B x := by
  obtain ⟨x, h1, _, h3⟩ := h
  exact ⟨x, h1.same ((srcP d c).le H), h3⟩
section
variable {d : Addr} {c : Nat} {σ : L2.St} {H : Hp} {m k n : Nat} {B : PyData → Prop} {t u : TE} {D : Ends}
/-- an expression that draws: so many draws -/
def OD (d : Addr) (c c' : Nat) (t : TE) (σ : L2.St) (H : Hp) (m k : Nat) (B : PyData → Prop) : Prop := ∀ H1 Q, KeepD d H H1 → PoolAt H1 d c → (∀ v H2, KeepD d H1 H2 → PoolAt H2 d c' → Od (srcP d 0) m k B H2 v → Q v H2) → t σ H1 Q
theorem OE.od (h : OE (srcP d c) t σ H m k B) : OD d c c t σ H m k B := fun H1 Q e1 p1 q => h H1 Q e1 p1 fun v H2 e2 p2 o => q v H2 e2 p2 o
theorem od_take {i : Nat} {y : Int} (e : σ[i]? = some (some (.ref d))) (h1 : 0 < y) (h2 : y < 1073741824) (hc : c < 1048576) : OD d c (c + 1) (tCall spTake [] E0 (tCons (tVar i) (tCons (tC (.int y)) tNil))) σ H 110 0 (oI fun z => 0 ≤ z ∧ z < y) := fun H1 Q _ p1 q =>
  ⟨_, e, d, y, c, rfl, p1, hc, h1, h2, fun z H2 z0 z1 p2 k2 => q _ _ k2 p2 ⟨.int z, .int z, rw_int (by omega) (by omega), z, rfl, z0, z1⟩⟩
theorem od_ix {K : PySem.W.Frag} {c' c'' a b : Nat} {A : Int → Prop} (h : OD d c c' t σ H m k (oL fun ds => ds.length = n ∧ ∀ x ∈ ds, B x)) (g : OD d c' c'' u σ H a b (oI A)) (hi : ∀ i, A i → 0 ≤ i ∧ i < (n : Int)) (hn : n ≤ 10000) : OD d c c'' (tOp (rIxL K) t u) σ H m k B := fun H1 Q e1 p1 q =>
  h H1 _ e1 p1 fun v H2 e2 p2 o => g H2 _ (KeepD.trans e1 e2) p2 fun w H3 e3 p3 o' => by
    obtain ⟨_, h1, h2, x, rfl, h3, h4⟩ := od_keep o e3
    obtain ⟨_, g1, _, i, rfl, gi⟩ := o'
    exact oe_ix (S := srcP d c'') (K := K) (n := n) (t := tC v) (u := tC w) (σ := σ) (H := H3) (B := B) (A := A) (m := m) (k := k) (a := 110) (b := 0)
      (fun G R k1 q1 r => r v G ((srcP d c'').refl G) q1 ⟨_, h1.same ((srcP d c'').kp k1), h2, x, rfl, h3, h4⟩)
      (fun G R k1 q1 r => r w G ((srcP d c'').refl G) q1 ⟨_, g1.same ((srcP d c'').kp k1), rw_int (by have := hi i gi; omega) (by have := hi i gi; omega), i, rfl, gi⟩) hi H3 Q ((srcP d c'').refl H3) p3 fun v' H4 e4 p4 o4 => q v' H4 (KeepD.trans e2 (KeepD.trans e3 e4)) p4 o4
end
end Fo
namespace Fo
open PySem PySem.Spec PyProof.Rows L2
/-! defs that refuse -/
section
variable {P : Program} {w : World} {K : PySem.W.Frag} {mg : Str → Option Value} {base : Heap} {k : Nat} {f : Addr} {fd : FuncData} {ps : List Str}
theorem fn_up {sp : Sp} (F : FnOk P w K mg base CX0 k f fd ps sp) : FnOk P w K mg base (L2.CX P w) k f fd ps sp :=
  ⟨F.len, fun A outer s H args us vs Q E hr e0 hb hv hs => codeAny_mono (F.run A outer s H args us vs Q E hr e0 hb hv hs) fun r s' h => match r, h with
    | .error _, h => h.elim
    | .ok (.ret _), h => h
    | .ok .next, h => h
    | .ok .brk, h => h
    | .ok .cont, h => h⟩
theorem fn_or {CX : CXT} {sp sp' : Sp} (F : FnOk P w K mg base CX k f fd ps sp) (G : FnOk P w K mg base CX k f fd ps sp') : FnOk P w K mg base CX k f fd ps (fun vs H Q E => sp vs H Q E ∨ sp' vs H Q E) :=
  ⟨fun vs H Q E h => h.elim (F.len vs H Q E) (G.len vs H Q E), fun A outer s H args us vs Q E hr e0 hb hv hs => hs.elim (F.run A outer s H args us vs Q E hr e0 hb hv) (G.run A outer s H args us vs Q E hr e0 hb hv)⟩
def spNever : Sp := fun _ _ _ _ => False
theorem fn_never {CX : CXT} : FnOk P w K mg base CX k f fd ps spNever := ⟨fun _ _ _ _ h => h.elim, fun _ _ _ _ _ _ _ _ _ _ _ _ _ h => h.elim⟩
end
/-- an error class of the program, over ValueError -/
structure ExK (K : PySem.W.Frag) (mg : Str → Option Value) (x : Str) (C : Addr) : Prop where
  g : mg x = some (.ref C)
  q : PySem.W.excIn K C [.type "ValueError", .type "Exception", .type "BaseException", .type "object"] "ValueError.__new__" = true
  kp : PySem.W.keepIn K (.ref C) = true
  sb : PySem.W.subIn K (.ref C) (.type "BaseException") = some true
  ty : PySem.W.typeIn K (.ref C) = some (.type "type")
  ec : ExcC K C
section
variable {X : Cx}
theorem ps_raiseK {W : WX} {x m : Str} {C : Addr} {j : Nat} {p p2 pos pos' : Pos} (hc : X.calm = true) (tk : Takes X W) (c : ExK X.K X.mg x C) (hg : Gl X x) (hdb : (x == ("__debug__" : Str)) = false := by decide) :
    PS X (.Raise (some (.Call (.Name x p) [.Constant (.str m) j p2] [] pos)) none pos') (fun _ σ H => W (.ref C) none σ H) :=
  ps_raise hc tk (pmk_own PySem.F.excBase_ValueError c.q c.g c.kp (raises_own c.sb c.ty) hg hdb)
theorem ps_raiseA {W : WX} {x : Str} {C : Addr} {e : Expr} {ta : TE} {p pos pos' : Pos} (hc : X.calm = true) (tk : Takes X W) (c : ExK X.K X.mg x C) (hg : Gl X x) (he : PE X e ta) (hdb : (x == ("__debug__" : Str)) = false := by decide)
    (hs : starEach [e] X.env = (false, eval e X.env) :: starEach [] X.env := by rfl) :
    PS X (.Raise (some (.Call (.Name x p) [e] [] pos)) none pos') (fun _ σ H => ta σ H fun _ H1 => W (.ref C) none σ H1) :=
  ps_raise hc tk (SkE.pmk_own1 PySem.F.excBase_ValueError c.q c.g c.kp (raises_own c.sb c.ty) hg he hs hdb)
end
end Fo
namespace Fo
open PySem PySem.Spec PyProof.Rows L2
/-! what is no order is refused -/
def lenD : PyData → Nat
  | .list ds => ds.length
  | _ => 0
theorem good_at {H : Hp} {v : V} {d : PyData} (h : Dq H v d) (g : GoodD d) : ∃ (a : Addr) (ns : List Int), v = .ref a ∧ H a = some (.lst (ns.map V.int)) ∧ IsOrd ns.length ns ∧ 1 ≤ ns.length ∧ ns.length ≤ 12 ∧ lenD d = ns.length := by
  obtain ⟨ns, rfl, h1, h2, h3⟩ := g
  cases h with
  | @lst a xs _ e al =>
    have := dq_intsV al
    subst this
    exact ⟨a, ns, rfl, e, h1, h2, h3, List.length_map _⟩
def spChk (cO : Addr) : Sp := fun vs H Q E => ∃ (v : V) (d : PyData), vs = [v] ∧ Dq H v d ∧ (GoodD d → ∀ H', Same H H' → Q .non H') ∧ (¬ GoodD d → ∀ H', Same H H' → E (.ref cO) none H')
section
variable {P : Program} {w : World} {K : PySem.W.Frag} {mg : Str → Option Value} {base : Heap}
end
end Fo
namespace Fo
open PySem PySem.Spec PyProof.Rows L2
def IsWay (w : Str) : Prop := w = "swap" ∨ w = "spot" ∨ w = "shift"
theorem n1 : ¬ (("spot" : Str) = "swap") := by decide +kernel
theorem n2 : ¬ (("shift" : Str) = "swap") := by decide +kernel
theorem n3 : ¬ (("shift" : Str) = "spot") := by decide +kernel
/-- the ways as the top has written them -/
structure Wy (K : PySem.W.Frag) (mg : Str → Option Value) (aW : Addr) : Prop where
  g : mg "WAYS" = some (.ref aW)
  t : ∀ H : Hp, SqT K H aW [.str "swap", .str "spot", .str "shift"]
theorem wy_mk {K : PySem.W.Frag} {mg : Str → Option Value} {aW : Addr} {dd : Option Addr} {n : Nat} {t1 t2 t3 : Tok} {sl : Array (Option Value)} (g : mg "WAYS" = some (.ref aW)) (l : K.lookup aW = some ⟨.type "tuple", dd, .seq #[.str "swap" t1, .str "spot" t2, .str "shift" t3] n, sl⟩) : Wy K mg aW :=
  ⟨g, fun H => .inr ⟨_, _, _, l, rfl, rfl, line_small (by show 3 ≤ 16777216; decide), .cons ⟨_, rfl⟩ (.cons ⟨_, rfl⟩ (.cons ⟨_, rfl⟩ .nil))⟩⟩
def spWay : Sp := fun vs H Q _ => ∃ (w : Str), vs = [.str w] ∧ IsWay w ∧ Q .non H
section
variable {P : Program} {w : World} {K : PySem.W.Frag} {mg : Str → Option Value} {base : Heap}
theorem scWay : FnScope ["thing"] ["thing"] (defScope s_check_way) := ⟨rfl, rfl, rfl, by decide +kernel, rfl, by decide +kernel, by decide +kernel⟩
theorem ok_way {f aW : Addr} {fd : FuncData} {k : Nat} (T : Df K mg "check_way" s_check_way ["thing"] f fd) (W : Wy K mg aW) (B : Bi mg) : FnOk P w K mg base CX0 (k + 1) f fd ["thing"] spWay := by
  refine T.F.ok scWay (fun vs H Q E h => ?_) (fun cdv A outer s H vs Q E hr h => ?_)
  · obtain ⟨z, rfl, _⟩ := h
    rfl
  · obtain ⟨z, rfl, hz, q⟩ := h
    refine ⟨_, 
      (pss_one (ps_if (PW.pt (pw_or (pt_not (pt_val (pe_callB call_isi (by rfl) B.isinstance (by decide +kernel) (pa_cons (pv 0) (pa_cons (pe_bltn (v := .ty "str") (by rfl) B.str (by decide +kernel) rfl) pa_nil))))) (pw_or1 (pt_cmpR op_notIn_seq (pv 0) (pe_glob (v := .ref aW) (by rfl) W.g rfl) (by rfl)))))
        (pss_one ps_never)
        pss_nil)), ?_⟩
    refine ⟨_, rfl, _, _, _, _, true, rfl, .ty _, .base (.str _), kit_ty (by decide +kernel), true, rfl, iteF ?_⟩
    rcases hz with rfl | rfl | rfl
    · exact ⟨_, rfl, aW, _, rfl, .inr (W.t H), rfl, rfl, _, rfl, ite2 (fun c => absurd c (by decide +kernel)) (fun _ => q)⟩
    · exact ⟨_, rfl, aW, _, rfl, .inr (W.t H), rfl, rfl, _, rfl, ite2 (fun c => absurd c (by decide +kernel)) (fun _ => q)⟩
    · exact ⟨_, rfl, aW, _, rfl, .inr (W.t H), rfl, rfl, _, rfl, ite2 (fun c => absurd c (by decide +kernel)) (fun _ => q)⟩
end
end Fo
namespace Fo
open PySem PySem.Spec PyProof.Rows L2
def WayD (d : PyData) : Prop := ∃ z : Str, d = .str z ∧ IsWay z
def spWayX (cW : Addr) : Sp := fun vs H Q E => ∃ (v : V) (d : PyData), vs = [v] ∧ Dq H v d ∧ (WayD d → Q .non H) ∧ (¬ WayD d → E (.ref cW) none H)
theorem inV_ways (z : Str) : inV (.str z) [.str "swap", .str "spot", .str "shift"] = decide (z = "swap" ∨ z = "spot" ∨ z = "shift") := by
  have e : ∀ x : Str, eqV (.str x) (.str z) = decide (z = x) := fun x => by
    unfold eqV
    by_cases h : x = z
    · subst h
      simp
    · have h2 : ¬ z = x := fun y => h y.symm
      simp [h, h2]
  unfold inV
  simp only [List.any_cons, List.any_nil, e, Bool.or_false]
  by_cases h1 : z = "swap"
  · simp [h1]
  · by_cases h2 : z = "spot"
    · simp [h2]
    · by_cases h3 : z = "shift"
      · simp [h3]
      · simp [h1, h2, h3]
section
variable {P : Program} {w : World} {K : PySem.W.Frag} {mg : Str → Option Value} {base : Heap}
theorem scWayX : FnScope ["thing"] ["thing"] (defScope s_check_way) := ⟨rfl, rfl, rfl, by decide +kernel, rfl, by decide +kernel, by decide +kernel⟩
theorem ok_wayX {f aW cW : Addr} {fd : FuncData} {k : Nat} (T : Df K mg "check_way" s_check_way ["thing"] f fd) (W : Wy K mg aW) (X_NoWay : ExK K mg "NoWay" cW) (B : Bi mg) : FnOk P w K mg base (L2.CX P w) (k + 1) f fd ["thing"] (spWayX cW) := by
  refine T.F.okX scWayX (fun vs H Q E h => ?_) (fun cdv A outer s H vs Q E hr h => ?_)
  · obtain ⟨v, d, rfl, _⟩ := h
    rfl
  · obtain ⟨v, d, rfl, hd, q1, q2⟩ := h
    refine ⟨_, 
      (pss_one (ps_if (PW.pt (pw_or (pt_not (pt_val (pe_callB call_isi (by rfl) B.isinstance (by decide +kernel) (pa_cons (pv 0) (pa_cons (pe_bltn (v := .ty "str") (by rfl) B.str (by decide +kernel) rfl) pa_nil))))) (pw_or1 (pt_cmpR op_notIn_seq (pv 0) (pe_glob (v := .ref aW) (by rfl) W.g rfl) (by rfl)))))
        (pss_one (ps_raiseK rfl (takes_of rfl rfl rfl rfl) X_NoWay (by rfl)))
        pss_nil)), ?_⟩
    refine ⟨_, rfl, _, _, _, _, isStrD d, rfl, .ty _, dq_ty hd, kit_strD d, _, rfl, ?_⟩
    cases hd with
    | str z =>
      refine iteF ⟨_, rfl, aW, _, rfl, .inr (W.t H), rfl, rfl, _, rfl, ?_⟩
      show if (!inV (.str z) [.str "swap", .str "spot", .str "shift"]) = true then _ else _
      rw [inV_ways]
      by_cases c : z = "swap" ∨ z = "spot" ∨ z = "shift"
      · rw [decide_eq_true c]
        exact iteF (q1 ⟨z, rfl, c⟩)
      · rw [decide_eq_false c]
        exact iteT (q2 fun y => by obtain ⟨z2, e, h⟩ := y; injection e with e; subst e; exact c h)
    | _ => exact iteT (iteT (q2 fun y => by obtain ⟨z2, e, h⟩ := y; cases e))
end
end Fo
namespace Fo
open PySem PySem.Spec PyProof.Rows L2
/-! what is no number is refused -/
def SizeD (most : Int) (d : PyData) : Prop := ∃ i : Int, d = .int i ∧ 1 ≤ i ∧ i ≤ most
def FromD (least : Int) (d : PyData) : Prop := ∃ i : Int, d = .int i ∧ least ≤ i
def spSizeX (cN : Addr) : Sp := fun vs H Q E => ∃ (v : V) (d : PyData) (most : Int), vs = [v, .int most] ∧ Dq H v d ∧ 0 ≤ most ∧ most ≤ 1000 ∧ (SizeD most d → Q .non H) ∧ (¬ SizeD most d → E (.ref cN) none H)
def spFromX (cN : Addr) : Sp := fun vs H Q E => ∃ (v : V) (d : PyData) (least : Int), vs = [v, .int least] ∧ Dq H v d ∧ 0 ≤ least ∧ least ≤ 1000 ∧ (FromD least d → Q .non H) ∧ (¬ FromD least d → E (.ref cN) none H)
theorem log2_1000 {i : Int} (h1 : 0 ≤ i) (h2 : i ≤ 1000) : i.natAbs.log2 < 1920 := by
  by_cases z : i.natAbs = 0
  · rw [z]
    decide
  · have : i.natAbs.log2 < 10 := by
      rw [Nat.log2_lt z]
      omega
    omega
theorem text_1000 {i : Int} (h1 : 0 ≤ i) (h2 : i ≤ 1000) : (Str.ofString (toString i)).length ≤ 20 := by
  have h : i.natAbs.log2 < 10 := by
    by_cases z : i.natAbs = 0
    · rw [z]
      decide
    · rw [Nat.log2_lt z]
      omega
  have := int_text_length_le (k := 10) (by decide) h
  rw [PySem.ofString_length]
  omega
section
variable {P : Program} {w : World} {K : PySem.W.Frag} {mg : Str → Option Value} {base : Heap}
theorem scSizeX : FnScope ["thing", "most"] ["thing", "most"] (defScope s_check_size) := ⟨rfl, rfl, rfl, by decide +kernel, rfl, by decide +kernel, by decide +kernel⟩
theorem ok_sizeX {f f1 cN : Addr} {fd d1 : FuncData} {k : Nat} (T : Df K mg "check_size" s_check_size ["thing", "most"] f fd) (T_is_whole : Df K mg "is_whole" s_is_whole ["thing"] f1 d1) (G_is_whole : FnOk P w K mg base CX0 k f1 d1 ["thing"] spWholeD) (X_NoNumber : ExK K mg "NoNumber" cN) (B : Bi mg) : FnOk P w K mg base (L2.CX P w) (k + 1) f fd ["thing", "most"] (spSizeX cN) := by
  refine T.F.okX scSizeX (fun vs H Q E h => ?_) (fun cdv A outer s H vs Q E hr h => ?_)
  · obtain ⟨v, d, most, rfl, _⟩ := h
    rfl
  · obtain ⟨v, d, most, rfl, hd, m0, m1, q1, q2⟩ := h
    refine ⟨_, 
      (pss_one (ps_if (PW.pt (pw_or (pt_not (pt_val (pe_call G_is_whole hr (by rfl) T_is_whole.g T_is_whole.F.kp T_is_whole.b .nil pass0 (pa_cons (pv 0) pa_nil)))) (pw_or (pt_cmpR op_lt (pv 0) pe_int (nomark _)) (pw_or1 (pt_cmpR op_gt (pv 0) (pv 1) (nomark _))))))
        (pss_one (ps_raiseA rfl (takes_of rfl rfl rfl rfl) X_NoNumber (by rfl) (pe_joined (PJ.cons pe_str (PJ.cons (pe_fmt (pv 1)) PJ.nil)))))
        pss_nil)), ?_⟩
    have bad : ¬ SizeD most d → tJs [tC (.str "not a whole number from 1 to "), tFmt (tVar 1)] Str.empty [some v, some (.int most)] H fun _ H1 => E (.ref cN) none H1 := fun n => by
      refine ⟨_, rfl, by decide +kernel, _, rfl, .inr ⟨most, rfl, log2_1000 m0 m1, _, rfl, ?_, q2 n⟩⟩
      rw [strLen_append]
      have := text_1000 m0 m1
      exact line_small (by
        have e : (Str.empty ++ ("not a whole number from 1 to " : Str)).length ≤ 40 := by decide +kernel
        have e2 : (toString most : Str) = Str.ofString (toString most) := rfl
        omega)
    refine ⟨_, rfl, v, d, rfl, hd, _, rfl, ?_⟩
    cases hd with
    | int y =>
      refine iteF ⟨_, rfl, y, 1, rfl, rfl, _, rfl, ?_⟩
      by_cases c0 : y < 1
      · rw [decide_eq_true c0]
        exact iteT (iteT (bad fun z => by obtain ⟨i, e, h, _⟩ := z; injection e with e; omega))
      · rw [decide_eq_false c0]
        refine iteF ⟨_, rfl, _, rfl, y, most, rfl, rfl, _, rfl, ?_⟩
        by_cases c1 : most < y
        · rw [decide_eq_true c1]
          exact iteT (bad fun z => by obtain ⟨i, e, _, h⟩ := z; injection e with e; omega)
        · rw [decide_eq_false c1]
          exact iteF (q1 ⟨y, rfl, by omega, by omega⟩)
    | _ => exact iteT (iteT (bad fun z => by obtain ⟨i, e, _⟩ := z; cases e))
theorem scFromX : FnScope ["thing", "least"] ["thing", "least"] (defScope s_check_from) := ⟨rfl, rfl, rfl, by decide +kernel, rfl, by decide +kernel, by decide +kernel⟩
theorem ok_fromX {f f1 cN : Addr} {fd d1 : FuncData} {k : Nat} (T : Df K mg "check_from" s_check_from ["thing", "least"] f fd) (T_is_whole : Df K mg "is_whole" s_is_whole ["thing"] f1 d1) (G_is_whole : FnOk P w K mg base CX0 k f1 d1 ["thing"] spWholeD) (X_NoNumber : ExK K mg "NoNumber" cN) (B : Bi mg) : FnOk P w K mg base (L2.CX P w) (k + 1) f fd ["thing", "least"] (spFromX cN) := by
  refine T.F.okX scFromX (fun vs H Q E h => ?_) (fun cdv A outer s H vs Q E hr h => ?_)
  · obtain ⟨v, d, most, rfl, _⟩ := h
    rfl
  · obtain ⟨v, d, most, rfl, hd, m0, m1, q1, q2⟩ := h
    refine ⟨_, 
      (pss_one (ps_if (PW.pt (pw_or (pt_not (pt_val (pe_call G_is_whole hr (by rfl) T_is_whole.g T_is_whole.F.kp T_is_whole.b .nil pass0 (pa_cons (pv 0) pa_nil)))) (pw_or1 (pt_cmpR op_lt (pv 0) (pv 1) (nomark _)))))
        (pss_one (ps_raiseA rfl (takes_of rfl rfl rfl rfl) X_NoNumber (by rfl) (pe_joined (PJ.cons pe_str (PJ.cons (pe_fmt (pv 1)) (PJ.cons pe_str PJ.nil))))))
        pss_nil)), ?_⟩
    have bad : ¬ FromD most d → tJs [tC (.str "not a whole number from "), tFmt (tVar 1), tC (.str " on")] Str.empty [some v, some (.int most)] H fun _ H1 => E (.ref cN) none H1 := fun n => by
      have := text_1000 m0 m1
      have e : (Str.empty ++ ("not a whole number from " : Str)).length ≤ 40 := by decide +kernel
      have e2 : (toString most : Str) = Str.ofString (toString most) := rfl
      have e3 : (" on" : Str).length = 3 := by decide +kernel
      refine ⟨_, rfl, by decide +kernel, _, rfl, .inr ⟨most, rfl, log2_1000 m0 m1, _, rfl, ?_, _, rfl, ?_, q2 n⟩⟩
      · rw [strLen_append]
        exact line_small (by omega)
      · rw [strLen_append, strLen_append]
        exact line_small (by omega)
    refine ⟨_, rfl, v, d, rfl, hd, _, rfl, ?_⟩
    cases hd with
    | int y =>
      refine iteF ⟨_, rfl, _, rfl, y, most, rfl, rfl, _, rfl, ?_⟩
      by_cases c0 : y < most
      · rw [decide_eq_true c0]
        exact iteT (bad fun z => by obtain ⟨i, e, h⟩ := z; injection e with e; omega)
      · rw [decide_eq_false c0]
        exact iteF (q1 ⟨y, rfl, by omega⟩)
    | _ => exact iteT (iteT (bad fun z => by obtain ⟨i, e, _⟩ := z; cases e))
end
end Fo
namespace Fo
open PySem PySem.Spec PyProof.Rows L2
/-! ### rules of my own: xs[i] op= e, sum(d.values()) -/
section
variable {X : Cx}
def rGetL (K : PySem.W.Frag) : V → V → Hp → VK → Prop := fun o i H Q => ∃ p xs k v, o = .ref p ∧ i = .int k ∧ SqL K H p xs ∧ 0 ≤ k ∧ atI xs k = some v ∧ Q v H
theorem get_list : PGet X (rGetL X.K) := by
  intro pins s σ H o i ov iv Q J ro ri hz
  obtain ⟨p, xs, k, v, eo, ei, sq, k0, at', q⟩ := hz
  subst eo ei
  cases ro
  obtain ⟨tk, ek⟩ := ri
  subst ek
  obtain ⟨its, rl, pl, hlen⟩ := J.list sq
  obtain ⟨j, a1, a2, a3, a4, a5⟩ := atI_get at'
  obtain ⟨u, eu, ru⟩ := rl.get a2
  have l1 := rl.length
  have l2 := line63
  have ej : k.toNat = j := by
    rw [seqIndex_of k0 a5] at a1
    exact Option.some.inj a1
  exact wpAny_getItem_list pl.isList k0 (by omega) (by rw [ej]; simpa using eu) ⟨v, H, J, ru, q⟩
def tSumVals (td : TE) : TE := fun σ H Q => td σ H fun x H1 => ∃ (a : Addr) (kvs : List (Key × V)) (is : List Int), x = V.ref a ∧ H1 a = some (.dK kvs) ∧ kvs.map (·.2) = is.map V.int ∧ Q (.int is.sum) H1
theorem preSum_list (is : List Int) : ∀ n, n ≤ is.length → preSum (fun i => is.getD i 0) n = (is.take n).sum
  | 0, _ => rfl
  | n + 1, h => by
    have e : is[n]? = some is[n] := List.getElem?_eq_getElem (by omega)
    rw [List.take_add_one, e, List.sum_append, ← preSum_list is n (by omega)]
    show preSum _ n + is.getD n 0 = _
    rw [List.getD_eq_getElem?_getD, e]
    show _ + is[n] = _ + (is[n] + 0)
    omega
theorem pe_sumVals {o : Expr} {p pos apos mpos : Pos} {td : TE} (calm : X.calm = true) (gl : Gl X "sum") (mn : X.mg "sum" = none) (hd : PE X o td)
    (ab : attributeBase o "values" X.env (eval o X.env) = eval o X.env := by rfl) (ln : (apos.endLine == mpos.line) = true := by rfl)
    (st : starEach [Expr.Call (.Attribute o "values" apos) [] [] mpos] X.env = [(false, eval (Expr.Call (.Attribute o "values" apos) [] [] mpos) X.env)] := by rfl) :
    PE X (.Call (.Name "sum" p) [.Call (.Attribute o "values" apos) [] [] mpos] [] pos) (tSumVals td) := by
  refine ⟨fun pins s σ H Q J hw => ?_⟩
  refine wpAny_Call_Name_kw (ld_blt J gl mn (u := .builtin "sum") (by decide +kernel) ?_ (by decide +kernel) (by decide +kernel))
  rw [st]
  refine PySem.callWith_builtin1 (wpAny_Call_method0_late ab ln (thn (hd.run pins s σ H _ J hw) fun v s1 ⟨x, H1, J1, r1, a, kvs, is, ex, ha, hv, q⟩ => ?_))
  subst ex
  obtain rfl : v = Value.ref a := r1
  obtain ⟨_, nsys, vs, rel, dof⟩ := dk_of J1.hok ha
  obtain ⟨ep, dat⟩ := dof.dictAt
  obtain ⟨ob, es, ho, exd, hdat, hko, hpr, hnd⟩ := id dat
  refine ⟨"dict", "dict.values", F.plainAttrs_dict, F.slot_dict_values, F.type_dict_values, ⟨ob, ho, exd.1⟩, fun b e => ?_, Calls.callWith_builtin rfl (PySem.evalArgs_none ?_)⟩
  · cases e
    exact ⟨ob, ho, exd.2.1⟩
  refine call_meetsIn F.slot_dict_values ⟨ob, ho, exd.1⟩ F.entry_dict_values (F.args_dict_values_1 _) (meets_dict_values (mixKind X.prog X.w) a nsys) ⟨⟨vs, dof⟩, ?_⟩
  generalize hv1 : s1.heap.push { cls := .type "dict_values", data := .fields #[.ref a] } = hp1
  have kp1 : ∀ b u, s1.heap.get? b = some u → hp1.get? b = some u := fun b u e => by rw [← hv1]; exact Heap.get?_push_of_some _ e
  have dat1 : hp1.DictAt (mixKind X.prog X.w) a vs ep := dat.keep kp1
  have sz : hp1.objs.size = s1.heap.objs.size + 1 := by rw [← hv1]; exact Heap.size_push _ _
  have lt : a < s1.heap.objs.size := Heap.lt_size ho
  have len : vs.length = is.length := by
    have e1 := congrArg List.length hv
    rw [List.length_map, List.length_map] at e1
    exact (KV.length rel).symm.trans e1
  have vals : ∀ (i : Nat) (v : Value), (∃ k, vs[i]? = some (k, v)) → ∃ t, v = Value.int (is.getD i 0) t := fun i v ⟨k, hk⟩ => by
    obtain ⟨x, g1, g2⟩ : ∃ x, kvs[i]? = some (k, x) ∧ RelV x v := KV.at' rel hk
    have e1 : (kvs.map (·.2))[i]? = some x := by
      rw [List.getElem?_map, g1]
      rfl
    rw [hv, List.getElem?_map] at e1
    obtain ⟨j, hj, e2⟩ := Option.map_eq_some_iff.mp e1
    subst e2
    obtain ⟨t, e3⟩ := g2
    refine ⟨t, ?_⟩
    rw [e3, List.getD_eq_getElem?_getD, hj]
    rfl
  have hvw : hp1.get? s1.heap.objs.size = some { cls := .type "dict_values", data := .fields #[.ref a] } := by rw [← hv1]; exact Heap.get?_push_size _ rfl
  refine call_sum_walkG (wpAny_pyIter_values (v := s1.heap.objs.size) (d := a) ⟨_, hvw, rfl, rfl⟩ dat1 ?_)
  refine ⟨_, _, _, _, _, _, fun i => is.getD i 0, rfl, Walks.dictValues (knd := mixKind X.prog X.w) (A := X.A.in1) (J.ok.hd calm) hp1.objs.size a (by rw [sz]; exact Nat.ne_of_lt (Nat.lt_succ_of_lt lt)) vs ep,
    ⟨⟨_, Heap.get?_push_size _ rfl, rfl, rfl⟩, dat1.keep fun b u e => Heap.get?_push_of_some _ e⟩, fun b hb => ?_, vals, fun h' tk t' hk => ?_⟩
  · show b < (hp1.push _).objs.size
    rw [Heap.size_push]
    rcases List.mem_cons.mp hb with e | hb
    · rw [e]
      exact Nat.lt_succ_self _
    · rw [List.mem_singleton.mp hb, sz]
      exact Nat.lt_succ_of_lt (Nat.lt_succ_of_lt lt)
  · refine ⟨.int _, H1, J1.kept (t' := tk) fun b u e => hk b u (fun hm => ?_) (Heap.get?_push_of_some _ (kp1 b u e)), ⟨t', rfl⟩, ?_⟩
    · have e1 : b = hp1.objs.size := List.mem_singleton.mp hm
      have e2 := Heap.lt_size e
      rw [sz] at e1
      rw [e1] at e2
      exact absurd e2 (Nat.not_lt.mpr (Nat.le_succ _))
    · rw [len, preSum_list is _ (Nat.le_refl _), List.take_length]
      exact q
end
/-- a loop over the items of a dict that stands still -/
theorem for_items {d : Addr} {od : Obj} {kvs : List (Key × V)} {g : TG} {tb : TS} {D : Ends} {σ : L2.St} {H : Hp} (Pv : Nat → L2.St → Hp → Prop) (h0 : Pv 0 σ H) (hq : ∀ i σ H, Pv i σ H → H d = some (.frz od (.dK kvs)))
    (hs : ∀ (i : Nat) (k : Key) (v : V) (T : Addr) (σ : L2.St) (H : Hp), kvs[i]? = some (k, v) → Pv i σ H → H T = none → g (.ref T) σ (upd H T (.tup [kV k, v])) fun σ2 H2 => tb { D with nx := Pv (i + 1), ct := Pv (i + 1), bk := D.nx } σ2 H2) (hd : ∀ σ H, Pv kvs.length σ H → D.nx σ H) :
    ∃ W : Nat → Nat → L2.St → Hp → Prop, (∃ m, W 0 m σ H) ∧ ∀ i m σ H, W i m σ H →
      ((Iti d od kvs).stop i H ∧ D.nx σ H) ∨ ((Iti d od kvs).go i H ∧ ∃ N : L2.St → Hp → Prop, (∀ σ' H', N σ' H' → ∃ m', m' < m ∧ W (i + 1) m' σ' H') ∧ ∀ v H', (Iti d od kvs).yld i H v H' → g v σ H' fun σ2 H2 => tb { D with nx := N, ct := N, bk := D.nx } σ2 H2) := by
  refine ⟨fun i m σ H => m = kvs.length - i ∧ i ≤ kvs.length ∧ Pv i σ H, ⟨kvs.length, rfl, Nat.zero_le _, h0⟩, ?_⟩
  rintro i m σ H ⟨rfl, hi, p⟩
  have qx := hq i σ H p
  by_cases hlt : i < kvs.length
  · refine .inr ⟨⟨qx, hlt⟩, Pv (i + 1), fun σ' H' p' => ⟨kvs.length - (i + 1), by omega, rfl, hlt, p'⟩, fun v H' y => ?_⟩
    obtain ⟨T, k, x, hk, rfl, hT, rfl⟩ := y
    exact hs i k x T σ H hk p hT
  · have e : i = kvs.length := by omega
    subst e
    exact .inl ⟨⟨qx, Nat.le_refl _⟩, hd σ H p⟩
/-- .. over its keys -/
theorem for_keys {d : Addr} {od : Obj} {kvs : List (Key × V)} {g : TG} {tb : TS} {D : Ends} {σ : L2.St} {H : Hp} (Pv : Nat → L2.St → Hp → Prop) (h0 : Pv 0 σ H) (hq : ∀ i σ H, Pv i σ H → H d = some (.frz od (.dK kvs)))
    (hs : ∀ (i : Nat) (k : Key) (v : V) (σ : L2.St) (H : Hp), kvs[i]? = some (k, v) → Pv i σ H → g (kV k) σ H fun σ2 H2 => tb { D with nx := Pv (i + 1), ct := Pv (i + 1), bk := D.nx } σ2 H2) (hd : ∀ σ H, Pv kvs.length σ H → D.nx σ H) :
    ∃ W : Nat → Nat → L2.St → Hp → Prop, (∃ m, W 0 m σ H) ∧ ∀ i m σ H, W i m σ H →
      ((Itk d od kvs).stop i H ∧ D.nx σ H) ∨ ((Itk d od kvs).go i H ∧ ∃ N : L2.St → Hp → Prop, (∀ σ' H', N σ' H' → ∃ m', m' < m ∧ W (i + 1) m' σ' H') ∧ ∀ v H', (Itk d od kvs).yld i H v H' → g v σ H' fun σ2 H2 => tb { D with nx := N, ct := N, bk := D.nx } σ2 H2) := by
  refine ⟨fun i m σ H => m = kvs.length - i ∧ i ≤ kvs.length ∧ Pv i σ H, ⟨kvs.length, rfl, Nat.zero_le _, h0⟩, ?_⟩
  rintro i m σ H ⟨rfl, hi, p⟩
  have qx := hq i σ H p
  by_cases hlt : i < kvs.length
  · refine .inr ⟨⟨qx, hlt⟩, Pv (i + 1), fun σ' H' p' => ⟨kvs.length - (i + 1), by omega, rfl, hlt, p'⟩, fun v H' y => ?_⟩
    obtain ⟨rfl, k, x, hk, rfl⟩ := y
    exact hs i k x σ _ hk p
  · have e : i = kvs.length := by omega
    subst e
    exact .inl ⟨⟨qx, Nat.le_refl _⟩, hd σ H p⟩
end Fo
namespace Fo
open PySem PySem.Spec PyProof.Rows L2
/-! ### counts of orders, as the program reckons them -/
def addAt (l : List Int) (i : Nat) (v : Int) : List Int := l.set i (l.getD i 0 + v)
def swIn (m : Int) (far : Nat) : Nat → List Int → List Int
  | 0, l => l
  | p + 1, l => addAt (swIn m far p l) (far + p) m
def swOut (c : List Int) (b : Nat) : Nat → List Int
  | 0 => List.replicate (c.length + b) 0
  | i + 1 => swIn (c.getD i 0) i (b + 1) (swOut c b i)
def swNext (c : List Int) (b : Nat) : List Int := swOut c b c.length
def swC : Nat → List Int
  | 0 => [1]
  | k + 1 => swNext (swC k) (k + 1)
theorem addAt_len (l : List Int) (i : Nat) (v : Int) : (addAt l i v).length = l.length := List.length_set
theorem swIn_len (m : Int) (far : Nat) : ∀ (p : Nat) (l : List Int), (swIn m far p l).length = l.length
  | 0, _ => rfl
  | p + 1, l => by rw [swIn, addAt_len, swIn_len m far p l]
theorem swOut_len (c : List Int) (b : Nat) : ∀ i : Nat, (swOut c b i).length = c.length + b
  | 0 => List.length_replicate
  | i + 1 => by rw [swOut, swIn_len, swOut_len c b i]
def triN : Nat → Nat
  | 0 => 0
  | k + 1 => triN k + (k + 1)
theorem swC_len : ∀ k : Nat, (swC k).length = 1 + triN k
  | 0 => rfl
  | k + 1 => by
    show (swOut (swC k) (k + 1) (swC k).length).length = 1 + (triN k + (k + 1))
    rw [swOut_len, swC_len k]
    omega
theorem tri_le : ∀ k : Nat, k < 12 → triN k ≤ 66 ∧ triN k < (k + 1) * (k + 1) := by decide
theorem swC_good : ∀ k : Nat, k < 12 → (swC k).all (fun x => decide (0 ≤ x)) = true ∧ (swC k).head? = some 1 ∧ (swC k).sum ≤ 479001600 := by decide +kernel
/-! by places -/
def chN (n : Nat) : Nat → Int
  | 0 => 1
  | r + 1 => chN n r * ((n : Int) - r) / (r + 1)
def mvN : Nat → Int × Int
  | 0 => (1, 1)
  | k + 1 => ((mvN k).1 * (k + 1) + -(mvN k).2, -(mvN k).2)
def spC (n : Nat) : List Int := (List.range (n + 1)).map fun r => chN n r * (mvN r).1
theorem ch_small : ∀ n : Nat, n < 13 → ∀ r : Nat, r < 14 → 0 ≤ chN n r ∧ chN n r ≤ 1000 := by decide +kernel
theorem mv_small : ∀ n : Nat, n < 13 → 0 ≤ (mvN n).1 ∧ (mvN n).1 ≤ 479001600 ∧ -1 ≤ (mvN n).2 ∧ (mvN n).2 ≤ 1 := by decide +kernel
theorem spC_good : ∀ n : Nat, n < 13 → (spC n).all (fun x => decide (0 ≤ x)) = true ∧ (spC n).head? = some 1 ∧ (spC n).sum ≤ 479001600 := by decide +kernel
def facN : Nat → Int
  | 0 => 1
  | k + 1 => facN k * (k + 1)
theorem fac_small : ∀ n : Nat, n < 13 → 0 < facN n ∧ facN n ≤ 479001600 := by decide +kernel
def noneN : Nat → List Int
  | 0 => [1, 0]
  | k + 1 => noneN k ++ [((k : Int) + 2 - 1) * ((noneN k).getD (k + 1) 0 + (noneN k).getD k 0)]
theorem spC_law : ∀ n : Nat, n < 13 → spC n = (List.range (n + 1)).map fun r => facN n / facN r / facN (n - r) * (noneN (n - 1)).getD r 0 := by decide +kernel
theorem noneN_len : ∀ k : Nat, (noneN k).length = k + 2
  | 0 => rfl
  | k + 1 => by
    rw [noneN, List.length_append, noneN_len k]
    rfl
theorem noneN_small : ∀ k : Nat, k < 12 → (noneN k).all (fun x => decide (0 ≤ x) && decide (x ≤ 479001600)) = true := by decide +kernel
/-- the sum of a beginning of good counts -/
theorem sum_nonneg : ∀ l : List Int, l.all (fun x => decide (0 ≤ x)) = true → 0 ≤ l.sum
  | [], _ => Int.le_refl _
  | a :: l, h => by
    rw [List.all_cons, Bool.and_eq_true] at h
    have := of_decide_eq_true h.1
    have := sum_nonneg l h.2
    rw [List.sum_cons]
    omega
theorem sum_take {l : List Int} {k : Nat} (h : l.all (fun x => decide (0 ≤ x)) = true) (h1 : l.head? = some 1) (hk : 0 < k) : 1 ≤ (l.take k).sum ∧ (l.take k).sum ≤ l.sum := by
  match l, h1, k, hk with
  | a :: r, h1, k + 1, _ =>
    have e : a = 1 := Option.some.inj h1
    subst e
    rw [List.all_cons, Bool.and_eq_true] at h
    rw [List.take_succ_cons, List.sum_cons, List.sum_cons]
    have hs : (r.take k).sum + (r.drop k).sum = r.sum := by rw [← List.sum_append, List.take_append_drop]
    have h2 := h.2
    rw [← List.take_append_drop k r, List.all_append, Bool.and_eq_true] at h2
    have := sum_nonneg _ h2.1
    have := sum_nonneg _ h2.2
    omega
end Fo
namespace Fo
open PySem PySem.Spec PyProof.Rows L2
/-! ### counts by shift: beginnings by the set of their things -/
def lookN (l : List (Nat × Int)) (k : Nat) : Int := ((l.find? fun p => decide (p.1 = k)).map (·.2)).getD 0
def putN (l : List (Nat × Int)) (k : Nat) (v : Int) : List (Nat × Int) := if l.any (fun p => decide (p.1 = k)) then l.map (fun p => if p.1 = k then (p.1, v) else p) else l ++ [(k, v)]
def keysN (l : List (Nat × Int)) : List Nat := l.map (·.1)
def totN (l : List (Nat × Int)) : Int := (l.map (·.2)).sum
def stIn (u : Nat) (m : Int) (lo : Nat) : Nat → List (Nat × Int) → List (Nat × Int)
  | 0, l => l
  | j + 1, l => if u.testBit (lo + j) then stIn u m lo j l else putN (stIn u m lo j l) (u + 2 ^ (lo + j)) (lookN (stIn u m lo j l) (u + 2 ^ (lo + j)) + m)
def stOut (d : List (Nat × Int)) (lo c : Nat) : Nat → List (Nat × Int)
  | 0 => []
  | i + 1 => stIn (d.getD i (0, 0)).1 (d.getD i (0, 0)).2 lo c (stOut d lo c i)
def loP (p : Nat) (r : Int) : Nat := (max 0 ((p : Int) - r)).toNat
def ctP (n p : Nat) (r : Int) : Nat := (min (n : Int) ((p : Int) + r + 1)).toNat - loP p r
def shD (n : Nat) (r : Int) : Nat → List (Nat × Int)
  | 0 => [(0, 1)]
  | p + 1 => stOut (shD n r p) (loP p r) (ctP n p r) (shD n r p).length
def shN (n : Nat) (r : Int) : Int := totN (shD n r n)
theorem any_keys (l : List (Nat × Int)) (k : Nat) : l.any (fun p => decide (p.1 = k)) = decide (k ∈ keysN l) := by
  induction l with
  | nil => rfl
  | cons p l ih =>
    rw [List.any_cons, ih]
    unfold keysN
    rw [List.map_cons]
    by_cases c : p.1 = k
    · subst c; simp
    · have c2 : ¬ k = p.1 := fun e => c e.symm
      simp [c, c2]
theorem put_keys (l : List (Nat × Int)) (k : Nat) (v : Int) : keysN (putN l k v) = if k ∈ keysN l then keysN l else keysN l ++ [k] := by
  unfold putN
  rw [any_keys]
  by_cases c : k ∈ keysN l
  · rw [decide_eq_true c, if_pos rfl, if_pos c]
    unfold keysN
    rw [List.map_map]
    apply List.map_congr_left
    intro p _
    show (if p.1 = k then (p.1, v) else p).1 = p.1
    split <;> rfl
  · rw [decide_eq_false c, if_neg (by decide), if_neg c]
    unfold keysN
    rw [List.map_append]
    rfl
theorem put_nodup {l : List (Nat × Int)} {k : Nat} {v : Int} (h : (keysN l).Nodup) : (keysN (putN l k v)).Nodup := by
  rw [put_keys]
  split
  · exact h
  · rename_i c
    rw [List.nodup_append]
    refine ⟨h, List.nodup_cons.mpr ⟨List.not_mem_nil, List.nodup_nil⟩, fun x hx y hy e => ?_⟩
    rw [List.mem_singleton.mp hy] at e
    exact c (by rw [← e]; exact hx)
theorem put_mem {l : List (Nat × Int)} {k x : Nat} {v : Int} : x ∈ keysN (putN l k v) ↔ x ∈ keysN l ∨ x = k := by
  rw [put_keys]
  split
  · rename_i c
    exact ⟨.inl, fun h => h.elim id fun e => by rw [e]; exact c⟩
  · rw [List.mem_append, List.mem_singleton]
theorem look_cons (p : Nat × Int) (l : List (Nat × Int)) (k : Nat) : lookN (p :: l) k = if p.1 = k then p.2 else lookN l k := by
  unfold lookN
  rw [List.find?_cons]
  by_cases c : p.1 = k
  · rw [decide_eq_true c, if_pos c]; rfl
  · rw [decide_eq_false c, if_neg c]
theorem put_cons (p : Nat × Int) (l : List (Nat × Int)) (k : Nat) (v : Int) (hn : (keysN (p :: l)).Nodup) : putN (p :: l) k v = if p.1 = k then (p.1, v) :: l else p :: putN l k v := by
  by_cases c : p.1 = k
  · rw [if_pos c]
    unfold putN
    rw [List.any_cons, decide_eq_true c, Bool.true_or, if_pos rfl, List.map_cons, if_pos c]
    congr 1
    have e : l.map (fun p => if p.1 = k then (p.1, v) else p) = l.map id := by
      apply List.map_congr_left
      intro q hq
      have : q.1 ≠ k := fun e => (List.nodup_cons.mp hn).1 (by
        show p.1 ∈ keysN l
        rw [c, ← e]
        exact List.mem_map.mpr ⟨q, hq, rfl⟩)
      rw [if_neg this]
      rfl
    rw [e, List.map_id]
  · rw [if_neg c]
    unfold putN
    rw [List.any_cons, decide_eq_false c, Bool.false_or]
    by_cases d : (l.any fun p => decide (p.1 = k)) = true
    · rw [if_pos d, if_pos d, List.map_cons, if_neg c]
    · rw [if_neg d, if_neg d]
      rfl
theorem put_tot : ∀ (l : List (Nat × Int)) (k : Nat) (m : Int), (keysN l).Nodup → totN (putN l k (lookN l k + m)) = totN l + m
  | [], k, m, _ => by
    show 0 + m + 0 = 0 + m
    omega
  | p :: l, k, m, hn => by
    have ih := put_tot l k m (List.nodup_cons.mp hn).2
    rw [put_cons p l k _ hn, look_cons]
    unfold totN at ih ⊢
    by_cases c : p.1 = k
    · rw [if_pos c, if_pos c, List.map_cons, List.map_cons, List.sum_cons, List.sum_cons]
      omega
    · rw [if_neg c, if_neg c, List.map_cons, List.map_cons, List.sum_cons, List.sum_cons, ih]
      omega
def PosN (l : List (Nat × Int)) : Prop := ∀ p ∈ l, 0 < p.2
theorem look_nonneg {l : List (Nat × Int)} (h : PosN l) (k : Nat) : 0 ≤ lookN l k := by
  induction l with
  | nil => exact Int.le_refl _
  | cons p l ih =>
    rw [look_cons]
    split
    · have := h p List.mem_cons_self; omega
    · exact ih fun q hq => h q (List.mem_cons_of_mem _ hq)
theorem put_pos {l : List (Nat × Int)} (h : PosN l) {k : Nat} {v : Int} (hv : 0 < v) : PosN (putN l k v) := by
  intro p hp
  unfold putN at hp
  split at hp
  · obtain ⟨q, hq, e⟩ := List.mem_map.mp hp
    rw [← e]
    split
    · exact hv
    · exact h q hq
  · rcases List.mem_append.mp hp with hp | hp
    · exact h p hp
    · rw [List.mem_singleton.mp hp]
      exact hv
theorem nodupN_len : ∀ {l m : List Nat}, l.Nodup → (∀ x ∈ l, x ∈ m) → l.length ≤ m.length
  | [], m, _, _ => Nat.zero_le _
  | a :: l, m, hn, hs => by
    obtain ⟨h1, h2⟩ := List.nodup_cons.mp hn
    have ha := hs a List.mem_cons_self
    have ih := nodupN_len (l := l) (m := m.erase a) h2 fun x hx => by
      have ne : x ≠ a := fun e => h1 (by rw [← e]; exact hx)
      exact (List.mem_erase_of_ne ne).mpr (hs x (List.mem_cons_of_mem _ hx))
    rw [List.length_erase_of_mem ha] at ih
    have : 0 < m.length := List.length_pos_of_mem ha
    rw [List.length_cons]
    omega
/-- what holds of the beginnings: no key twice, keys below 2 ^ 12, each counted -/
structure GoodW (l : List (Nat × Int)) : Prop where
  nd : (keysN l).Nodup
  lt : ∀ k ∈ keysN l, k < 4096
  pos : PosN l
theorem GoodW.len {l : List (Nat × Int)} (h : GoodW l) : l.length ≤ 4096 := by
  have h1 : (keysN l).length ≤ (List.range 4096).length := by
    have hsub : ∀ x ∈ keysN l, x ∈ List.range 4096 := fun x hx => List.mem_range.mpr (h.lt x hx)
    exact nodupN_len h.nd hsub
  rw [List.length_range] at h1
  unfold keysN at h1
  rw [List.length_map] at h1
  exact h1
theorem bit_and {u t : Nat} (h : u.testBit t = false) : u &&& 2 ^ t = 0 := by
  apply Nat.eq_of_testBit_eq
  intro i
  rw [Nat.testBit_and, Nat.testBit_two_pow, Nat.zero_testBit]
  by_cases c : t = i
  · subst c; simp [h]
  · simp [c]
theorem bit_add {u t : Nat} (h : u.testBit t = false) (hu : u < 4096) (ht : t < 12) : u + 2 ^ t = u ||| 2 ^ t := by
  have e := bit_and h
  have h2 : 2 ^ t < 4096 := Nat.pow_lt_pow_right (n := 12) (by decide) ht
  have b := BitVec.add_eq_or_of_and_eq_zero (w := 13) (BitVec.ofNat 13 u) (BitVec.ofNat 13 (2 ^ t)) (by
    apply BitVec.eq_of_toNat_eq
    rw [BitVec.toNat_and, BitVec.toNat_ofNat, BitVec.toNat_ofNat, Nat.mod_eq_of_lt (by omega), Nat.mod_eq_of_lt (by omega), e]
    rfl)
  have c := congrArg BitVec.toNat b
  rw [BitVec.toNat_or, BitVec.toNat_add, BitVec.toNat_ofNat, BitVec.toNat_ofNat, Nat.mod_eq_of_lt (show u < 2 ^ 13 by omega), Nat.mod_eq_of_lt (show 2 ^ t < 2 ^ 13 by omega), Nat.mod_eq_of_lt (show u + 2 ^ t < 2 ^ 13 by omega)] at c
  exact c
theorem bit_lt {u t : Nat} (h : u.testBit t = false) (hu : u < 4096) (ht : t < 12) : u + 2 ^ t < 4096 := by
  rw [bit_add h hu ht]
  exact Nat.or_lt_two_pow (n := 12) hu (Nat.pow_lt_pow_right (by decide) ht)
theorem put_good {l : List (Nat × Int)} (h : GoodW l) {u t : Nat} {m : Int} (hb : u.testBit t = false) (hu : u < 4096) (ht : t < 12) (hm : 0 < m) : GoodW (putN l (u + 2 ^ t) (lookN l (u + 2 ^ t) + m)) :=
  ⟨put_nodup h.nd, fun k hk => (put_mem.mp hk).elim (h.lt k) fun e => by rw [e]; exact bit_lt hb hu ht, put_pos h.pos (by have := look_nonneg h.pos (u + 2 ^ t); omega)⟩
theorem stIn_good {u : Nat} {m : Int} {lo : Nat} (hu : u < 4096) (hm : 0 < m) : ∀ (j : Nat) (l : List (Nat × Int)), GoodW l → lo + j ≤ 12 → GoodW (stIn u m lo j l) ∧ totN (stIn u m lo j l) ≤ totN l + j * m ∧ (∀ k ∈ keysN l, k ∈ keysN (stIn u m lo j l)) ∧ ∀ i, i < j → u.testBit (lo + i) = false → u + 2 ^ (lo + i) ∈ keysN (stIn u m lo j l)
  | 0, l, h, _ => ⟨h, by show totN l ≤ totN l + 0 * m; omega, fun k hk => hk, fun i hi => absurd hi (Nat.not_lt_zero _)⟩
  | j + 1, l, h, hj => by
    obtain ⟨h1, h2, h3, h4⟩ := stIn_good (lo := lo) hu hm j l h (by omega)
    have em : ((j + 1 : Nat) : Int) * m = (j : Int) * m + m := by rw [Int.natCast_add, Int.add_mul]; omega
    rw [stIn]
    split
    · rename_i c
      refine ⟨h1, by omega, h3, fun i hi hb => ?_⟩
      by_cases e : i = j
      · subst e; rw [hb] at c; cases c
      · exact h4 i (by omega) hb
    · rename_i c
      have hb : u.testBit (lo + j) = false := by simpa using c
      refine ⟨put_good h1 hb hu (by omega) hm, by rw [put_tot _ _ _ h1.nd]; omega, fun k hk => put_mem.mpr (.inl (h3 k hk)), fun i hi hb2 => ?_⟩
      by_cases e : i = j
      · subst e; exact put_mem.mpr (.inr rfl)
      · exact put_mem.mpr (.inl (h4 i (by omega) hb2))
theorem getD_at {d : List (Nat × Int)} {i : Nat} (h : i < d.length) : d.getD i (0, 0) = d[i] := by
  rw [List.getD_eq_getElem?_getD, List.getElem?_eq_getElem h]
  rfl
theorem take_tot {d : List (Nat × Int)} {i : Nat} (h : i < d.length) : totN (d.take (i + 1)) = totN (d.take i) + (d.getD i (0, 0)).2 := by
  unfold totN
  rw [List.take_add_one, List.getElem?_eq_getElem h, List.map_append, List.sum_append, getD_at h]
  show _ + (d[i].2 + 0) = _
  omega
theorem stOut_good {d : List (Nat × Int)} {lo c : Nat} (hd : GoodW d) (hc : lo + c ≤ 12) : ∀ i, i ≤ d.length → GoodW (stOut d lo c i) ∧ totN (stOut d lo c i) ≤ 12 * totN (d.take i) ∧ ∀ j, j < i → ∀ t, t < c → (d.getD j (0, 0)).1.testBit (lo + t) = false → (d.getD j (0, 0)).1 + 2 ^ (lo + t) ∈ keysN (stOut d lo c i)
  | 0, _ => ⟨⟨List.nodup_nil, fun k hk => absurd hk List.not_mem_nil, fun p hp => absurd hp List.not_mem_nil⟩, by rw [List.take_zero]; show (0 : Int) ≤ 12 * 0; decide, fun j hj => absurd hj (Nat.not_lt_zero _)⟩
  | i + 1, hi => by
    obtain ⟨h1, h2, h3⟩ := stOut_good hd hc i (by omega)
    have hmem : d.getD i (0, 0) ∈ d := by rw [getD_at (by omega)]; exact List.getElem_mem _
    have hm := hd.pos _ hmem
    have hu := hd.lt _ (List.mem_map.mpr ⟨_, hmem, rfl⟩)
    obtain ⟨g1, g2, g3, g4⟩ := stIn_good (lo := lo) hu hm c (stOut d lo c i) h1 hc
    refine ⟨g1, ?_, fun j hj t ht hb => ?_⟩
    · rw [take_tot (by omega)]
      have h12 : (c : Int) * (d.getD i (0, 0)).2 ≤ 12 * (d.getD i (0, 0)).2 := Int.mul_le_mul_of_nonneg_right (by omega) (by omega)
      show totN (stIn _ _ _ _ _) ≤ _
      omega
    · by_cases e : j = i
      · subst e; exact g4 t ht hb
      · exact g3 _ (h3 j (by omega) t ht hb)
theorem lo_ct {n p : Nat} {r : Int} (hn : n ≤ 12) (hp : p < n) (hr : 0 ≤ r) : loP p r + ctP n p r ≤ 12 ∧ loP p r ≤ p ∧ p < loP p r + ctP n p r := by
  unfold ctP loP
  omega
theorem one_bits (p : Nat) : (2 ^ p - 1).testBit p = false ∧ 2 ^ p - 1 + 2 ^ p = 2 ^ (p + 1) - 1 := by
  refine ⟨by simp, ?_⟩
  rw [Nat.pow_succ]
  have := Nat.two_pow_pos p
  omega
theorem shD_good {n : Nat} {r : Int} (hn : n ≤ 12) (hr : 0 ≤ r) : ∀ p, p ≤ n → GoodW (shD n r p) ∧ totN (shD n r p) ≤ 12 ^ p ∧ 2 ^ p - 1 ∈ keysN (shD n r p)
  | 0, _ => ⟨⟨by show [0].Nodup; decide, by show ∀ k ∈ [0], k < 4096; decide, by intro p hp; rw [List.mem_singleton.mp hp]; decide⟩, by show (1 : Int) + 0 ≤ 12 ^ 0; decide, by show 0 ∈ [0]; decide⟩
  | p + 1, hp => by
    obtain ⟨h1, h2, h3⟩ := shD_good hn hr p (by omega)
    obtain ⟨l1, l2, l3⟩ := lo_ct (r := r) hn (show p < n by omega) hr
    obtain ⟨g1, g2, g3⟩ := stOut_good h1 l1 (shD n r p).length (Nat.le_refl _)
    rw [List.take_length] at g2
    refine ⟨g1, ?_, ?_⟩
    · show totN (stOut _ _ _ _) ≤ 12 ^ (p + 1)
      rw [Int.pow_succ]
      omega
    · obtain ⟨b1, b2⟩ := one_bits p
      obtain ⟨q, hq, eq⟩ := List.mem_map.mp h3
      obtain ⟨j, hj, ej⟩ := List.getElem_of_mem hq
      have e : (shD n r p).getD j (0, 0) = q := by rw [getD_at hj, ej]
      have := g3 j hj (p - loP p r) (by omega) (by rw [e, eq, show loP p r + (p - loP p r) = p by omega]; exact b1)
      rw [e, eq, show loP p r + (p - loP p r) = p by omega, b2] at this
      exact this
theorem tot_pos {l : List (Nat × Int)} (h : PosN l) (hl : l ≠ []) : 0 < totN l := by
  have nn : ∀ m : List (Nat × Int), PosN m → 0 ≤ totN m := by
    intro m
    induction m with
    | nil => intro _; exact Int.le_refl _
    | cons p m ih =>
      intro h
      have a := h p List.mem_cons_self
      have b := ih fun q hq => h q (List.mem_cons_of_mem _ hq)
      unfold totN at b ⊢
      rw [List.map_cons, List.sum_cons]
      omega
  match l, h, hl with
  | p :: l, h, _ =>
    have a := h p List.mem_cons_self
    have b := nn l fun q hq => h q (List.mem_cons_of_mem _ hq)
    unfold totN at b ⊢
    rw [List.map_cons, List.sum_cons]
    omega
theorem shN_good {n : Nat} {r : Int} (hn : n ≤ 12) (hr : 0 ≤ r) : 1 ≤ shN n r ∧ shN n r ≤ 8916100448256 := by
  obtain ⟨h1, h2, h3⟩ := shD_good hn hr n (Nat.le_refl _)
  have hne : shD n r n ≠ [] := fun e => by rw [e] at h3; cases h3
  have h4 := tot_pos h1.pos hne
  refine ⟨h4, Int.le_trans h2 ?_⟩
  have h5 : (12 : Nat) ^ n ≤ 12 ^ 12 := Nat.pow_le_pow_right (by decide) hn
  have h6 : (((12 : Nat) ^ n : Nat) : Int) ≤ ((12 ^ 12 : Nat) : Int) := Int.ofNat_le.mpr h5
  rw [Int.natCast_pow] at h6
  exact h6
/-- a reach beyond all is as n's own -/
theorem shD_far {n : Nat} {r : Int} (hr : (n : Int) ≤ r) : ∀ p, p ≤ n → shD n r p = shD n n p
  | 0, _ => rfl
  | p + 1, hp => by
    rw [shD, shD, shD_far hr p (by omega)]
    have e1 : loP p r = loP p n := by unfold loP; omega
    have e2 : ctP n p r = ctP n p n := by unfold ctP; rw [e1]; omega
    rw [e1, e2]
theorem shN_far {n : Nat} {r : Int} : shN n (min (n : Int) r) = shN n r := by
  unfold shN
  by_cases c : (n : Int) ≤ r
  · rw [shD_far c n (Nat.le_refl _), Int.min_eq_left c]
  · rw [Int.min_eq_right (by omega)]
end Fo
namespace Fo
open PySem PySem.Spec PyProof.Rows L2
def spWhole : Sp := fun vs H Q _ => ∃ i : Int, vs = [.int i] ∧ Q (.bl true) H
section
variable {P : Program} {w : World} {K : PySem.W.Frag} {mg : Str → Option Value} {base : Heap}
theorem scWhole : FnScope ["thing"] ["thing"] (defScope s_is_whole) := ⟨rfl, rfl, rfl, by decide +kernel, rfl, by decide +kernel, by decide +kernel⟩
theorem ok_whole {f : Addr} {fd : FuncData} {k : Nat} (T : Df K mg "is_whole" s_is_whole ["thing"] f fd) (B : Bi mg) : FnOk P w K mg base CX0 (k + 1) f fd ["thing"] spWhole := by
  refine T.F.ok scWhole (fun vs H Q E h => ?_) (fun cdv A outer s H vs Q E hr h => ?_)
  · obtain ⟨i, rfl, _⟩ := h
    rfl
  · obtain ⟨i, rfl, q⟩ := h
    refine ⟨_, pss_one (ps_ret (pe_and (pe_callB call_isi (by rfl) B.isinstance (by decide +kernel) (pa_cons (pv 0) (pa_cons (pe_bltn (v := .ty "int") (by rfl) B.int (by decide +kernel) rfl) pa_nil)))
      (pe_one (pe_not (pe_callB call_isi (by rfl) B.isinstance (by decide +kernel) (pa_cons (pv 0) (pa_cons (pe_bltn (v := .ty "bool") (by rfl) B.bool (by decide +kernel) rfl) pa_nil))))))), ?_⟩
    refine ⟨_, rfl, _, _, _, _, true, rfl, .ty _, .base (.int _), kit_ty (by decide +kernel), true, rfl, iteT ?_⟩
    exact ⟨_, rfl, _, _, _, _, false, rfl, .ty _, .base (.int _), kit_ty (by decide +kernel), false, rfl, q⟩
end
end Fo
namespace Fo
open PySem PySem.Spec PyProof.Rows L2
def spFrom : Sp := fun vs H Q _ => ∃ (r least : Int), vs = [.int r, .int least] ∧ least ≤ r ∧ Q .non H
section
variable {P : Program} {w : World} {K : PySem.W.Frag} {mg : Str → Option Value} {base : Heap}
theorem scFrom : FnScope ["thing", "least"] ["thing", "least"] (defScope s_check_from) := ⟨rfl, rfl, rfl, by decide +kernel, rfl, by decide +kernel, by decide +kernel⟩
theorem ok_from {f fW : Addr} {fd fdW : FuncData} {k : Nat} (T : Df K mg "check_from" s_check_from ["thing", "least"] f fd) (T_is_whole : Df K mg "is_whole" s_is_whole ["thing"] fW fdW) (B : Bi mg) : FnOk P w K mg base CX0 (k + 2) f fd ["thing", "least"] spFrom := by
  have G_is_whole : FnOk P w K mg base CX0 (k + 1) fW fdW ["thing"] spWhole := ok_whole T_is_whole B
  refine T.F.ok scFrom (fun vs H Q E h => ?_) (fun cdv A outer s H vs Q E hr h => ?_)
  · obtain ⟨r, least, rfl, _⟩ := h
    rfl
  · obtain ⟨r, least, rfl, hle, q⟩ := h
    refine ⟨_, 
      (pss_one (ps_if (PW.pt (pw_or (pt_not (pt_val (pe_call G_is_whole hr (by rfl) T_is_whole.g T_is_whole.F.kp T_is_whole.b .nil pass0 (pa_cons (pv 0) pa_nil)))) (pw_or1 (pt_cmpR op_lt (pv 0) (pv 1) (nomark _)))))
        (pss_one ps_never)
        pss_nil)), ?_⟩
    refine ⟨_, rfl, r, rfl, _, rfl, iteF ?_⟩
    exact ⟨_, rfl, _, rfl, r, least, rfl, rfl, _, rfl, ite2 (fun z => absurd (of_decide_eq_true z) (by omega)) (fun _ => q)⟩
end
end Fo
namespace Fo
open PySem PySem.Spec PyProof.Rows L2
def spSize : Sp := fun vs H Q _ => ∃ (n most : Int), vs = [.int n, .int most] ∧ 1 ≤ n ∧ n ≤ most ∧ Q .non H
section
variable {P : Program} {w : World} {K : PySem.W.Frag} {mg : Str → Option Value} {base : Heap}
theorem scSize : FnScope ["thing", "most"] ["thing", "most"] (defScope s_check_size) := ⟨rfl, rfl, rfl, by decide +kernel, rfl, by decide +kernel, by decide +kernel⟩
theorem ok_size {f fW : Addr} {fd fdW : FuncData} {k : Nat} (T : Df K mg "check_size" s_check_size ["thing", "most"] f fd) (T_is_whole : Df K mg "is_whole" s_is_whole ["thing"] fW fdW) (B : Bi mg) : FnOk P w K mg base CX0 (k + 2) f fd ["thing", "most"] spSize := by
  have G_is_whole : FnOk P w K mg base CX0 (k + 1) fW fdW ["thing"] spWhole := ok_whole T_is_whole B
  refine T.F.ok scSize (fun vs H Q E h => ?_) (fun cdv A outer s H vs Q E hr h => ?_)
  · obtain ⟨n, most, rfl, _⟩ := h
    rfl
  · obtain ⟨n, most, rfl, h1, h2, q⟩ := h
    refine ⟨_, 
      (pss_one (ps_if (PW.pt (pw_or (pt_not (pt_val (pe_call G_is_whole hr (by rfl) T_is_whole.g T_is_whole.F.kp T_is_whole.b .nil pass0 (pa_cons (pv 0) pa_nil)))) (pw_or (pt_cmpR op_lt (pv 0) pe_int (nomark _)) (pw_or1 (pt_cmpR op_gt (pv 0) (pv 1) (nomark _))))))
        (pss_one ps_never)
        pss_nil)), ?_⟩
    refine ⟨_, rfl, n, rfl, _, rfl, iteF ?_⟩
    refine ⟨_, rfl, n, 1, rfl, rfl, _, rfl, ite2 (fun z => absurd (of_decide_eq_true z) (by omega)) (fun _ => ?_)⟩
    exact ⟨_, rfl, _, rfl, n, most, rfl, rfl, _, rfl, ite2 (fun z => absurd (of_decide_eq_true z) (by omega)) (fun _ => q)⟩
end
end Fo
namespace Fo
open PySem PySem.Spec PyProof.Rows L2
def spApart : Sp := fun vs H Q _ => ∃ (w : Str) (n most d : Int), vs = [.str w, .int n, .int most, .int d] ∧ IsWay w ∧ 1 ≤ n ∧ n ≤ most ∧ 1 ≤ d ∧ Q .non H
section
variable {P : Program} {w : World} {K : PySem.W.Frag} {mg : Str → Option Value} {base : Heap}
theorem scApart : FnScope ["way", "n", "most", "d"] ["way", "n", "most", "d"] (defScope s_check_apart) := ⟨rfl, rfl, rfl, by decide +kernel, rfl, by decide +kernel, by decide +kernel⟩
theorem ok_apart {f f1 f2 f3 fW aW : Addr} {fd d1 d2 d3 dW : FuncData} {k : Nat} (T : Df K mg "check_apart" s_check_apart ["way", "n", "most", "d"] f fd) (T_check_way : Df K mg "check_way" s_check_way ["thing"] f1 d1) (T_check_size : Df K mg "check_size" s_check_size ["thing", "most"] f2 d2) (T_check_from : Df K mg "check_from" s_check_from ["thing", "least"] f3 d3) (T_is_whole : Df K mg "is_whole" s_is_whole ["thing"] fW dW) (W : Wy K mg aW) (B : Bi mg) : FnOk P w K mg base CX0 (k + 3) f fd ["way", "n", "most", "d"] spApart := by
  have G_check_way : FnOk P w K mg base CX0 (k + 2) f1 d1 ["thing"] spWay := ok_way (k := k + 1) T_check_way W B
  have G_check_size : FnOk P w K mg base CX0 (k + 2) f2 d2 ["thing", "most"] spSize := ok_size T_check_size T_is_whole B
  have G_check_from : FnOk P w K mg base CX0 (k + 2) f3 d3 ["thing", "least"] spFrom := ok_from T_check_from T_is_whole B
  refine T.F.ok scApart (fun vs H Q E h => ?_) (fun cdv A outer s H vs Q E hr h => ?_)
  · obtain ⟨w, n, most, d, rfl, _⟩ := h
    rfl
  · obtain ⟨w, n, most, d, rfl, hw, h1, h2, h3, q⟩ := h
    refine ⟨_, 
      (pss_cons (ps_expr (pe_call G_check_way hr (by rfl) T_check_way.g T_check_way.F.kp T_check_way.b .nil pass0 (pa_cons (pv 0) pa_nil)))
      (pss_cons (ps_expr (pe_call G_check_size hr (by rfl) T_check_size.g T_check_size.F.kp T_check_size.b .nil pass0 (pa_cons (pv 1) (pa_cons (pv 2) pa_nil))))
      (pss_one (ps_expr (pe_call G_check_from hr (by rfl) T_check_from.g T_check_from.F.kp T_check_from.b .nil pass0 (pa_cons (pv 3) (pa_cons pe_int pa_nil))))))), ?_⟩
    exact ⟨_, rfl, w, rfl, hw, _, rfl, _, rfl, n, most, rfl, h1, h2, _, rfl, d, 1, rfl, h3, q⟩
end
end Fo
namespace Fo
open PySem PySem.Spec PyProof.Rows L2
/-! ### the program's counts -/
def spFac : Sp := fun vs H Q _ => ∃ n : Nat, vs = [.int n] ∧ n ≤ 12 ∧ Q (.int (facN n)) H
def spNewL (F : Nat → List Int) : Sp := fun vs H Q _ => ∃ n : Nat, vs = [.int n] ∧ 1 ≤ n ∧ n ≤ 12 ∧ ∀ (l : Addr) (H' : Hp), H l = none → H' l = some (.lst ((F n).map V.int)) → Same H H' → Q (.ref l) H'
def spSwC : Sp := spNewL fun n => swC (n - 1)
def spSpC : Sp := spNewL spC
def spSwM : Sp := fun vs H Q _ => ∃ (a : Addr) (c : List Int) (b : Nat), vs = [.ref a, .int b] ∧ H a = some (.lst (c.map V.int)) ∧ c.length ≤ 100 ∧ b ≤ 12 ∧ ∀ (l : Addr) (H' : Hp), H l = none → H' l = some (.lst ((swNext c b).map V.int)) → Same H H' → Q (.ref l) H'
def spMv : Sp := fun vs H Q _ => ∃ n : Nat, vs = [.int n] ∧ n ≤ 12 ∧ Q (.int (mvN n).1) H
def dN (l : List (Nat × Int)) : List (Key × V) := l.map fun p => (Sum.inl ((p.1 : Nat) : Int), V.int p.2)
def nearT (lo c : Nat) : List Int := (List.range c).map fun j => (((lo + j : Nat)) : Int)
def spNearT : Sp := fun vs H Q _ => ∃ (p n : Nat) (r : Int), vs = [.int p, .int n, .int r] ∧ p < n ∧ n ≤ 12 ∧ 0 ≤ r ∧ ∀ (l : Addr) (H' : Hp), H l = none → H' l = some (.lst ((nearT (loP p r) (ctP n p r)).map V.int)) → Same H H' → Q (.ref l) H'
def spFurther : Sp := fun vs H Q _ => ∃ (a b : Addr) (d : List (Nat × Int)) (lo c : Nat), vs = [.ref a, .ref b] ∧ H a = some (.dK (dN d)) ∧ GoodW d ∧ H b = some (.lst ((nearT lo c).map V.int)) ∧ lo + c ≤ 12 ∧ ∀ (l : Addr) (H' : Hp), H l = none → H' l = some (.dK (dN (stOut d lo c d.length))) → Same H H' → Q (.ref l) H'
def spShN : Sp := fun vs H Q _ => ∃ (n : Nat) (r : Int), vs = [.int n, .int r] ∧ 1 ≤ n ∧ n ≤ 12 ∧ 0 ≤ r ∧ ∀ H', Same H H' → Q (.int (shN n r)) H'
def inW (w : Str) (n : Nat) (r : Int) : Int := if w = "swap" then ((swC (n - 1)).take (r + 1).toNat).sum else if w = "spot" then ((spC n).take (r + 1).toNat).sum else shN n r
def IsWy (w : Str) : Prop := w = "swap" ∨ w = "spot" ∨ w = "shift"
def spKW : Sp := fun vs H Q _ => ∃ (w : Str) (n : Nat) (r : Int), vs = [.str w, .int n, .int r] ∧ IsWay w ∧ 1 ≤ n ∧ n ≤ 12 ∧ 0 ≤ r ∧ ∀ H', Same H H' → Q (.int (inW w n r)) H'
theorem inW_swap (n : Nat) (r : Int) : inW "swap" n r = ((swC (n - 1)).take (r + 1).toNat).sum := by unfold inW; rw [if_pos rfl]
theorem inW_spot (n : Nat) (r : Int) : inW "spot" n r = ((spC n).take (r + 1).toNat).sum := by unfold inW; rw [if_neg n1, if_pos rfl]
theorem inW_shift (n : Nat) (r : Int) : inW "shift" n r = shN n r := by unfold inW; rw [if_neg n2, if_neg n3]
theorem inW_good {w : Str} {n : Nat} {r : Int} (hw : IsWay w) (h1 : 1 ≤ n) (h2 : n ≤ 12) (hr : 0 ≤ r) : 1 ≤ inW w n r ∧ inW w n r ≤ 8916100448256 := by
  rcases hw with rfl | rfl | rfl
  · rw [inW_swap]
    obtain ⟨a, b, c⟩ := swC_good (n - 1) (by omega)
    have := sum_take (k := (r + 1).toNat) a b (by omega)
    omega
  · rw [inW_spot]
    obtain ⟨a, b, c⟩ := spC_good n (by omega)
    have := sum_take (k := (r + 1).toNat) a b (by omega)
    omega
  · rw [inW_shift]
    exact shN_good h2 hr
theorem zeros_flat : ∀ m : Nat, (List.replicate m [V.int 0]).flatten = (List.replicate m (0 : Int)).map V.int
  | 0 => rfl
  | m + 1 => by
    rw [List.replicate_succ, List.replicate_succ, List.flatten_cons, zeros_flat m]
    rfl
theorem addAt_V {l : List Int} {i : Nat} {v : Int} : (l.map V.int).set i (V.int (l.getD i 0 + v)) = (addAt l i v).map V.int := by
  unfold addAt
  rw [List.map_set]
theorem getD_some {l : List Int} {i : Nat} (h : i < l.length) : l[i]? = some (l.getD i 0) := by
  rw [List.getD_eq_getElem?_getD, List.getElem?_eq_getElem h]
  rfl
theorem dN_get (l : List (Nat × Int)) (k : Nat) : (valV (dN l) (Sum.inl (k : Int))).getD (V.int 0) = V.int (lookN l k) := by
  induction l with
  | nil => rfl
  | cons p l ih =>
    rw [look_cons]
    by_cases c : p.1 = k
    · rw [if_pos c]
      show (valV ((Sum.inl ((p.1 : Nat) : Int), V.int p.2) :: dN l) (Sum.inl (k : Int))).getD (V.int 0) = _
      rw [valV_pos (by rw [c])]
      rfl
    · rw [if_neg c]
      show (valV ((Sum.inl ((p.1 : Nat) : Int), V.int p.2) :: dN l) (Sum.inl (k : Int))).getD (V.int 0) = _
      rw [valV_neg (fun e => c (by have := Sum.inl.inj e; omega))]
      exact ih
theorem dN_any (l : List (Nat × Int)) (k : Nat) : ((dN l).any fun kv => decide (kv.1 = Sum.inl (k : Int))) = l.any fun p => decide (p.1 = k) := by
  unfold dN
  rw [List.any_map]
  congr 1
  funext p
  show decide (Sum.inl ((p.1 : Nat) : Int) = (Sum.inl (k : Int) : Key)) = decide (p.1 = k)
  by_cases c : p.1 = k
  · rw [c]; simp
  · rw [decide_eq_false c, decide_eq_false (fun e => c (by have := Sum.inl.inj e; omega))]
theorem dN_put (l : List (Nat × Int)) (k : Nat) (v : Int) : putK (dN l) (Sum.inl (k : Int)) (V.int v) = dN (putN l k v) := by
  unfold putK putN
  rw [dN_any]
  split
  · unfold dN
    rw [List.map_map, List.map_map]
    apply List.map_congr_left
    intro p _
    show (if Sum.inl ((p.1 : Nat) : Int) = (Sum.inl (k : Int) : Key) then _ else _) = _
    by_cases c : p.1 = k
    · subst c
      rw [if_pos rfl]
      show _ = (Sum.inl _, V.int (if p.1 = p.1 then (p.1, v) else p).2)
      rw [if_pos rfl]
      show _ = (Sum.inl (((if p.1 = p.1 then (p.1, v) else p).1 : Nat) : Int), V.int v)
      rw [if_pos rfl]
    · rw [if_neg (fun e => c (by have := Sum.inl.inj e; omega))]
      show _ = (Sum.inl (((if p.1 = k then (p.1, v) else p).1 : Nat) : Int), V.int (if p.1 = k then (p.1, v) else p).2)
      rw [if_neg c]
  · unfold dN
    rw [List.map_append]
    rfl
theorem dN_len (l : List (Nat × Int)) : (dN l).length = l.length := List.length_map _
theorem dN_at {l : List (Nat × Int)} {i : Nat} {k : Key} {v : V} (h : (dN l)[i]? = some (k, v)) : i < l.length ∧ k = Sum.inl (((l.getD i (0, 0)).1 : Nat) : Int) ∧ v = V.int (l.getD i (0, 0)).2 := by
  unfold dN at h
  rw [List.getElem?_map] at h
  cases e : l[i]? with
  | none => rw [e] at h; cases h
  | some p =>
    rw [e] at h
    have h2 := Option.some.inj h
    have hi := (List.getElem?_eq_some_iff.mp e).1
    rw [List.getD_eq_getElem?_getD, e]
    exact ⟨hi, (Prod.mk.inj h2).1.symm, (Prod.mk.inj h2).2.symm⟩
theorem near_at {lo c j : Nat} (h : j < c) : (nearT lo c)[j]? = some (((lo + j : Nat)) : Int) := by
  unfold nearT
  rw [List.getElem?_map, List.getElem?_range h]
  rfl
theorem near_len (lo c : Nat) : (nearT lo c).length = c := by unfold nearT; rw [List.length_map, List.length_range]
theorem near_V {p n : Nat} {r : Int} (hp : p < n) (hr : 0 ≤ r) : rgV (max 0 ((p : Int) - r)) (min (n : Int) ((p : Int) + r + 1)) = (nearT (loP p r) (ctP n p r)).map V.int := by
  unfold rgV nearT
  have e : (min (n : Int) ((p : Int) + r + 1) - max 0 ((p : Int) - r)).toNat = ctP n p r := by
    unfold ctP loP
    omega
  rw [e, List.map_map]
  apply List.map_congr_left
  intro a _
  show V.int (max 0 ((p : Int) - r) + (a : Int)) = V.int ((loP p r + a : Nat) : Int)
  congr 1
  unfold loP
  omega
theorem bit_read {u t : Nat} (hu : u < 4096) (ht : t < 12) : decide (V.int (Builtin.bitAnd (u : Int) (1 * 2 ^ ((t : Nat) : Int).toNat)) = V.int 0) = !u.testBit t := by
  rw [Int.one_mul, Int.toNat_natCast, show ((2 : Int) ^ t) = ((2 ^ t : Nat) : Int) by rw [Int.natCast_pow]; rfl, bitAnd_pp (Int.natCast_nonneg _) (Int.natCast_nonneg _), Int.toNat_natCast, Int.toNat_natCast]
  cases h : u.testBit t with
  | false =>
    rw [bit_and h]
    rfl
  | true =>
    rw [decide_eq_false]
    · rfl
    · intro e
      have e2 : u &&& 2 ^ t = 0 := by have := V.int.inj e; omega
      have e3 := congrArg (fun x => Nat.testBit x t) e2
      simp [h] at e3
theorem bit_or {u t : Nat} (h : u.testBit t = false) (hu : u < 4096) (ht : t < 12) : Builtin.bitOr (u : Int) (1 * 2 ^ ((t : Nat) : Int).toNat) = ((u + 2 ^ t : Nat) : Int) := by
  rw [Int.one_mul, Int.toNat_natCast, show ((2 : Int) ^ t) = ((2 ^ t : Nat) : Int) by rw [Int.natCast_pow]; rfl, bitOr_and, bitAnd_pp (Int.natCast_nonneg _) (Int.natCast_nonneg _), Int.toNat_natCast, Int.toNat_natCast, bit_and h]
  omega
section
variable {P : Program} {w : World} {K : PySem.W.Frag} {mg : Str → Option Value} {base : Heap}
theorem scSwM : FnScope ["counts", "behind", "more", "far", "many", "passed"] ["counts", "behind"] (defScope s_swap_counts_with_one_more) := ⟨rfl, rfl, rfl, by decide +kernel, rfl, by decide +kernel, by decide +kernel⟩
set_option maxHeartbeats 1000000 in
theorem ok_swM {f : Addr} {fd : FuncData} {k : Nat} (T : Df K mg "swap_counts_with_one_more" s_swap_counts_with_one_more ["counts", "behind"] f fd) (B : Bi mg) : FnOk P w K mg base CX0 (k + 1) f fd ["counts", "behind"] spSwM := by
  refine T.F.ok scSwM (fun vs H Q E h => ?_) (fun cdv A outer s H vs Q E hr h => ?_)
  · obtain ⟨a, c, b, rfl, _⟩ := h
    rfl
  · obtain ⟨a, c, b, rfl, ha, hc, hb, q⟩ := h
    have hlm : (c.map V.int).length = c.length := List.length_map _
    refine ⟨_, 
      (pss_cons (ps_set (i := 2) scSwM.nd rfl (.inl rfl) (pe_op op_rep (pe_lst (pa_cons pe_int pa_nil)) (pe_op op_add (pe_callB call_len_seq (by rfl) B.len PySem.boot_len (pa_cons (pv 0) pa_nil)) (pv 1))))
      (pss_cons (ps_for PassesOwn.never rfl (pi_enum (by rfl) B.enumerate (pa_cons (pv 0) pa_nil)) (pg_tup (by rfl) (pgs_cons (pg_name (i := 3) scSwM.nd rfl (.inl rfl)) (pgs_cons (pg_name (i := 4) scSwM.nd rfl (.inl rfl)) pgs_nil)))
        (pss_one (ps_for PassesOwn.never rfl (pi_range1 (by rfl) B.range (pa_cons (pe_op op_add (pv 1) pe_int) pa_nil)) (pg_name (i := 5) scSwM.nd rfl (.inl rfl))
          (pss_one (ps_augS (pv 2) (pe_op op_add (pv 3) (pv 5)) get_list (pv 4) ip_add set_list)))))
      (pss_one (ps_ret (pv 2))))), ?_⟩
    refine ⟨line_small (by show 1 ≤ 16777216; decide), fun z nz => ?_⟩
    have s1 := same_new (o := .lst [.int 0]) nz
    refine ⟨_, rfl, a, _, rfl, .inl (SqL.of (s1 _ _ ha)), _, rfl, _, _, rfl, rfl, z, _, _, rfl, rfl, upd_same, by omega, by omega, line_small (by rw [hlm]; show 1 * _ ≤ _; omega), fun l nl => ?_⟩
    have en : ((((c.map V.int).length : Nat) : Int) + (b : Int)).toNat = c.length + b := by rw [hlm]; omega
    have s2 := s1.trans (same_new (o := .lst (List.replicate ((((c.map V.int).length : Nat) : Int) + (b : Int)).toNat [V.int 0]).flatten) nl)
    have hl0 : (upd (upd H z (.lst [.int 0])) l (.lst (List.replicate ((((c.map V.int).length : Nat) : Int) + (b : Int)).toNat [V.int 0]).flatten)) l = some (.lst ((swOut c b 0).map V.int)) := by rw [upd_same, en, zeros_flat]; rfl
    have nHl : H l = none := s1.free nl
    generalize upd (upd H z (.lst [.int 0])) l (.lst (List.replicate ((((c.map V.int).length : Nat) : Int) + (b : Int)).toNat [V.int 0]).flatten) = H1 at s2 hl0 ⊢
    refine ⟨_, rfl, a, _, rfl, SqL.of (s2 _ _ ha), ?_⟩
    refine for_enumL (xs := c.map V.int) (fun i σ H3 => ∃ (y3 y4 y5 : Option V), σ = [some (.ref a), some (.int b), some (.ref l), y3, y4, y5] ∧ H3 l = some (.lst ((swOut c b i).map V.int)) ∧ Same H H3)
      ⟨_, _, _, rfl, hl0, s2⟩ (fun i σ H3 hW => by obtain ⟨_, _, _, _, _, sm⟩ := hW; exact SqL.of (sm _ _ ha)) (fun i x t σ H3 hx hW nt => ?_) (fun σ H3 hW => ?_)
    · obtain ⟨y3, y4, y5, rfl, hl3, sm⟩ := hW
      obtain ⟨y, ey, rfl⟩ := int_at_inv hx
      have hi := (List.getElem?_eq_some_iff.mp ey).1
      have eg : c.getD i 0 = y := by rw [List.getD_eq_getElem?_getD, ey]; rfl
      have st := same_new (o := .tup [.int (i : Nat), .int y]) nt
      have hl4 := st _ _ hl3
      have sm4 := sm.trans st
      have ht4 : (upd H3 t (.tup [.int (i : Nat), .int y])) t = some (.tup [.int (i : Nat), .int y]) := upd_same
      generalize upd H3 t (.tup [.int (i : Nat), .int y]) = H4 at ht4 hl4 sm4 ⊢
      refine ⟨t, _, rfl, .inl (.inl ht4), rfl, _, _, rfl, _, _, rfl, rfl, ?_⟩
      refine ⟨_, rfl, (b : Int), 1, rfl, rfl, _, rfl, by omega, by omega, ?_⟩
      rw [show ((b : Int) + 1).toNat = b + 1 by omega]
      refine for_range (lo := 0) (n := b + 1) (fun j σ H5 => ∃ (y5 : Option V), σ = [some (.ref a), some (.int b), some (.ref l), some (.int (i : Nat)), some (.int y), y5] ∧ H5 l = some (.lst ((swIn y i j (swOut c b i)).map V.int)) ∧ Same H H5) ⟨_, rfl, hl4, sm4⟩ (fun j σ H5 hj hW => ?_) (fun σ H5 hW => ?_)
      · obtain ⟨z5, rfl, hl5, sm5⟩ := hW
        have hlen : (swIn y i j (swOut c b i)).length = c.length + b := by rw [swIn_len, swOut_len]
        have hij : i + j < (swIn y i j (swOut c b i)).length := by omega
        refine ⟨_, rfl, _, rfl, _, rfl, _, _, rfl, rfl, l, _, _, _, rfl, rfl, SqL.of hl5, by omega, at_of (j := i + j) (by omega) (int_at (getD_some hij)), _, rfl, _, _, rfl, rfl, l, _, _, i + j, rfl, rfl, hl5, ix_n (by omega) (by rw [List.length_map]; exact hij), _, rfl, ?_, fun u o e => ?_⟩
        · rw [upd_same, addAt_V]
          rfl
        · rw [upd_ne (ne_of_none e nHl)]
          exact sm5 _ _ e
      · obtain ⟨z5, rfl, hl5, sm5⟩ := hW
        refine ⟨_, _, _, rfl, ?_, sm5⟩
        rw [swOut, eg]
        exact hl5
    · obtain ⟨y3, y4, y5, rfl, hl3, sm⟩ := hW
      rw [hlm] at hl3
      exact ⟨_, rfl, q l H3 nHl hl3 sm⟩
theorem scSwC : FnScope ["n", "counts", "behind"] ["n"] (defScope s_swap_counts) := ⟨rfl, rfl, rfl, by decide +kernel, rfl, by decide +kernel, by decide +kernel⟩
theorem ok_swC {f f1 : Addr} {fd d1 : FuncData} {k : Nat} (T : Df K mg "swap_counts" s_swap_counts ["n"] f fd) (T_swap_counts_with_one_more : Df K mg "swap_counts_with_one_more" s_swap_counts_with_one_more ["counts", "behind"] f1 d1) (B : Bi mg) : FnOk P w K mg base CX0 (k + 2) f fd ["n"] spSwC := by
  have G_swap_counts_with_one_more : FnOk P w K mg base CX0 (k + 1) f1 d1 ["counts", "behind"] spSwM := ok_swM T_swap_counts_with_one_more B
  refine T.F.ok scSwC (fun vs H Q E h => ?_) (fun cdv A outer s H vs Q E hr h => ?_)
  · obtain ⟨n, rfl, _⟩ := h
    rfl
  · obtain ⟨n, rfl, hn1, hn2, q⟩ := h
    refine ⟨_, 
      (pss_cons (ps_set (i := 1) scSwC.nd rfl (.inl rfl) (pe_lst (pa_cons pe_int pa_nil)))
      (pss_cons (ps_for PassesOwn.never rfl (pi_range2 (by rfl) B.range (pa_cons pe_int (pa_cons (pv 0) pa_nil))) (pg_name (i := 2) scSwC.nd rfl (.inl rfl))
        (pss_one (ps_set (i := 1) scSwC.nd rfl (.inl rfl) (pe_call G_swap_counts_with_one_more hr (by rfl) T_swap_counts_with_one_more.g T_swap_counts_with_one_more.F.kp T_swap_counts_with_one_more.b .nil pass0 (pa_cons (pv 1) (pa_cons (pv 2) pa_nil))))))
      (pss_one (ps_ret (pv 1))))), ?_⟩
    refine ⟨line_small (by show 1 ≤ 16777216; decide), fun l nl => ?_⟩
    have s1 := same_new (o := .lst [.int 1]) nl
    refine ⟨_, rfl, 1, (n : Int), rfl, ⟨by omega, by omega, by omega, by omega⟩, ?_⟩
    rw [show ((n : Int) - 1).toNat = n - 1 by omega]
    refine for_range (lo := 1) (n := n - 1) (fun i σ H1 => ∃ (l : Addr) (y2 : Option V), σ = [some (.int n), some (.ref l), y2] ∧ H l = none ∧ H1 l = some (.lst ((swC i).map V.int)) ∧ Same H H1) ⟨l, _, rfl, nl, upd_same, s1⟩ (fun i σ H1 hi hW => ?_) (fun σ H1 hW => ?_)
    · obtain ⟨l, y2, rfl, nl, hl, sm⟩ := hW
      refine ⟨_, rfl, _, rfl, l, swC i, i + 1, by show _ = [V.ref l, V.int ((i + 1 : Nat) : Int)]; rw [show ((i + 1 : Nat) : Int) = 1 + (i : Int) by omega]; rfl, hl, by rw [swC_len]; have := (tri_le i (by omega)).1; omega, by omega, fun l2 H2 nl2 hl2 s2 => ?_⟩
      exact ⟨l2, _, rfl, sm.free nl2, hl2, sm.trans s2⟩
    · obtain ⟨l, y2, rfl, nl, hl, sm⟩ := hW
      exact ⟨_, rfl, q l H1 nl hl sm⟩
end
end Fo
namespace Fo
open PySem PySem.Spec PyProof.Rows L2
theorem max_if (i j : Int) : (if j > i then j else i) = max i j := by split <;> omega
theorem min_if (i j : Int) : (if j < i then j else i) = min i j := by split <;> omega
theorem dN_val : ∀ {l : List (Nat × Int)} {i : Nat}, (keysN l).Nodup → i < l.length → valV (dN l) (Sum.inl (((l.getD i (0, 0)).1 : Nat) : Int)) = some (V.int (l.getD i (0, 0)).2)
  | [], i, _, h => absurd h (Nat.not_lt_zero _)
  | p :: l, 0, _, _ => valV_pos rfl
  | p :: l, i + 1, hn, h => by
    obtain ⟨h1, h2⟩ := List.nodup_cons.mp hn
    have ih := dN_val (l := l) (i := i) h2 (by simpa using h)
    have hi : i < l.length := by simpa using h
    show valV ((Sum.inl ((p.1 : Nat) : Int), V.int p.2) :: dN l) (Sum.inl (((l.getD i (0, 0)).1 : Nat) : Int)) = some (V.int (l.getD i (0, 0)).2)
    rw [valV_neg (fun e => h1 (by
      have e2 : p.1 = (l.getD i (0, 0)).1 := by have := Sum.inl.inj e; omega
      exact List.mem_map.mpr ⟨l.getD i (0, 0), by rw [getD_at hi]; exact List.getElem_mem _, e2.symm⟩))]
    exact ih
theorem dN_sum (l : List (Nat × Int)) : (dN l).map (·.2) = (l.map (·.2)).map V.int := by
  unfold dN
  rw [List.map_map, List.map_map]
  rfl
section
variable {P : Program} {w : World} {K : PySem.W.Frag} {mg : Str → Option Value} {base : Heap}
theorem scMv : FnScope ["n", "many", "sign", "things"] ["n"] (defScope s_count_all_moved) := ⟨rfl, rfl, rfl, by decide +kernel, rfl, by decide +kernel, by decide +kernel⟩
theorem ok_mv {f : Addr} {fd : FuncData} {k : Nat} (T : Df K mg "count_all_moved" s_count_all_moved ["n"] f fd) (B : Bi mg) : FnOk P w K mg base CX0 (k + 1) f fd ["n"] spMv := by
  refine T.F.ok scMv (fun vs H Q E h => ?_) (fun cdv A outer s H vs Q E hr h => ?_)
  · obtain ⟨n, rfl, _⟩ := h
    rfl
  · obtain ⟨n, rfl, hn, q⟩ := h
    refine ⟨_, 
      (pss_cons (ps_set (i := 1) scMv.nd rfl (.inl rfl) pe_int)
      (pss_cons (ps_set (i := 2) scMv.nd rfl (.inl rfl) pe_int)
      (pss_cons (ps_for PassesOwn.never rfl (pi_range2 (by rfl) B.range (pa_cons pe_int (pa_cons (pe_op op_add (pv 0) pe_int) pa_nil))) (pg_name (i := 3) scMv.nd rfl (.inl rfl))
        (pss_cons (ps_set (i := 2) scMv.nd rfl (.inl rfl) (pe_un un_neg (pv 2)))
        (pss_one (ps_set (i := 1) scMv.nd rfl (.inl rfl) (pe_op op_add (pe_op op_mul (pv 1) (pv 3)) (pv 2))))))
      (pss_one (ps_ret (pv 1)))))), ?_⟩
    refine ⟨_, rfl, (n : Int), 1, rfl, rfl, 1, _, rfl, ⟨by omega, by omega, by omega, by omega⟩, ?_⟩
    rw [show ((n : Int) + 1 - 1).toNat = n by omega]
    refine for_range (lo := 1) (n := n) (fun i σ H1 => ∃ y2 : Option V, σ = [some (.int n), some (.int (mvN i).1), some (.int (mvN i).2), y2] ∧ H1 = H) ⟨_, rfl, rfl⟩ (fun i σ H1 hi hW => ?_) (fun σ H1 hW => ?_)
    · obtain ⟨y2, rfl, rfl⟩ := hW
      have hf := mv_small i (by omega)
      refine ⟨_, rfl, _, rfl, _, rfl, _, rfl, _, _, rfl, rfl, .inl ⟨by omega, by omega⟩, _, rfl, _, _, rfl, rfl, some (.int (1 + (i : Int))), ?_, rfl⟩
      show [some (V.int (n : Int)), some (V.int ((mvN i).1 * (1 + (i : Int)) + -(mvN i).2)), some (V.int (-(mvN i).2)), some (V.int (1 + (i : Int)))] = _
      rw [Int.add_comm 1 (i : Int)]
      rfl
    · obtain ⟨y2, rfl, rfl⟩ := hW
      exact ⟨_, rfl, q⟩
theorem scSpC : FnScope ["n", "counts", "choices", "r"] ["n"] (defScope s_spot_counts) := ⟨rfl, rfl, rfl, by decide +kernel, rfl, by decide +kernel, by decide +kernel⟩
set_option maxHeartbeats 1000000 in
theorem ok_spC {f f1 : Addr} {fd d1 : FuncData} {k : Nat} (T : Df K mg "spot_counts" s_spot_counts ["n"] f fd) (T_count_all_moved : Df K mg "count_all_moved" s_count_all_moved ["n"] f1 d1) (B : Bi mg) : FnOk P w K mg base CX0 (k + 2) f fd ["n"] spSpC := by
  have G_count_all_moved : FnOk P w K mg base CX0 (k + 1) f1 d1 ["n"] spMv := ok_mv T_count_all_moved B
  refine T.F.ok scSpC (fun vs H Q E h => ?_) (fun cdv A outer s H vs Q E hr h => ?_)
  · obtain ⟨n, rfl, _⟩ := h
    rfl
  · obtain ⟨n, rfl, hn1, hn2, q⟩ := h
    refine ⟨_, 
      (pss_cons (ps_set (i := 1) scSpC.nd rfl (.inl rfl) (pe_lst pa_nil))
      (pss_cons (ps_set (i := 2) scSpC.nd rfl (.inl rfl) pe_int)
      (pss_cons (ps_for PassesOwn.never rfl (pi_range1 (by rfl) B.range (pa_cons (pe_op op_add (pv 0) pe_int) pa_nil)) (pg_name (i := 3) scSpC.nd rfl (.inl rfl))
        (pss_cons (ps_expr (pe_bm PySem.F.plainAttrs_list PySem.F.slot_list_append PySem.F.type_list_append mt_append (pv 1) (pa_cons (pe_op op_mul (pv 2) (pe_call G_count_all_moved hr (by rfl) T_count_all_moved.g T_count_all_moved.F.kp T_count_all_moved.b .nil pass0 (pa_cons (pv 3) pa_nil))) pa_nil)))
        (pss_one (ps_set (i := 2) scSpC.nd rfl (.inl rfl) (pe_op op_fdiv (pe_op op_mul (pv 2) (pe_op op_sub (pv 0) (pv 3))) (pe_op op_add (pv 3) pe_int))))))
      (pss_one (ps_ret (pv 1)))))), ?_⟩
    refine ⟨Nat.zero_le _, fun l nl => ?_⟩
    have s1 := same_new (o := .lst []) nl
    refine ⟨_, rfl, (n : Int), 1, rfl, rfl, _, rfl, by omega, by omega, ?_⟩
    rw [show ((n : Int) + 1).toNat = n + 1 by omega]
    refine for_range (lo := 0) (n := n + 1) (fun i σ H1 => ∃ (y3 : Option V), σ = [some (.int n), some (.ref l), some (.int (chN n i)), y3] ∧ H1 l = some (.lst (((List.range i).map fun r => chN n r * (mvN r).1).map V.int)) ∧ Same H H1) ⟨_, rfl, upd_same, s1⟩ (fun i σ H1 hi hW => ?_) (fun σ H1 hW => ?_)
    · obtain ⟨y3, rfl, hl, sm⟩ := hW
      have hc := ch_small n (by omega) i (by omega)
      refine ⟨_, rfl, .inl ⟨rfl, _, SqL.of hl⟩, _, rfl, _, rfl, i, by rw [Int.zero_add]; rfl, by omega, _, _, rfl, rfl, .inl ⟨by omega, by omega⟩, l, _, _, rfl, rfl, hl, line_lt (by rw [List.length_map, List.length_map, List.length_range]; omega), ?_⟩
      refine ⟨_, rfl, _, rfl, _, rfl, (n : Int), _, rfl, rfl, _, _, rfl, rfl, .inl ⟨by omega, by omega⟩, _, rfl, _, 1, rfl, rfl, _, _, rfl, rfl, ⟨by omega, by omega⟩, some (.int (0 + (i : Int))), ?_, ?_, fun u o e => ?_⟩
      · show [some (V.int (n : Int)), some (V.ref l), some (V.int (chN n i * ((n : Int) - (0 + (i : Int))) / (0 + (i : Int) + 1))), some (V.int (0 + (i : Int)))] = _
        rw [Int.zero_add]
        rfl
      · rw [upd_same, List.range_succ, List.map_append, List.map_append]
        rfl
      · rw [upd_ne (ne_of_none e nl)]
        exact sm _ _ e
    · obtain ⟨y3, rfl, hl, sm⟩ := hW
      exact ⟨_, rfl, q l H1 nl hl sm⟩
theorem scNearT : FnScope ["place", "n", "r"] ["place", "n", "r"] (defScope s_things_near) := ⟨rfl, rfl, rfl, by decide +kernel, rfl, by decide +kernel, by decide +kernel⟩
theorem ok_nearT {f : Addr} {fd : FuncData} {k : Nat} (T : Df K mg "things_near" s_things_near ["place", "n", "r"] f fd) (B : Bi mg) : FnOk P w K mg base CX0 (k + 1) f fd ["place", "n", "r"] spNearT := by
  refine T.F.ok scNearT (fun vs H Q E h => ?_) (fun cdv A outer s H vs Q E hr h => ?_)
  · obtain ⟨p, n, r, rfl, _⟩ := h
    rfl
  · obtain ⟨p, n, r, rfl, hp, hn, hr0, q⟩ := h
    refine ⟨_, 
      (pss_one (ps_ret (pe_listRg rfl (by rfl) B.list (prg_2 (by rfl) B.range (pe_callB (call_max2 rfl) (by rfl) B.max (by decide +kernel) (pa_cons pe_int (pa_cons (pe_op op_sub (pv 0) (pv 2)) pa_nil))) (pe_callB (call_min2 rfl) (by rfl) B.min (by decide +kernel) (pa_cons (pv 1) (pa_cons (pe_op op_add (pe_op op_add (pv 0) (pv 2)) pe_int) pa_nil))))))), ?_⟩
    refine ⟨_, rfl, _, rfl, _, _, rfl, rfl, _, _, rfl, _, rfl, _, rfl, _, rfl, _, _, rfl, rfl, _, _, rfl, rfl, _, _, rfl, ?_⟩
    rw [max_if, min_if]
    refine ⟨_, _, rfl, rfl, RgOk.of_le (by omega) (by omega) (by omega) (by omega), fun l nl => ?_⟩
    exact q l _ nl (by rw [upd_same, near_V hp hr0]) (same_new nl)
theorem scFurther : FnScope ["beginnings", "near", "longer", "used", "many", "thing", "bit"] ["beginnings", "near"] (defScope s_one_place_further) := ⟨rfl, rfl, rfl, by decide +kernel, rfl, by decide +kernel, by decide +kernel⟩
set_option maxHeartbeats 2000000 in
theorem ok_further {f : Addr} {fd : FuncData} {k : Nat} (T : Df K mg "one_place_further" s_one_place_further ["beginnings", "near"] f fd) (B : Bi mg) : FnOk P w K mg base CX0 (k + 1) f fd ["beginnings", "near"] spFurther := by
  refine T.F.ok scFurther (fun vs H Q E h => ?_) (fun cdv A outer s H vs Q E hr h => ?_)
  · obtain ⟨a, b, d, lo, c, rfl, _⟩ := h
    rfl
  · obtain ⟨a, b, d, lo, c, rfl, ha, hd, hb, hc, q⟩ := h
    refine ⟨_, 
      (pss_cons (ps_set (i := 2) scFurther.nd rfl (.inl rfl) pe_dnewK)
      (pss_cons (ps_lock (ps_for PassesOwn.never rfl (pi_items (pv 0)) (pg_tup (by rfl) (pgs_cons (pg_name (i := 3) scFurther.nd rfl (.inl rfl)) (pgs_cons (pg_name (i := 4) scFurther.nd rfl (.inl rfl)) pgs_nil)))
        (pss_one (ps_for PassesOwn.never rfl (pi_list (pv 1)) (pg_name (i := 5) scFurther.nd rfl (.inl rfl))
          (pss_cons (ps_set (i := 6) scFurther.nd rfl (.inl rfl) (pe_op op_shl pe_int (pv 5)))
          (pss_one (ps_if (pt_cmpR op_eq (pe_op op_and (pv 3) (pv 6)) pe_int (nomark _))
            (pss_one (ps_dput (hu_of hr) (pv 2) (pe_op op_or (pv 3) (pv 6)) (pe_op op_add (pe_dget2 (hu_of hr) (pv 2) (pe_op op_or (pv 3) (pv 6)) pe_int ⟨by rfl, by rfl, by rfl, by rfl⟩) (pv 4)) (by rfl)))
            pss_nil)))))))
      (pss_one (ps_ret (pv 2))))), ?_⟩
    refine fun l nl => ?_
    have s1 := same_new (o := .dK []) nl
    have nla : l ≠ a := (ne_of_none ha nl).symm
    have nlb : l ≠ b := (ne_of_none hb nl).symm
    have nba : b ≠ a := fun z => by rw [z, ha] at hb; cases hb
    refine ⟨a, _, s1 _ _ ha, trivial, fun od => ?_⟩
    refine ⟨_, rfl, a, od, _, rfl, upd_same, ?_⟩
    refine for_items (od := od) (kvs := dN d) (fun i σ H3 => ∃ (y3 y4 y5 y6 : Option V), σ = [some (.ref a), some (.ref b), some (.ref l), y3, y4, y5, y6] ∧ H3 l = some (.dK (dN (stOut d lo c i))) ∧ H3 a = some (.frz od (.dK (dN d))) ∧ (∀ u o, H u = some o → u ≠ a → H3 u = some o))
      ⟨_, _, _, _, rfl, by rw [upd_ne nla]; exact upd_same, upd_same, fun u o e nu => by rw [upd_ne nu]; exact s1 _ _ e⟩ (fun i σ H3 hW => by obtain ⟨_, _, _, _, _, _, h3, _⟩ := hW; exact h3) (fun i kk v t σ H3 hx hW nt => ?_) (fun σ H3 hW => ?_)
    · obtain ⟨y3, y4, y5, y6, rfl, hl3, ha3, kp⟩ := hW
      obtain ⟨hi, rfl, rfl⟩ := dN_at hx
      obtain ⟨g1, _, _⟩ := stOut_good hd hc i (by omega)
      have hmem : d.getD i (0, 0) ∈ d := by rw [getD_at hi]; exact List.getElem_mem _
      have hm := hd.pos _ hmem
      have hu := hd.lt _ (List.mem_map.mpr ⟨_, hmem, rfl⟩)
      generalize hux : (d.getD i (0, 0)).1 = ux at hu
      generalize hmx : (d.getD i (0, 0)).2 = mx at hm
      have st := same_new (o := .tup [kV (Sum.inl ((ux : Nat) : Int)), .int mx]) nt
      have hl4 := st _ _ hl3
      have ha4 := st _ _ ha3
      have kp4 : ∀ u o, H u = some o → u ≠ a → (upd H3 t (.tup [kV (Sum.inl ((ux : Nat) : Int)), .int mx])) u = some o := fun u o e nu => st _ _ (kp u o e nu)
      have ht4 : (upd H3 t (.tup [kV (Sum.inl ((ux : Nat) : Int)), .int mx])) t = some (.tup [kV (Sum.inl ((ux : Nat) : Int)), .int mx]) := upd_same
      generalize upd H3 t (.tup [kV (Sum.inl ((ux : Nat) : Int)), .int mx]) = H4 at ht4 hl4 ha4 kp4 ⊢
      refine ⟨t, _, rfl, .inl (.inl ht4), rfl, _, _, rfl, _, _, rfl, rfl, ?_⟩
      refine ⟨_, rfl, b, rfl, ⟨_, SqL.of (kp4 _ _ hb nba)⟩, ?_⟩
      refine for_list (xs := (nearT lo c).map V.int) (fun j σ H5 => ∃ (y5 y6 : Option V), σ = [some (.ref a), some (.ref b), some (.ref l), some (.int ((ux : Nat) : Int)), some (.int mx), y5, y6] ∧ H5 l = some (.dK (dN (stIn ux mx lo j (stOut d lo c i)))) ∧ H5 a = some (.frz od (.dK (dN d))) ∧ (∀ u o, H u = some o → u ≠ a → H5 u = some o))
        ⟨_, _, rfl, hl4, ha4, kp4⟩ (fun j σ H5 _ hW => by obtain ⟨_, _, _, _, _, kp5⟩ := hW; exact SqL.of (kp5 _ _ hb nba)) (fun j x σ H5 hx hW => ?_) (fun σ H5 hW => ?_)
      · obtain ⟨z5, z6, rfl, hl5, ha5, kp5⟩ := hW
        obtain ⟨y, ey, rfl⟩ := int_at_inv hx
        have hj := (List.getElem?_eq_some_iff.mp ey).1
        rw [near_len] at hj
        rw [near_at hj] at ey
        have ey2 := Option.some.inj ey
        subst ey2
        obtain ⟨k1, _, _, _⟩ := stIn_good (lo := lo) hu hm j _ g1 (by omega)
        have hln := k1.len
        refine ⟨_, rfl, 1, _, rfl, rfl, ⟨by omega, by omega, by decide⟩, ?_⟩
        refine ⟨_, rfl, _, rfl, _, _, rfl, rfl, rfl, _, rfl, ?_⟩
        rw [bit_read hu (show lo + j < 12 by omega)]
        cases htb : ux.testBit (lo + j) with
        | true =>
          refine iteF ⟨_, _, rfl, ?_, ha5, kp5⟩
          rw [stIn, htb, if_pos rfl]
          exact hl5
        | false =>
          refine iteT ?_
          have eb := bit_or htb hu (show lo + j < 12 by omega)
          have eg : DGet H5 l (V.int (Builtin.bitOr (ux : Int) (1 * 2 ^ (((lo + j : Nat)) : Int).toNat))) (valV (dN (stIn ux mx lo j (stOut d lo c i))) (Sum.inl ((ux + 2 ^ (lo + j) : Nat) : Int))) := by
            rw [eb]
            exact DGet.k (k := Sum.inl _) hl5
          have ep : DPut H5 l (V.int (Builtin.bitOr (ux : Int) (1 * 2 ^ (((lo + j : Nat)) : Int).toNat))) (V.int (lookN (stIn ux mx lo j (stOut d lo c i)) (ux + 2 ^ (lo + j)) + mx)) (upd H5 l (.dK (dN (stIn ux mx lo (j + 1) (stOut d lo c i))))) := by
            rw [eb, stIn, htb, if_neg (by decide), ← dN_put]
            exact DPut.k (k := Sum.inl _) hl5 (line_lt (by rw [dN_len]; omega))
          refine ⟨_, rfl, l, rfl, .inl ⟨_, .inl hl5⟩, _, rfl, _, rfl, _, _, rfl, rfl, _, eg, _, rfl, _, _, dN_get _ _, rfl, _, rfl, _, rfl, _, rfl, _, _, rfl, rfl, l, _, rfl, ep, _, _, rfl, upd_same, ?_, fun u o e nu => ?_⟩
          · rw [upd_ne nla.symm]
            exact ha5
          · rw [upd_ne (ne_of_none e nl)]
            exact kp5 u o e nu
      · obtain ⟨z5, z6, rfl, hl5, ha5, kp5⟩ := hW
        rw [List.length_map, near_len] at hl5
        refine ⟨_, _, _, _, rfl, ?_, ha5, kp5⟩
        rw [stOut, hux, hmx]
        exact hl5
    · obtain ⟨y3, y4, y5, y6, rfl, hl3, ha3, kp⟩ := hW
      rw [dN_len] at hl3
      refine ⟨ha3, _, rfl, q l _ nl (by rw [upd_ne nla]; exact hl3) fun u o e => ?_⟩
      by_cases c : u = a
      · subst c
        rw [upd_same]
        rw [ha] at e
        exact e
      · rw [upd_ne c]
        exact kp u o e c
theorem scShN : FnScope ["n", "r", "beginnings", "place", "near"] ["n", "r"] (defScope s_shift_within) := ⟨rfl, rfl, rfl, by decide +kernel, rfl, by decide +kernel, by decide +kernel⟩
set_option maxHeartbeats 1000000 in
theorem ok_shN {f f1 f2 : Addr} {fd d1 d2 : FuncData} {k : Nat} (T : Df K mg "shift_within" s_shift_within ["n", "r"] f fd) (T_things_near : Df K mg "things_near" s_things_near ["place", "n", "r"] f1 d1) (T_one_place_further : Df K mg "one_place_further" s_one_place_further ["beginnings", "near"] f2 d2) (B : Bi mg) : FnOk P w K mg base CX0 (k + 2) f fd ["n", "r"] spShN := by
  have G_things_near : FnOk P w K mg base CX0 (k + 1) f1 d1 ["place", "n", "r"] spNearT := ok_nearT T_things_near B
  have G_one_place_further : FnOk P w K mg base CX0 (k + 1) f2 d2 ["beginnings", "near"] spFurther := ok_further T_one_place_further B
  refine T.F.ok scShN (fun vs H Q E h => ?_) (fun cdv A outer s H vs Q E hr h => ?_)
  · obtain ⟨n, r, rfl, _⟩ := h
    rfl
  · obtain ⟨n, r, rfl, hn1, hn2, hr0, q⟩ := h
    refine ⟨_, 
      (pss_cons (ps_set (i := 2) scShN.nd rfl (.inl rfl) (pe_disp (pps_cons pe_int pe_int pps_nil) (by rfl) (by rfl) (fun z => by cases z) (by decide)))
      (pss_cons (ps_for PassesOwn.never rfl (pi_range1 (by rfl) B.range (pa_cons (pv 0) pa_nil)) (pg_name (i := 3) scShN.nd rfl (.inl rfl))
        (pss_cons (ps_set (i := 4) scShN.nd rfl (.inl rfl) (pe_call G_things_near hr (by rfl) T_things_near.g T_things_near.F.kp T_things_near.b .nil pass0 (pa_cons (pv 3) (pa_cons (pv 0) (pa_cons (pv 1) pa_nil)))))
        (pss_one (ps_set (i := 2) scShN.nd rfl (.inl rfl) (pe_call G_one_place_further hr (by rfl) T_one_place_further.g T_one_place_further.F.kp T_one_place_further.b .nil pass0 (pa_cons (pv 2) (pa_cons (pv 4) pa_nil)))))))
      (pss_one (ps_ret (pe_sumVals rfl (by rfl) B.sum (pv 2)))))), ?_⟩
    refine fun l nl => ⟨upd_same, [(Sum.inl 0, .int 1)], rfl, by decide, ?_⟩
    have s1 : Same H (upd (upd H l (.dK [])) l (.dK (mergeK [] [(Sum.inl 0, .int 1)]))) := fun u o e => by rw [upd_ne (ne_of_none e nl), upd_ne (ne_of_none e nl)]; exact e
    refine ⟨_, rfl, n, rfl, by omega, by omega, ?_⟩
    rw [Int.toNat_natCast]
    refine for_range (n := n) (fun i σ H1 => ∃ (l : Addr) (y3 y4 : Option V), σ = [some (.int n), some (.int r), some (.ref l), y3, y4] ∧ H1 l = some (.dK (dN (shD n r i))) ∧ Same H H1) ⟨l, _, _, rfl, by rw [upd_same]; rfl, s1⟩ (fun i σ H1 hi hW => ?_) (fun σ H1 hW => ?_)
    · obtain ⟨l, y3, y4, rfl, hl, sm⟩ := hW
      obtain ⟨g1, _, _⟩ := shD_good (r := r) hn2 hr0 i (by omega)
      obtain ⟨l1, _, _⟩ := lo_ct (r := r) hn2 hi hr0
      refine ⟨_, rfl, _, rfl, _, rfl, i, n, r, by rw [Int.zero_add]; rfl, hi, hn2, hr0, fun p H2 np hp s2 => ?_⟩
      refine ⟨_, rfl, _, rfl, l, p, _, _, _, rfl, s2 _ _ hl, g1, hp, l1, fun l2 H3 nl2 hl2 s3 => ?_⟩
      exact ⟨l2, _, _, rfl, hl2, (sm.trans s2).trans s3⟩
    · obtain ⟨l, y3, y4, rfl, hl, sm⟩ := hW
      exact ⟨_, rfl, l, _, _, rfl, hl, dN_sum _, q H1 sm⟩
theorem scKW : FnScope ["way", "n", "r"] ["way", "n", "r"] (defScope s_known_within) := ⟨rfl, rfl, rfl, by decide +kernel, rfl, by decide +kernel, by decide +kernel⟩
theorem ok_kw {f f1 f2 f3 f4 f5 f6 f7 : Addr} {fd d1 d2 d3 d4 d5 d6 d7 : FuncData} {k : Nat} (T : Df K mg "known_within" s_known_within ["way", "n", "r"] f fd) (T_swap_counts : Df K mg "swap_counts" s_swap_counts ["n"] f1 d1) (T_spot_counts : Df K mg "spot_counts" s_spot_counts ["n"] f2 d2) (T_shift_within : Df K mg "shift_within" s_shift_within ["n", "r"] f3 d3) (T4 : Df K mg "swap_counts_with_one_more" s_swap_counts_with_one_more ["counts", "behind"] f4 d4) (T5 : Df K mg "count_all_moved" s_count_all_moved ["n"] f5 d5) (T6 : Df K mg "things_near" s_things_near ["place", "n", "r"] f6 d6) (T7 : Df K mg "one_place_further" s_one_place_further ["beginnings", "near"] f7 d7) (B : Bi mg) : FnOk P w K mg base CX0 (k + 3) f fd ["way", "n", "r"] spKW := by
  have G_swap_counts : FnOk P w K mg base CX0 (k + 2) f1 d1 ["n"] spSwC := ok_swC T_swap_counts T4 B
  have G_spot_counts : FnOk P w K mg base CX0 (k + 2) f2 d2 ["n"] spSpC := ok_spC T_spot_counts T5 B
  have G_shift_within : FnOk P w K mg base CX0 (k + 2) f3 d3 ["n", "r"] spShN := ok_shN T_shift_within T6 T7 B
  refine T.F.ok scKW (fun vs H Q E h => ?_) (fun cdv A outer s H vs Q E hr h => ?_)
  · obtain ⟨wy, n, r, rfl, _⟩ := h
    rfl
  · obtain ⟨wy, n, r, rfl, hw, hn1, hn2, hr0, q⟩ := h
    refine ⟨_, 
      (pss_cons (ps_if (pt_cmpR op_eq (pv 0) pe_str (nomark _))
        (pss_one (ps_ret (pe_callB (cr_sum rfl) (by rfl) B.sum (by decide +kernel) (pa_cons (pe_slice sl_list (pe_call G_swap_counts hr (by rfl) T_swap_counts.g T_swap_counts.F.kp T_swap_counts.b .nil pass0 (pa_cons (pv 1) pa_nil)) po_none (po_some (pe_op op_add (pv 2) pe_int))) pa_nil))))
        pss_nil)
      (pss_cons (ps_if (pt_cmpR op_eq (pv 0) pe_str (nomark _))
        (pss_one (ps_ret (pe_callB (cr_sum rfl) (by rfl) B.sum (by decide +kernel) (pa_cons (pe_slice sl_list (pe_call G_spot_counts hr (by rfl) T_spot_counts.g T_spot_counts.F.kp T_spot_counts.b .nil pass0 (pa_cons (pv 1) pa_nil)) po_none (po_some (pe_op op_add (pv 2) pe_int))) pa_nil))))
        pss_nil)
      (pss_one (ps_ret (pe_call G_shift_within hr (by rfl) T_shift_within.g T_shift_within.F.kp T_shift_within.b .nil pass0 (pa_cons (pv 1) (pa_cons (pv 2) pa_nil))))))), ?_⟩
    have er : r + 1 = (((r + 1).toNat : Nat) : Int) := by omega
    rcases hw with rfl | rfl | rfl
    · refine ⟨_, rfl, rfl, _, rfl, ite2 (fun _ => ?_) (fun c => absurd (by decide +kernel) c)⟩
      refine ⟨_, rfl, n, rfl, hn1, hn2, fun l H1 nl hl s1 => ?_⟩
      refine ⟨_, rfl, r, 1, rfl, rfl, _, rfl, l, _, rfl, SqL.of hl, fun p np => ?_⟩
      refine ⟨p, (swC (n - 1)).take (r + 1).toNat, rfl, SqL.of (by rw [upd_same, cut_ints, er, cutI_head, Int.toNat_natCast]), ?_⟩
      rw [← inW_swap]
      exact q _ (s1.trans (same_new np))
    · refine ⟨_, rfl, rfl, _, rfl, ite2 (fun c => absurd c (by decide +kernel)) (fun _ => ?_)⟩
      refine ⟨_, rfl, rfl, _, rfl, ite2 (fun _ => ?_) (fun c => absurd (by decide +kernel) c)⟩
      refine ⟨_, rfl, n, rfl, hn1, hn2, fun l H1 nl hl s1 => ?_⟩
      refine ⟨_, rfl, r, 1, rfl, rfl, _, rfl, l, _, rfl, SqL.of hl, fun p np => ?_⟩
      refine ⟨p, (spC n).take (r + 1).toNat, rfl, SqL.of (by rw [upd_same, cut_ints, er, cutI_head, Int.toNat_natCast]), ?_⟩
      rw [← inW_spot]
      exact q _ (s1.trans (same_new np))
    · refine ⟨_, rfl, rfl, _, rfl, ite2 (fun c => absurd c (by decide +kernel)) (fun _ => ?_)⟩
      refine ⟨_, rfl, rfl, _, rfl, ite2 (fun c => absurd c (by decide +kernel)) (fun _ => ?_)⟩
      exact ⟨_, rfl, _, rfl, n, r, rfl, hn1, hn2, hr0, fun H1 s1 => by rw [← inW_shift]; exact q H1 s1⟩
end
end Fo
namespace Fo
open PySem PySem.Spec PyProof.Rows L2
section
variable {P : Program} {w : World} {K : PySem.W.Frag} {mg : Str → Option Value} {base : Heap}
theorem scFac : FnScope ["n", "many", "things"] ["n"] (defScope s_count_orders) := ⟨rfl, rfl, rfl, by decide +kernel, rfl, by decide +kernel, by decide +kernel⟩
theorem ok_fac {f : Addr} {fd : FuncData} {k : Nat} (T : Df K mg "count_orders" s_count_orders ["n"] f fd) (B : Bi mg) : FnOk P w K mg base CX0 (k + 1) f fd ["n"] spFac := by
  refine T.F.ok scFac (fun vs H Q E h => ?_) (fun cdv A outer s H vs Q E hr h => ?_)
  · obtain ⟨n, rfl, _⟩ := h
    rfl
  · obtain ⟨n, rfl, hn, q⟩ := h
    refine ⟨_, 
      (pss_cons (ps_set (i := 1) scFac.nd rfl (.inl rfl) pe_int)
      (pss_cons (ps_for PassesOwn.never rfl (pi_range2 (by rfl) B.range (pa_cons pe_int (pa_cons (pe_op op_add (pv 0) pe_int) pa_nil))) (pg_name (i := 2) scFac.nd rfl (.inl rfl))
        (pss_one (ps_aug (i := 1) scFac.nd rfl (.inl rfl) (pv 2) iop_mul)))
      (pss_one (ps_ret (pv 1))))), ?_⟩
    refine ⟨_, rfl, (n : Int), 1, rfl, rfl, 1, _, rfl, ⟨by omega, by omega, by omega, by omega⟩, ?_⟩
    rw [show ((n : Int) + 1 - 1).toNat = n by omega]
    refine for_range (lo := 1) (n := n) (fun i σ H1 => ∃ y2 : Option V, σ = [some (.int n), some (.int (facN i)), y2] ∧ H1 = H) ⟨_, rfl, rfl⟩ (fun i σ H1 hi hW => ?_) (fun σ H1 hW => ?_)
    · obtain ⟨y2, rfl, rfl⟩ := hW
      have hf := fac_small i (by omega)
      refine ⟨_, rfl, _, rfl, _, _, rfl, rfl, .inl ⟨by omega, by omega⟩, some (.int (1 + (i : Int))), ?_, rfl⟩
      show [some (V.int (n : Int)), some (V.int (facN i * (1 + (i : Int)))), some (V.int (1 + (i : Int)))] = _
      rw [Int.add_comm 1 (i : Int)]
      rfl
    · obtain ⟨y2, rfl, rfl⟩ := hW
      exact ⟨_, rfl, q⟩
end
end Fo
namespace Fo
open PySem PySem.Spec PyProof.Rows L2
def leastB (w : Str) (n : Nat) (d : Int) : Int := (facN n + inW w n (d - 1) - 1) / inW w n (d - 1)
def mostB (w : Str) (n : Nat) (d : Int) : Int := facN n / inW w n ((d - 1) / 2)
def spBounds : Sp := fun vs H Q _ => ∃ (w : Str) (n : Nat) (d : Int), vs = [.str w, .int n, .int d] ∧ IsWay w ∧ 1 ≤ n ∧ n ≤ 12 ∧ 1 ≤ d ∧ ∀ (t : Addr) (H' : Hp), H t = none → H' t = some (.tup [.int (leastB w n d), .int (mostB w n d)]) → Same H H' → Q (.ref t) H'
theorem wide_in {w : Str} {n : Nat} {r i : Int} (hw : IsWay w) (h1 : 1 ≤ n) (h2 : n ≤ 12) (hr : 0 ≤ r) : CDivW i (inW w n r) := by
  obtain ⟨a, b⟩ := inW_good hw h1 h2 hr
  have e : (2 : Nat) ^ 44 = 17592186044416 := by decide
  exact wide_div (b := 44) (by omega) (by omega) (by decide) (by decide)
section
variable {P : Program} {w : World} {K : PySem.W.Frag} {mg : Str → Option Value} {base : Heap}
theorem scBounds : FnScope ["way", "n", "d", "orders", "most", "wide", "least"] ["way", "n", "d"] (defScope s_bounds_by_rounds) := ⟨rfl, rfl, rfl, by decide +kernel, rfl, by decide +kernel, by decide +kernel⟩
theorem ok_bounds {f f1 f2 f3 : Addr} {fd d1 d2 d3 : FuncData} {k : Nat} {tk : Tok} (T : Df K mg "bounds_by_rounds" s_bounds_by_rounds ["way", "n", "d"] f fd) (T_check_apart : Df K mg "check_apart" s_check_apart ["way", "n", "most", "d"] f1 d1) (T_count_orders : Df K mg "count_orders" s_count_orders ["n"] f2 d2) (T_known_within : Df K mg "known_within" s_known_within ["way", "n", "r"] f3 d3)
    (G_check_apart : FnOk P w K mg base CX0 k f1 d1 ["way", "n", "most", "d"] spApart) (G_count_orders : FnOk P w K mg base CX0 k f2 d2 ["n"] spFac) (G_known_within : FnOk P w K mg base CX0 k f3 d3 ["way", "n", "r"] spKW) (B : Bi mg) (mM : mg "MOST_THINGS" = some (.int 12 tk)) : FnOk P w K mg base CX0 (k + 1) f fd ["way", "n", "d"] spBounds := by
  refine T.F.ok scBounds (fun vs H Q E h => ?_) (fun cdv A outer s H vs Q E hr h => ?_)
  · obtain ⟨wy, n, d, rfl, _⟩ := h
    rfl
  · obtain ⟨wy, n, d, rfl, hw, hn1, hn2, hd, q⟩ := h
    refine ⟨_, 
      (pss_cons (ps_expr (pe_call G_check_apart hr (by rfl) T_check_apart.g T_check_apart.F.kp T_check_apart.b .nil pass0 (pa_cons (pv 0) (pa_cons (pv 1) (pa_cons (pe_glob (v := .int 12) (by rfl) mM ⟨_, rfl⟩) (pa_cons (pv 2) pa_nil))))))
      (pss_cons (ps_set (i := 3) scBounds.nd rfl (.inl rfl) (pe_call G_count_orders hr (by rfl) T_count_orders.g T_count_orders.F.kp T_count_orders.b .nil pass0 (pa_cons (pv 1) pa_nil)))
      (pss_cons (ps_set (i := 4) scBounds.nd rfl (.inl rfl) (pe_op op_fdivW (pv 3) (pe_call G_known_within hr (by rfl) T_known_within.g T_known_within.F.kp T_known_within.b .nil pass0 (pa_cons (pv 0) (pa_cons (pv 1) (pa_cons (pe_op op_fdiv (pe_op op_sub (pv 2) pe_int) pe_int) pa_nil))))))
      (pss_cons (ps_set (i := 5) scBounds.nd rfl (.inl rfl) (pe_call G_known_within hr (by rfl) T_known_within.g T_known_within.F.kp T_known_within.b .nil pass0 (pa_cons (pv 0) (pa_cons (pv 1) (pa_cons (pe_op op_sub (pv 2) pe_int) pa_nil)))))
      (pss_cons (ps_set (i := 6) scBounds.nd rfl (.inl rfl) (pe_op op_fdivW (pe_op op_sub (pe_op op_add (pv 3) (pv 5)) pe_int) (pv 5)))
      (pss_one (ps_ret (pe_tup (pa_cons (pv 6) (pa_cons (pv 4) pa_nil)))))))))), ?_⟩
    refine ⟨_, rfl, _, rfl, _, rfl, wy, n, 12, d, rfl, hw, by omega, by omega, hd, ?_⟩
    refine ⟨_, rfl, n, rfl, hn2, ?_⟩
    have hd2 : 0 ≤ (d - 1) / 2 := by omega
    refine ⟨_, rfl, _, rfl, _, rfl, _, rfl, d, 1, rfl, rfl, _, 2, rfl, rfl, ⟨by decide, by decide⟩, wy, n, (d - 1) / 2, rfl, hw, hn1, hn2, hd2, fun H1 s1 => ?_⟩
    refine ⟨_, _, rfl, rfl, wide_in hw hn1 hn2 hd2, ?_⟩
    refine ⟨_, rfl, _, rfl, _, rfl, d, 1, rfl, rfl, wy, n, d - 1, rfl, hw, hn1, hn2, by omega, fun H2 s2 => ?_⟩
    refine ⟨_, rfl, _, rfl, _, _, rfl, rfl, _, 1, rfl, rfl, _, rfl, _, _, rfl, rfl, wide_in hw hn1 hn2 (by omega), ?_⟩
    refine ⟨_, rfl, _, rfl, line_small (by show 2 ≤ 16777216; decide), fun t nt => ?_⟩
    exact q t _ ((s1.trans s2).free nt) upd_same ((s1.trans s2).trans (same_new nt))
end
end Fo
namespace Fo
open PySem PySem.Spec PyProof.Rows L2
section
variable {P : Program} {w : World} {K : PySem.W.Frag} {mg : Str → Option Value} {base : Heap}
theorem scFarN : FnScope ["pool", "found", "turn"] ["pool"] (defScope s_law_far) := ⟨rfl, rfl, rfl, by decide +kernel, rfl, by decide +kernel, by decide +kernel⟩
theorem ok_farN {f fT : Addr} {fd fdT : FuncData} {k : Nat} (T : Df K mg "_law_far" s_law_far ["pool"] f fd) (T__law_take : Df K mg "_law_take" s_law_take ["pool", "many"] fT fdT) (G__law_take : FnOk P w K mg base CX0 k fT fdT ["pool", "many"] spTake) (B : Bi mg) : FnOk P w K mg base CX0 (k + 1) f fd ["pool"] spFarN := by
  refine T.F.ok scFarN (fun vs H Q E h => ?_) (fun cdv A outer s H vs Q E hr h => ?_)
  · obtain ⟨d, c, rfl, _⟩ := h
    rfl
  · obtain ⟨d, c, rfl, hP, hc, q⟩ := h
    refine ⟨_, 
      (pss_cons (ps_set (i := 1) scFarN.nd rfl (.inl rfl) pe_int)
      (pss_cons (ps_for PassesOwn.never rfl (pi_range1 (by rfl) B.range (pa_cons pe_int pa_nil)) (pg_name (i := 2) scFarN.nd rfl (.inl rfl))
        (pss_one (ps_set (i := 1) scFarN.nd rfl (.inl rfl) (pe_op op_add (pe_op op_mul (pv 1) (pe_op op_pow pe_int pe_int)) (pe_call G__law_take hr (by rfl) T__law_take.g T__law_take.F.kp T__law_take.b .nil pass0 (pa_cons (pv 0) (pa_cons (pe_op op_pow pe_int pe_int) pa_nil)))))))
      (pss_one (ps_ret (pe_op op_add (pe_op op_mul (pv 1) pe_int) (pe_call G__law_take hr (by rfl) T__law_take.g T__law_take.F.kp T__law_take.b .nil pass0 (pa_cons (pv 0) (pa_cons pe_int pa_nil)))))))), ?_⟩
    refine ⟨4, rfl, by decide, by decide, ?_⟩
    refine for_range (n := 4) (fun i σ H1 => ∃ (v : Int) (y2 : Option V), σ = [some (.ref d), some (.int v), y2] ∧ 0 ≤ v ∧ PoolAt H1 d (c + i) ∧ KeepD d H H1) ⟨0, _, rfl, by decide, hP, KeepD.refl _ _⟩ (fun i σ H1 hi hW => ?_) (fun σ H1 hW => ?_)
    · obtain ⟨v, y2, rfl, v0, hP1, k1⟩ := hW
      refine ⟨_, rfl, 10, 6, rfl, rfl, ⟨by decide, by decide, by decide⟩, v, _, rfl, rfl, .inr ⟨by decide, by decide⟩, _, rfl, 10, 6, rfl, rfl, ⟨by decide, by decide, by decide⟩, d, _, c + i, rfl, hP1, by omega, by decide, by decide, fun u H2 u0 _ hP2 k2 => ?_⟩
      refine ⟨_, u, rfl, rfl, _, _, rfl, ?_, hP2, k1.trans k2⟩
      have : (0 : Int) ≤ v * 10 ^ (6 : Int).toNat := Int.mul_nonneg v0 (by decide)
      omega
    · obtain ⟨v, y2, rfl, v0, hP1, k1⟩ := hW
      refine ⟨_, rfl, v, 100, rfl, rfl, .inr ⟨by decide, by decide⟩, _, rfl, d, 100, c + 4, rfl, hP1, by omega, by decide, by decide, fun u H2 u0 _ hP2 k2 => ?_⟩
      exact ⟨_, u, rfl, rfl, q _ H2 (by omega) hP2 (k1.trans k2)⟩
end
end Fo
namespace Fo
open PySem PySem.Spec PyProof.Rows L2
def spMost : Sp := fun vs H Q _ => ∃ n d : Nat, vs = [.int n, .int d] ∧ 1 ≤ d ∧ d ≤ n ∧ n ≤ 12 ∧ Q (.int (facN n / facN (d - 1))) H
section
variable {P : Program} {w : World} {K : PySem.W.Frag} {mg : Str → Option Value} {base : Heap}
theorem scMost : FnScope ["n", "d"] ["n", "d"] (defScope s_most_by_places) := ⟨rfl, rfl, rfl, by decide +kernel, rfl, by decide +kernel, by decide +kernel⟩
theorem ok_most {f f1 f2 : Addr} {fd d1 d2 : FuncData} {k : Nat} {tk : Tok} (T : Df K mg "most_by_places" s_most_by_places ["n", "d"] f fd) (T_check_size : Df K mg "check_size" s_check_size ["thing", "most"] f1 d1) (T_count_orders : Df K mg "count_orders" s_count_orders ["n"] f2 d2) (G_check_size : FnOk P w K mg base CX0 k f1 d1 ["thing", "most"] spSize) (G_count_orders : FnOk P w K mg base CX0 k f2 d2 ["n"] spFac) (B : Bi mg) (mM : mg "MOST_THINGS" = some (.int 12 tk)) : FnOk P w K mg base CX0 (k + 1) f fd ["n", "d"] spMost := by
  refine T.F.ok scMost (fun vs H Q E h => ?_) (fun cdv A outer s H vs Q E hr h => ?_)
  · obtain ⟨n, d, rfl, _⟩ := h
    rfl
  · obtain ⟨n, d, rfl, h1, h2, h3, q⟩ := h
    refine ⟨_, 
      (pss_cons (ps_expr (pe_call G_check_size hr (by rfl) T_check_size.g T_check_size.F.kp T_check_size.b .nil pass0 (pa_cons (pv 0) (pa_cons (pe_glob (v := .int 12) (by rfl) mM ⟨_, rfl⟩) pa_nil))))
      (pss_cons (ps_expr (pe_call G_check_size hr (by rfl) T_check_size.g T_check_size.F.kp T_check_size.b .nil pass0 (pa_cons (pv 1) (pa_cons (pv 0) pa_nil))))
      (pss_one (ps_ret (pe_op op_fdiv (pe_call G_count_orders hr (by rfl) T_count_orders.g T_count_orders.F.kp T_count_orders.b .nil pass0 (pa_cons (pv 0) pa_nil)) (pe_call G_count_orders hr (by rfl) T_count_orders.g T_count_orders.F.kp T_count_orders.b .nil pass0 (pa_cons (pe_op op_sub (pv 1) pe_int) pa_nil))))))), ?_⟩
    refine ⟨_, rfl, n, 12, rfl, by omega, by omega, ?_⟩
    refine ⟨_, rfl, _, rfl, d, n, rfl, by omega, by omega, ?_⟩
    have hf := fac_small (d - 1) (by omega)
    exact ⟨_, rfl, n, rfl, h3, _, rfl, (d : Int), 1, rfl, rfl, d - 1, by show [V.int ((d : Int) - 1)] = _; rw [show (d : Int) - 1 = ((d - 1 : Nat) : Int) by omega], by omega, _, _, rfl, rfl, ⟨by omega, by omega⟩, q⟩
end
end Fo
namespace Fo
open PySem PySem.Spec PyProof.Rows L2
/-! the bounds that are refused -/
def spPX (cW cN : Addr) : Sp := fun vs H Q E => ∃ (x v u : V) (f d e : PyData) (m : Int), vs = [x, v, .int m, u] ∧ 0 ≤ m ∧ m ≤ 1000 ∧ Dq H x f ∧ Dq H v d ∧ Dq H u e ∧ ((¬ WayD f ∧ E (.ref cW) none H) ∨ (WayD f ∧ ¬ (SizeD m d ∧ FromD 1 e) ∧ E (.ref cN) none H))
def spBX (m : Int) (cW cN : Addr) : Sp := fun vs H Q E => ∃ (x v u : V) (f d e : PyData), vs = [x, v, u] ∧ Dq H x f ∧ Dq H v d ∧ Dq H u e ∧ ((¬ WayD f ∧ E (.ref cW) none H) ∨ (WayD f ∧ ¬ (SizeD m d ∧ FromD 1 e) ∧ E (.ref cN) none H))
def spMX (cN : Addr) : Sp := fun vs H Q E => ∃ (v u : V) (d e : PyData), vs = [v, u] ∧ Dq H v d ∧ Dq H u e ∧ (∀ i : Int, d = .int i → 1 ≤ i → i ≤ 12 → ¬ SizeD i e) ∧ E (.ref cN) none H
section
variable {P : Program} {w : World} {K : PySem.W.Frag} {mg : Str → Option Value} {base : Heap}
theorem scPX : FnScope ["way", "n", "most", "d"] ["way", "n", "most", "d"] (defScope s_check_apart) := ⟨rfl, rfl, rfl, by decide +kernel, rfl, by decide +kernel, by decide +kernel⟩
theorem ok_apX {f f1 f2 f3 cW cN : Addr} {fd d1 d2 d3 : FuncData} {k : Nat} (T : Df K mg "check_apart" s_check_apart ["way", "n", "most", "d"] f fd) (T_check_way : Df K mg "check_way" s_check_way ["thing"] f1 d1) (T_check_size : Df K mg "check_size" s_check_size ["thing", "most"] f2 d2) (T_check_from : Df K mg "check_from" s_check_from ["thing", "least"] f3 d3) (G_check_way : FnOk P w K mg base (L2.CX P w) k f1 d1 ["thing"] (spWayX cW)) (G_check_size : FnOk P w K mg base (L2.CX P w) k f2 d2 ["thing", "most"] (spSizeX cN)) (G_check_from : FnOk P w K mg base (L2.CX P w) k f3 d3 ["thing", "least"] (spFromX cN)) : FnOk P w K mg base (L2.CX P w) (k + 1) f fd ["way", "n", "most", "d"] (spPX cW cN) := by
  refine T.F.okX scPX (fun vs H Q E h => ?_) (fun cdv A outer s H vs Q E hr h => ?_)
  · obtain ⟨x, v, u, f, d, e, m, rfl, _⟩ := h
    rfl
  · obtain ⟨x, v, u, f, d, e, m, rfl, m0, m1, hf, hd, he, q⟩ := h
    refine ⟨_, 
      (pss_cons (ps_expr (pe_callS G_check_way hr (by rfl) T_check_way.g T_check_way.F.kp T_check_way.b (fun σ => passAt (takes_of rfl rfl rfl rfl) σ) (pa_cons (pv 0) pa_nil)))
      (pss_cons (ps_expr (pe_callS G_check_size hr (by rfl) T_check_size.g T_check_size.F.kp T_check_size.b (fun σ => passAt (takes_of rfl rfl rfl rfl) σ) (pa_cons (pv 1) (pa_cons (pv 2) pa_nil))))
      (pss_one (ps_expr (pe_callS G_check_from hr (by rfl) T_check_from.g T_check_from.F.kp T_check_from.b (fun σ => passAt (takes_of rfl rfl rfl rfl) σ) (pa_cons (pv 3) (pa_cons pe_int pa_nil))))))), ?_⟩
    refine ⟨_, rfl, x, f, rfl, hf, fun wy => ?_, fun nw => ?_⟩
    · rcases q with ⟨nw, _⟩ | ⟨_, nn, q⟩
      · exact absurd wy nw
      refine ⟨_, rfl, _, rfl, v, d, m, rfl, hd, m0, m1, fun sz => ?_, fun _ => q⟩
      exact ⟨_, rfl, u, e, 1, rfl, he, by decide, by decide, fun fr => absurd ⟨sz, fr⟩ nn, fun _ => q⟩
    · rcases q with ⟨_, q⟩ | ⟨wy, _⟩
      · exact q
      · exact absurd wy nw
theorem scBX : FnScope ["way", "n", "d", "orders", "most", "wide", "least"] ["way", "n", "d"] (defScope s_bounds_by_rounds) := ⟨rfl, rfl, rfl, by decide +kernel, rfl, by decide +kernel, by decide +kernel⟩
theorem ok_bndX {f f1 f2 f3 cW cN : Addr} {fd d1 d2 d3 : FuncData} {k : Nat} {tM : Tok} (T : Df K mg "bounds_by_rounds" s_bounds_by_rounds ["way", "n", "d"] f fd) (T_check_apart : Df K mg "check_apart" s_check_apart ["way", "n", "most", "d"] f1 d1) (T_count_orders : Df K mg "count_orders" s_count_orders ["n"] f2 d2) (T_known_within : Df K mg "known_within" s_known_within ["way", "n", "r"] f3 d3) (G_check_apart : FnOk P w K mg base (L2.CX P w) k f1 d1 ["way", "n", "most", "d"] (spPX cW cN)) (B : Bi mg) (mM : mg "MOST_THINGS" = some (.int 12 tM)) : FnOk P w K mg base (L2.CX P w) (k + 1) f fd ["way", "n", "d"] (spBX 12 cW cN) := by
  have G_count_orders : FnOk P w K mg base CX0 k f2 d2 ["n"] spNever := fn_never
  have G_known_within : FnOk P w K mg base CX0 k f3 d3 ["way", "n", "r"] spNever := fn_never
  refine T.F.okX scBX (fun vs H Q E h => ?_) (fun cdv A outer s H vs Q E hr h => ?_)
  · obtain ⟨x, v, u, f, d, e, rfl, _⟩ := h
    rfl
  · obtain ⟨x, v, u, f, d, e, rfl, hf, hd, he, q⟩ := h
    refine ⟨_, 
      (pss_cons (ps_expr (pe_callS G_check_apart hr (by rfl) T_check_apart.g T_check_apart.F.kp T_check_apart.b (fun σ => passAt (takes_of rfl rfl rfl rfl) σ) (pa_cons (pv 0) (pa_cons (pv 1) (pa_cons (pe_glob (v := .int 12) (by rfl) mM ⟨_, rfl⟩) (pa_cons (pv 2) pa_nil))))))
      (pss_cons (ps_set (i := 3) scBX.nd rfl (.inl rfl) (pe_call G_count_orders hr (by rfl) T_count_orders.g T_count_orders.F.kp T_count_orders.b .nil pass0 (pa_cons (pv 1) pa_nil)))
      (pss_cons (ps_set (i := 4) scBX.nd rfl (.inl rfl) (pe_op op_fdivW (pv 3) (pe_call G_known_within hr (by rfl) T_known_within.g T_known_within.F.kp T_known_within.b .nil pass0 (pa_cons (pv 0) (pa_cons (pv 1) (pa_cons (pe_op op_fdiv (pe_op op_sub (pv 2) pe_int) pe_int) pa_nil))))))
      (pss_cons (ps_set (i := 5) scBX.nd rfl (.inl rfl) (pe_call G_known_within hr (by rfl) T_known_within.g T_known_within.F.kp T_known_within.b .nil pass0 (pa_cons (pv 0) (pa_cons (pv 1) (pa_cons (pe_op op_sub (pv 2) pe_int) pa_nil)))))
      (pss_cons (ps_set (i := 6) scBX.nd rfl (.inl rfl) (pe_op op_fdivW (pe_op op_sub (pe_op op_add (pv 3) (pv 5)) pe_int) (pv 5)))
      (pss_one (ps_ret (pe_tup (pa_cons (pv 6) (pa_cons (pv 4) pa_nil)))))))))), ?_⟩
    exact ⟨_, rfl, _, rfl, _, rfl, x, v, u, f, d, e, 12, rfl, by decide, by decide, hf, hd, he, q⟩
theorem scMX : FnScope ["n", "d"] ["n", "d"] (defScope s_most_by_places) := ⟨rfl, rfl, rfl, by decide +kernel, rfl, by decide +kernel, by decide +kernel⟩
theorem ok_mstX {f f1 f2 cN : Addr} {fd d1 d2 : FuncData} {k : Nat} {tM : Tok} (T : Df K mg "most_by_places" s_most_by_places ["n", "d"] f fd) (T_check_size : Df K mg "check_size" s_check_size ["thing", "most"] f1 d1) (T_count_orders : Df K mg "count_orders" s_count_orders ["n"] f2 d2) (G_check_size : FnOk P w K mg base (L2.CX P w) k f1 d1 ["thing", "most"] (spSizeX cN)) (B : Bi mg) (mM : mg "MOST_THINGS" = some (.int 12 tM)) : FnOk P w K mg base (L2.CX P w) (k + 1) f fd ["n", "d"] (spMX cN) := by
  have G_count_orders : FnOk P w K mg base CX0 k f2 d2 ["n"] spNever := fn_never
  refine T.F.okX scMX (fun vs H Q E h => ?_) (fun cdv A outer s H vs Q E hr h => ?_)
  · obtain ⟨v, u, d, e, rfl, _⟩ := h
    rfl
  · obtain ⟨v, u, d, e, rfl, hd, he, no, q⟩ := h
    refine ⟨_, 
      (pss_cons (ps_expr (pe_callS G_check_size hr (by rfl) T_check_size.g T_check_size.F.kp T_check_size.b (fun σ => passAt (takes_of rfl rfl rfl rfl) σ) (pa_cons (pv 0) (pa_cons (pe_glob (v := .int 12) (by rfl) mM ⟨_, rfl⟩) pa_nil))))
      (pss_cons (ps_expr (pe_callS G_check_size hr (by rfl) T_check_size.g T_check_size.F.kp T_check_size.b (fun σ => passAt (takes_of rfl rfl rfl rfl) σ) (pa_cons (pv 1) (pa_cons (pv 0) pa_nil))))
      (pss_one (ps_ret (pe_op op_fdiv (pe_call G_count_orders hr (by rfl) T_count_orders.g T_count_orders.F.kp T_count_orders.b .nil pass0 (pa_cons (pv 0) pa_nil)) (pe_call G_count_orders hr (by rfl) T_count_orders.g T_count_orders.F.kp T_count_orders.b .nil pass0 (pa_cons (pe_op op_sub (pv 1) pe_int) pa_nil))))))), ?_⟩
    refine ⟨_, rfl, v, d, 12, rfl, hd, by decide, by decide, fun sz => ?_, fun _ => q⟩
    obtain ⟨i, rfl, i1, i2⟩ := sz
    cases hd
    exact ⟨_, rfl, _, rfl, u, e, i, rfl, he, by omega, by omega, fun z => absurd z (no i rfl i1 i2), fun _ => q⟩
theorem scBeX : FnScope ["way", "n", "d", "bounds", "most", "word", "bound"] ["way", "n", "d"] (defScope s_best_bound) := ⟨rfl, rfl, rfl, by decide +kernel, rfl, by decide +kernel, by decide +kernel⟩
theorem ok_bestX {f f1 f2 f3 f4 cW cN : Addr} {fd d1 d2 d3 d4 : FuncData} {k : Nat} {tI tL : Tok} (T : Df K mg "best_bound" s_best_bound ["way", "n", "d"] f fd) (T_check_apart : Df K mg "check_apart" s_check_apart ["way", "n", "most", "d"] f1 d1) (T_bounds_by_rounds : Df K mg "bounds_by_rounds" s_bounds_by_rounds ["way", "n", "d"] f2 d2) (T_most_by_places : Df K mg "most_by_places" s_most_by_places ["n", "d"] f3 d3) (T_first_parting : Df K mg "first_parting" s_first_parting ["way", "n", "d"] f4 d4) (G_check_apart : FnOk P w K mg base (L2.CX P w) k f1 d1 ["way", "n", "most", "d"] (spPX cW cN)) (G_bounds_by_rounds : FnOk P w K mg base (L2.CX P w) k f2 d2 ["way", "n", "d"] (spBX 12 cW cN)) (G_most_by_places : FnOk P w K mg base (L2.CX P w) k f3 d3 ["n", "d"] (spMX cN)) (B : Bi mg) (mI : mg "MOST_LISTED" = some (.int 6 tI)) (mL : mg "MOST_PARTED" = some (.int 5 tL)) : FnOk P w K mg base (L2.CX P w) (k + 1) f fd ["way", "n", "d"] (spBX 6 cW cN) := by
  have G_first_parting : FnOk P w K mg base CX0 k f4 d4 ["way", "n", "d"] spNever := fn_never
  refine T.F.okX scBeX (fun vs H Q E h => ?_) (fun cdv A outer s H vs Q E hr h => ?_)
  · obtain ⟨x, v, u, f, d, e, rfl, _⟩ := h
    rfl
  · obtain ⟨x, v, u, f, d, e, rfl, hf, hd, he, q⟩ := h
    refine ⟨_, 
      (pss_cons (ps_expr (pe_callS G_check_apart hr (by rfl) T_check_apart.g T_check_apart.F.kp T_check_apart.b (fun σ => passAt (takes_of rfl rfl rfl rfl) σ) (pa_cons (pv 0) (pa_cons (pv 1) (pa_cons (pe_glob (v := .int 6) (by rfl) mI ⟨_, rfl⟩) (pa_cons (pv 2) pa_nil))))))
      (pss_cons (ps_set (i := 3) scBeX.nd rfl (.inl rfl) (pe_disp (pps_cons pe_str (pe_ix ix_tup (pe_callS G_bounds_by_rounds hr (by rfl) T_bounds_by_rounds.g T_bounds_by_rounds.F.kp T_bounds_by_rounds.b (fun σ => passAt (takes_of rfl rfl rfl rfl) σ) (pa_cons (pv 0) (pa_cons (pv 1) (pa_cons (pv 2) pa_nil)))) pe_int (fun _ _ => rfl)) pps_nil) (by rfl) (by rfl) (fun z => by cases z) (by decide)))
      (Evl.pss_cut (ps_if (PW.pt (pw_and (pt_cmpR op_eq (pv 0) pe_str (nomark _)) (pw_and1 (pt_cmpR op_le (pv 2) (pv 1) (nomark _)))))
        (pss_one (ps_dput (hu_of hr) (pv 3) pe_str (pe_callS G_most_by_places hr (by rfl) T_most_by_places.g T_most_by_places.F.kp T_most_by_places.b (fun σ => passAt (takes_of rfl rfl rfl rfl) σ) (pa_cons (pv 1) (pa_cons (pv 2) pa_nil))) (by rfl)))
        pss_nil)
      (Evl.pss_cut (ps_if (pt_cmpR op_le (pv 1) (pe_glob (v := .int 5) (by rfl) mL ⟨_, rfl⟩) (nomark _))
        (pss_one (ps_dput (hu_of hr) (pv 3) pe_str (pe_callB call_len_seq (by rfl) B.len PySem.boot_len (pa_cons (pe_call G_first_parting hr (by rfl) T_first_parting.g T_first_parting.F.kp T_first_parting.b .nil pass0 (pa_cons (pv 0) (pa_cons (pv 1) (pa_cons (pv 2) pa_nil)))) pa_nil)) (by rfl)))
        pss_nil)
      (pss_cons (ps_set (i := 4) scBeX.nd rfl (.inr rfl) (pe_minVals rfl (by rfl) B.min (pv 3)))
      (pss_one (ps_ret (pe_tup (pa_cons (pv 4) (pa_cons (pe_lock (pe_lc (own := [("word", 5), ("bound", 6)]) (g := (gTup K 2 (gCons (gName 5) (gCons (gName 6) gNil)))) (tt := (tTest (tOp rEq (tVar 6) (tVar 4)))) (te := (tVar 5)) rfl scBeX.nd (pi_items (pv 3)) (blkOk_by (N := ["way", "n", "d", "bounds", "most", "word", "bound"]) (sc := defScope s_best_bound) (by decide +kernel)) (fun _ _ _ _ _ => (pg_tup (by rfl) (pgs_cons (pg_name (i := 5) scBeX.nd rfl (.inl rfl)) (pgs_cons (pg_name (i := 6) scBeX.nd rfl (.inl rfl)) pgs_nil)))) (fun _ _ _ _ _ => (pts_one (pt_cmpR op_eq (pv 6) (pv 4) (nomark _)))) (fun _ _ _ _ _ => (pv 5)))) pa_nil)))))))))), ?_⟩
    exact ⟨_, rfl, _, rfl, _, rfl, x, v, u, f, d, e, 6, rfl, by decide, by decide, hf, hd, he, q⟩
end
end Fo
namespace Fo
open PySem PySem.Spec PyProof.Rows L2
/-! isinstance of the error that the suite holds, whatever class it has -/
def rIsP (K : PySem.W.Frag) (a : Addr) (cls : Value) (d : Option Addr) : List V → Hp → VK → Prop := fun xs H Q => ∃ (C : Addr) (c : V) (u : Value) (b : Bool), cls = .ref C ∧ d = none ∧ ExcC K C ∧ xs = [.ref a, c] ∧ ClsV c u ∧ PySem.W.kitOne K (.ref C) u = some b ∧ Q (.bl b) H
def rIsPT (K : PySem.W.Frag) (a : Addr) (cls : Value) (d : Option Addr) : List V → Hp → VK → Prop := fun xs H Q => ∃ (C : Addr) (tp : Addr) (cs : List V) (us : List Value) (b : Bool), cls = .ref C ∧ d = none ∧ ExcC K C ∧ xs = [.ref a, .ref tp] ∧ H tp = some (.tup cs) ∧ Paired ClsV cs us ∧ PySem.W.kitAny K (.ref C) us = some b ∧ Q (.bl b) H
theorem inst_pin {X : Cx} {pins pn : List (Addr × Obj)} {σ : L2.St} {H : Hp} {s : Shared} {a C : Addr} {oe : Obj} (I : Inv (X.suite a ((a, oe) :: pn)) pins σ H s) (hz : Zc (.ref C) none oe) (hf : ∃ vs, oe.data = .fields vs) : PySem.W.InstAt s.heap a oe C none := by
  obtain ⟨hget, _⟩ := I.pin (a, oe) (List.mem_append.mpr (.inl List.mem_cons_self))
  obtain ⟨vs, hv⟩ := hf
  obtain ⟨oc, od, oda, osl⟩ := oe
  obtain ⟨h1, h2⟩ := hz
  dsimp only at h1 h2 hv
  subst h1 h2 hv
  exact ⟨hget, rfl, rfl, trivial⟩
theorem call_isP {X : Cx} {a : Addr} {cls : Value} {d : Option Addr} {oe : Obj} {pn : List (Addr × Obj)} (hz : Zc cls d oe) (hf : ∃ vs, oe.data = .fields vs) : CallR (X.suite a ((a, oe) :: pn)) (.builtin "isinstance") (rIsP X.K a cls d) := by
  intro pins s σ H xs us Q I r h
  obtain ⟨C, c, u, b, rfl, rfl, ec, rfl, k, e, q⟩ := h
  obtain ⟨w1, w2, rfl, r1, r2⟩ := vals2 r
  obtain rfl := k.eq r2
  cases (show w1 = Value.ref a from r1)
  exact PySem.W.kia_one (PySem.W.handS_kitx_exc ec.hg ec.hk ec.hs ec.hd ec.ha ec.hn ec.ht ec.hm) I.kIn (inst_pin I hz hf) e (fun z => nomatch z) fun tk => ⟨.bl b, H, I.tok tk, rfl, q⟩
theorem call_isPT {X : Cx} {a : Addr} {cls : Value} {d : Option Addr} {oe : Obj} {pn : List (Addr × Obj)} (hz : Zc cls d oe) (hf : ∃ vs, oe.data = .fields vs) : CallR (X.suite a ((a, oe) :: pn)) (.builtin "isinstance") (rIsPT X.K a cls d) := by
  intro pins s σ H xs us Q I r h
  obtain ⟨C, tp, cs, ws, b, rfl, rfl, ec, rfl, hT, k, e, q⟩ := h
  obtain ⟨w1, w2, rfl, r1, r2⟩ := vals2 r
  cases (show w1 = Value.ref a from r1)
  cases (show w2 = Value.ref tp from r2)
  obtain ⟨_, its, rv, ob, h1, h2, n, h3⟩ := (show ObjOk _ _ H s.heap tp (.tup cs) from I.hok tp _ hT)
  obtain rfl := ClsV.all k rv
  obtain ⟨oc, od, dt, sl⟩ := ob
  simp only at h2 h3
  subst h2 h3
  exact PySem.W.kia_tup (PySem.W.handS_kitx_exc ec.hg ec.hk ec.hs ec.hd ec.ha ec.hn ec.ht ec.hm) I.kIn (inst_pin I hz hf) h1 e (fun z => nomatch z) fun tk => ⟨.bl b, H, I.tok tk, rfl, q⟩
theorem ix_listP {X : Cx} {a : Addr} {pn : List (Addr × Obj)} : IxR (X.suite a pn) (rIxL X.K) := ix_list
/-- none of several classes -/
theorem any_no {K : PySem.W.Frag} {t : Value} : ∀ {us : List Value}, (∀ u ∈ us, PySem.W.kitOne K t u = some false) → PySem.W.kitAny K t us = some false
  | [], _ => rfl
  | u :: r, h => by
    unfold PySem.W.kitAny
    rw [h u List.mem_cons_self]
    exact any_no fun x hx => h x (List.mem_cons_of_mem _ hx)
theorem any_yes {K : PySem.W.Frag} {t u : Value} : ∀ {us : List Value}, (∀ u ∈ us, ∃ b, PySem.W.kitOne K t u = some b) → u ∈ us → PySem.W.kitOne K t u = some true → PySem.W.kitAny K t us = some true
  | [], _, h, _ => absurd h List.not_mem_nil
  | w :: r, h, hu, e => by
    unfold PySem.W.kitAny
    obtain ⟨b, hb⟩ := h w List.mem_cons_self
    rw [hb]
    cases b with
    | true => rfl
    | false =>
      rcases List.mem_cons.mp hu with rfl | hu
      · rw [hb] at e
        cases e
      · exact any_yes (fun x hx => h x (List.mem_cons_of_mem _ hx)) hu e
end Fo
namespace Fo
open PySem PySem.Spec PyProof.Rows L2
/-- C is the i-th of the nine error classes, and none of the others -/
structure KdY (K : PySem.W.Frag) (c : Nat → Addr) (C : Addr) (i : Nat) : Prop where
  ec : ExcC K C
  ks : ∀ j, j < 9 → PySem.W.kitOne K (.ref C) (.ref (c j)) = some (decide (j = i))
  ve : PySem.W.kitOne K (.ref C) (.type "ValueError") = some true
  lt : i < 9
def cls9 (a0 a1 a2 a3 a4 a5 a6 a7 a8 : Addr) : Nat → Addr
  | 0 => a0
  | 1 => a1
  | 2 => a2
  | 3 => a3
  | 4 => a4
  | 5 => a5
  | 6 => a6
  | 7 => a7
  | _ => a8
theorem kd_mk9 {K : PySem.W.Frag} {C a0 a1 a2 a3 a4 a5 a6 a7 a8 : Addr} {i : Nat} (ec : ExcC K C) (h0 : PySem.W.kitOne K (.ref C) (.ref a0) = some (decide (0 = i))) (h1 : PySem.W.kitOne K (.ref C) (.ref a1) = some (decide (1 = i))) (h2 : PySem.W.kitOne K (.ref C) (.ref a2) = some (decide (2 = i))) (h3 : PySem.W.kitOne K (.ref C) (.ref a3) = some (decide (3 = i))) (h4 : PySem.W.kitOne K (.ref C) (.ref a4) = some (decide (4 = i))) (h5 : PySem.W.kitOne K (.ref C) (.ref a5) = some (decide (5 = i))) (h6 : PySem.W.kitOne K (.ref C) (.ref a6) = some (decide (6 = i))) (h7 : PySem.W.kitOne K (.ref C) (.ref a7) = some (decide (7 = i))) (h8 : PySem.W.kitOne K (.ref C) (.ref a8) = some (decide (8 = i))) (ve : PySem.W.kitOne K (.ref C) (.type "ValueError") = some true) (lt : i < 9) : KdY K (cls9 a0 a1 a2 a3 a4 a5 a6 a7 a8) C i := by
  refine ⟨ec, fun j hj => ?_, ve, lt⟩
  rcases (show j = 0 ∨ j = 1 ∨ j = 2 ∨ j = 3 ∨ j = 4 ∨ j = 5 ∨ j = 6 ∨ j = 7 ∨ j = 8 by omega) with rfl | rfl | rfl | rfl | rfl | rfl | rfl | rfl | rfl
  · exact h0
  · exact h1
  · exact h2
  · exact h3
  · exact h4
  · exact h5
  · exact h6
  · exact h7
  · exact h8
def spKindsY (K : PySem.W.Frag) (c : Nat → Addr) : Sp := fun vs H Q _ => ∃ (a C : Addr) (i : Nat), vs = [.ref a, .int i] ∧ H a = some (ExV (.ref C) none a) ∧ KdY K c C i ∧ ∀ H', Same H H' → Q (.bl true) H'
abbrev dB (bs : List Bool) : PyData := .list (bs.map PyData.bool)
theorem dp_bools {K : PySem.W.Frag} {H : Hp} : ∀ bs : List Bool, DpAll K H (bs.map V.bl) (bs.map PyData.bool)
  | [] => .nil
  | b :: r => .cons (.bl b) (dp_bools r)
theorem dp_boolL {K : PySem.W.Frag} {H : Hp} {a : Addr} {bs : List Bool} (h : H a = some (.lst (bs.map V.bl))) : Dp K H (.ref a) (dB bs) := .lst (SqL.of h) (dp_bools bs)
theorem lay_bools : ∀ bs : List Bool, PyData.canLayAll0 (bs.map PyData.bool) = true
  | [] => rfl
  | b :: r => by
    show (PyData.canLay0 (.bool b) && PyData.canLayAll0 (r.map PyData.bool)) = true
    rw [lay_bools r]
    rfl
theorem depth_bools : ∀ bs : List Bool, PyData.depthAll (bs.map PyData.bool) = 0
  | [] => by simp [PyData.depthAll]
  | b :: r => by
    show PyData.depthAll (.bool b :: r.map PyData.bool) = 0
    rw [PyData.depthAll, depth_bools r]
    simp [PyData.depth]
theorem shaped_bools (bs : List Bool) : SeqAt.shaped (dB bs) = true := by
  unfold SeqAt.shaped
  rw [Bool.and_eq_true_iff]
  constructor
  · rw [PyData.canLay0]
    exact lay_bools bs
  · apply decide_eq_true
    rw [PyData.depth, depth_bools]
    decide
theorem eqv_bools (bs : List Bool) : PyData.eqv (dB bs) (dB bs) = true := SeqAt.eqv_refl _ (SeqAt.canLay_of_shaped (shaped_bools bs))
/-- bools and a new list of them -/
theorem nb (bs : List Bool) {H : Hp} {p : Addr} (np : H p = none) : Same H (upd H p (.lst (bs.map V.bl))) ∧ (upd H p (.lst (bs.map V.bl))) p = some (.lst (bs.map V.bl)) := ⟨same_new np, upd_same⟩
section
variable {P : Program} {w : World} {K : PySem.W.Frag} {mg : Str → Option Value} {base : Heap}
end
end Fo
namespace Fo
open PySem PySem.Spec PyProof.Rows L2
/-- the place of a kind among the four that are looked for -/
def four (j : Nat) : Int := if j = 1 then 1 else 3
def spIs61 (K : PySem.W.Frag) (c : Nat → Addr) : Sp := fun vs H Q _ => ∃ (a : Addr) (j : Nat), vs = [.ref a, .int (four j)] ∧ (j = 1 ∨ j = 4) ∧ H a = some (ExV (.ref (c j)) none a) ∧ ∀ H', Same H H' → Q (.bl true) H'
/-- what is due: i the kind, f the way, d the things, e the distance -/
def Due61 (i : Int) (f d e : PyData) (j : Nat) : Prop :=
  (i = 0 ∧ ((j = 1 ∧ ¬ WayD f) ∨ (j = 4 ∧ WayD f ∧ ¬ (SizeD 12 d ∧ FromD 1 e)))) ∨
  (i = 1 ∧ ((j = 1 ∧ ¬ WayD f) ∨ (j = 4 ∧ WayD f ∧ ¬ (SizeD 6 d ∧ FromD 1 e)))) ∨
  (i = 2 ∧ j = 4 ∧ ∀ z : Int, d = .int z → 1 ≤ z → z ≤ 12 → ¬ SizeD z e)
theorem due61_lt {i : Int} {f d e : PyData} {j : Nat} (h : Due61 i f d e j) : j = 1 ∨ j = 4 := by
  unfold Due61 at h
  omega
def spCau61 (c : Nat → Addr) : Sp := fun vs H Q _ => ∃ (i : Int) (j : Nat) (x v u : V) (f d e : PyData), vs = [.int i, x, v, u] ∧ Dq H x f ∧ Dq H v d ∧ Dq H u e ∧ Due61 i f d e j ∧ ∀ a H', H' a = some (ExV (.ref (c j)) none a) → Same H H' → Q (.ref a) H'
section
variable {P : Program} {w : World} {K : PySem.W.Frag} {mg : Str → Option Value} {base : Heap}
theorem scCau61 : FnScope ["kind", "way", "n", "d", "caught", "e"] ["kind", "way", "n", "d"] (defScope s_law_caught) := ⟨rfl, rfl, rfl, by decide +kernel, rfl, by decide +kernel, by decide +kernel⟩
set_option maxHeartbeats 2000000 in
theorem ok_cau61 {f f1 f2 f3 cE : Addr} {c : Nat → Addr} {fd d1 d2 d3 : FuncData} {k : Nat} (T : Df K mg "_law_caught" s_law_caught ["kind", "way", "n", "d"] f fd) (T_bounds_by_rounds : Df K mg "bounds_by_rounds" s_bounds_by_rounds ["way", "n", "d"] f1 d1) (T_best_bound : Df K mg "best_bound" s_best_bound ["way", "n", "d"] f2 d2) (T_most_by_places : Df K mg "most_by_places" s_most_by_places ["n", "d"] f3 d3) (G_bounds_by_rounds : FnOk P w K mg base (L2.CX P w) k f1 d1 ["way", "n", "d"] (spBX 12 (c 1) (c 4))) (G_best_bound : FnOk P w K mg base (L2.CX P w) k f2 d2 ["way", "n", "d"] (spBX 6 (c 1) (c 4))) (G_most_by_places : FnOk P w K mg base (L2.CX P w) k f3 d3 ["n", "d"] (spMX (c 4)))
    (g_OrderError : mg "OrderError" = some (.ref cE)) (xm : ∀ j, j = 1 ∨ j = 4 → PySem.W.exmOne K (.ref (c j)) (.ref cE) = some true) : FnOk P w K mg base CX0 (k + 1) f fd ["kind", "way", "n", "d"] (spCau61 c) := by
  refine T.F.ok scCau61 (fun vs H Q E h => ?_) (fun cdv A outer s H vs Q E hr h => ?_)
  · obtain ⟨i, j, x, v, u, f, d, e, rfl, _⟩ := h
    rfl
  · obtain ⟨i, j, x, v, u, f, d, e, rfl, hf, hd, he, due, q⟩ := h
    refine ⟨_, 
      (pss_cons (ps_set (i := 4) scCau61.nd rfl (.inl rfl) pe_non)
      (pss_cons (ps_try_k (i := 5) rfl rfl rfl scCau61.nd rfl rfl ⟨by rfl, by decide, .inl g_OrderError⟩ takes0 (fun W pn xe tk po =>
        (pss_one (ps_if (pt_cmpR op_eq (pv 0) pe_int (nomark _))
          (pss_one (ps_expr (pe_callS G_bounds_by_rounds hr (by rfl) T_bounds_by_rounds.g T_bounds_by_rounds.F.kp T_bounds_by_rounds.b (fun σ => passAt tk σ) (pa_cons (pv 1) (pa_cons (pv 2) (pa_cons (pv 3) pa_nil))))))
          (pss_one (ps_if (pt_cmpR op_eq (pv 0) pe_int (nomark _))
            (pss_one (ps_expr (pe_callS G_best_bound hr (by rfl) T_best_bound.g T_best_bound.F.kp T_best_bound.b (fun σ => passAt tk σ) (pa_cons (pv 1) (pa_cons (pv 2) (pa_cons (pv 3) pa_nil))))))
            (pss_one (ps_expr (pe_callS G_most_by_places hr (by rfl) T_most_by_places.g T_most_by_places.F.kp T_most_by_places.b (fun σ => passAt tk σ) (pa_cons (pv 2) (pa_cons (pv 3) pa_nil)))))))))) (fun a oe cls d pn hz hf =>
        (pss_one (ps_set (i := 4) scCau61.nd rfl (.inl rfl) (pv 5)))))
      (pss_one (ps_ret (pv 4))))), ?_⟩
    refine ⟨_, rfl, rfl, _, rfl, ?_⟩
    rcases due with ⟨rfl, h⟩ | ⟨rfl, h⟩ | ⟨rfl, rfl, h⟩
    · refine iteT ⟨_, rfl, _, rfl, _, rfl, x, v, u, f, d, e, rfl, hf, hd, he, ?_⟩
      rcases h with ⟨rfl, nw⟩ | ⟨rfl, wy, nn⟩
      · exact .inl ⟨nw, true, xm 1 (by decide), fun _ a na => ⟨_, rfl, _, rfl, q a _ upd_same (same_new na)⟩, fun z => absurd z.symm Bool.false_ne_true⟩
      · exact .inr ⟨wy, nn, true, xm 4 (by decide), fun _ a na => ⟨_, rfl, _, rfl, q a _ upd_same (same_new na)⟩, fun z => absurd z.symm Bool.false_ne_true⟩
    · refine iteF ⟨_, rfl, rfl, _, rfl, iteT ⟨_, rfl, _, rfl, _, rfl, x, v, u, f, d, e, rfl, hf, hd, he, ?_⟩⟩
      rcases h with ⟨rfl, nw⟩ | ⟨rfl, wy, nn⟩
      · exact .inl ⟨nw, true, xm 1 (by decide), fun _ a na => ⟨_, rfl, _, rfl, q a _ upd_same (same_new na)⟩, fun z => absurd z.symm Bool.false_ne_true⟩
      · exact .inr ⟨wy, nn, true, xm 4 (by decide), fun _ a na => ⟨_, rfl, _, rfl, q a _ upd_same (same_new na)⟩, fun z => absurd z.symm Bool.false_ne_true⟩
    · refine iteF ⟨_, rfl, rfl, _, rfl, iteF ⟨_, rfl, _, rfl, v, u, d, e, rfl, hd, he, h, ?_⟩⟩
      exact ⟨true, xm 4 (by decide), fun _ a na => ⟨_, rfl, _, rfl, q a _ upd_same (same_new na)⟩, fun z => absurd z.symm Bool.false_ne_true⟩
theorem scIs61 : FnScope ["caught", "due", "kinds", "k"] ["caught", "due"] (defScope s_law_is) := ⟨rfl, rfl, rfl, by decide +kernel, rfl, by decide +kernel, by decide +kernel⟩
set_option maxHeartbeats 4000000 in
theorem ok_is61 {f cE : Addr} {fd : FuncData} {k : Nat} {c : Nat → Addr} (T : Df K mg "_law_is" s_law_is ["caught", "due"] f fd) (kd : ∀ j, j = 1 ∨ j = 4 → KdY K c (c j) j) (oe : ∀ j, j = 1 ∨ j = 4 → PySem.W.kitOne K (.ref (c j)) (.ref cE) = some true) (g_OrderError : mg "OrderError" = some (.ref cE)) (g_NoOrder : mg "NoOrder" = some (.ref (c 0))) (g_NoWay : mg "NoWay" = some (.ref (c 1))) (g_NoFit : mg "NoFit" = some (.ref (c 2))) (g_NoPlace : mg "NoPlace" = some (.ref (c 3))) (g_NoNumber : mg "NoNumber" = some (.ref (c 4))) (g_TooMany : mg "TooMany" = some (.ref (c 5))) (g_NoText : mg "NoText" = some (.ref (c 6))) (g_NoName : mg "NoName" = some (.ref (c 7))) (g_NoRow : mg "NoRow" = some (.ref (c 8))) (B : Bi mg) : FnOk P w K mg base CX0 (k + 1) f fd ["caught", "due"] (spIs61 K c) := by
  refine T.F.ok scIs61 (fun vs H Q E h => ?_) (fun cdv A outer s H vs Q E hr h => ?_)
  · obtain ⟨a, j, rfl, _⟩ := h
    rfl
  · obtain ⟨a, j, rfl, hj, ha, q⟩ := h
    have kj := kd j hj
    refine ⟨_, 
      (pss_cons (ps_set (i := 2) scIs61.nd rfl (.inl rfl) (pe_lst (pa_cons (pe_callB call_isZ (by rfl) B.isinstance (by decide +kernel) (pa_cons (pv 0) (pa_cons (pe_glob (v := .ref (c 0)) (by rfl) g_NoOrder rfl) pa_nil))) (pa_cons (pe_callB call_isZ (by rfl) B.isinstance (by decide +kernel) (pa_cons (pv 0) (pa_cons (pe_glob (v := .ref (c 1)) (by rfl) g_NoWay rfl) pa_nil))) (pa_cons (pe_callB call_isZ (by rfl) B.isinstance (by decide +kernel) (pa_cons (pv 0) (pa_cons (pe_glob (v := .ref (c 2)) (by rfl) g_NoFit rfl) pa_nil))) pa_nil)))))
      (pss_cons (ps_expr (pe_bm PySem.F.plainAttrs_list PySem.F.slot_list_append PySem.F.type_list_append mt_append (pv 2) (pa_cons (pe_callB call_isZ (by rfl) B.isinstance (by decide +kernel) (pa_cons (pv 0) (pa_cons (pe_glob (v := .ref (c 4)) (by rfl) g_NoNumber rfl) pa_nil))) pa_nil)))
      (pss_cons (ps_if (PW.pt (pw_or (pt_not (pt_val (pe_callB call_isZ (by rfl) B.isinstance (by decide +kernel) (pa_cons (pv 0) (pa_cons (pe_glob (v := .ref cE) (by rfl) g_OrderError rfl) pa_nil))))) (pw_or1 (pt_not (pt_val (pe_callB call_isZ (by rfl) B.isinstance (by decide +kernel) (pa_cons (pv 0) (pa_cons (pe_bltn (v := .ty "ValueError") (by rfl) B.ValueError (by decide +kernel) rfl) pa_nil))))))))
        (pss_one (ps_ret pe_bl))
        pss_nil)
      (pss_cons (ps_if (pt_val (pe_callB call_isZT (by rfl) B.isinstance (by decide +kernel) (pa_cons (pv 0) (pa_cons (pe_tup (pa_cons (pe_glob (v := .ref (c 7)) (by rfl) g_NoName rfl) (pa_cons (pe_glob (v := .ref (c 3)) (by rfl) g_NoPlace rfl) (pa_cons (pe_glob (v := .ref (c 8)) (by rfl) g_NoRow rfl) (pa_cons (pe_glob (v := .ref (c 6)) (by rfl) g_NoText rfl) (pa_cons (pe_glob (v := .ref (c 5)) (by rfl) g_TooMany rfl) pa_nil)))))) pa_nil))))
        (pss_one (ps_ret pe_bl))
        pss_nil)
      (pss_one (ps_ret (pe_cmpR (op_eqD hr.units) (pv 2) (pe_lc (own := [("k", 3)]) (g := (gName 3)) (tt := tYes) (te := (tOp rEq (tVar 3) (tVar 1))) rfl scIs61.nd (pi_range1 (by rfl) B.range (pa_cons pe_int pa_nil)) (blkOk_by (N := ["caught", "due", "kinds", "k"]) (sc := defScope s_law_is) (by decide +kernel)) (fun _ _ _ _ _ => (pg_name (i := 3) scIs61.nd rfl (.inl rfl))) (fun _ _ _ _ _ => pts_nil) (fun _ _ _ _ _ => (pe_cmpR op_eq (pv 3) (pv 1) (nomark _)))) (nomark _)))))))), ?_⟩
    refine ⟨_, rfl, _, _, _, _, _, rfl, .own _, .exc ha kj.ec, kj.ks 0 (by decide), ?_⟩
    refine ⟨_, rfl, _, _, _, _, _, rfl, .own _, .exc ha kj.ec, kj.ks 1 (by decide), ?_⟩
    refine ⟨_, rfl, _, _, _, _, _, rfl, .own _, .exc ha kj.ec, kj.ks 2 (by decide), ?_⟩
    refine ⟨line_small (by show 3 ≤ 16777216; decide), fun p1 np1 => ?_⟩
    obtain ⟨s1, h1⟩ := nb [decide (0 = j), decide (1 = j), decide (2 = j)] np1
    have ha1 := s1 _ _ ha
    refine ⟨_, rfl, .inl ⟨rfl, _, SqL.of h1⟩, _, rfl, _, _, _, _, _, rfl, .own _, .exc ha1 kj.ec, kj.ks 4 (by decide), p1, _, _, rfl, rfl, h1, line_lt (by show 3 < 16777216; decide), ?_⟩
    have s2 : Same H (upd (upd H p1 (.lst [.bl (decide (0 = j)), .bl (decide (1 = j)), .bl (decide (2 = j))])) p1 (.lst ([decide (0 = j), decide (1 = j), decide (2 = j)].map V.bl ++ [.bl (decide (4 = j))]))) := fun u o e => by rw [upd_ne (ne_of_none e np1)]; exact s1 u o e
    have h2 : (upd (upd H p1 (.lst [.bl (decide (0 = j)), .bl (decide (1 = j)), .bl (decide (2 = j))])) p1 (.lst ([decide (0 = j), decide (1 = j), decide (2 = j)].map V.bl ++ [.bl (decide (4 = j))]))) p1 = some (.lst ([decide (0 = j), decide (1 = j), decide (2 = j), decide (4 = j)].map V.bl)) := upd_same
    generalize upd (upd H p1 (.lst [.bl (decide (0 = j)), .bl (decide (1 = j)), .bl (decide (2 = j))])) p1 (.lst ([decide (0 = j), decide (1 = j), decide (2 = j)].map V.bl ++ [.bl (decide (4 = j))])) = H2 at s2 h2 ⊢
    have ha2 := s2 _ _ ha
    refine ⟨_, rfl, _, _, _, _, _, rfl, .own _, .exc ha2 kj.ec, oe j hj, _, rfl, iteF ?_⟩
    refine ⟨_, rfl, _, _, _, _, _, rfl, .ty _, .exc ha2 kj.ec, kj.ve, _, rfl, iteF ?_⟩
    have no : ∀ i, i < 9 → i ≠ j → PySem.W.kitOne K (.ref (c j)) (.ref (c i)) = some false := fun i hi n => (kj.ks i hi).trans (congrArg some (decide_eq_false n))
    refine ⟨_, rfl, line_small (by show 5 ≤ 16777216; decide), fun tp ntp => ?_⟩
    have s3 := same_new (o := .tup [.ref (c 7), .ref (c 3), .ref (c 8), .ref (c 6), .ref (c 5)]) ntp
    refine ⟨_, tp, _, _, _, false, rfl, upd_same, .cons (.own _) (.cons (.own _) (.cons (.own _) (.cons (.own _) (.cons (.own _) .nil)))), .exc (s3 _ _ ha2) kj.ec, any_no fun u hu => ?_, _, rfl, iteF ?_⟩
    · simp only [List.mem_cons, List.not_mem_nil, or_false] at hu
      rcases hu with rfl | rfl | rfl | rfl | rfl
      · exact no 7 (by decide) (by omega)
      · exact no 3 (by decide) (by omega)
      · exact no 8 (by decide) (by omega)
      · exact no 6 (by decide) (by omega)
      · exact no 5 (by decide) (by omega)
    have h3 := s3 _ _ h2
    have s13 := s2.trans s3
    generalize upd H2 tp (.tup [.ref (c 7), .ref (c 3), .ref (c 8), .ref (c 6), .ref (c 5)]) = H3 at s13 h3 ⊢
    refine ⟨_, rfl, 4, rfl, by decide, by decide, fun D nD => ?_⟩
    refine lc_range (n := 4) (fun m H8 => H8 D = some (.lst (((List.range m).map fun (i : Nat) => decide (V.int (0 + (i : Int)) = V.int (four j))).map V.bl)) ∧ Same H3 H8) ⟨upd_same, same_new nD⟩ (fun m H8 hm hP => ?_) (fun H8 hP => ?_)
    · obtain ⟨hD3, s4⟩ := hP
      refine ⟨rfl, _, rfl, _, rfl, rfl, _, hD3, line_lt (by rw [List.length_map, List.length_map, List.length_range]; omega), ?_, fun u o e => ?_⟩
      · rw [upd_same, List.range_succ, List.map_append, List.map_append]
        rfl
      · rw [upd_ne (ne_of_none e nD)]
        exact s4 _ _ e
    · obtain ⟨hD3, s4⟩ := hP
      refine ⟨_, _, dp_boolL (s4 _ _ h3), dp_boolL hD3, shaped_bools _, shaped_bools _, ?_⟩
      have e : ((List.range 4).map fun (i : Nat) => decide (V.int (0 + (i : Int)) = V.int (four j))) = [decide (0 = j), decide (1 = j), decide (2 = j), decide (4 = j)] := by
        rcases hj with rfl | rfl <;> decide
      rw [e, eqv_bools]
      exact q _ (s13.trans s4)
end
end Fo
namespace Fo
open PySem PySem.Spec PyProof.Rows L2
/-! text[::-1] -/
def revS (z : Str) : Str := ⟨((Builtin.Str.strSliceIndices none none (-1) z.length).filterMap (z.cps[·]?)).toArray⟩
def tRevS (te : TE) : TE := fun σ H Q => te σ H fun x H1 => ∃ z, x = .str z ∧ (revS z).length ≤ sizeLine ∧ Q (.str (revS z)) H1
theorem pe_revS {X : Cx} {e : Expr} {te : TE} {k : Nat} {p1 p2 p3 pos : Pos} (he : PE X e te) : PE X (.Subscript e (.Slice none none (some (.UnaryOp .USub (.Constant (.int 1) k p1) p2)) p3) pos) (tRevS te) := by
  refine ⟨fun pins s σ H Q I h => ?_⟩
  refine Subscript_ (thn (he.run pins s σ H _ I h) fun v s1 ⟨x, H1, I1, r1, q1⟩ => ?_)
  obtain ⟨z, ex, hz, q⟩ := q1
  subst ex
  obtain ⟨t, rfl⟩ := r1
  have hst : PO X (some (.UnaryOp .USub (.Constant (.int 1) k p1) p2)) (tPart (tUn (rU fun i => .int (-i)) (tC (.int 1)))) := po_some (pe_un un_neg pe_int)
  refine wpAny_Slice (thn (po_none.run pins s1 σ H1 (fun o H2 => o = none ∧ H2 = H1) I1 ⟨rfl, rfl⟩) fun vl s2 ⟨l, H2, I2, pl, el, e2⟩ => ?_)
  subst el e2
  refine thn (po_none.run pins s2 σ H2 (fun o H3 => o = none ∧ H3 = H2) I2 ⟨rfl, rfl⟩) fun vu s3 ⟨u, H3, I3, pu, eu, e3⟩ => ?_
  subst eu e3
  refine thn (hst.run pins s3 σ H3 (fun o H4 => o = some (-1) ∧ H4 = H3) I3 ⟨1, rfl, -1, rfl, rfl, rfl⟩) fun vs s4 ⟨o, H4, I4, ps, eo, e4⟩ => ?_
  subst eo e4
  have I5 : Inv X pins σ H4 { s4 with heap := s4.heap.push { cls := .type "slice", data := .fields #[vl, vu, vs] } } := I4.kept (t' := s4.toks) fun b ob q => Heap.get?_push_of_some _ q
  show wpAny (model X.prog X.w) X.A (subscriptTail e (.Slice none none (some (.UnaryOp .USub (.Constant (.int 1) k p1) p2)) p3) (.str z t) (.ref s4.heap.objs.size)) (EP X pins σ Q) X.xe { s4 with heap := s4.heap.push { cls := .type "slice", data := .fields #[vl, vu, vs] } }
  refine tail_any (ops := [.str z t, .ref s4.heap.objs.size]) (typeIs_str _ _ _) F.slot_str_getitem.lookup ?_ (by with_unfolding_all rfl)
  obtain ⟨os, hos, hcs, hds⟩ := Heap.IsSliceOf.new s4.heap vl vu vs
  obtain ⟨l, rfl, el⟩ := IsPart.raw pl
  obtain ⟨u, rfl, eu⟩ := IsPart.raw pu
  obtain ⟨st, rfl, es⟩ := IsPart.raw ps
  refine wpAny_getItem_str_slice (l := l) (u := u) (st := st) ⟨os, hos, hcs, hds⟩ (by rw [es]; rfl) ?_
  unfold sliceMade PySem.slicePicked
  rw [el, eu, es]
  refine ⟨hz, .str _, H4, I5.tok _, ⟨_, rfl⟩, q⟩
section
variable {S : Src} {σ : L2.St} {H : Hp} {m n a b k : Nat} {t : TE} {A : Str → Prop}
theorem oe_revS (h : OE S t σ H a k (oX m A)) (hu : ∀ x, A x → TxOk n (revS x)) (hn : n ≤ 16777216) : OE S (tRevS t) σ H (10 * n + 2) 0 (oX n fun z => ∃ x, z = revS x ∧ A x) := fun H1 Q e1 at1 q =>
  h H1 _ e1 at1 fun v H2 e2 at2 o => by
    obtain ⟨x, rfl, x1, x2⟩ := od_tx o
    have h1 := hu x x2
    have l1 := h1.l
    exact ⟨x, rfl, line_small (by omega), q _ _ e2 at2 (od_of_tx h1 ⟨x, rfl, x2⟩)⟩
end
end Fo
namespace Fo
open PySem PySem.Spec PyProof.Rows L2
def spWays : Sp := fun vs H Q _ => vs = [] ∧ ∀ (l : Addr), H l = none → Q (.ref l) (upd H l (.lst [.str "swap", .str "spot", .str "shift"]))
section
variable {P : Program} {w : World} {K : PySem.W.Frag} {mg : Str → Option Value} {base : Heap}
theorem scWays : FnScope [] [] (defScope s_law_ways) := ⟨rfl, rfl, rfl, by decide +kernel, rfl, by decide +kernel, by decide +kernel⟩
theorem ok_ways {f : Addr} {fd : FuncData} {k : Nat} (T : Df K mg "_law_ways" s_law_ways [] f fd) (B : Bi mg) : FnOk P w K mg base CX0 (k + 1) f fd [] spWays := by
  refine T.F.ok scWays (fun vs H Q E h => ?_) (fun cdv A outer s H vs Q E hr h => ?_)
  · obtain ⟨rfl, _⟩ := h
    rfl
  · obtain ⟨rfl, q⟩ := h
    refine ⟨_, 
      (pss_one (ps_ret (pe_lst (pa_cons pe_str (pa_cons pe_str (pa_cons pe_str pa_nil)))))), ?_⟩
    exact ⟨line_small (by show 3 ≤ 16777216; decide), fun l nl => q l nl⟩
end
end Fo
namespace Fo
open PySem PySem.Spec PyProof.Rows L2
def notWay (z : Str) : Bool := !(decide (z = "swap") || decide (z = "spot") || decide (z = "shift"))
theorem notway_of {z : Str} (h : notWay z = true) : ¬ WayD (.str z) := fun ⟨y, e, w⟩ => by
  injection e with e
  subst e
  rcases w with rfl | rfl | rfl <;> exact absurd h (by decide +kernel)
def ways3 : List Str := ["swap", "spot", "shift"]
theorem way_mem {z : Str} (h : IsWay z) : z ∈ ways3 := by
  rcases h with rfl | rfl | rfl <;> decide
theorem not_wayD {d : PyData} (h : isStrD d = false) : ¬ WayD d := fun g => by
  obtain ⟨z, rfl, _⟩ := g
  cases h
abbrev sgn9 : Str := " SWs.pot1"
theorem bw_sgn : ∀ z ∈ ways3, ∀ c ∈ sgn9.cps.toList, notWay (z ++ ⟨#[c]⟩) = true ∧ notWay (⟨#[c]⟩ ++ z) = true := by decide +kernel
theorem sgn_lt : ∀ c ∈ sgn9.cps.toList, c < 16 ^ 8 := by decide +kernel
theorem bw_one : ∀ z ∈ ways3, notWay (cutS z none (some (-1))) = true ∧ notWay (revS z) = true ∧ notWay (Txt.upper z) = true ∧ notWay "" = true ∧ notWay "swaps" = true ∧ notWay "swap spot" = true ∧ notWay "Swap" = true := by decide +kernel
theorem way_tx {z : Str} (h : IsWay z) : TxOk 5 z ∧ TxOk 5 (Txt.upper z) ∧ TxOk 5 (revS z) := by
  rcases h with rfl | rfl | rfl <;> exact ⟨⟨by decide +kernel, by decide +kernel⟩, ⟨by decide +kernel, by decide +kernel⟩, ⟨by decide +kernel, by decide +kernel⟩⟩
theorem atI_ways {v : Int} (h0 : 0 ≤ v) (h3 : v < 3) : ∃ z : Str, atI [V.str "swap", V.str "spot", V.str "shift"] v = some (.str z) ∧ IsWay z := by
  have : v = 0 ∨ v = 1 ∨ v = 2 := by omega
  rcases this with rfl | rfl | rfl
  · exact ⟨_, rfl, .inl rfl⟩
  · exact ⟨_, rfl, .inr (.inl rfl)⟩
  · exact ⟨_, rfl, .inr (.inr rfl)⟩
theorem od_ret {d : Addr} {c c' m k : Nat} {t : TE} {σ : L2.St} {H : Hp} {B : PyData → Prop} {D : Ends} (at1 : PoolAt H d c) (h : OD d c c' t σ H m k B) (q : ∀ x H', KeepD d H H' → PoolAt H' d c' → Od (srcP d 0) m k B H' x → D.rt x H') : tRet t D σ H := h H _ (KeepD.refl d H) at1 q
def spBadW : Sp := fun vs H Q _ => ∃ (d : Addr) (c : Nat), vs = [.ref d] ∧ PoolAt H d c ∧ c + 3 < 1048576 ∧ ∀ (v : V) (H' : Hp), Od (srcP d 0) 100000 5 (fun x => ¬ WayD x) H' v → PoolAt H' d (c + 3) → KeepD d H H' → Q v H'
section
variable {P : Program} {w : World} {K : PySem.W.Frag} {mg : Str → Option Value} {base : Heap}
theorem scBadW : FnScope ["pool", "way", "sign", "some"] ["pool"] (defScope s_law_bad_way) := ⟨rfl, rfl, rfl, by decide +kernel, rfl, by decide +kernel, by decide +kernel⟩
set_option maxHeartbeats 4000000 in
theorem ok_badW {f f1 f2 : Addr} {fd d1 d2 : FuncData} {k : Nat} (T : Df K mg "_law_bad_way" s_law_bad_way ["pool"] f fd) (T__law_ways : Df K mg "_law_ways" s_law_ways [] f1 d1) (T__law_take : Df K mg "_law_take" s_law_take ["pool", "many"] f2 d2) (G__law_ways : FnOk P w K mg base CX0 k f1 d1 [] spWays) (G__law_take : FnOk P w K mg base CX0 k f2 d2 ["pool", "many"] spTake) (B : Bi mg) : FnOk P w K mg base CX0 (k + 1) f fd ["pool"] spBadW := by
  refine T.F.ok scBadW (fun vs H Q E h => ?_) (fun cdv A outer s H vs Q E hr h => ?_)
  · obtain ⟨d, c, rfl, _⟩ := h
    rfl
  · obtain ⟨d, c, rfl, P0, hc, q⟩ := h
    refine ⟨_, 
      (pss_cons (ps_set (i := 1) scBadW.nd rfl (.inl rfl) (pe_ix ix_list (pe_call0 G__law_ways hr (by rfl) T__law_ways.g T__law_ways.F.kp T__law_ways.b .nil pass0) (pe_call G__law_take hr (by rfl) T__law_take.g T__law_take.F.kp T__law_take.b .nil pass0 (pa_cons (pv 0) (pa_cons pe_int pa_nil))) (fun _ _ => rfl)))
      (pss_cons (ps_set (i := 2) scBadW.nd rfl (.inl rfl) (pe_ix ix_str pe_str (pe_call G__law_take hr (by rfl) T__law_take.g T__law_take.F.kp T__law_take.b .nil pass0 (pa_cons (pv 0) (pa_cons pe_int pa_nil))) (fun _ _ => rfl)))
      (pss_cons (ps_set (i := 3) scBadW.nd rfl (.inl rfl) (pe_lst (pa_cons (pe_op op_add_str (pv 1) (pv 2)) (pa_cons (pe_op op_add_str (pv 2) (pv 1)) (pa_cons (pe_slice sl_str (pv 1) po_none (po_some (pe_un un_neg pe_int))) (pa_cons (pe_revS (pv 1)) (pa_cons (pe_upper (pv 1)) (pa_cons pe_str (pa_cons pe_str (pa_cons pe_non (pa_cons pe_int (pa_cons pe_bl (pa_cons (pe_lst (pa_cons (pv 1) pa_nil)) (pa_cons (pe_tup (pa_cons (pv 1) pa_nil)) (pa_cons pe_dnewK pa_nil)))))))))))))))
      (pss_one (ps_ret (pe_ix ix_list (pe_op op_cat (pv 3) (pe_lst (pa_cons (pe_disp (pps_cons (pv 1) pe_int pps_nil) (by rfl) (by rfl) (fun z => by cases z) (by decide)) (pa_cons pe_int (pa_cons pe_str (pa_cons pe_str pa_nil)))))) (pe_call G__law_take hr (by rfl) T__law_take.g T__law_take.F.kp T__law_take.b .nil pass0 (pa_cons (pv 0) (pa_cons pe_int pa_nil))) (fun _ _ => rfl))))))), ?_⟩
    refine ⟨rfl, fun l nl => ?_⟩
    have s1 := same_new (o := .lst [.str "swap", .str "spot", .str "shift"]) nl
    have nld := P0.ne nl
    refine ⟨_, rfl, d, 3, c, rfl, P0.same s1, by omega, by decide, by decide, fun v1 H1 v10 v11 P1 k1 => ?_⟩
    obtain ⟨z, ez, hz⟩ := atI_ways v10 v11
    refine ⟨l, _, _, _, rfl, rfl, SqL.of (k1 _ _ upd_same nld), ez, ?_⟩
    obtain ⟨t_way, tu, tr⟩ := way_tx hz
    have hm := way_mem hz
    obtain ⟨m1, m2, m3, m4, m5, m6, m7⟩ := bw_one z hm
    refine ⟨_, rfl, d, 9, c + 1, rfl, P1, by omega, by decide, by decide, fun v2 H2 v20 v21 P2 k2 => ?_⟩
    obtain ⟨ch, ec, mch⟩ := at_memG (xs := sgn9.cps.toList) v20 (by show v2 < 9; exact v21)
    refine ⟨sgn9, v2, ch, rfl, rfl, line_small (by decide), ec, ?_⟩
    obtain ⟨b1, b2⟩ := bw_sgn z hm ch mch
    have kk : KeepD d H H2 := ((KeepD.of_same s1).trans k1).trans k2
    obtain ⟨cc, ecc⟩ : ∃ cc, cc = c + 2 := ⟨_, rfl⟩
    have D2 : (srcP d cc).At H2 := by rw [ecc]; exact P2
    have o_way : Od (srcP d cc) 52 0 (oX 5 fun x => x = z) H2 (.str z) := od_of_tx t_way rfl
    have o_sign : Od (srcP d cc) 12 0 (oX 1 fun x => x = ⟨#[ch]⟩) H2 (.str ⟨#[ch]⟩) := od_of_tx (tx_one (sgn_lt ch mch)) rfl
    have u_way : ∀ x, x = z → TxOk 5 (Txt.upper x) := fun _ e => by rw [e]; exact tu
    have r_way : ∀ x, x = z → TxOk 5 (revS x) := fun _ e => by rw [e]; exact tr
    replace kk : (srcP d cc).Kp H H2 := kk
    refine os_set (S := srcP d cc) D2 (oe_lst (oa_consN (oe_catS (oe_v rfl o_way) (oe_v rfl o_sign) (by decide)) (by first | (rintro _ ⟨_, rfl, _, _, _, rfl, rfl, rfl⟩; first | exact notway_of b1 | exact notway_of b2) | (rintro _ ⟨_, rfl, _, _, rfl, rfl⟩; first | exact notway_of m2 | exact notway_of m3) | (rintro _ ⟨_, rfl, _, rfl⟩; first | exact notway_of m4 | exact notway_of m5) | (rintro _ rfl; exact not_wayD rfl) | (rintro _ ⟨_, rfl, _⟩; exact not_wayD rfl) | (rintro _ ⟨_, rfl, _, _, _, _, rfl, rfl, rfl, _, rfl, h⟩; first | (obtain rfl := h; exact notway_of m1) | (obtain ⟨_, rfl, rfl⟩ := h; exact notway_of m1))) (oa_consN (oe_catS (oe_v rfl o_sign) (oe_v rfl o_way) (by decide)) (by first | (rintro _ ⟨_, rfl, _, _, _, rfl, rfl, rfl⟩; first | exact notway_of b1 | exact notway_of b2) | (rintro _ ⟨_, rfl, _, _, rfl, rfl⟩; first | exact notway_of m2 | exact notway_of m3) | (rintro _ ⟨_, rfl, _, rfl⟩; first | exact notway_of m4 | exact notway_of m5) | (rintro _ rfl; exact not_wayD rfl) | (rintro _ ⟨_, rfl, _⟩; exact not_wayD rfl) | (rintro _ ⟨_, rfl, _, _, _, _, rfl, rfl, rfl, _, rfl, h⟩; first | (obtain rfl := h; exact notway_of m1) | (obtain ⟨_, rfl, rfl⟩ := h; exact notway_of m1))) (oa_consN (oe_slS (oe_v rfl o_way) oo_none (oo_some (oe_neg (oe_intI (by decide)) (by grind))) (by decide)) (by first | (rintro _ ⟨_, rfl, _, _, _, rfl, rfl, rfl⟩; first | exact notway_of b1 | exact notway_of b2) | (rintro _ ⟨_, rfl, _, _, rfl, rfl⟩; first | exact notway_of m2 | exact notway_of m3) | (rintro _ ⟨_, rfl, _, rfl⟩; first | exact notway_of m4 | exact notway_of m5) | (rintro _ rfl; exact not_wayD rfl) | (rintro _ ⟨_, rfl, _⟩; exact not_wayD rfl) | (rintro _ ⟨_, rfl, _, _, _, _, rfl, rfl, rfl, _, rfl, h⟩; first | (obtain rfl := h; exact notway_of m1) | (obtain ⟨_, rfl, rfl⟩ := h; exact notway_of m1))) (oa_consN (oe_revS (oe_v rfl o_way) r_way (by decide)) (by first | (rintro _ ⟨_, rfl, _, _, _, rfl, rfl, rfl⟩; first | exact notway_of b1 | exact notway_of b2) | (rintro _ ⟨_, rfl, _, _, rfl, rfl⟩; first | exact notway_of m2 | exact notway_of m3) | (rintro _ ⟨_, rfl, _, rfl⟩; first | exact notway_of m4 | exact notway_of m5) | (rintro _ rfl; exact not_wayD rfl) | (rintro _ ⟨_, rfl, _⟩; exact not_wayD rfl) | (rintro _ ⟨_, rfl, _, _, _, _, rfl, rfl, rfl, _, rfl, h⟩; first | (obtain rfl := h; exact notway_of m1) | (obtain ⟨_, rfl, rfl⟩ := h; exact notway_of m1))) (oa_consN (oe_upper (oe_v rfl o_way) (by decide) u_way) (by first | (rintro _ ⟨_, rfl, _, _, _, rfl, rfl, rfl⟩; first | exact notway_of b1 | exact notway_of b2) | (rintro _ ⟨_, rfl, _, _, rfl, rfl⟩; first | exact notway_of m2 | exact notway_of m3) | (rintro _ ⟨_, rfl, _, rfl⟩; first | exact notway_of m4 | exact notway_of m5) | (rintro _ rfl; exact not_wayD rfl) | (rintro _ ⟨_, rfl, _⟩; exact not_wayD rfl) | (rintro _ ⟨_, rfl, _, _, _, _, rfl, rfl, rfl, _, rfl, h⟩; first | (obtain rfl := h; exact notway_of m1) | (obtain ⟨_, rfl, rfl⟩ := h; exact notway_of m1))) (oa_consN (oe_tx 0 ⟨by decide +kernel, by decide +kernel⟩) (by first | (rintro _ ⟨_, rfl, _, _, _, rfl, rfl, rfl⟩; first | exact notway_of b1 | exact notway_of b2) | (rintro _ ⟨_, rfl, _, _, rfl, rfl⟩; first | exact notway_of m2 | exact notway_of m3) | (rintro _ ⟨_, rfl, _, rfl⟩; first | exact notway_of m4 | exact notway_of m5) | (rintro _ rfl; exact not_wayD rfl) | (rintro _ ⟨_, rfl, _⟩; exact not_wayD rfl) | (rintro _ ⟨_, rfl, _, _, _, _, rfl, rfl, rfl, _, rfl, h⟩; first | (obtain rfl := h; exact notway_of m1) | (obtain ⟨_, rfl, rfl⟩ := h; exact notway_of m1))) (oa_consN (oe_tx 5 ⟨by decide +kernel, by decide +kernel⟩) (by first | (rintro _ ⟨_, rfl, _, _, _, rfl, rfl, rfl⟩; first | exact notway_of b1 | exact notway_of b2) | (rintro _ ⟨_, rfl, _, _, rfl, rfl⟩; first | exact notway_of m2 | exact notway_of m3) | (rintro _ ⟨_, rfl, _, rfl⟩; first | exact notway_of m4 | exact notway_of m5) | (rintro _ rfl; exact not_wayD rfl) | (rintro _ ⟨_, rfl, _⟩; exact not_wayD rfl) | (rintro _ ⟨_, rfl, _, _, _, _, rfl, rfl, rfl, _, rfl, h⟩; first | (obtain rfl := h; exact notway_of m1) | (obtain ⟨_, rfl, rfl⟩ := h; exact notway_of m1))) (oa_consN oe_non (by first | (rintro _ ⟨_, rfl, _, _, _, rfl, rfl, rfl⟩; first | exact notway_of b1 | exact notway_of b2) | (rintro _ ⟨_, rfl, _, _, rfl, rfl⟩; first | exact notway_of m2 | exact notway_of m3) | (rintro _ ⟨_, rfl, _, rfl⟩; first | exact notway_of m4 | exact notway_of m5) | (rintro _ rfl; exact not_wayD rfl) | (rintro _ ⟨_, rfl, _⟩; exact not_wayD rfl) | (rintro _ ⟨_, rfl, _, _, _, _, rfl, rfl, rfl, _, rfl, h⟩; first | (obtain rfl := h; exact notway_of m1) | (obtain ⟨_, rfl, rfl⟩ := h; exact notway_of m1))) (oa_consN (oe_intI (by decide)) (by first | (rintro _ ⟨_, rfl, _, _, _, rfl, rfl, rfl⟩; first | exact notway_of b1 | exact notway_of b2) | (rintro _ ⟨_, rfl, _, _, rfl, rfl⟩; first | exact notway_of m2 | exact notway_of m3) | (rintro _ ⟨_, rfl, _, rfl⟩; first | exact notway_of m4 | exact notway_of m5) | (rintro _ rfl; exact not_wayD rfl) | (rintro _ ⟨_, rfl, _⟩; exact not_wayD rfl) | (rintro _ ⟨_, rfl, _, _, _, _, rfl, rfl, rfl, _, rfl, h⟩; first | (obtain rfl := h; exact notway_of m1) | (obtain ⟨_, rfl, rfl⟩ := h; exact notway_of m1))) (oa_consN (oe_bl true) (by first | (rintro _ ⟨_, rfl, _, _, _, rfl, rfl, rfl⟩; first | exact notway_of b1 | exact notway_of b2) | (rintro _ ⟨_, rfl, _, _, rfl, rfl⟩; first | exact notway_of m2 | exact notway_of m3) | (rintro _ ⟨_, rfl, _, rfl⟩; first | exact notway_of m4 | exact notway_of m5) | (rintro _ rfl; exact not_wayD rfl) | (rintro _ ⟨_, rfl, _⟩; exact not_wayD rfl) | (rintro _ ⟨_, rfl, _, _, _, _, rfl, rfl, rfl, _, rfl, h⟩; first | (obtain rfl := h; exact notway_of m1) | (obtain ⟨_, rfl, rfl⟩ := h; exact notway_of m1))) (oa_consN (oe_lst (oa_cons (oe_v rfl o_way) oa_nil) (by decide)) (by first | (rintro _ ⟨_, rfl, _, _, _, rfl, rfl, rfl⟩; first | exact notway_of b1 | exact notway_of b2) | (rintro _ ⟨_, rfl, _, _, rfl, rfl⟩; first | exact notway_of m2 | exact notway_of m3) | (rintro _ ⟨_, rfl, _, rfl⟩; first | exact notway_of m4 | exact notway_of m5) | (rintro _ rfl; exact not_wayD rfl) | (rintro _ ⟨_, rfl, _⟩; exact not_wayD rfl) | (rintro _ ⟨_, rfl, _, _, _, _, rfl, rfl, rfl, _, rfl, h⟩; first | (obtain rfl := h; exact notway_of m1) | (obtain ⟨_, rfl, rfl⟩ := h; exact notway_of m1))) (oa_consN (oe_tup (oa_cons (oe_v rfl o_way) oa_nil) (by decide)) (by first | (rintro _ ⟨_, rfl, _, _, _, rfl, rfl, rfl⟩; first | exact notway_of b1 | exact notway_of b2) | (rintro _ ⟨_, rfl, _, _, rfl, rfl⟩; first | exact notway_of m2 | exact notway_of m3) | (rintro _ ⟨_, rfl, _, rfl⟩; first | exact notway_of m4 | exact notway_of m5) | (rintro _ rfl; exact not_wayD rfl) | (rintro _ ⟨_, rfl, _⟩; exact not_wayD rfl) | (rintro _ ⟨_, rfl, _, _, _, _, rfl, rfl, rfl, _, rfl, h⟩; first | (obtain rfl := h; exact notway_of m1) | (obtain ⟨_, rfl, rfl⟩ := h; exact notway_of m1))) (oa_consN oe_d0 (by first | (rintro _ ⟨_, rfl, _, _, _, rfl, rfl, rfl⟩; first | exact notway_of b1 | exact notway_of b2) | (rintro _ ⟨_, rfl, _, _, rfl, rfl⟩; first | exact notway_of m2 | exact notway_of m3) | (rintro _ ⟨_, rfl, _, rfl⟩; first | exact notway_of m4 | exact notway_of m5) | (rintro _ rfl; exact not_wayD rfl) | (rintro _ ⟨_, rfl, _⟩; exact not_wayD rfl) | (rintro _ ⟨_, rfl, _, _, _, _, rfl, rfl, rfl, _, rfl, h⟩; first | (obtain rfl := h; exact notway_of m1) | (obtain ⟨_, rfl, rfl⟩ := h; exact notway_of m1))) (oa_nilN (fun d => ¬ WayD d))))))))))))))) (by decide)) fun x3 H3 k3 D3 o_some => ?_
    replace o_way := o_way.kp k3
    replace o_sign := o_sign.kp k3
    replace kk := (srcP d cc).trans kk k3
    subst ecc
    refine od_ret (c := c + 2) D3 (od_ix (OE.od (oe_catN (oe_v rfl o_some) (oe_lst (oa_consN (oe_d1 rfl t_way (by decide)) (by first | (rintro _ ⟨_, rfl, _, rfl⟩; first | exact notway_of m6 | exact notway_of m7) | (rintro _ rfl; exact not_wayD rfl) | (rintro _ ⟨_, rfl, _⟩; exact not_wayD rfl)) (oa_consN (oe_intI (by decide)) (by first | (rintro _ ⟨_, rfl, _, rfl⟩; first | exact notway_of m6 | exact notway_of m7) | (rintro _ rfl; exact not_wayD rfl) | (rintro _ ⟨_, rfl, _⟩; exact not_wayD rfl)) (oa_consN (oe_tx 9 ⟨by decide +kernel, by decide +kernel⟩) (by first | (rintro _ ⟨_, rfl, _, rfl⟩; first | exact notway_of m6 | exact notway_of m7) | (rintro _ rfl; exact not_wayD rfl) | (rintro _ ⟨_, rfl, _⟩; exact not_wayD rfl)) (oa_consN (oe_tx 4 ⟨by decide +kernel, by decide +kernel⟩) (by first | (rintro _ ⟨_, rfl, _, rfl⟩; first | exact notway_of m6 | exact notway_of m7) | (rintro _ rfl; exact not_wayD rfl) | (rintro _ ⟨_, rfl, _⟩; exact not_wayD rfl)) (oa_nilN (fun d => ¬ WayD d)))))) (by decide)) (by decide))) (od_take rfl (by decide) (by decide) (by omega)) (by grind) (by decide)) fun v H' k' D' o' => q v H' (o'.mono (by decide) (by decide) fun _ h => h) D' (KeepD.trans kk k')
end
end Fo
namespace Fo
open PySem PySem.Spec PyProof.Rows L2
/-- no whole number from 1 to most (from 1 on, if most is 0) -/
def NoNum (most : Int) (x : PyData) : Prop := ∀ i, x = .int i → i < 1 ∨ (0 < most ∧ most < i)
theorem NoNum.size {m : Int} {x : PyData} (h : NoNum m x) (m0 : 0 < m) : ¬ SizeD m x := fun ⟨i, e, h1, h2⟩ => by
  have := h i e
  omega
theorem NoNum.from {x : PyData} (h : NoNum 0 x) : ¬ FromD 1 x := fun ⟨i, e, h1⟩ => by
  have := h i e
  omega
theorem od_takeE {d : Addr} {c a b i : Nat} {σ : L2.St} {H : Hp} {u : TE} {A : Int → Prop} (e : σ[i]? = some (some (.ref d))) (g : OE (srcP d c) u σ H a b (oI A)) (hA : ∀ z, A z → 0 < z ∧ z < 1073741824) (hc : c < 1048576) : OD d c (c + 1) (tCall spTake [] E0 (tCons (tVar i) (tCons u tNil))) σ H 110 0 (oI fun z => ∃ y, A y ∧ 0 ≤ z ∧ z < y) := fun H1 Q e1 p1 q =>
  ⟨_, e, g H1 _ e1 p1 fun v H2 e2 p2 o => by
    obtain ⟨y, rfl, hy⟩ := od_int o
    obtain ⟨h1, h2⟩ := hA y hy
    exact ⟨d, y, c, rfl, p2, hc, h1, h2, fun z H3 z0 z1 p3 k3 => q _ _ (KeepD.trans e2 k3) p3 ⟨.int z, .int z, rw_int (by omega) (by omega), z, rfl, y, hy, z0, z1⟩⟩⟩
theorem os_one {S : Src} {σ : L2.St} {H : Hp} {t : TE} {m k i : Nat} {B : PyData → Prop} {D : Ends} (at1 : S.At H) (h : OE S t σ H m k B) (q : ∀ x H', S.Kp H H' → S.At H' → Od S m k B H' x → D.nx (σ.set i (some x)) H') : tAsg t (gName i) D σ H := h H _ (S.refl _) at1 q
def spNoNum : Sp := fun vs H Q _ => ∃ (d : Addr) (most : Int) (c : Nat), vs = [.ref d, .int most] ∧ PoolAt H d c ∧ c + 6 < 1048576 ∧ 0 ≤ most ∧ most ≤ 12 ∧ ∀ (v : V) (H' : Hp), Od (srcP d 0) 100000 5 (NoNum most) H' v → PoolAt H' d (c + 6) → KeepD d H H' → Q v H'
section
variable {P : Program} {w : World} {K : PySem.W.Frag} {mg : Str → Option Value} {base : Heap}
theorem scNoNum : FnScope ["pool", "most", "far", "some"] ["pool", "most"] (defScope s_law_no_number) := ⟨rfl, rfl, rfl, by decide +kernel, rfl, by decide +kernel, by decide +kernel⟩
set_option maxHeartbeats 4000000 in
theorem ok_noNum {f f1 f2 : Addr} {fd d1 d2 : FuncData} {k : Nat} (T : Df K mg "_law_no_number" s_law_no_number ["pool", "most"] f fd) (T__law_far : Df K mg "_law_far" s_law_far ["pool"] f1 d1) (T__law_take : Df K mg "_law_take" s_law_take ["pool", "many"] f2 d2) (G__law_far : FnOk P w K mg base CX0 k f1 d1 ["pool"] spFarN) (G__law_take : FnOk P w K mg base CX0 k f2 d2 ["pool", "many"] spTake) (B : Bi mg) : FnOk P w K mg base CX0 (k + 1) f fd ["pool", "most"] spNoNum := by
  refine T.F.ok scNoNum (fun vs H Q E h => ?_) (fun cdv A outer s H vs Q E hr h => ?_)
  · obtain ⟨d, m, c, rfl, _⟩ := h
    rfl
  · obtain ⟨d, m, c, rfl, P0, hc, m0, m1, q⟩ := h
    refine ⟨_, 
      (pss_cons (ps_set (i := 2) scNoNum.nd rfl (.inl rfl) (pe_op op_add pe_int (pe_op op_mod (pe_call G__law_far hr (by rfl) T__law_far.g T__law_far.F.kp T__law_far.b .nil pass0 (pa_cons (pv 0) pa_nil)) (pe_op op_pow pe_int pe_int))))
      (pss_cons (ps_set (i := 3) scNoNum.nd rfl (.inl rfl) (pe_lst (pa_cons pe_int (pa_cons (pe_un un_neg pe_int) (pa_cons (pe_op op_sub pe_int (pv 2)) (pa_cons pe_bl (pa_cons pe_bl (pa_cons pe_non (pa_cons pe_str (pa_cons pe_str (pa_cons (pe_lst (pa_cons pe_int pa_nil)) (pa_cons (pe_tup (pa_cons pe_int pa_nil)) (pa_cons pe_dnewK (pa_cons (pe_lst pa_nil) pa_nil))))))))))))))
      (Evl.pss_cut (ps_if (pt_cmpR op_gt (pv 1) pe_int (nomark _))
        (pss_one (ps_set (i := 3) scNoNum.nd rfl (.inl rfl) (pe_op op_cat (pv 3) (pe_lst (pa_cons (pe_op op_add (pv 1) pe_int) (pa_cons (pe_op op_add (pv 1) pe_int) (pa_cons (pe_op op_add (pv 1) (pv 2)) (pa_cons (pe_op op_add (pv 1) pe_int) pa_nil))))))))
        pss_nil)
      (pss_one (ps_ret (pe_ix ix_list (pv 3) (pe_call G__law_take hr (by rfl) T__law_take.g T__law_take.F.kp T__law_take.b .nil pass0 (pa_cons (pv 0) (pa_cons (pe_callB call_len_seq (by rfl) B.len PySem.boot_len (pa_cons (pv 3) pa_nil)) pa_nil))) (fun _ _ => rfl))))))), ?_⟩
    refine ⟨_, rfl, d, c, rfl, P0, by omega, fun v H1 v0 P1 k1 => ?_⟩
    refine ⟨10, 25, rfl, rfl, ⟨by decide, by decide, by decide⟩, v, _, rfl, rfl, (show (0 : Int) < 10 ^ 25 by decide), 1, _, rfl, rfl, ?_⟩
    have hv := mod_b v (m := 10 ^ 25) (by decide)
    obtain ⟨F, eF, F1, F2⟩ : ∃ F : Int, (1 : Int) + v % 10 ^ 25 = F ∧ 1 ≤ F ∧ F ≤ 10000000000000000000000000 := ⟨_, rfl, by omega, by omega⟩
    show gName 2 (V.int (1 + v % 10 ^ 25)) [some (V.ref d), some (V.int m), none, none] _ _
    rw [eF]
    obtain ⟨cc, ecc⟩ : ∃ cc, cc = c + 5 := ⟨_, rfl⟩
    have D2 : (srcP d cc).At H1 := by rw [ecc]; exact P1
    have o_far : Od (srcP d cc) 110 0 (oI fun x => x = F) H1 (.int F) := od_of_int ⟨by omega, by omega⟩ rfl
    have o_most : Od (srcP d cc) 110 0 (oI fun x => x = m) H1 (.int m) := od_of_int ⟨by omega, by omega⟩ rfl
    have kk : (srcP d cc).Kp H H1 := k1
    refine os_set (S := srcP d cc) D2 (oe_lst (oa_consN (oe_intI (by decide)) (by grind [NoNum]) (oa_consN (oe_neg (oe_intI (by decide)) (by grind)) (by grind [NoNum]) (oa_consN (oe_sub (oe_intI (by decide)) (oe_v rfl o_far) (by grind)) (by grind [NoNum]) (oa_consN (oe_bl true) (by grind [NoNum]) (oa_consN (oe_bl false) (by grind [NoNum]) (oa_consN oe_non (by grind [NoNum]) (oa_consN (oe_tx 1 ⟨by decide +kernel, by decide +kernel⟩) (by grind [NoNum]) (oa_consN (oe_tx 0 ⟨by decide +kernel, by decide +kernel⟩) (by grind [NoNum]) (oa_consN (oe_lst (oa_cons (oe_intI (by decide)) oa_nil) (by decide)) (by grind [NoNum]) (oa_consN (oe_tup (oa_cons (oe_intI (by decide)) oa_nil) (by decide)) (by grind [NoNum]) (oa_consN oe_d0 (by grind [NoNum]) (oa_consN (oe_lst oa_nil (by decide)) (by grind [NoNum]) (oa_nilN (NoNum m)))))))))))))) (by decide)) fun x3 H3 k3 D3 o_some => ?_
    replace o_far := o_far.kp k3
    replace o_most := o_most.kp k3
    replace kk := (srcP d cc).trans kk k3
    have fin : ∀ (n : Nat) (x : V) (G : Hp) (kx : Nat) (D : Ends), n ≤ 100 → 0 < n → Od (srcP d cc) 50000 kx (oL fun ds => ds.length = n ∧ ∀ y ∈ ds, NoNum m y) G x → kx ≤ 5 → (srcP d cc).Kp H G → (srcP d cc).At G → (∀ v H', Q v H' → D.rt v H') →
        tRet (tOp (rIxL K) (tVar 3) (tCall spTake [] E0 (tCons (tVar 0) (tCons (tCB (rLenS K) (tCons (tVar 3) tNil)) tNil)))) D [some (V.ref d), some (V.int m), some (V.int F), some x] G := fun n x G kx D n1 n0 o hk kG dG hq => by
      refine od_ret (c := cc) dG (od_ix (OE.od (oe_v rfl o)) (od_takeE rfl (oe_len (oe_v rfl o) (by decide)) (fun z hz => ?_) (by omega)) (fun i hi => ?_) (by omega)) fun v H' k' D' o' => hq _ _ (q v H' (o'.mono (by decide) hk fun _ h => h) (by rw [show c + 6 = cc + 1 by omega]; exact D') (KeepD.trans kG k'))
      · obtain ⟨ds, rfl, ⟨h1, _⟩, _⟩ := hz
        omega
      · obtain ⟨y, ⟨ds, rfl, ⟨h1, _⟩, _⟩, h2, h3⟩ := hi
        omega
    refine ⟨fun τ G => ∃ (n : Nat) (x : V), τ = [some (.ref d), some (.int m), some (.int F), some x] ∧ n ≤ 100 ∧ 0 < n ∧ Od (srcP d cc) 50000 5 (oL fun ds => ds.length = n ∧ ∀ y ∈ ds, NoNum m y) G x ∧ (srcP d cc).Kp H G ∧ (srcP d cc).At G, ?_, fun τ G hM => ?_⟩
    · refine ⟨_, rfl, m, 0, rfl, rfl, _, rfl, ite2 (fun c0 => ?_) (fun _ => ?_)⟩
      · have hm : 0 < m := of_decide_eq_true c0
        refine os_one (S := srcP d cc) D3 (oe_catN (oe_v rfl o_some) (oe_lst (oa_consN (oe_add (oe_v rfl o_most) (oe_intI (by decide)) (by grind)) (by grind [NoNum]) (oa_consN (oe_add (oe_v rfl o_most) (oe_intI (by decide)) (by grind)) (by grind [NoNum]) (oa_consN (oe_add (oe_v rfl o_most) (oe_v rfl o_far) (by grind)) (by grind [NoNum]) (oa_consN (oe_add (oe_v rfl o_most) (oe_intI (by decide)) (by grind)) (by grind [NoNum]) (oa_nilN (NoNum m)))))) (by decide)) (by decide)) fun x G k4 D4 o4 => ?_
        exact ⟨16, _, rfl, by decide, by decide, o4.mono (by decide) (by decide) fun _ h => h, KeepD.trans kk k4, D4⟩
      · exact ⟨12, _, rfl, by decide, by decide, o_some.mono (by decide) (by decide) fun _ h => h, kk, D3⟩
    · obtain ⟨n, x, rfl, n1, n0, o, kG, dG⟩ := hM
      exact fin n x G 5 _ n1 n0 o (by decide) kG dG fun _ _ h => h
end
end Fo
namespace Fo
open PySem PySem.Spec PyProof.Rows L2
theorem PoolAt.new {H : Hp} {d : Addr} {c : Nat} (h : PoolAt H d c) {p : Addr} {o : HO} (e : H p = none) : PoolAt (L2.upd H p o) d c := h.upd (h.ne e)
theorem KeepD.new {d : Addr} {H : Hp} {p : Addr} {o : HO} (e : H p = Option.none) : KeepD d H (upd H p o) := KeepD.of_same (same_new e)
def spR61 : Sp := fun vs H Q _ => ∃ (d : Addr) (w : Str) (n m : Int) (c : Nat), vs = [.ref d, .str w, .int n, .int m] ∧ PoolAt H d c ∧ c + 39 < 1048576 ∧ IsWay w ∧ 1 ≤ n ∧ n ≤ 12 ∧ ∀ H', PoolAt H' d (c + 39) → KeepD d H H' → Q (.bl true) H'
/-- a row of three that is refused -/
def Trip (i : Int) (j : Nat) (H : Hp) (t : V) : Prop := ∃ (p : Addr) (x v u : V) (f d e : PyData), t = .ref p ∧ H p = some (.lst [x, v, u]) ∧ Dq H x f ∧ Dq H v d ∧ Dq H u e ∧ Due61 i f d e j
theorem Trip.same {i : Int} {j : Nat} {H H' : Hp} {t : V} (h : Trip i j H t) (s : Same H H') : Trip i j H' t := by
  obtain ⟨p, x, v, u, f, d, e, rfl, hp, a1, a2, a3, du⟩ := h
  exact ⟨p, x, v, u, f, d, e, rfl, s _ _ hp, a1.same s, a2.same s, a3.same s, du⟩
theorem facts61 (w : Str) (hw : IsWay w) (n : Int) (n1 : 1 ≤ n) (n2 : n ≤ 12) (i : Nat) (hi : i < 3) : ∃ M W F : Int, atI [V.int 12, V.int 6, V.int 12] (0 + (i : Int)) = some (.int M) ∧ atI [V.int n, V.int (1 + (n - 1) % 6), V.int n] (0 + (i : Int)) = some (.int F) ∧ atI [V.int 0, V.int 0, V.int n] (0 + (i : Int)) = some (.int W) ∧ 0 ≤ M ∧ M ≤ 12 ∧ 0 ≤ W ∧ W ≤ 12 ∧
    (∀ x e, NoNum M x → Due61 (0 + (i : Int)) (.str w) x e 4) ∧ (∀ e, NoNum W e → Due61 (0 + (i : Int)) (.str w) (.int F) e 4) ∧ (0 + (i : Int) < 2 → ∀ f x e, ¬ WayD f → Due61 (0 + (i : Int)) f x e 1) := by
  have wd : WayD (.str w) := ⟨w, rfl, hw⟩
  rcases (show i = 0 ∨ i = 1 ∨ i = 2 by omega) with rfl | rfl | rfl
  · exact ⟨12, 0, n, rfl, rfl, rfl, by decide, by decide, by decide, by decide, fun x e h => .inl ⟨rfl, .inr ⟨rfl, wd, fun z => h.size (by decide) z.1⟩⟩, fun e h => .inl ⟨rfl, .inr ⟨rfl, wd, fun z => h.from z.2⟩⟩, fun _ f x e h => .inl ⟨rfl, .inl ⟨rfl, h⟩⟩⟩
  · exact ⟨6, 0, 1 + (n - 1) % 6, rfl, rfl, rfl, by decide, by decide, by decide, by decide, fun x e h => .inr (.inl ⟨rfl, .inr ⟨rfl, wd, fun z => h.size (by decide) z.1⟩⟩), fun e h => .inr (.inl ⟨rfl, .inr ⟨rfl, wd, fun z => h.from z.2⟩⟩), fun _ f x e h => .inr (.inl ⟨rfl, .inl ⟨rfl, h⟩⟩)⟩
  · refine ⟨12, n, n, rfl, rfl, rfl, by decide, by decide, by omega, n2, fun x e h => .inr (.inr ⟨rfl, rfl, fun z ez z1 z2 => ?_⟩), fun e h => .inr (.inr ⟨rfl, rfl, fun z ez z1 z2 => ?_⟩), fun h => absurd h (by decide)⟩
    · have := h z ez
      omega
    · injection ez with ez
      subst ez
      exact h.size (by omega)
section
variable {P : Program} {w : World} {K : PySem.W.Frag} {mg : Str → Option Value} {base : Heap}
theorem scR61 : FnScope ["pool", "way", "n", "d", "odd", "kind", "most", "few", "bad", "worse", "some", "one"] ["pool", "way", "n", "d"] (defScope s_law_right) := ⟨rfl, rfl, rfl, by decide +kernel, rfl, by decide +kernel, by decide +kernel⟩
set_option maxHeartbeats 8000000 in
theorem ok_r61 {f f1 f2 f3 f4 : Addr} {fd d1 d2 d3 d4 : FuncData} {k : Nat} {c : Nat → Addr} (T : Df K mg "_law_right" s_law_right ["pool", "way", "n", "d"] f fd) (T__law_bad_way : Df K mg "_law_bad_way" s_law_bad_way ["pool"] f1 d1) (T__law_no_number : Df K mg "_law_no_number" s_law_no_number ["pool", "most"] f2 d2) (T__law_is : Df K mg "_law_is" s_law_is ["caught", "due"] f3 d3) (T__law_caught : Df K mg "_law_caught" s_law_caught ["kind", "way", "n", "d"] f4 d4) (G__law_bad_way : FnOk P w K mg base CX0 k f1 d1 ["pool"] spBadW) (G__law_no_number : FnOk P w K mg base CX0 k f2 d2 ["pool", "most"] spNoNum) (G__law_is : FnOk P w K mg base CX0 k f3 d3 ["caught", "due"] (spIs61 K c)) (G__law_caught : FnOk P w K mg base CX0 k f4 d4 ["kind", "way", "n", "d"] (spCau61 c)) (B : Bi mg) : FnOk P w K mg base CX0 (k + 1) f fd ["pool", "way", "n", "d"] spR61 := by
  refine T.F.ok scR61 (fun vs H Q E h => ?_) (fun cdv A outer s H vs Q E hr h => ?_)
  · obtain ⟨d, wy, n, m, c0, rfl, _⟩ := h
    rfl
  · obtain ⟨d, wy, n, m, c0, rfl, P0, hc, hw, n1, n2, q⟩ := h
    refine ⟨_, 
      (pss_cons (ps_set (i := 4) scR61.nd rfl (.inl rfl) (pe_call G__law_bad_way hr (by rfl) T__law_bad_way.g T__law_bad_way.F.kp T__law_bad_way.b .nil pass0 (pa_cons (pv 0) pa_nil)))
      (pss_cons (ps_for PassesOwn.never rfl (pi_range1 (by rfl) B.range (pa_cons pe_int pa_nil)) (pg_name (i := 5) scR61.nd rfl (.inl rfl))
        (pss_cons (ps_set (i := 6) scR61.nd rfl (.inl rfl) (pe_ix ix_list (pe_lst (pa_cons pe_int (pa_cons pe_int (pa_cons pe_int pa_nil)))) (pv 5) (fun _ _ => rfl)))
        (pss_cons (ps_set (i := 7) scR61.nd rfl (.inl rfl) (pe_ix ix_list (pe_lst (pa_cons (pv 2) (pa_cons (pe_op op_add pe_int (pe_op op_mod (pe_op op_sub (pv 2) pe_int) pe_int)) (pa_cons (pv 2) pa_nil)))) (pv 5) (fun _ _ => rfl)))
        (pss_cons (ps_set (i := 8) scR61.nd rfl (.inl rfl) (pe_call G__law_no_number hr (by rfl) T__law_no_number.g T__law_no_number.F.kp T__law_no_number.b .nil pass0 (pa_cons (pv 0) (pa_cons (pv 6) pa_nil))))
        (pss_cons (ps_set (i := 9) scR61.nd rfl (.inl rfl) (pe_call G__law_no_number hr (by rfl) T__law_no_number.g T__law_no_number.F.kp T__law_no_number.b .nil pass0 (pa_cons (pv 0) (pa_cons (pe_ix ix_list (pe_lst (pa_cons pe_int (pa_cons pe_int (pa_cons (pv 2) pa_nil)))) (pv 5) (fun _ _ => rfl)) pa_nil))))
        (pss_cons (ps_set (i := 10) scR61.nd rfl (.inl rfl) (pe_lst (pa_cons (pe_lst (pa_cons (pv 1) (pa_cons (pv 8) (pa_cons (pv 3) pa_nil)))) (pa_cons (pe_lst (pa_cons (pv 1) (pa_cons (pv 8) (pa_cons (pv 9) pa_nil)))) (pa_cons (pe_lst (pa_cons (pv 1) (pa_cons (pv 7) (pa_cons (pv 9) pa_nil)))) pa_nil)))))
        (pss_cons (ps_for PassesOwn.never rfl (pi_list (pv 10)) (pg_name (i := 11) scR61.nd rfl (.inl rfl))
          (pss_one (ps_if (pt_not (pt_val (pe_call G__law_is hr (by rfl) T__law_is.g T__law_is.F.kp T__law_is.b .nil pass0 (pa_cons (pe_call G__law_caught hr (by rfl) T__law_caught.g T__law_caught.F.kp T__law_caught.b .nil pass0 (pa_cons (pv 5) (pa_cons (pe_ix ix_list (pv 11) pe_int (fun _ _ => rfl)) (pa_cons (pe_ix ix_list (pv 11) pe_int (fun _ _ => rfl)) (pa_cons (pe_ix ix_list (pv 11) pe_int (fun _ _ => rfl)) pa_nil))))) (pa_cons pe_int pa_nil)))))
            (pss_one (ps_ret pe_bl))
            pss_nil)))
        (pss_one (ps_for PassesOwn.never rfl (pi_list (pe_lst (pa_cons (pe_lst (pa_cons (pv 4) (pa_cons (pv 7) (pa_cons (pv 3) pa_nil)))) (pa_cons (pe_lst (pa_cons (pv 4) (pa_cons (pv 8) (pa_cons (pv 3) pa_nil)))) (pa_cons (pe_lst (pa_cons (pv 4) (pa_cons (pv 7) (pa_cons (pv 9) pa_nil)))) (pa_cons (pe_lst (pa_cons (pv 4) (pa_cons (pv 8) (pa_cons (pv 9) pa_nil)))) pa_nil)))))) (pg_name (i := 11) scR61.nd rfl (.inl rfl))
          (pss_one (ps_if (PW.pt (pw_and (pt_cmpR op_lt (pv 5) pe_int (nomark _)) (pw_and1 (pt_not (pt_val (pe_call G__law_is hr (by rfl) T__law_is.g T__law_is.F.kp T__law_is.b .nil pass0 (pa_cons (pe_call G__law_caught hr (by rfl) T__law_caught.g T__law_caught.F.kp T__law_caught.b .nil pass0 (pa_cons (pv 5) (pa_cons (pe_ix ix_list (pv 11) pe_int (fun _ _ => rfl)) (pa_cons (pe_ix ix_list (pv 11) pe_int (fun _ _ => rfl)) (pa_cons (pe_ix ix_list (pv 11) pe_int (fun _ _ => rfl)) pa_nil))))) (pa_cons pe_int pa_nil))))))))
            (pss_one (ps_ret pe_bl))
            pss_nil)))))))))))
      (pss_one (ps_ret pe_bl)))), ?_⟩
    refine ⟨_, rfl, d, c0, rfl, P0, by omega, fun odv H1 oo P1 k1 => ?_⟩
    refine ⟨3, rfl, by decide, by decide, ?_⟩
    refine for_range (n := 3) (fun i σ G => ∃ (y5 y6 y7 y8 y9 y10 y11 : Option V), σ = [some (.ref d), some (.str wy), some (.int n), some (.int m), some odv, y5, y6, y7, y8, y9, y10, y11] ∧ PoolAt G d (c0 + 3 + 12 * i) ∧ KeepD d H1 G) ⟨_, _, _, _, _, _, _, rfl, P1, KeepD.refl d H1⟩ (fun i σ G hi hW => ?_) (fun σ G hW => ?_)
    · obtain ⟨y5, y6, y7, y8, y9, y10, y11, rfl, PG, kG⟩ := hW
      obtain ⟨M, W, F, hM, hF, hW, M0, M1, W0, W1, A1, A2, A3⟩ := facts61 wy hw n n1 n2 i hi
      -- most
      refine ⟨line_small (by show 3 ≤ 16777216; decide), fun t1 nt1 => ?_⟩
      have P2 := PG.new (o := .lst [.int 12, .int 6, .int 12]) nt1
      have k2 := kG.trans (KeepD.new (d := d) (o := .lst [.int 12, .int 6, .int 12]) nt1)
      refine ⟨_, rfl, t1, _, _, _, rfl, rfl, SqL.of upd_same, hM, ?_⟩
      generalize upd G t1 (.lst [.int 12, .int 6, .int 12]) = H2 at P2 k2 ⊢
      -- few
      refine ⟨_, rfl, _, rfl, n, 1, rfl, rfl, _, 6, rfl, rfl, (show (0 : Int) < 6 by decide), 1, _, rfl, rfl, _, rfl, line_small (by show 3 ≤ 16777216; decide), fun t2 nt2 => ?_⟩
      have P3 := P2.new (o := .lst [.int n, .int (1 + (n - 1) % 6), .int n]) nt2
      have k3 := k2.trans (KeepD.new (d := d) (o := .lst [.int n, .int (1 + (n - 1) % 6), .int n]) nt2)
      refine ⟨_, rfl, t2, _, _, _, rfl, rfl, SqL.of upd_same, hF, ?_⟩
      show gName 7 (V.int F) _ (upd H2 t2 (.lst [.int n, .int (1 + (n - 1) % 6), .int n])) _
      generalize upd H2 t2 (.lst [.int n, .int (1 + (n - 1) % 6), .int n]) = H3 at P3 k3 ⊢
      -- bad
      refine ⟨_, rfl, _, rfl, d, M, _, rfl, P3, by omega, M0, M1, fun bv H4 ob P4 k4 => ?_⟩
      have k04 := k3.trans k4
      -- worse
      refine ⟨_, rfl, _, rfl, line_small (by show 3 ≤ 16777216; decide), fun t3 nt3 => ?_⟩
      have P5 := P4.new (o := .lst [.int 0, .int 0, .int n]) nt3
      have k5 := KeepD.new (d := d) (o := .lst [.int 0, .int 0, .int n]) nt3
      refine ⟨_, rfl, t3, _, _, _, rfl, rfl, SqL.of upd_same, hW, ?_⟩
      refine ⟨d, W, _, rfl, P5, by omega, W0, W1, fun wv H6 ow P6 k6 => ?_⟩
      have k46 := k5.trans k6
      have k06 := k04.trans k46
      obtain ⟨fb, db, nb1⟩ := od_dq (od_keep ob k46)
      obtain ⟨fw, dw, nw1⟩ := od_dq ow
      obtain ⟨fo, do1, no1⟩ := od_dq (od_keep oo k06)
      clear k2 k3 k4 k5 k6 k04 k46 P2 P3 P4 P5 ob ow
      -- some
      refine ⟨_, rfl, _, rfl, _, rfl, line_small (by show 3 ≤ 16777216; decide), fun p1 np1 => ?_⟩
      have s1 := same_new (o := .lst [.str wy, bv, .int m]) np1
      have T1 : Trip (0 + (i : Int)) 4 (upd H6 p1 (.lst [.str wy, bv, .int m])) (.ref p1) := ⟨p1, _, _, _, .str wy, fb, .int m, rfl, upd_same, .str _, db.same s1, .int _, A1 _ _ nb1⟩
      refine ⟨_, rfl, _, rfl, _, rfl, line_small (by show 3 ≤ 16777216; decide), fun p2 np2 => ?_⟩
      have s2 := same_new (o := .lst [.str wy, bv, wv]) np2
      have s02 := s1.trans s2
      have T2 : Trip (0 + (i : Int)) 4 (upd (upd H6 p1 (.lst [.str wy, bv, .int m])) p2 (.lst [.str wy, bv, wv])) (.ref p2) := ⟨p2, _, _, _, .str wy, fb, fw, rfl, upd_same, .str _, db.same s02, dw.same s02, A1 _ _ nb1⟩
      replace T1 := T1.same s2
      generalize upd (upd H6 p1 (.lst [.str wy, bv, .int m])) p2 (.lst [.str wy, bv, wv]) = H7 at s02 T1 T2 ⊢
      refine ⟨_, rfl, _, rfl, _, rfl, line_small (by show 3 ≤ 16777216; decide), fun p3 np3 => ?_⟩
      have s3 := same_new (o := .lst [.str wy, .int F, wv]) np3
      have s03 := s02.trans s3
      have T3 : Trip (0 + (i : Int)) 4 (upd H7 p3 (.lst [.str wy, .int F, wv])) (.ref p3) := ⟨p3, _, _, _, .str wy, .int F, fw, rfl, upd_same, .str _, .int _, dw.same s03, A2 _ nw1⟩
      replace T1 := T1.same s3
      replace T2 := T2.same s3
      generalize upd H7 p3 (.lst [.str wy, .int F, wv]) = H8 at s03 T1 T2 T3 ⊢
      refine ⟨line_small (by show 3 ≤ 16777216; decide), fun p4 np4 => ?_⟩
      have s4 := same_new (o := .lst [.ref p1, .ref p2, .ref p3]) np4
      have hp4 : (upd H8 p4 (.lst [.ref p1, .ref p2, .ref p3])) p4 = some (.lst [.ref p1, .ref p2, .ref p3]) := upd_same
      replace T1 := T1.same s4
      replace T2 := T2.same s4
      replace T3 := T3.same s4
      have s04 := s03.trans s4
      generalize upd H8 p4 (.lst [.ref p1, .ref p2, .ref p3]) = H9 at s04 hp4 T1 T2 T3 ⊢
      clear s1 s2 s3 s4 s02 s03
      refine ⟨_, rfl, p4, rfl, ⟨_, SqL.of hp4⟩, ?_⟩
      refine for_list (xs := [.ref p1, .ref p2, .ref p3]) (fun r σ A => ∃ y11 : Option V, σ = [some (.ref d), some (.str wy), some (.int n), some (.int m), some odv, some (.int (0 + (i : Int))), some (.int M), some (.int F), some bv, some wv, some (.ref p4), y11] ∧ Same H9 A) ⟨_, rfl, Same.refl _⟩ (fun r σ A _ hP => by obtain ⟨_, _, sm⟩ := hP; exact SqL.of (sm _ _ hp4)) (fun r x σ A hx hP => ?_) (fun σ A hP => ?_)
      · obtain ⟨z11, rfl, sm⟩ := hP
        have tr : Trip (0 + (i : Int)) 4 H9 x := by
          match r, hx with
          | 0, hx => obtain rfl := (Option.some.inj hx); exact T1
          | 1, hx => obtain rfl := (Option.some.inj hx); exact T2
          | 2, hx => obtain rfl := (Option.some.inj hx); exact T3
          | r + 3, hx => cases hx
        obtain ⟨p, x1, x2, x3, g1, g2, g3, rfl, hp, a1, a2, a3, du⟩ := tr.same sm
        refine ⟨_, rfl, _, rfl, p, _, _, _, rfl, rfl, SqL.of hp, at3_0, _, rfl, p, _, _, _, rfl, rfl, SqL.of hp, at3_1, _, rfl, p, _, _, _, rfl, rfl, SqL.of hp, at3_2, ?_⟩
        refine ⟨_, 4, x1, x2, x3, g1, g2, g3, rfl, a1, a2, a3, du, fun a A1 ha sa => ?_⟩
        exact ⟨a, 4, rfl, .inr rfl, ha, fun A2 sb => ⟨true, rfl, iteF ⟨_, rfl, sm.trans (sa.trans sb)⟩⟩⟩
      · obtain ⟨z11, rfl, sm⟩ := hP
        have sA := s04.trans sm
        clear T1 T2 T3 hp4
        replace db := db.same sA
        replace dw := dw.same sA
        replace do1 := do1.same sA
        have PA := P6.same sA
        have kA := k06.trans (KeepD.of_same sA)
        clear P6 k06 s04 sA sm
        refine ⟨_, rfl, _, rfl, _, rfl, line_small (by show 3 ≤ 16777216; decide), fun p1 np1 => ?_⟩
        have s1 := same_new (o := .lst [odv, .int F, .int m]) np1
        have h1 : (upd A p1 (.lst [odv, .int F, .int m])) p1 = some (.lst [odv, .int F, .int m]) := upd_same
        generalize upd A p1 (.lst [odv, .int F, .int m]) = B1 at s1 h1 ⊢
        refine ⟨_, rfl, _, rfl, _, rfl, line_small (by show 3 ≤ 16777216; decide), fun p2 np2 => ?_⟩
        have s2 := same_new (o := .lst [odv, bv, .int m]) np2
        have h2 : (upd B1 p2 (.lst [odv, bv, .int m])) p2 = some (.lst [odv, bv, .int m]) := upd_same
        generalize upd B1 p2 (.lst [odv, bv, .int m]) = B2 at s2 h2 ⊢
        refine ⟨_, rfl, _, rfl, _, rfl, line_small (by show 3 ≤ 16777216; decide), fun p3 np3 => ?_⟩
        have s3 := same_new (o := .lst [odv, .int F, wv]) np3
        have h3 : (upd B2 p3 (.lst [odv, .int F, wv])) p3 = some (.lst [odv, .int F, wv]) := upd_same
        generalize upd B2 p3 (.lst [odv, .int F, wv]) = B3 at s3 h3 ⊢
        refine ⟨_, rfl, _, rfl, _, rfl, line_small (by show 3 ≤ 16777216; decide), fun p5 np5 => ?_⟩
        have s5 := same_new (o := .lst [odv, bv, wv]) np5
        have h5 : (upd B3 p5 (.lst [odv, bv, wv])) p5 = some (.lst [odv, bv, wv]) := upd_same
        generalize upd B3 p5 (.lst [odv, bv, wv]) = B5 at s5 h5 ⊢
        refine ⟨line_small (by show 4 ≤ 16777216; decide), fun p6 np6 => ?_⟩
        have s6 := same_new (o := .lst [.ref p1, .ref p2, .ref p3, .ref p5]) np6
        have h6 : (upd B5 p6 (.lst [.ref p1, .ref p2, .ref p3, .ref p5])) p6 = some (.lst [.ref p1, .ref p2, .ref p3, .ref p5]) := upd_same
        generalize upd B5 p6 (.lst [.ref p1, .ref p2, .ref p3, .ref p5]) = B6 at s6 h6 ⊢
        have s56 := s5.trans s6
        have s36 := s3.trans s56
        have s26 := s2.trans s36
        have sA6 := s1.trans s26
        refine ⟨p6, rfl, ⟨_, SqL.of h6⟩, ?_⟩
        refine for_list (xs := [.ref p1, .ref p2, .ref p3, .ref p5]) (fun r σ A => ∃ y11 : Option V, σ = [some (.ref d), some (.str wy), some (.int n), some (.int m), some odv, some (.int (0 + (i : Int))), some (.int M), some (.int F), some bv, some wv, some (.ref p4), y11] ∧ Same B6 A) ⟨_, rfl, Same.refl _⟩ (fun r σ A _ hP => by obtain ⟨_, _, sm⟩ := hP; exact SqL.of (sm _ _ h6)) (fun r x σ A' hx hP => ?_) (fun σ A' hP => ?_)
        · obtain ⟨z11, rfl, sm⟩ := hP
          refine ⟨_, rfl, _, 2, rfl, rfl, _, rfl, ite2 (fun c2 => ?_) (fun _ => ⟨_, rfl, sm⟩)⟩
          have i2 : 0 + (i : Int) < 2 := of_decide_eq_true c2
          have tr : Trip (0 + (i : Int)) 1 B6 x := by
            match r, hx with
            | 0, hx => obtain rfl := (Option.some.inj hx); exact ⟨p1, _, _, _, fo, .int F, .int m, rfl, s26 _ _ h1, do1.same sA6, .int _, .int _, A3 i2 _ _ _ no1⟩
            | 1, hx => obtain rfl := (Option.some.inj hx); exact ⟨p2, _, _, _, fo, fb, .int m, rfl, s36 _ _ h2, do1.same sA6, db.same sA6, .int _, A3 i2 _ _ _ no1⟩
            | 2, hx => obtain rfl := (Option.some.inj hx); exact ⟨p3, _, _, _, fo, .int F, fw, rfl, s56 _ _ h3, do1.same sA6, .int _, dw.same sA6, A3 i2 _ _ _ no1⟩
            | 3, hx => obtain rfl := (Option.some.inj hx); exact ⟨p5, _, _, _, fo, fb, fw, rfl, s6 _ _ h5, do1.same sA6, db.same sA6, dw.same sA6, A3 i2 _ _ _ no1⟩
            | r + 4, hx => cases hx
          obtain ⟨p, x1, x2, x3, g1, g2, g3, rfl, hp, a1, a2, a3, du⟩ := tr.same sm
          refine ⟨_, rfl, _, rfl, p, _, _, _, rfl, rfl, SqL.of hp, at3_0, _, rfl, p, _, _, _, rfl, rfl, SqL.of hp, at3_1, _, rfl, p, _, _, _, rfl, rfl, SqL.of hp, at3_2, ?_⟩
          refine ⟨_, 1, x1, x2, x3, g1, g2, g3, rfl, a1, a2, a3, du, fun a A1 ha sa => ?_⟩
          exact ⟨a, 1, rfl, .inl rfl, ha, fun A2 sb => ⟨true, rfl, iteF ⟨_, rfl, sm.trans (sa.trans sb)⟩⟩⟩
        · obtain ⟨z11, rfl, sm⟩ := hP
          exact ⟨_, _, _, _, _, _, _, rfl, (PA.same (sA6.trans sm)).mono (by omega), kA.trans (KeepD.of_same (sA6.trans sm))⟩
    · obtain ⟨y5, y6, y7, y8, y9, y10, y11, rfl, PG, kG⟩ := hW
      exact q _ (PG.mono (by omega)) (k1.trans kG)
end
end Fo
namespace Fo
open PySem PySem.Spec PyProof.Rows L2
def spLaw (K : PySem.W.Frag) : Sp := fun vs H Q _ => ∃ (a : Addr) (ns : List Int), vs = [.ref a] ∧ SqL K H a (ns.map V.int) ∧ ns.length ≤ 63 ∧ ∀ H', Q (.bl true) H'
def tw (x y : Int) : PyData := .tuple [.int x, .int y]
/-- a number and two pairs of numbers, in a list -/
def dA (x a b c e : Int) : PyData := .list [.int x, tw a b, tw c e]
def AhAt (H : Hp) (l t u : Addr) (x a b c e : Int) : Prop := H l = some (.lst [.int x, .ref t, .ref u]) ∧ H t = some (.tup [.int a, .int b]) ∧ H u = some (.tup [.int c, .int e])
theorem AhAt.same {H H' : Hp} {l t u : Addr} {x a b c e : Int} (h : AhAt H l t u x a b c e) (s : Same H H') : AhAt H' l t u x a b c e := ⟨s _ _ h.1, s _ _ h.2.1, s _ _ h.2.2⟩
theorem AhAt.dp {K : PySem.W.Frag} {H : Hp} {l t u : Addr} {x a b c e : Int} (h : AhAt H l t u x a b c e) : Dp K H (.ref l) (dA x a b c e) := .lst (SqL.of h.1) (.cons (.int x) (.cons (.tup (SqT.of h.2.1) (.cons (.int a) (.cons (.int b) .nil))) (.cons (.tup (SqT.of h.2.2) (.cons (.int c) (.cons (.int e) .nil))) .nil)))
theorem shaped_A (x a b c e : Int) : SeqAt.shaped (dA x a b c e) = true := rfl
theorem eqv_A (x a b c e : Int) : PyData.eqv (dA x a b c e) (dA x a b c e) = true := SeqAt.eqv_refl _ (SeqAt.canLay_of_shaped (shaped_A x a b c e))
theorem ways_at {v : Int} (h0 : 0 ≤ v) (h3 : v < 3) : ∃ z : Str, atI [V.str "swap", V.str "spot", V.str "shift"] v = some (.str z) ∧ IsWay z := atI_ways h0 h3
section
variable {P : Program} {w : World} {K : PySem.W.Frag} {mg : Str → Option Value} {base : Heap}
theorem scLaw : FnScope ["script", "k", "pool", "n", "d", "ahead", "turn"] ["script"] (defScope s_law) := ⟨rfl, rfl, rfl, by decide +kernel, rfl, by decide +kernel, by decide +kernel⟩
set_option maxHeartbeats 8000000 in
theorem ok_law {f f1 f2 f3 f4 f5 f6 : Addr} {fd d1 d2 d3 d4 d5 d6 : FuncData} (T : Fun K "law" "law" s_law f fd) (T__law_pool : Df K mg "_law_pool" s_law_pool ["script", "k"] f1 d1) (T__law_take : Df K mg "_law_take" s_law_take ["pool", "many"] f2 d2) (T__law_ways : Df K mg "_law_ways" s_law_ways [] f3 d3) (T__law_right : Df K mg "_law_right" s_law_right ["pool", "way", "n", "d"] f4 d4) (T_most_by_places : Df K mg "most_by_places" s_most_by_places ["n", "d"] f5 d5) (T_bounds_by_rounds : Df K mg "bounds_by_rounds" s_bounds_by_rounds ["way", "n", "d"] f6 d6)
    (G__law_pool : FnOk P w K mg base CX0 12 f1 d1 ["script", "k"] (spPool K)) (G__law_take : FnOk P w K mg base CX0 12 f2 d2 ["pool", "many"] spTake) (G__law_ways : FnOk P w K mg base CX0 12 f3 d3 [] spWays) (G__law_right : FnOk P w K mg base CX0 12 f4 d4 ["pool", "way", "n", "d"] spR61) (G_most_by_places : FnOk P w K mg base CX0 12 f5 d5 ["n", "d"] spMost) (G_bounds_by_rounds : FnOk P w K mg base CX0 12 f6 d6 ["way", "n", "d"] spBounds)
    (B : Bi mg) : FnOk P w K mg base CX0 13 f fd ["script"] (spLaw K) := by
  refine T.ok scLaw (fun vs H Q E h => ?_) (fun cdv A outer s H vs Q E hr h => ?_)
  · obtain ⟨a, ns, rfl, _⟩ := h
    rfl
  · obtain ⟨a, ns, rfl, hS, hlen, q⟩ := h
    have hlm : (ns.map V.int).length = ns.length := List.length_map _
    refine ⟨_, 
      (pss_cons (ps_for PassesOwn.never rfl (pi_range1 (by rfl) B.range (pa_cons (pe_callB (call_max2 rfl) (by rfl) B.max (by decide +kernel) (pa_cons pe_int (pa_cons (pe_callB (call_min2 rfl) (by rfl) B.min (by decide +kernel) (pa_cons pe_int (pa_cons (pe_callB call_len_seq (by rfl) B.len PySem.boot_len (pa_cons (pv 0) pa_nil)) pa_nil))) pa_nil))) pa_nil)) (pg_name (i := 1) scLaw.nd rfl (.inl rfl))
        (pss_cons (ps_set (i := 2) scLaw.nd rfl (.inl rfl) (pe_call G__law_pool hr (by rfl) T__law_pool.g T__law_pool.F.kp T__law_pool.b .nil pass0 (pa_cons (pv 0) (pa_cons (pv 1) pa_nil))))
        (pss_cons (ps_set (i := 3) scLaw.nd rfl (.inl rfl) (pe_op op_add pe_int (pe_call G__law_take hr (by rfl) T__law_take.g T__law_take.F.kp T__law_take.b .nil pass0 (pa_cons (pv 2) (pa_cons pe_int pa_nil)))))
        (pss_cons (ps_set (i := 4) scLaw.nd rfl (.inl rfl) (pe_op op_add pe_int (pe_call G__law_take hr (by rfl) T__law_take.g T__law_take.F.kp T__law_take.b .nil pass0 (pa_cons (pv 2) (pa_cons (pv 3) pa_nil)))))
        (pss_cons (ps_set (i := 5) scLaw.nd rfl (.inl rfl) (pe_lst (pa_cons (pe_call G_most_by_places hr (by rfl) T_most_by_places.g T_most_by_places.F.kp T_most_by_places.b .nil pass0 (pa_cons (pv 3) (pa_cons (pv 4) pa_nil))) (pa_cons (pe_call G_bounds_by_rounds hr (by rfl) T_bounds_by_rounds.g T_bounds_by_rounds.F.kp T_bounds_by_rounds.b .nil pass0 (pa_cons pe_str (pa_cons (pe_callB (call_min2 rfl) (by rfl) B.min (by decide +kernel) (pa_cons (pv 3) (pa_cons pe_int pa_nil))) (pa_cons (pv 4) pa_nil)))) (pa_cons (pe_call G_bounds_by_rounds hr (by rfl) T_bounds_by_rounds.g T_bounds_by_rounds.F.kp T_bounds_by_rounds.b .nil pass0 (pa_cons pe_str (pa_cons pe_int (pa_cons (pv 4) pa_nil)))) pa_nil)))))
        (pss_cons (ps_for PassesOwn.never rfl (pi_range1 (by rfl) B.range (pa_cons pe_int pa_nil)) (pg_name (i := 6) scLaw.nd rfl (.inl rfl))
          (pss_one (ps_if (pt_not (pt_val (pe_call G__law_right hr (by rfl) T__law_right.g T__law_right.F.kp T__law_right.b .nil pass0 (pa_cons (pv 2) (pa_cons (pe_ix ix_list (pe_call0 G__law_ways hr (by rfl) T__law_ways.g T__law_ways.F.kp T__law_ways.b .nil pass0) (pe_call G__law_take hr (by rfl) T__law_take.g T__law_take.F.kp T__law_take.b .nil pass0 (pa_cons (pv 2) (pa_cons pe_int pa_nil))) (fun _ _ => rfl)) (pa_cons (pv 3) (pa_cons (pv 4) pa_nil)))))))
            (pss_one (ps_ret pe_bl))
            pss_nil)))
        (pss_one (ps_if (pt_cmpR (op_neD hr.units) (pe_lst (pa_cons (pe_call G_most_by_places hr (by rfl) T_most_by_places.g T_most_by_places.F.kp T_most_by_places.b .nil pass0 (pa_cons (pv 3) (pa_cons (pv 4) pa_nil))) (pa_cons (pe_call G_bounds_by_rounds hr (by rfl) T_bounds_by_rounds.g T_bounds_by_rounds.F.kp T_bounds_by_rounds.b .nil pass0 (pa_cons pe_str (pa_cons (pe_callB (call_min2 rfl) (by rfl) B.min (by decide +kernel) (pa_cons (pv 3) (pa_cons pe_int pa_nil))) (pa_cons (pv 4) pa_nil)))) (pa_cons (pe_call G_bounds_by_rounds hr (by rfl) T_bounds_by_rounds.g T_bounds_by_rounds.F.kp T_bounds_by_rounds.b .nil pass0 (pa_cons pe_str (pa_cons pe_int (pa_cons (pv 4) pa_nil)))) pa_nil)))) (pv 5) (nomark _))
          (pss_one (ps_ret pe_bl))
          pss_nil))))))))
      (pss_one (ps_ret pe_bl))), ?_⟩
    refine ⟨_, rfl, a, _, rfl, .inl hS, _, _, rfl, _, _, rfl, ?_⟩
    rw [max_if, min_if, hlm]
    refine ⟨_, rfl, by omega, by omega, ?_⟩
    generalize hN : (max 1 (min 8 ((ns.length : Nat) : Int))).toNat = N
    have hN2 : N ≤ 8 := by omega
    refine for_range (n := N) (fun i σ H1 => ∃ y1 y2 y3 y4 y5 y6, σ = [some (.ref a), y1, y2, y3, y4, y5, y6] ∧ Same H H1) ⟨_, _, _, _, _, _, rfl, Same.refl _⟩ (fun i σ H1 hi hW => ?_) (fun σ H1 hW => q _)
    obtain ⟨y1, y2, y3, y4, y5, y6, rfl, sm⟩ := hW
    refine ⟨_, rfl, _, rfl, a, ns, i, by rw [Int.zero_add]; rfl, sm.seq hS, hlen, by omega, fun d H2 nd P2 s2 => ?_⟩
    have nHd : H d = none := sm.free nd
    have sm2 := sm.trans s2
    -- n
    refine ⟨_, rfl, d, 12, 5000, rfl, P2, by decide, by decide, by decide, fun v1 H3 v10 v11 P3 k3 => ⟨1, _, rfl, rfl, ?_⟩⟩
    obtain ⟨n, en, hn1, hn2⟩ : ∃ n : Nat, (1 : Int) + v1 = (n : Int) ∧ 1 ≤ n ∧ n ≤ 12 := ⟨(1 + v1).toNat, by omega, by omega, by omega⟩
    show gName 3 (V.int (1 + v1)) [some (V.ref a), some (V.int (0 + (i : Int))), some (V.ref d), y3, y4, y5, y6] _ _
    rw [en]
    -- d
    refine ⟨_, rfl, _, rfl, d, (n : Int), 5001, rfl, P3, by decide, by omega, by omega, fun v2 H4 v20 v21 P4 k4 => ⟨1, _, rfl, rfl, ?_⟩⟩
    obtain ⟨m, em, hm1, hm2⟩ : ∃ m : Nat, (1 : Int) + v2 = (m : Int) ∧ 1 ≤ m ∧ m ≤ n := ⟨(1 + v2).toNat, by omega, by omega, by omega⟩
    show gName 4 (V.int (1 + v2)) [some (V.ref a), some (V.int (0 + (i : Int))), some (V.ref d), some (V.int n), y4, y5, y6] _ _
    rw [em]
    have kk4 : KeepD d H H4 := ((KeepD.of_same sm2).trans k3).trans k4
    obtain ⟨n8, e8, h81, h82⟩ : ∃ n8 : Nat, min (n : Int) 8 = (n8 : Int) ∧ 1 ≤ n8 ∧ n8 ≤ 12 := ⟨min n 8, by omega, by omega, by omega⟩
    -- ahead
    refine ⟨_, rfl, _, rfl, n, m, rfl, hm1, hm2, hn2, ?_⟩
    refine ⟨_, rfl, (n : Int), 8, rfl, ?_⟩
    rw [min_if, e8]
    refine ⟨_, rfl, "shift", n8, (m : Int), rfl, .inr (.inr rfl), h81, h82, by omega, fun t H5 nt ht s5 => ?_⟩
    refine ⟨_, rfl, "swap", 12, (m : Int), rfl, .inl rfl, by decide, by decide, by omega, fun u H6 nu hu s6 => ?_⟩
    refine ⟨line_small (by show 3 ≤ 16777216; decide), fun l nl => ?_⟩
    generalize eb1 : leastB "shift" n8 (m : Int) = b1 at ht
    generalize eb2 : mostB "shift" n8 (m : Int) = b2 at ht
    generalize eb3 : leastB "swap" 12 (m : Int) = b3 at hu
    generalize eb4 : mostB "swap" 12 (m : Int) = b4 at hu
    generalize eA0 : (facN n / facN (m - 1)) = A0
    have s7 := same_new (o := .lst [.int A0, .ref t, .ref u]) nl
    have A7 : AhAt (upd H6 l (.lst [.int A0, .ref t, .ref u])) l t u A0 b1 b2 b3 b4 := ⟨upd_same, s7 _ _ (s6 _ _ ht), s7 _ _ hu⟩
    have s46 := s5.trans s6
    have s47 := s46.trans s7
    have P7 := P4.same s47
    have kk7 := kk4.trans (KeepD.of_same s47)
    have ntd := P4.ne nt
    have nud := (P4.same s5).ne nu
    have nld := (P4.same s46).ne nl
    generalize upd H6 l (.lst [.int A0, .ref t, .ref u]) = H7 at A7 P7 kk7 ⊢
    clear s5 s6 s7 s46 s47 ht hu nt nu nl kk4 k3 k4 P2 P3 P4 s2 sm2
    refine ⟨6, rfl, by decide, by decide, ?_⟩
    refine for_range (n := 6) (fun r σ G => ∃ y6 : Option V, σ = [some (.ref a), some (.int (0 + (i : Int))), some (.ref d), some (.int n), some (.int m), some (.ref l), y6] ∧ PoolAt G d (5002 + 40 * r) ∧ KeepD d H7 G) ⟨_, rfl, P7, KeepD.refl d H7⟩ (fun r σ G hr6 hP => ?_) (fun σ G hP => ?_)
    · obtain ⟨z6, rfl, PG, kG⟩ := hP
      refine ⟨_, rfl, rfl, fun wl nwl => ?_⟩
      have s1 := same_new (o := .lst [.str "swap", .str "spot", .str "shift"]) nwl
      have nwd := PG.ne nwl
      refine ⟨_, rfl, d, 3, _, rfl, PG.same s1, by omega, by decide, by decide, fun v G1 v0 v3 PG1 kG1 => ?_⟩
      obtain ⟨z, ez, hz⟩ := ways_at v0 v3
      refine ⟨wl, _, _, _, rfl, rfl, SqL.of (kG1 _ _ upd_same nwd), ez, _, rfl, _, rfl, d, z, n, m, _, rfl, PG1, by omega, hz, by omega, by omega, fun G2 PG2 kG2 => ?_⟩
      exact ⟨true, rfl, iteF ⟨_, rfl, PG2.mono (by omega), ((kG.trans (KeepD.of_same s1)).trans kG1).trans kG2⟩⟩
    · obtain ⟨z6, rfl, PG, kG⟩ := hP
      have AG : AhAt G l t u A0 b1 b2 b3 b4 := ⟨kG _ _ A7.1 nld, kG _ _ A7.2.1 ntd, kG _ _ A7.2.2 nud⟩
      have kkG := kk7.trans kG
      refine ⟨_, rfl, _, rfl, n, m, rfl, hm1, hm2, hn2, ?_⟩
      refine ⟨_, rfl, (n : Int), 8, rfl, ?_⟩
      rw [min_if, e8]
      refine ⟨_, rfl, "shift", n8, (m : Int), rfl, .inr (.inr rfl), h81, h82, by omega, fun t2 H8 nt2 ht2 s8 => ?_⟩
      refine ⟨_, rfl, "swap", 12, (m : Int), rfl, .inl rfl, by decide, by decide, by omega, fun u2 H9 nu2 hu2 s9 => ?_⟩
      refine ⟨line_small (by show 3 ≤ 16777216; decide), fun l2 nl2 => ?_⟩
      rw [eb1, eb2] at ht2
      rw [eb3, eb4] at hu2
      rw [eA0]
      have s10 := same_new (o := .lst [.int A0, .ref t2, .ref u2]) nl2
      have B10 : AhAt (upd H9 l2 (.lst [.int A0, .ref t2, .ref u2])) l2 t2 u2 A0 b1 b2 b3 b4 := ⟨upd_same, s10 _ _ (s9 _ _ ht2), s10 _ _ hu2⟩
      have sG := (s8.trans s9).trans s10
      refine ⟨_, rfl, _, _, B10.dp, (AG.same sG).dp, shaped_A _ _ _ _ _, shaped_A _ _ _ _ _, _, rfl, ?_⟩
      rw [eqv_A]
      refine iteF ⟨_, _, _, _, _, _, rfl, fun w o e => ?_⟩
      exact sG _ _ (kkG w o e fun z => by rw [z, nHd] at e; cases e)
end
end Fo
--LEVEL 13
--CLASSES OrderError NoOrder NoWay NoFit NoPlace NoNumber TooMany NoText NoName NoRow
--RAISED NoWay NoNumber
--KINDS NoOrder NoWay NoFit NoPlace NoNumber TooMany NoText NoName NoRow
--KINDE
--LAWCALL ok_law F_law T__law_pool T__law_take T__law_ways T__law_right T_most_by_places T_bounds_by_rounds (ok_pool (k := 11) T__law_pool B) (ok_take (k := 11) T__law_take B) (ok_ways (k := 11) T__law_ways B) (ok_r61 (k := 11) (c := cls9 C_NoOrder C_NoWay C_NoFit C_NoPlace C_NoNumber C_TooMany C_NoText C_NoName C_NoRow) T__law_right T__law_bad_way T__law_no_number T__law_is T__law_caught (ok_badW (k := 10) T__law_bad_way T__law_ways T__law_take (ok_ways (k := 9) T__law_ways B) (ok_take (k := 9) T__law_take B) B) (ok_noNum (k := 10) T__law_no_number T__law_far T__law_take (ok_farN (k := 9) T__law_far T__law_take (ok_take (k := 8) T__law_take B) B) (ok_take (k := 9) T__law_take B) B) (ok_is61 (k := 10) (c := cls9 C_NoOrder C_NoWay C_NoFit C_NoPlace C_NoNumber C_TooMany C_NoText C_NoName C_NoRow) T__law_is (fun j h => match j, h with | _, .inl rfl => kd_NoWay | _, .inr rfl => kd_NoNumber) (fun j h => match j, h with | _, .inl rfl => xo_NoWay | _, .inr rfl => xo_NoNumber) g_OrderError g_NoOrder g_NoWay g_NoFit g_NoPlace g_NoNumber g_TooMany g_NoText g_NoName g_NoRow B) (ok_cau61 (k := 10) (c := cls9 C_NoOrder C_NoWay C_NoFit C_NoPlace C_NoNumber C_TooMany C_NoText C_NoName C_NoRow) T__law_caught T_bounds_by_rounds T_best_bound T_most_by_places (ok_bndX (k := 9) T_bounds_by_rounds T_check_apart T_count_orders T_known_within (ok_apX (k := 8) T_check_apart T_check_way T_check_size T_check_from (ok_wayX (k := 7) T_check_way m_WAYS X_NoWay B) (ok_sizeX (k := 7) T_check_size T_is_whole (ok_wholeD (k := 6) T_is_whole B) X_NoNumber B) (ok_fromX (k := 7) T_check_from T_is_whole (ok_wholeD (k := 6) T_is_whole B) X_NoNumber B)) B m_MOST_THINGS) (ok_bestX (k := 9) T_best_bound T_check_apart T_bounds_by_rounds T_most_by_places T_first_parting (ok_apX (k := 8) T_check_apart T_check_way T_check_size T_check_from (ok_wayX (k := 7) T_check_way m_WAYS X_NoWay B) (ok_sizeX (k := 7) T_check_size T_is_whole (ok_wholeD (k := 6) T_is_whole B) X_NoNumber B) (ok_fromX (k := 7) T_check_from T_is_whole (ok_wholeD (k := 6) T_is_whole B) X_NoNumber B)) (ok_bndX (k := 8) T_bounds_by_rounds T_check_apart T_count_orders T_known_within (ok_apX (k := 7) T_check_apart T_check_way T_check_size T_check_from (ok_wayX (k := 6) T_check_way m_WAYS X_NoWay B) (ok_sizeX (k := 6) T_check_size T_is_whole (ok_wholeD (k := 5) T_is_whole B) X_NoNumber B) (ok_fromX (k := 6) T_check_from T_is_whole (ok_wholeD (k := 5) T_is_whole B) X_NoNumber B)) B m_MOST_THINGS) (ok_mstX (k := 8) T_most_by_places T_check_size T_count_orders (ok_sizeX (k := 7) T_check_size T_is_whole (ok_wholeD (k := 6) T_is_whole B) X_NoNumber B) B m_MOST_THINGS) B m_MOST_LISTED m_MOST_PARTED) (ok_mstX (k := 9) T_most_by_places T_check_size T_count_orders (ok_sizeX (k := 8) T_check_size T_is_whole (ok_wholeD (k := 7) T_is_whole B) X_NoNumber B) B m_MOST_THINGS) g_OrderError (fun j h => match j, h with | _, .inl rfl => xm_NoWay | _, .inr rfl => xm_NoNumber)) B) (ok_most (k := 11) T_most_by_places T_check_size T_count_orders (ok_size (k := 9) T_check_size T_is_whole B) (ok_fac (k := 10) T_count_orders B) B m_MOST_THINGS) (ok_bounds (k := 11) T_bounds_by_rounds T_check_apart T_count_orders T_known_within (ok_apart (k := 8) T_check_apart T_check_way T_check_size T_check_from T_is_whole m_WAYS B) (ok_fac (k := 10) T_count_orders B) (ok_kw (k := 8) T_known_within T_swap_counts T_spot_counts T_shift_within T_swap_counts_with_one_more T_count_all_moved T_things_near T_one_place_further B) B m_MOST_THINGS) B
namespace Fo
open PySem PySem.Spec PyProof.Rows L2
set_option maxHeartbeats 8000000 in
theorem all_mk {l : PySem.W.OpenLaw} {w : World} {K : PySem.W.Frag} {h : Heap} {mg : Str → Option Value} {fa : Addr} (X : K.In h) (G : h.Ns mainGlobals mg) (hfa : mg "law" = some (.ref fa))
    {f0 f1 f2 f3 f4 f5 f6 f7 f8 f9 f10 f11 f12 f13 f14 f15 f16 f17 f18 f19 f20 f21 f22 f23 f24 f25 f26 f27 f28 f29 f30 f31 f32 f33 f34 f35 f36 f37 : Addr} {od0 an0 od1 an1 od2 an2 od3 an3 od4 an4 od5 an5 od6 an6 od7 an7 od8 an8 od9 an9 od10 an10 od11 an11 od12 an12 od13 an13 od14 an14 od15 an15 od16 an16 od17 an17 od18 an18 od19 an19 od20 an20 od21 an21 od22 an22 od23 an23 od24 an24 od25 an25 od26 an26 od27 an27 od28 an28 od29 an29 od30 an30 od31 an31 od32 an32 od33 an33 od34 an34 od35 an35 od36 an36 od37 an37 : Option Addr} {sl0 sl1 sl2 sl3 sl4 sl5 sl6 sl7 sl8 sl9 sl10 sl11 sl12 sl13 sl14 sl15 sl16 sl17 sl18 sl19 sl20 sl21 sl22 sl23 sl24 sl25 sl26 sl27 sl28 sl29 sl30 sl31 sl32 sl33 sl34 sl35 sl36 sl37 : Array (Option Value)} {oc0 kV0 dc0 pm0 cd0 ct0 oc1 kV1 dc1 pm1 cd1 ct1 oc2 kV2 dc2 pm2 cd2 ct2 oc3 kV3 dc3 pm3 cd3 ct3 oc4 kV4 dc4 pm4 cd4 ct4 oc5 kV5 dc5 pm5 cd5 ct5 oc6 kV6 dc6 pm6 cd6 ct6 oc7 kV7 dc7 pm7 cd7 ct7 oc8 kV8 dc8 pm8 cd8 ct8 oc9 kV9 dc9 pm9 cd9 ct9 oc10 kV10 dc10 pm10 cd10 ct10 oc11 kV11 dc11 pm11 cd11 ct11 oc12 kV12 dc12 pm12 cd12 ct12 oc13 kV13 dc13 pm13 cd13 ct13 oc14 kV14 dc14 pm14 cd14 ct14 oc15 kV15 dc15 pm15 cd15 ct15 oc16 kV16 dc16 pm16 cd16 ct16 oc17 kV17 dc17 pm17 cd17 ct17 oc18 kV18 dc18 pm18 cd18 ct18 oc19 kV19 dc19 pm19 cd19 ct19 oc20 kV20 dc20 pm20 cd20 ct20 oc21 kV21 dc21 pm21 cd21 ct21 oc22 kV22 dc22 pm22 cd22 ct22 oc23 kV23 dc23 pm23 cd23 ct23 oc24 kV24 dc24 pm24 cd24 ct24 oc25 kV25 dc25 pm25 cd25 ct25 oc26 kV26 dc26 pm26 cd26 ct26 oc27 kV27 dc27 pm27 cd27 ct27 oc28 kV28 dc28 pm28 cd28 ct28 oc29 kV29 dc29 pm29 cd29 ct29 oc30 kV30 dc30 pm30 cd30 ct30 oc31 kV31 dc31 pm31 cd31 ct31 oc32 kV32 dc32 pm32 cd32 ct32 oc33 kV33 dc33 pm33 cd33 ct33 oc34 kV34 dc34 pm34 cd34 ct34 oc35 kV35 dc35 pm35 cd35 ct35 oc36 kV36 dc36 pm36 cd36 ct36 oc37 kV37 dc37 pm37 cd37 ct37 : Value} {tk_MOST_THINGS tk_MOST_LISTED tk_MOST_PARTED : Tok} {aW : Addr} {ddW : Option Addr} {nW : Nat} {tW1 tW2 tW3 : Tok} {slW : Array (Option Value)} {C_OrderError C_NoOrder C_NoWay C_NoFit C_NoPlace C_NoNumber C_TooMany C_NoText C_NoName C_NoRow : Addr}
    (a0 : PySem.W.nsIn K mainGlobals "is_whole" = some (some (.ref f0))) (l0 : K.lookup f0 = some ⟨oc0, od0, .func (PySem.W.fnOf "is_whole" "is_whole" (defArgs s_is_whole) (defBody s_is_whole) (defScope s_is_whole) .none kV0 dc0 pm0 an0 cd0 ct0), sl0⟩) (c0 : PySem.W.codeIn K cd0 "is_whole" = true) (k0 : PySem.W.keepIn K (.ref f0) = true)
    (a1 : PySem.W.nsIn K mainGlobals "check_way" = some (some (.ref f1))) (l1 : K.lookup f1 = some ⟨oc1, od1, .func (PySem.W.fnOf "check_way" "check_way" (defArgs s_check_way) (defBody s_check_way) (defScope s_check_way) .none kV1 dc1 pm1 an1 cd1 ct1), sl1⟩) (c1 : PySem.W.codeIn K cd1 "check_way" = true) (k1 : PySem.W.keepIn K (.ref f1) = true)
    (a2 : PySem.W.nsIn K mainGlobals "check_from" = some (some (.ref f2))) (l2 : K.lookup f2 = some ⟨oc2, od2, .func (PySem.W.fnOf "check_from" "check_from" (defArgs s_check_from) (defBody s_check_from) (defScope s_check_from) .none kV2 dc2 pm2 an2 cd2 ct2), sl2⟩) (c2 : PySem.W.codeIn K cd2 "check_from" = true) (k2 : PySem.W.keepIn K (.ref f2) = true)
    (a3 : PySem.W.nsIn K mainGlobals "check_size" = some (some (.ref f3))) (l3 : K.lookup f3 = some ⟨oc3, od3, .func (PySem.W.fnOf "check_size" "check_size" (defArgs s_check_size) (defBody s_check_size) (defScope s_check_size) .none kV3 dc3 pm3 an3 cd3 ct3), sl3⟩) (c3 : PySem.W.codeIn K cd3 "check_size" = true) (k3 : PySem.W.keepIn K (.ref f3) = true)
    (a4 : PySem.W.nsIn K mainGlobals "check_apart" = some (some (.ref f4))) (l4 : K.lookup f4 = some ⟨oc4, od4, .func (PySem.W.fnOf "check_apart" "check_apart" (defArgs s_check_apart) (defBody s_check_apart) (defScope s_check_apart) .none kV4 dc4 pm4 an4 cd4 ct4), sl4⟩) (c4 : PySem.W.codeIn K cd4 "check_apart" = true) (k4 : PySem.W.keepIn K (.ref f4) = true)
    (a5 : PySem.W.nsIn K mainGlobals "places_in" = some (some (.ref f5))) (l5 : K.lookup f5 = some ⟨oc5, od5, .func (PySem.W.fnOf "places_in" "places_in" (defArgs s_places_in) (defBody s_places_in) (defScope s_places_in) .none kV5 dc5 pm5 an5 cd5 ct5), sl5⟩) (c5 : PySem.W.codeIn K cd5 "places_in" = true) (k5 : PySem.W.keepIn K (.ref f5) = true)
    (a6 : PySem.W.nsIn K mainGlobals "seats_in" = some (some (.ref f6))) (l6 : K.lookup f6 = some ⟨oc6, od6, .func (PySem.W.fnOf "seats_in" "seats_in" (defArgs s_seats_in) (defBody s_seats_in) (defScope s_seats_in) .none kV6 dc6 pm6 an6 cd6 ct6), sl6⟩) (c6 : PySem.W.codeIn K cd6 "seats_in" = true) (k6 : PySem.W.keepIn K (.ref f6) = true)
    (a7 : PySem.W.nsIn K mainGlobals "known_far" = some (some (.ref f7))) (l7 : K.lookup f7 = some ⟨oc7, od7, .func (PySem.W.fnOf "known_far" "known_far" (defArgs s_known_far) (defBody s_known_far) (defScope s_known_far) .none kV7 dc7 pm7 an7 cd7 ct7), sl7⟩) (c7 : PySem.W.codeIn K cd7 "known_far" = true) (k7 : PySem.W.keepIn K (.ref f7) = true)
    (a8 : PySem.W.nsIn K mainGlobals "far_by_swap" = some (some (.ref f8))) (l8 : K.lookup f8 = some ⟨oc8, od8, .func (PySem.W.fnOf "far_by_swap" "far_by_swap" (defArgs s_far_by_swap) (defBody s_far_by_swap) (defScope s_far_by_swap) .none kV8 dc8 pm8 an8 cd8 ct8), sl8⟩) (c8 : PySem.W.codeIn K cd8 "far_by_swap" = true) (k8 : PySem.W.keepIn K (.ref f8) = true)
    (a9 : PySem.W.nsIn K mainGlobals "far_by_spot" = some (some (.ref f9))) (l9 : K.lookup f9 = some ⟨oc9, od9, .func (PySem.W.fnOf "far_by_spot" "far_by_spot" (defArgs s_far_by_spot) (defBody s_far_by_spot) (defScope s_far_by_spot) .none kV9 dc9 pm9 an9 cd9 ct9), sl9⟩) (c9 : PySem.W.codeIn K cd9 "far_by_spot" = true) (k9 : PySem.W.keepIn K (.ref f9) = true)
    (a10 : PySem.W.nsIn K mainGlobals "far_by_shift" = some (some (.ref f10))) (l10 : K.lookup f10 = some ⟨oc10, od10, .func (PySem.W.fnOf "far_by_shift" "far_by_shift" (defArgs s_far_by_shift) (defBody s_far_by_shift) (defScope s_far_by_shift) .none kV10 dc10 pm10 an10 cd10 ct10), sl10⟩) (c10 : PySem.W.codeIn K cd10 "far_by_shift" = true) (k10 : PySem.W.keepIn K (.ref f10) = true)
    (a11 : PySem.W.nsIn K mainGlobals "all_orders" = some (some (.ref f11))) (l11 : K.lookup f11 = some ⟨oc11, od11, .func (PySem.W.fnOf "all_orders" "all_orders" (defArgs s_all_orders) (defBody s_all_orders) (defScope s_all_orders) .none kV11 dc11 pm11 an11 cd11 ct11), sl11⟩) (c11 : PySem.W.codeIn K cd11 "all_orders" = true) (k11 : PySem.W.keepIn K (.ref f11) = true)
    (a12 : PySem.W.nsIn K mainGlobals "orders_with" = some (some (.ref f12))) (l12 : K.lookup f12 = some ⟨oc12, od12, .func (PySem.W.fnOf "orders_with" "orders_with" (defArgs s_orders_with) (defBody s_orders_with) (defScope s_orders_with) .none kV12 dc12 pm12 an12 cd12 ct12), sl12⟩) (c12 : PySem.W.codeIn K cd12 "orders_with" = true) (k12 : PySem.W.keepIn K (.ref f12) = true)
    (a13 : PySem.W.nsIn K mainGlobals "count_orders" = some (some (.ref f13))) (l13 : K.lookup f13 = some ⟨oc13, od13, .func (PySem.W.fnOf "count_orders" "count_orders" (defArgs s_count_orders) (defBody s_count_orders) (defScope s_count_orders) .none kV13 dc13 pm13 an13 cd13 ct13), sl13⟩) (c13 : PySem.W.codeIn K cd13 "count_orders" = true) (k13 : PySem.W.keepIn K (.ref f13) = true)
    (a14 : PySem.W.nsIn K mainGlobals "is_near" = some (some (.ref f14))) (l14 : K.lookup f14 = some ⟨oc14, od14, .func (PySem.W.fnOf "is_near" "is_near" (defArgs s_is_near) (defBody s_is_near) (defScope s_is_near) .none kV14 dc14 pm14 an14 cd14 ct14), sl14⟩) (c14 : PySem.W.codeIn K cd14 "is_near" = true) (k14 : PySem.W.keepIn K (.ref f14) = true)
    (a15 : PySem.W.nsIn K mainGlobals "first_parting" = some (some (.ref f15))) (l15 : K.lookup f15 = some ⟨oc15, od15, .func (PySem.W.fnOf "first_parting" "first_parting" (defArgs s_first_parting) (defBody s_first_parting) (defScope s_first_parting) .none kV15 dc15 pm15 an15 cd15 ct15), sl15⟩) (c15 : PySem.W.codeIn K cd15 "first_parting" = true) (k15 : PySem.W.keepIn K (.ref f15) = true)
    (a16 : PySem.W.nsIn K mainGlobals "first_near" = some (some (.ref f16))) (l16 : K.lookup f16 = some ⟨oc16, od16, .func (PySem.W.fnOf "first_near" "first_near" (defArgs s_first_near) (defBody s_first_near) (defScope s_first_near) .none kV16 dc16 pm16 an16 cd16 ct16), sl16⟩) (c16 : PySem.W.codeIn K cd16 "first_near" = true) (k16 : PySem.W.keepIn K (.ref f16) = true)
    (a17 : PySem.W.nsIn K mainGlobals "known_within" = some (some (.ref f17))) (l17 : K.lookup f17 = some ⟨oc17, od17, .func (PySem.W.fnOf "known_within" "known_within" (defArgs s_known_within) (defBody s_known_within) (defScope s_known_within) .none kV17 dc17 pm17 an17 cd17 ct17), sl17⟩) (c17 : PySem.W.codeIn K cd17 "known_within" = true) (k17 : PySem.W.keepIn K (.ref f17) = true)
    (a18 : PySem.W.nsIn K mainGlobals "swap_counts" = some (some (.ref f18))) (l18 : K.lookup f18 = some ⟨oc18, od18, .func (PySem.W.fnOf "swap_counts" "swap_counts" (defArgs s_swap_counts) (defBody s_swap_counts) (defScope s_swap_counts) .none kV18 dc18 pm18 an18 cd18 ct18), sl18⟩) (c18 : PySem.W.codeIn K cd18 "swap_counts" = true) (k18 : PySem.W.keepIn K (.ref f18) = true)
    (a19 : PySem.W.nsIn K mainGlobals "swap_counts_with_one_more" = some (some (.ref f19))) (l19 : K.lookup f19 = some ⟨oc19, od19, .func (PySem.W.fnOf "swap_counts_with_one_more" "swap_counts_with_one_more" (defArgs s_swap_counts_with_one_more) (defBody s_swap_counts_with_one_more) (defScope s_swap_counts_with_one_more) .none kV19 dc19 pm19 an19 cd19 ct19), sl19⟩) (c19 : PySem.W.codeIn K cd19 "swap_counts_with_one_more" = true) (k19 : PySem.W.keepIn K (.ref f19) = true)
    (a20 : PySem.W.nsIn K mainGlobals "spot_counts" = some (some (.ref f20))) (l20 : K.lookup f20 = some ⟨oc20, od20, .func (PySem.W.fnOf "spot_counts" "spot_counts" (defArgs s_spot_counts) (defBody s_spot_counts) (defScope s_spot_counts) .none kV20 dc20 pm20 an20 cd20 ct20), sl20⟩) (c20 : PySem.W.codeIn K cd20 "spot_counts" = true) (k20 : PySem.W.keepIn K (.ref f20) = true)
    (a21 : PySem.W.nsIn K mainGlobals "count_all_moved" = some (some (.ref f21))) (l21 : K.lookup f21 = some ⟨oc21, od21, .func (PySem.W.fnOf "count_all_moved" "count_all_moved" (defArgs s_count_all_moved) (defBody s_count_all_moved) (defScope s_count_all_moved) .none kV21 dc21 pm21 an21 cd21 ct21), sl21⟩) (c21 : PySem.W.codeIn K cd21 "count_all_moved" = true) (k21 : PySem.W.keepIn K (.ref f21) = true)
    (a22 : PySem.W.nsIn K mainGlobals "shift_within" = some (some (.ref f22))) (l22 : K.lookup f22 = some ⟨oc22, od22, .func (PySem.W.fnOf "shift_within" "shift_within" (defArgs s_shift_within) (defBody s_shift_within) (defScope s_shift_within) .none kV22 dc22 pm22 an22 cd22 ct22), sl22⟩) (c22 : PySem.W.codeIn K cd22 "shift_within" = true) (k22 : PySem.W.keepIn K (.ref f22) = true)
    (a23 : PySem.W.nsIn K mainGlobals "things_near" = some (some (.ref f23))) (l23 : K.lookup f23 = some ⟨oc23, od23, .func (PySem.W.fnOf "things_near" "things_near" (defArgs s_things_near) (defBody s_things_near) (defScope s_things_near) .none kV23 dc23 pm23 an23 cd23 ct23), sl23⟩) (c23 : PySem.W.codeIn K cd23 "things_near" = true) (k23 : PySem.W.keepIn K (.ref f23) = true)
    (a24 : PySem.W.nsIn K mainGlobals "one_place_further" = some (some (.ref f24))) (l24 : K.lookup f24 = some ⟨oc24, od24, .func (PySem.W.fnOf "one_place_further" "one_place_further" (defArgs s_one_place_further) (defBody s_one_place_further) (defScope s_one_place_further) .none kV24 dc24 pm24 an24 cd24 ct24), sl24⟩) (c24 : PySem.W.codeIn K cd24 "one_place_further" = true) (k24 : PySem.W.keepIn K (.ref f24) = true)
    (a25 : PySem.W.nsIn K mainGlobals "bounds_by_rounds" = some (some (.ref f25))) (l25 : K.lookup f25 = some ⟨oc25, od25, .func (PySem.W.fnOf "bounds_by_rounds" "bounds_by_rounds" (defArgs s_bounds_by_rounds) (defBody s_bounds_by_rounds) (defScope s_bounds_by_rounds) .none kV25 dc25 pm25 an25 cd25 ct25), sl25⟩) (c25 : PySem.W.codeIn K cd25 "bounds_by_rounds" = true) (k25 : PySem.W.keepIn K (.ref f25) = true)
    (a26 : PySem.W.nsIn K mainGlobals "most_by_places" = some (some (.ref f26))) (l26 : K.lookup f26 = some ⟨oc26, od26, .func (PySem.W.fnOf "most_by_places" "most_by_places" (defArgs s_most_by_places) (defBody s_most_by_places) (defScope s_most_by_places) .none kV26 dc26 pm26 an26 cd26 ct26), sl26⟩) (c26 : PySem.W.codeIn K cd26 "most_by_places" = true) (k26 : PySem.W.keepIn K (.ref f26) = true)
    (a27 : PySem.W.nsIn K mainGlobals "best_bound" = some (some (.ref f27))) (l27 : K.lookup f27 = some ⟨oc27, od27, .func (PySem.W.fnOf "best_bound" "best_bound" (defArgs s_best_bound) (defBody s_best_bound) (defScope s_best_bound) .none kV27 dc27 pm27 an27 cd27 ct27), sl27⟩) (c27 : PySem.W.codeIn K cd27 "best_bound" = true) (k27 : PySem.W.keepIn K (.ref f27) = true)
    (a28 : PySem.W.nsIn K mainGlobals "_law_pool" = some (some (.ref f28))) (l28 : K.lookup f28 = some ⟨oc28, od28, .func (PySem.W.fnOf "_law_pool" "_law_pool" (defArgs s_law_pool) (defBody s_law_pool) (defScope s_law_pool) .none kV28 dc28 pm28 an28 cd28 ct28), sl28⟩) (c28 : PySem.W.codeIn K cd28 "_law_pool" = true) (k28 : PySem.W.keepIn K (.ref f28) = true)
    (a29 : PySem.W.nsIn K mainGlobals "_law_take" = some (some (.ref f29))) (l29 : K.lookup f29 = some ⟨oc29, od29, .func (PySem.W.fnOf "_law_take" "_law_take" (defArgs s_law_take) (defBody s_law_take) (defScope s_law_take) .none kV29 dc29 pm29 an29 cd29 ct29), sl29⟩) (c29 : PySem.W.codeIn K cd29 "_law_take" = true) (k29 : PySem.W.keepIn K (.ref f29) = true)
    (a30 : PySem.W.nsIn K mainGlobals "_law_far" = some (some (.ref f30))) (l30 : K.lookup f30 = some ⟨oc30, od30, .func (PySem.W.fnOf "_law_far" "_law_far" (defArgs s_law_far) (defBody s_law_far) (defScope s_law_far) .none kV30 dc30 pm30 an30 cd30 ct30), sl30⟩) (c30 : PySem.W.codeIn K cd30 "_law_far" = true) (k30 : PySem.W.keepIn K (.ref f30) = true)
    (a31 : PySem.W.nsIn K mainGlobals "_law_ways" = some (some (.ref f31))) (l31 : K.lookup f31 = some ⟨oc31, od31, .func (PySem.W.fnOf "_law_ways" "_law_ways" (defArgs s_law_ways) (defBody s_law_ways) (defScope s_law_ways) .none kV31 dc31 pm31 an31 cd31 ct31), sl31⟩) (c31 : PySem.W.codeIn K cd31 "_law_ways" = true) (k31 : PySem.W.keepIn K (.ref f31) = true)
    (a32 : PySem.W.nsIn K mainGlobals "_law_is" = some (some (.ref f32))) (l32 : K.lookup f32 = some ⟨oc32, od32, .func (PySem.W.fnOf "_law_is" "_law_is" (defArgs s_law_is) (defBody s_law_is) (defScope s_law_is) .none kV32 dc32 pm32 an32 cd32 ct32), sl32⟩) (c32 : PySem.W.codeIn K cd32 "_law_is" = true) (k32 : PySem.W.keepIn K (.ref f32) = true)
    (a33 : PySem.W.nsIn K mainGlobals "_law_bad_way" = some (some (.ref f33))) (l33 : K.lookup f33 = some ⟨oc33, od33, .func (PySem.W.fnOf "_law_bad_way" "_law_bad_way" (defArgs s_law_bad_way) (defBody s_law_bad_way) (defScope s_law_bad_way) .none kV33 dc33 pm33 an33 cd33 ct33), sl33⟩) (c33 : PySem.W.codeIn K cd33 "_law_bad_way" = true) (k33 : PySem.W.keepIn K (.ref f33) = true)
    (a34 : PySem.W.nsIn K mainGlobals "_law_caught" = some (some (.ref f34))) (l34 : K.lookup f34 = some ⟨oc34, od34, .func (PySem.W.fnOf "_law_caught" "_law_caught" (defArgs s_law_caught) (defBody s_law_caught) (defScope s_law_caught) .none kV34 dc34 pm34 an34 cd34 ct34), sl34⟩) (c34 : PySem.W.codeIn K cd34 "_law_caught" = true) (k34 : PySem.W.keepIn K (.ref f34) = true)
    (a35 : PySem.W.nsIn K mainGlobals "_law_no_number" = some (some (.ref f35))) (l35 : K.lookup f35 = some ⟨oc35, od35, .func (PySem.W.fnOf "_law_no_number" "_law_no_number" (defArgs s_law_no_number) (defBody s_law_no_number) (defScope s_law_no_number) .none kV35 dc35 pm35 an35 cd35 ct35), sl35⟩) (c35 : PySem.W.codeIn K cd35 "_law_no_number" = true) (k35 : PySem.W.keepIn K (.ref f35) = true)
    (a36 : PySem.W.nsIn K mainGlobals "_law_right" = some (some (.ref f36))) (l36 : K.lookup f36 = some ⟨oc36, od36, .func (PySem.W.fnOf "_law_right" "_law_right" (defArgs s_law_right) (defBody s_law_right) (defScope s_law_right) .none kV36 dc36 pm36 an36 cd36 ct36), sl36⟩) (c36 : PySem.W.codeIn K cd36 "_law_right" = true) (k36 : PySem.W.keepIn K (.ref f36) = true)
    (a37 : PySem.W.nsIn K mainGlobals "law" = some (some (.ref f37))) (l37 : K.lookup f37 = some ⟨oc37, od37, .func (PySem.W.fnOf "law" "law" (defArgs s_law) (defBody s_law) (defScope s_law) .none kV37 dc37 pm37 an37 cd37 ct37), sl37⟩) (c37 : PySem.W.codeIn K cd37 "law" = true) (k37 : PySem.W.keepIn K (.ref f37) = true)
    (g_MOST_THINGS : PySem.W.nsIn K mainGlobals "MOST_THINGS" = some (some (.int 12 tk_MOST_THINGS)))
    (g_MOST_LISTED : PySem.W.nsIn K mainGlobals "MOST_LISTED" = some (some (.int 6 tk_MOST_LISTED)))
    (g_MOST_PARTED : PySem.W.nsIn K mainGlobals "MOST_PARTED" = some (some (.int 5 tk_MOST_PARTED)))
    (g_WAYS : PySem.W.nsIn K mainGlobals "WAYS" = some (some (.ref aW))) (l_WAYS : K.lookup aW = some ⟨.type "tuple", ddW, .seq #[.str "swap" tW1, .str "spot" tW2, .str "shift" tW3] nW, slW⟩)
    (gc_OrderError : PySem.W.nsIn K mainGlobals "OrderError" = some (some (.ref C_OrderError)))
    (gc_NoOrder : PySem.W.nsIn K mainGlobals "NoOrder" = some (some (.ref C_NoOrder)))
    (gc_NoWay : PySem.W.nsIn K mainGlobals "NoWay" = some (some (.ref C_NoWay)))
    (gc_NoFit : PySem.W.nsIn K mainGlobals "NoFit" = some (some (.ref C_NoFit)))
    (gc_NoPlace : PySem.W.nsIn K mainGlobals "NoPlace" = some (some (.ref C_NoPlace)))
    (gc_NoNumber : PySem.W.nsIn K mainGlobals "NoNumber" = some (some (.ref C_NoNumber)))
    (gc_TooMany : PySem.W.nsIn K mainGlobals "TooMany" = some (some (.ref C_TooMany)))
    (gc_NoText : PySem.W.nsIn K mainGlobals "NoText" = some (some (.ref C_NoText)))
    (gc_NoName : PySem.W.nsIn K mainGlobals "NoName" = some (some (.ref C_NoName)))
    (gc_NoRow : PySem.W.nsIn K mainGlobals "NoRow" = some (some (.ref C_NoRow)))
    (xq_NoWay : PySem.W.excIn K C_NoWay [.type "ValueError", .type "Exception", .type "BaseException", .type "object"] "ValueError.__new__" = true) (xk_NoWay : PySem.W.keepIn K (.ref C_NoWay) = true) (xt_NoWay : PySem.W.typeIn K (.ref C_NoWay) = some (.type "type")) (xm_NoWay : PySem.W.exmOne K (.ref C_NoWay) (.ref C_OrderError) = some true) (xv_NoWay : PySem.W.kitOne K (.ref C_NoWay) (.type "ValueError") = some true)
    (xehg_NoWay : PySem.W.findIn K (.ref C_NoWay) "__getattribute__" = some (some (.builtin "BaseException.__getattribute__")))
    (xehk_NoWay : PySem.W.findIn K (.ref C_NoWay) "__getattr__" = some none)
    (xehs_NoWay : PySem.W.subIn K (.ref C_NoWay) (.type "BaseException") = some true)
    (xehd_NoWay : PySem.W.hasDictIn K C_NoWay = true)
    (xeha_NoWay : PySem.W.findIn K (.ref C_NoWay) "__class__" = some (some (.builtin "object.__class__")))
    (xehn_NoWay : PySem.W.specialIn K (.builtin "object.__class__") "__get__" = some (some (.builtin "getset_descriptor.__get__")))
    (xeht_NoWay : PySem.W.takesIn K (.builtin "object.__class__") = some true)
    (xehm_NoWay : PySem.W.mroIn K C_NoWay (.type "object") = some true)
    (xo_NoWay : PySem.W.kitOne K (.ref C_NoWay) (.ref C_OrderError) = some true)
    (xy_NoWay_NoOrder : PySem.W.kitOne K (.ref C_NoWay) (.ref C_NoOrder) = some false)
    (xy_NoWay_NoWay : PySem.W.kitOne K (.ref C_NoWay) (.ref C_NoWay) = some true)
    (xy_NoWay_NoFit : PySem.W.kitOne K (.ref C_NoWay) (.ref C_NoFit) = some false)
    (xy_NoWay_NoPlace : PySem.W.kitOne K (.ref C_NoWay) (.ref C_NoPlace) = some false)
    (xy_NoWay_NoNumber : PySem.W.kitOne K (.ref C_NoWay) (.ref C_NoNumber) = some false)
    (xy_NoWay_TooMany : PySem.W.kitOne K (.ref C_NoWay) (.ref C_TooMany) = some false)
    (xy_NoWay_NoText : PySem.W.kitOne K (.ref C_NoWay) (.ref C_NoText) = some false)
    (xy_NoWay_NoName : PySem.W.kitOne K (.ref C_NoWay) (.ref C_NoName) = some false)
    (xy_NoWay_NoRow : PySem.W.kitOne K (.ref C_NoWay) (.ref C_NoRow) = some false)
    (xq_NoNumber : PySem.W.excIn K C_NoNumber [.type "ValueError", .type "Exception", .type "BaseException", .type "object"] "ValueError.__new__" = true) (xk_NoNumber : PySem.W.keepIn K (.ref C_NoNumber) = true) (xt_NoNumber : PySem.W.typeIn K (.ref C_NoNumber) = some (.type "type")) (xm_NoNumber : PySem.W.exmOne K (.ref C_NoNumber) (.ref C_OrderError) = some true) (xv_NoNumber : PySem.W.kitOne K (.ref C_NoNumber) (.type "ValueError") = some true)
    (xehg_NoNumber : PySem.W.findIn K (.ref C_NoNumber) "__getattribute__" = some (some (.builtin "BaseException.__getattribute__")))
    (xehk_NoNumber : PySem.W.findIn K (.ref C_NoNumber) "__getattr__" = some none)
    (xehs_NoNumber : PySem.W.subIn K (.ref C_NoNumber) (.type "BaseException") = some true)
    (xehd_NoNumber : PySem.W.hasDictIn K C_NoNumber = true)
    (xeha_NoNumber : PySem.W.findIn K (.ref C_NoNumber) "__class__" = some (some (.builtin "object.__class__")))
    (xehn_NoNumber : PySem.W.specialIn K (.builtin "object.__class__") "__get__" = some (some (.builtin "getset_descriptor.__get__")))
    (xeht_NoNumber : PySem.W.takesIn K (.builtin "object.__class__") = some true)
    (xehm_NoNumber : PySem.W.mroIn K C_NoNumber (.type "object") = some true)
    (xo_NoNumber : PySem.W.kitOne K (.ref C_NoNumber) (.ref C_OrderError) = some true)
    (xy_NoNumber_NoOrder : PySem.W.kitOne K (.ref C_NoNumber) (.ref C_NoOrder) = some false)
    (xy_NoNumber_NoWay : PySem.W.kitOne K (.ref C_NoNumber) (.ref C_NoWay) = some false)
    (xy_NoNumber_NoFit : PySem.W.kitOne K (.ref C_NoNumber) (.ref C_NoFit) = some false)
    (xy_NoNumber_NoPlace : PySem.W.kitOne K (.ref C_NoNumber) (.ref C_NoPlace) = some false)
    (xy_NoNumber_NoNumber : PySem.W.kitOne K (.ref C_NoNumber) (.ref C_NoNumber) = some true)
    (xy_NoNumber_TooMany : PySem.W.kitOne K (.ref C_NoNumber) (.ref C_TooMany) = some false)
    (xy_NoNumber_NoText : PySem.W.kitOne K (.ref C_NoNumber) (.ref C_NoText) = some false)
    (xy_NoNumber_NoName : PySem.W.kitOne K (.ref C_NoNumber) (.ref C_NoName) = some false)
    (xy_NoNumber_NoRow : PySem.W.kitOne K (.ref C_NoNumber) (.ref C_NoRow) = some false)
    (z_ValueError : PySem.W.nsIn K mainGlobals "ValueError" = some none)
    (z_abs : PySem.W.nsIn K mainGlobals "abs" = some none)
    (z_all : PySem.W.nsIn K mainGlobals "all" = some none)
    (z_bool : PySem.W.nsIn K mainGlobals "bool" = some none)
    (z_enumerate : PySem.W.nsIn K mainGlobals "enumerate" = some none)
    (z_int : PySem.W.nsIn K mainGlobals "int" = some none)
    (z_isinstance : PySem.W.nsIn K mainGlobals "isinstance" = some none)
    (z_len : PySem.W.nsIn K mainGlobals "len" = some none)
    (z_list : PySem.W.nsIn K mainGlobals "list" = some none)
    (z_max : PySem.W.nsIn K mainGlobals "max" = some none)
    (z_min : PySem.W.nsIn K mainGlobals "min" = some none)
    (z_range : PySem.W.nsIn K mainGlobals "range" = some none)
    (z_str : PySem.W.nsIn K mainGlobals "str" = some none)
    (z_sum : PySem.W.nsIn K mainGlobals "sum" = some none)
    : ∃ fd : FuncData, (∀ (s : Shared) (v : Value), BindsTo s fd ⟨[v], []⟩ [("script", v)]) ∧ ∀ base : Heap, K.In base → base.Ns mainGlobals mg → FnOk l.prog w K mg base CX0 13 fa fd ["script"] (spLaw K) := by
  have e := hfa.symm.trans (PySem.W.mg_of X G a37)
  cases e
  have F0 := fun_mk (st := s_is_whole) l0 c0 k0
  have F1 := fun_mk (st := s_check_way) l1 c1 k1
  have F2 := fun_mk (st := s_check_from) l2 c2 k2
  have F3 := fun_mk (st := s_check_size) l3 c3 k3
  have F4 := fun_mk (st := s_check_apart) l4 c4 k4
  have F5 := fun_mk (st := s_places_in) l5 c5 k5
  have F6 := fun_mk (st := s_seats_in) l6 c6 k6
  have F7 := fun_mk (st := s_known_far) l7 c7 k7
  have F8 := fun_mk (st := s_far_by_swap) l8 c8 k8
  have F9 := fun_mk (st := s_far_by_spot) l9 c9 k9
  have F10 := fun_mk (st := s_far_by_shift) l10 c10 k10
  have F11 := fun_mk (st := s_all_orders) l11 c11 k11
  have F12 := fun_mk (st := s_orders_with) l12 c12 k12
  have F13 := fun_mk (st := s_count_orders) l13 c13 k13
  have F14 := fun_mk (st := s_is_near) l14 c14 k14
  have F15 := fun_mk (st := s_first_parting) l15 c15 k15
  have F16 := fun_mk (st := s_first_near) l16 c16 k16
  have F17 := fun_mk (st := s_known_within) l17 c17 k17
  have F18 := fun_mk (st := s_swap_counts) l18 c18 k18
  have F19 := fun_mk (st := s_swap_counts_with_one_more) l19 c19 k19
  have F20 := fun_mk (st := s_spot_counts) l20 c20 k20
  have F21 := fun_mk (st := s_count_all_moved) l21 c21 k21
  have F22 := fun_mk (st := s_shift_within) l22 c22 k22
  have F23 := fun_mk (st := s_things_near) l23 c23 k23
  have F24 := fun_mk (st := s_one_place_further) l24 c24 k24
  have F25 := fun_mk (st := s_bounds_by_rounds) l25 c25 k25
  have F26 := fun_mk (st := s_most_by_places) l26 c26 k26
  have F27 := fun_mk (st := s_best_bound) l27 c27 k27
  have F28 := fun_mk (st := s_law_pool) l28 c28 k28
  have F29 := fun_mk (st := s_law_take) l29 c29 k29
  have F30 := fun_mk (st := s_law_far) l30 c30 k30
  have F31 := fun_mk (st := s_law_ways) l31 c31 k31
  have F32 := fun_mk (st := s_law_is) l32 c32 k32
  have F33 := fun_mk (st := s_law_bad_way) l33 c33 k33
  have F34 := fun_mk (st := s_law_caught) l34 c34 k34
  have F35 := fun_mk (st := s_law_no_number) l35 c35 k35
  have F36 := fun_mk (st := s_law_right) l36 c36 k36
  have F37 := fun_mk (st := s_law) l37 c37 k37
  have T_is_whole : Df K mg "is_whole" s_is_whole ["thing"] f0 _ := ⟨F0, F0.binds (ps := ["thing"]) (fun _ _ _ _ _ _ us hl => match us, hl with | [_], _ => rfl), PySem.W.mg_of X G a0⟩
  have T_check_way : Df K mg "check_way" s_check_way ["thing"] f1 _ := ⟨F1, F1.binds (ps := ["thing"]) (fun _ _ _ _ _ _ us hl => match us, hl with | [_], _ => rfl), PySem.W.mg_of X G a1⟩
  have T_check_from : Df K mg "check_from" s_check_from ["thing", "least"] f2 _ := ⟨F2, F2.binds (ps := ["thing", "least"]) (fun _ _ _ _ _ _ us hl => match us, hl with | [_, _], _ => rfl), PySem.W.mg_of X G a2⟩
  have T_check_size : Df K mg "check_size" s_check_size ["thing", "most"] f3 _ := ⟨F3, F3.binds (ps := ["thing", "most"]) (fun _ _ _ _ _ _ us hl => match us, hl with | [_, _], _ => rfl), PySem.W.mg_of X G a3⟩
  have T_check_apart : Df K mg "check_apart" s_check_apart ["way", "n", "most", "d"] f4 _ := ⟨F4, F4.binds (ps := ["way", "n", "most", "d"]) (fun _ _ _ _ _ _ us hl => match us, hl with | [_, _, _, _], _ => rfl), PySem.W.mg_of X G a4⟩
  have T_places_in : Df K mg "places_in" s_places_in ["order"] f5 _ := ⟨F5, F5.binds (ps := ["order"]) (fun _ _ _ _ _ _ us hl => match us, hl with | [_], _ => rfl), PySem.W.mg_of X G a5⟩
  have T_seats_in : Df K mg "seats_in" s_seats_in ["one", "other"] f6 _ := ⟨F6, F6.binds (ps := ["one", "other"]) (fun _ _ _ _ _ _ us hl => match us, hl with | [_, _], _ => rfl), PySem.W.mg_of X G a6⟩
  have T_known_far : Df K mg "known_far" s_known_far ["way", "one", "other"] f7 _ := ⟨F7, F7.binds (ps := ["way", "one", "other"]) (fun _ _ _ _ _ _ us hl => match us, hl with | [_, _, _], _ => rfl), PySem.W.mg_of X G a7⟩
  have T_far_by_swap : Df K mg "far_by_swap" s_far_by_swap ["one", "other"] f8 _ := ⟨F8, F8.binds (ps := ["one", "other"]) (fun _ _ _ _ _ _ us hl => match us, hl with | [_, _], _ => rfl), PySem.W.mg_of X G a8⟩
  have T_far_by_spot : Df K mg "far_by_spot" s_far_by_spot ["one", "other"] f9 _ := ⟨F9, F9.binds (ps := ["one", "other"]) (fun _ _ _ _ _ _ us hl => match us, hl with | [_, _], _ => rfl), PySem.W.mg_of X G a9⟩
  have T_far_by_shift : Df K mg "far_by_shift" s_far_by_shift ["one", "other"] f10 _ := ⟨F10, F10.binds (ps := ["one", "other"]) (fun _ _ _ _ _ _ us hl => match us, hl with | [_, _], _ => rfl), PySem.W.mg_of X G a10⟩
  have T_all_orders : Df K mg "all_orders" s_all_orders ["n"] f11 _ := ⟨F11, F11.binds (ps := ["n"]) (fun _ _ _ _ _ _ us hl => match us, hl with | [_], _ => rfl), PySem.W.mg_of X G a11⟩
  have T_orders_with : Df K mg "orders_with" s_orders_with ["choices"] f12 _ := ⟨F12, F12.binds (ps := ["choices"]) (fun _ _ _ _ _ _ us hl => match us, hl with | [_], _ => rfl), PySem.W.mg_of X G a12⟩
  have T_count_orders : Df K mg "count_orders" s_count_orders ["n"] f13 _ := ⟨F13, F13.binds (ps := ["n"]) (fun _ _ _ _ _ _ us hl => match us, hl with | [_], _ => rfl), PySem.W.mg_of X G a13⟩
  have T_is_near : Df K mg "is_near" s_is_near ["way", "d", "order", "others"] f14 _ := ⟨F14, F14.binds (ps := ["way", "d", "order", "others"]) (fun _ _ _ _ _ _ us hl => match us, hl with | [_, _, _, _], _ => rfl), PySem.W.mg_of X G a14⟩
  have T_first_parting : Df K mg "first_parting" s_first_parting ["way", "n", "d"] f15 _ := ⟨F15, F15.binds (ps := ["way", "n", "d"]) (fun _ _ _ _ _ _ us hl => match us, hl with | [_, _, _], _ => rfl), PySem.W.mg_of X G a15⟩
  have T_first_near : Df K mg "first_near" s_first_near ["way", "d", "order", "parts"] f16 _ := ⟨F16, F16.binds (ps := ["way", "d", "order", "parts"]) (fun _ _ _ _ _ _ us hl => match us, hl with | [_, _, _, _], _ => rfl), PySem.W.mg_of X G a16⟩
  have T_known_within : Df K mg "known_within" s_known_within ["way", "n", "r"] f17 _ := ⟨F17, F17.binds (ps := ["way", "n", "r"]) (fun _ _ _ _ _ _ us hl => match us, hl with | [_, _, _], _ => rfl), PySem.W.mg_of X G a17⟩
  have T_swap_counts : Df K mg "swap_counts" s_swap_counts ["n"] f18 _ := ⟨F18, F18.binds (ps := ["n"]) (fun _ _ _ _ _ _ us hl => match us, hl with | [_], _ => rfl), PySem.W.mg_of X G a18⟩
  have T_swap_counts_with_one_more : Df K mg "swap_counts_with_one_more" s_swap_counts_with_one_more ["counts", "behind"] f19 _ := ⟨F19, F19.binds (ps := ["counts", "behind"]) (fun _ _ _ _ _ _ us hl => match us, hl with | [_, _], _ => rfl), PySem.W.mg_of X G a19⟩
  have T_spot_counts : Df K mg "spot_counts" s_spot_counts ["n"] f20 _ := ⟨F20, F20.binds (ps := ["n"]) (fun _ _ _ _ _ _ us hl => match us, hl with | [_], _ => rfl), PySem.W.mg_of X G a20⟩
  have T_count_all_moved : Df K mg "count_all_moved" s_count_all_moved ["n"] f21 _ := ⟨F21, F21.binds (ps := ["n"]) (fun _ _ _ _ _ _ us hl => match us, hl with | [_], _ => rfl), PySem.W.mg_of X G a21⟩
  have T_shift_within : Df K mg "shift_within" s_shift_within ["n", "r"] f22 _ := ⟨F22, F22.binds (ps := ["n", "r"]) (fun _ _ _ _ _ _ us hl => match us, hl with | [_, _], _ => rfl), PySem.W.mg_of X G a22⟩
  have T_things_near : Df K mg "things_near" s_things_near ["place", "n", "r"] f23 _ := ⟨F23, F23.binds (ps := ["place", "n", "r"]) (fun _ _ _ _ _ _ us hl => match us, hl with | [_, _, _], _ => rfl), PySem.W.mg_of X G a23⟩
  have T_one_place_further : Df K mg "one_place_further" s_one_place_further ["beginnings", "near"] f24 _ := ⟨F24, F24.binds (ps := ["beginnings", "near"]) (fun _ _ _ _ _ _ us hl => match us, hl with | [_, _], _ => rfl), PySem.W.mg_of X G a24⟩
  have T_bounds_by_rounds : Df K mg "bounds_by_rounds" s_bounds_by_rounds ["way", "n", "d"] f25 _ := ⟨F25, F25.binds (ps := ["way", "n", "d"]) (fun _ _ _ _ _ _ us hl => match us, hl with | [_, _, _], _ => rfl), PySem.W.mg_of X G a25⟩
  have T_most_by_places : Df K mg "most_by_places" s_most_by_places ["n", "d"] f26 _ := ⟨F26, F26.binds (ps := ["n", "d"]) (fun _ _ _ _ _ _ us hl => match us, hl with | [_, _], _ => rfl), PySem.W.mg_of X G a26⟩
  have T_best_bound : Df K mg "best_bound" s_best_bound ["way", "n", "d"] f27 _ := ⟨F27, F27.binds (ps := ["way", "n", "d"]) (fun _ _ _ _ _ _ us hl => match us, hl with | [_, _, _], _ => rfl), PySem.W.mg_of X G a27⟩
  have T__law_pool : Df K mg "_law_pool" s_law_pool ["script", "k"] f28 _ := ⟨F28, F28.binds (ps := ["script", "k"]) (fun _ _ _ _ _ _ us hl => match us, hl with | [_, _], _ => rfl), PySem.W.mg_of X G a28⟩
  have T__law_take : Df K mg "_law_take" s_law_take ["pool", "many"] f29 _ := ⟨F29, F29.binds (ps := ["pool", "many"]) (fun _ _ _ _ _ _ us hl => match us, hl with | [_, _], _ => rfl), PySem.W.mg_of X G a29⟩
  have T__law_far : Df K mg "_law_far" s_law_far ["pool"] f30 _ := ⟨F30, F30.binds (ps := ["pool"]) (fun _ _ _ _ _ _ us hl => match us, hl with | [_], _ => rfl), PySem.W.mg_of X G a30⟩
  have T__law_ways : Df K mg "_law_ways" s_law_ways [] f31 _ := ⟨F31, F31.binds (ps := []) (fun _ _ _ _ _ _ us hl => match us, hl with | [], _ => rfl), PySem.W.mg_of X G a31⟩
  have T__law_is : Df K mg "_law_is" s_law_is ["caught", "due"] f32 _ := ⟨F32, F32.binds (ps := ["caught", "due"]) (fun _ _ _ _ _ _ us hl => match us, hl with | [_, _], _ => rfl), PySem.W.mg_of X G a32⟩
  have T__law_bad_way : Df K mg "_law_bad_way" s_law_bad_way ["pool"] f33 _ := ⟨F33, F33.binds (ps := ["pool"]) (fun _ _ _ _ _ _ us hl => match us, hl with | [_], _ => rfl), PySem.W.mg_of X G a33⟩
  have T__law_caught : Df K mg "_law_caught" s_law_caught ["kind", "way", "n", "d"] f34 _ := ⟨F34, F34.binds (ps := ["kind", "way", "n", "d"]) (fun _ _ _ _ _ _ us hl => match us, hl with | [_, _, _, _], _ => rfl), PySem.W.mg_of X G a34⟩
  have T__law_no_number : Df K mg "_law_no_number" s_law_no_number ["pool", "most"] f35 _ := ⟨F35, F35.binds (ps := ["pool", "most"]) (fun _ _ _ _ _ _ us hl => match us, hl with | [_, _], _ => rfl), PySem.W.mg_of X G a35⟩
  have T__law_right : Df K mg "_law_right" s_law_right ["pool", "way", "n", "d"] f36 _ := ⟨F36, F36.binds (ps := ["pool", "way", "n", "d"]) (fun _ _ _ _ _ _ us hl => match us, hl with | [_, _, _, _], _ => rfl), PySem.W.mg_of X G a36⟩
  have B : Bi mg := ⟨PySem.W.mg_none_of X G z_ValueError, PySem.W.mg_none_of X G z_abs, PySem.W.mg_none_of X G z_all, PySem.W.mg_none_of X G z_bool, PySem.W.mg_none_of X G z_enumerate, PySem.W.mg_none_of X G z_int, PySem.W.mg_none_of X G z_isinstance, PySem.W.mg_none_of X G z_len, PySem.W.mg_none_of X G z_list, PySem.W.mg_none_of X G z_max, PySem.W.mg_none_of X G z_min, PySem.W.mg_none_of X G z_range, PySem.W.mg_none_of X G z_str, PySem.W.mg_none_of X G z_sum⟩
  have m_WAYS := wy_mk (PySem.W.mg_of X G g_WAYS) l_WAYS
  have m_MOST_THINGS := PySem.W.mg_of X G g_MOST_THINGS
  have m_MOST_LISTED := PySem.W.mg_of X G g_MOST_LISTED
  have m_MOST_PARTED := PySem.W.mg_of X G g_MOST_PARTED
  have g_OrderError := PySem.W.mg_of X G gc_OrderError
  have g_NoOrder := PySem.W.mg_of X G gc_NoOrder
  have g_NoWay := PySem.W.mg_of X G gc_NoWay
  have g_NoFit := PySem.W.mg_of X G gc_NoFit
  have g_NoPlace := PySem.W.mg_of X G gc_NoPlace
  have g_NoNumber := PySem.W.mg_of X G gc_NoNumber
  have g_TooMany := PySem.W.mg_of X G gc_TooMany
  have g_NoText := PySem.W.mg_of X G gc_NoText
  have g_NoName := PySem.W.mg_of X G gc_NoName
  have g_NoRow := PySem.W.mg_of X G gc_NoRow
  have ec_NoWay : ExcC K C_NoWay := ⟨xehg_NoWay, xehk_NoWay, xehs_NoWay, xehd_NoWay, xeha_NoWay, xehn_NoWay, xeht_NoWay, xehm_NoWay⟩
  have X_NoWay : ExK K mg "NoWay" C_NoWay := ⟨g_NoWay, xq_NoWay, xk_NoWay, xehs_NoWay, xt_NoWay, ec_NoWay⟩
  have kd_NoWay := kd_mk9 (i := 1) ec_NoWay xy_NoWay_NoOrder xy_NoWay_NoWay xy_NoWay_NoFit xy_NoWay_NoPlace xy_NoWay_NoNumber xy_NoWay_TooMany xy_NoWay_NoText xy_NoWay_NoName xy_NoWay_NoRow xv_NoWay (by decide)
  have ec_NoNumber : ExcC K C_NoNumber := ⟨xehg_NoNumber, xehk_NoNumber, xehs_NoNumber, xehd_NoNumber, xeha_NoNumber, xehn_NoNumber, xeht_NoNumber, xehm_NoNumber⟩
  have X_NoNumber : ExK K mg "NoNumber" C_NoNumber := ⟨g_NoNumber, xq_NoNumber, xk_NoNumber, xehs_NoNumber, xt_NoNumber, ec_NoNumber⟩
  have kd_NoNumber := kd_mk9 (i := 4) ec_NoNumber xy_NoNumber_NoOrder xy_NoNumber_NoWay xy_NoNumber_NoFit xy_NoNumber_NoPlace xy_NoNumber_NoNumber xy_NoNumber_TooMany xy_NoNumber_NoText xy_NoNumber_NoName xy_NoNumber_NoRow xv_NoNumber (by decide)
  exact ⟨PySem.W.fnOf "law" "law" (defArgs s_law) (defBody s_law) (defScope s_law) .none kV37 dc37 pm37 an37 cd37 ct37, fun s v => .of_eq rfl, fun base _ _ => ok_law F37 T__law_pool T__law_take T__law_ways T__law_right T_most_by_places T_bounds_by_rounds (ok_pool (k := 11) T__law_pool B) (ok_take (k := 11) T__law_take B) (ok_ways (k := 11) T__law_ways B) (ok_r61 (k := 11) (c := cls9 C_NoOrder C_NoWay C_NoFit C_NoPlace C_NoNumber C_TooMany C_NoText C_NoName C_NoRow) T__law_right T__law_bad_way T__law_no_number T__law_is T__law_caught (ok_badW (k := 10) T__law_bad_way T__law_ways T__law_take (ok_ways (k := 9) T__law_ways B) (ok_take (k := 9) T__law_take B) B) (ok_noNum (k := 10) T__law_no_number T__law_far T__law_take (ok_farN (k := 9) T__law_far T__law_take (ok_take (k := 8) T__law_take B) B) (ok_take (k := 9) T__law_take B) B) (ok_is61 (k := 10) (c := cls9 C_NoOrder C_NoWay C_NoFit C_NoPlace C_NoNumber C_TooMany C_NoText C_NoName C_NoRow) T__law_is (fun j h => match j, h with | _, .inl rfl => kd_NoWay | _, .inr rfl => kd_NoNumber) (fun j h => match j, h with | _, .inl rfl => xo_NoWay | _, .inr rfl => xo_NoNumber) g_OrderError g_NoOrder g_NoWay g_NoFit g_NoPlace g_NoNumber g_TooMany g_NoText g_NoName g_NoRow B) (ok_cau61 (k := 10) (c := cls9 C_NoOrder C_NoWay C_NoFit C_NoPlace C_NoNumber C_TooMany C_NoText C_NoName C_NoRow) T__law_caught T_bounds_by_rounds T_best_bound T_most_by_places (ok_bndX (k := 9) T_bounds_by_rounds T_check_apart T_count_orders T_known_within (ok_apX (k := 8) T_check_apart T_check_way T_check_size T_check_from (ok_wayX (k := 7) T_check_way m_WAYS X_NoWay B) (ok_sizeX (k := 7) T_check_size T_is_whole (ok_wholeD (k := 6) T_is_whole B) X_NoNumber B) (ok_fromX (k := 7) T_check_from T_is_whole (ok_wholeD (k := 6) T_is_whole B) X_NoNumber B)) B m_MOST_THINGS) (ok_bestX (k := 9) T_best_bound T_check_apart T_bounds_by_rounds T_most_by_places T_first_parting (ok_apX (k := 8) T_check_apart T_check_way T_check_size T_check_from (ok_wayX (k := 7) T_check_way m_WAYS X_NoWay B) (ok_sizeX (k := 7) T_check_size T_is_whole (ok_wholeD (k := 6) T_is_whole B) X_NoNumber B) (ok_fromX (k := 7) T_check_from T_is_whole (ok_wholeD (k := 6) T_is_whole B) X_NoNumber B)) (ok_bndX (k := 8) T_bounds_by_rounds T_check_apart T_count_orders T_known_within (ok_apX (k := 7) T_check_apart T_check_way T_check_size T_check_from (ok_wayX (k := 6) T_check_way m_WAYS X_NoWay B) (ok_sizeX (k := 6) T_check_size T_is_whole (ok_wholeD (k := 5) T_is_whole B) X_NoNumber B) (ok_fromX (k := 6) T_check_from T_is_whole (ok_wholeD (k := 5) T_is_whole B) X_NoNumber B)) B m_MOST_THINGS) (ok_mstX (k := 8) T_most_by_places T_check_size T_count_orders (ok_sizeX (k := 7) T_check_size T_is_whole (ok_wholeD (k := 6) T_is_whole B) X_NoNumber B) B m_MOST_THINGS) B m_MOST_LISTED m_MOST_PARTED) (ok_mstX (k := 9) T_most_by_places T_check_size T_count_orders (ok_sizeX (k := 8) T_check_size T_is_whole (ok_wholeD (k := 7) T_is_whole B) X_NoNumber B) B m_MOST_THINGS) g_OrderError (fun j h => match j, h with | _, .inl rfl => xm_NoWay | _, .inr rfl => xm_NoNumber)) B) (ok_most (k := 11) T_most_by_places T_check_size T_count_orders (ok_size (k := 9) T_check_size T_is_whole B) (ok_fac (k := 10) T_count_orders B) B m_MOST_THINGS) (ok_bounds (k := 11) T_bounds_by_rounds T_check_apart T_count_orders T_known_within (ok_apart (k := 8) T_check_apart T_check_way T_check_size T_check_from T_is_whole m_WAYS B) (ok_fac (k := 10) T_count_orders B) (ok_kw (k := 8) T_known_within T_swap_counts T_spot_counts T_shift_within T_swap_counts_with_one_more T_count_all_moved T_things_near T_one_place_further B) B m_MOST_THINGS) B⟩
end Fo
open PySem PySem.W PyProof.Rows
set_option maxRecDepth 100000 in
set_option maxHeartbeats 0 in
theorem PySem.Challenge.cw_farorders_k61_bounds_refused_holds : PySem.Challenge.rw_farorders_k61_bounds_refused.Holds := by
  w_on; o_law; k_head; (case hw => w_witness2)
  k_fill
  refine L2.walk_of (l := PySem.Challenge.rw_farorders_k61_bounds_refused) (n := 63) (k := 13) (x := "script") (CX := fun _ => L2.CX0) (sp := fun w => Fo.spLaw _) rfl (by decide) rfl ⟨rfl, by decide, by decide⟩ (fun w h Y => PySem.W.kIn_of Y) ?F (fun _ _ a ns hl _ hS => ⟨a, ns, rfl, hS, hl, fun _ => rfl⟩) (fun _ _ _ _ _ h => h)
  case F =>
    intro w mg fa h KX G hmg
    refine' Fo.all_mk KX G hmg ?a0 ?l0 ?c0 ?k0 ?a1 ?l1 ?c1 ?k1 ?a2 ?l2 ?c2 ?k2 ?a3 ?l3 ?c3 ?k3 ?a4 ?l4 ?c4 ?k4 ?a5 ?l5 ?c5 ?k5 ?a6 ?l6 ?c6 ?k6 ?a7 ?l7 ?c7 ?k7 ?a8 ?l8 ?c8 ?k8 ?a9 ?l9 ?c9 ?k9 ?a10 ?l10 ?c10 ?k10 ?a11 ?l11 ?c11 ?k11 ?a12 ?l12 ?c12 ?k12 ?a13 ?l13 ?c13 ?k13 ?a14 ?l14 ?c14 ?k14 ?a15 ?l15 ?c15 ?k15 ?a16 ?l16 ?c16 ?k16 ?a17 ?l17 ?c17 ?k17 ?a18 ?l18 ?c18 ?k18 ?a19 ?l19 ?c19 ?k19 ?a20 ?l20 ?c20 ?k20 ?a21 ?l21 ?c21 ?k21 ?a22 ?l22 ?c22 ?k22 ?a23 ?l23 ?c23 ?k23 ?a24 ?l24 ?c24 ?k24 ?a25 ?l25 ?c25 ?k25 ?a26 ?l26 ?c26 ?k26 ?a27 ?l27 ?c27 ?k27 ?a28 ?l28 ?c28 ?k28 ?a29 ?l29 ?c29 ?k29 ?a30 ?l30 ?c30 ?k30 ?a31 ?l31 ?c31 ?k31 ?a32 ?l32 ?c32 ?k32 ?a33 ?l33 ?c33 ?k33 ?a34 ?l34 ?c34 ?k34 ?a35 ?l35 ?c35 ?k35 ?a36 ?l36 ?c36 ?k36 ?a37 ?l37 ?c37 ?k37 ?g_MOST_THINGS ?g_MOST_LISTED ?g_MOST_PARTED ?g_WAYS ?l_WAYS ?gc_OrderError ?gc_NoOrder ?gc_NoWay ?gc_NoFit ?gc_NoPlace ?gc_NoNumber ?gc_TooMany ?gc_NoText ?gc_NoName ?gc_NoRow ?xq_NoWay ?xk_NoWay ?xt_NoWay ?xm_NoWay ?xv_NoWay ?xehg_NoWay ?xehk_NoWay ?xehs_NoWay ?xehd_NoWay ?xeha_NoWay ?xehn_NoWay ?xeht_NoWay ?xehm_NoWay ?xo_NoWay ?xy_NoWay_NoOrder ?xy_NoWay_NoWay ?xy_NoWay_NoFit ?xy_NoWay_NoPlace ?xy_NoWay_NoNumber ?xy_NoWay_TooMany ?xy_NoWay_NoText ?xy_NoWay_NoName ?xy_NoWay_NoRow ?xq_NoNumber ?xk_NoNumber ?xt_NoNumber ?xm_NoNumber ?xv_NoNumber ?xehg_NoNumber ?xehk_NoNumber ?xehs_NoNumber ?xehd_NoNumber ?xeha_NoNumber ?xehn_NoNumber ?xeht_NoNumber ?xehm_NoNumber ?xo_NoNumber ?xy_NoNumber_NoOrder ?xy_NoNumber_NoWay ?xy_NoNumber_NoFit ?xy_NoNumber_NoPlace ?xy_NoNumber_NoNumber ?xy_NoNumber_TooMany ?xy_NoNumber_NoText ?xy_NoNumber_NoName ?xy_NoNumber_NoRow ?z_ValueError ?z_abs ?z_all ?z_bool ?z_enumerate ?z_int ?z_isinstance ?z_len ?z_list ?z_max ?z_min ?z_range ?z_str ?z_sum
    (case a0 => k_is); (case l0 => k_is); (case c0 => k_is); (case k0 => k_is); (case a1 => k_is); (case l1 => k_is); (case c1 => k_is); (case k1 => k_is); (case a2 => k_is); (case l2 => k_is); (case c2 => k_is); (case k2 => k_is); (case a3 => k_is); (case l3 => k_is); (case c3 => k_is); (case k3 => k_is); (case a4 => k_is); (case l4 => k_is); (case c4 => k_is); (case k4 => k_is); (case a5 => k_is); (case l5 => k_is); (case c5 => k_is); (case k5 => k_is); (case a6 => k_is); (case l6 => k_is); (case c6 => k_is); (case k6 => k_is); (case a7 => k_is); (case l7 => k_is); (case c7 => k_is); (case k7 => k_is); (case a8 => k_is); (case l8 => k_is); (case c8 => k_is); (case k8 => k_is); (case a9 => k_is); (case l9 => k_is); (case c9 => k_is); (case k9 => k_is); (case a10 => k_is); (case l10 => k_is); (case c10 => k_is); (case k10 => k_is); (case a11 => k_is); (case l11 => k_is); (case c11 => k_is); (case k11 => k_is); (case a12 => k_is); (case l12 => k_is); (case c12 => k_is); (case k12 => k_is); (case a13 => k_is); (case l13 => k_is); (case c13 => k_is); (case k13 => k_is); (case a14 => k_is); (case l14 => k_is); (case c14 => k_is); (case k14 => k_is); (case a15 => k_is); (case l15 => k_is); (case c15 => k_is); (case k15 => k_is); (case a16 => k_is); (case l16 => k_is); (case c16 => k_is); (case k16 => k_is); (case a17 => k_is); (case l17 => k_is); (case c17 => k_is); (case k17 => k_is); (case a18 => k_is); (case l18 => k_is); (case c18 => k_is); (case k18 => k_is); (case a19 => k_is); (case l19 => k_is); (case c19 => k_is); (case k19 => k_is); (case a20 => k_is); (case l20 => k_is); (case c20 => k_is); (case k20 => k_is); (case a21 => k_is); (case l21 => k_is); (case c21 => k_is); (case k21 => k_is); (case a22 => k_is); (case l22 => k_is); (case c22 => k_is); (case k22 => k_is); (case a23 => k_is); (case l23 => k_is); (case c23 => k_is); (case k23 => k_is); (case a24 => k_is); (case l24 => k_is); (case c24 => k_is); (case k24 => k_is); (case a25 => k_is); (case l25 => k_is); (case c25 => k_is); (case k25 => k_is); (case a26 => k_is); (case l26 => k_is); (case c26 => k_is); (case k26 => k_is); (case a27 => k_is); (case l27 => k_is); (case c27 => k_is); (case k27 => k_is); (case a28 => k_is); (case l28 => k_is); (case c28 => k_is); (case k28 => k_is); (case a29 => k_is); (case l29 => k_is); (case c29 => k_is); (case k29 => k_is); (case a30 => k_is); (case l30 => k_is); (case c30 => k_is); (case k30 => k_is); (case a31 => k_is); (case l31 => k_is); (case c31 => k_is); (case k31 => k_is); (case a32 => k_is); (case l32 => k_is); (case c32 => k_is); (case k32 => k_is); (case a33 => k_is); (case l33 => k_is); (case c33 => k_is); (case k33 => k_is); (case a34 => k_is); (case l34 => k_is); (case c34 => k_is); (case k34 => k_is); (case a35 => k_is); (case l35 => k_is); (case c35 => k_is); (case k35 => k_is); (case a36 => k_is); (case l36 => k_is); (case c36 => k_is); (case k36 => k_is); (case a37 => k_is); (case l37 => k_is); (case c37 => k_is); (case k37 => k_is); (case g_MOST_THINGS => k_is); (case g_MOST_LISTED => k_is); (case g_MOST_PARTED => k_is); (case g_WAYS => k_is); (case l_WAYS => k_is); (case z_ValueError => k_is); (case z_abs => k_is); (case z_all => k_is); (case z_bool => k_is); (case z_enumerate => k_is); (case z_int => k_is); (case z_isinstance => k_is); (case z_len => k_is); (case z_list => k_is); (case z_max => k_is); (case z_min => k_is); (case z_range => k_is); (case z_str => k_is); (case z_sum => k_is)
    (case gc_OrderError => first | k_is | rfl | kernel_rfl); (case gc_NoOrder => first | k_is | rfl | kernel_rfl); (case gc_NoWay => first | k_is | rfl | kernel_rfl); (case gc_NoFit => first | k_is | rfl | kernel_rfl); (case gc_NoPlace => first | k_is | rfl | kernel_rfl); (case gc_NoNumber => first | k_is | rfl | kernel_rfl); (case gc_TooMany => first | k_is | rfl | kernel_rfl); (case gc_NoText => first | k_is | rfl | kernel_rfl); (case gc_NoName => first | k_is | rfl | kernel_rfl); (case gc_NoRow => first | k_is | rfl | kernel_rfl); (case xq_NoWay => first | k_is | rfl | kernel_rfl); (case xk_NoWay => first | k_is | rfl | kernel_rfl); (case xt_NoWay => first | k_is | rfl | kernel_rfl); (case xm_NoWay => first | k_is | rfl | kernel_rfl); (case xv_NoWay => first | k_is | rfl | kernel_rfl); (case xehg_NoWay => first | k_is | rfl | kernel_rfl); (case xehk_NoWay => first | k_is | rfl | kernel_rfl); (case xehs_NoWay => first | k_is | rfl | kernel_rfl); (case xehd_NoWay => first | k_is | rfl | kernel_rfl); (case xeha_NoWay => first | k_is | rfl | kernel_rfl); (case xehn_NoWay => first | k_is | rfl | kernel_rfl); (case xeht_NoWay => first | k_is | rfl | kernel_rfl); (case xehm_NoWay => first | k_is | rfl | kernel_rfl); (case xo_NoWay => first | k_is | rfl | kernel_rfl); (case xy_NoWay_NoOrder => first | k_is | rfl | kernel_rfl); (case xy_NoWay_NoWay => first | k_is | rfl | kernel_rfl); (case xy_NoWay_NoFit => first | k_is | rfl | kernel_rfl); (case xy_NoWay_NoPlace => first | k_is | rfl | kernel_rfl); (case xy_NoWay_NoNumber => first | k_is | rfl | kernel_rfl); (case xy_NoWay_TooMany => first | k_is | rfl | kernel_rfl); (case xy_NoWay_NoText => first | k_is | rfl | kernel_rfl); (case xy_NoWay_NoName => first | k_is | rfl | kernel_rfl); (case xy_NoWay_NoRow => first | k_is | rfl | kernel_rfl); (case xq_NoNumber => first | k_is | rfl | kernel_rfl); (case xk_NoNumber => first | k_is | rfl | kernel_rfl); (case xt_NoNumber => first | k_is | rfl | kernel_rfl); (case xm_NoNumber => first | k_is | rfl | kernel_rfl); (case xv_NoNumber => first | k_is | rfl | kernel_rfl); (case xehg_NoNumber => first | k_is | rfl | kernel_rfl); (case xehk_NoNumber => first | k_is | rfl | kernel_rfl); (case xehs_NoNumber => first | k_is | rfl | kernel_rfl); (case xehd_NoNumber => first | k_is | rfl | kernel_rfl); (case xeha_NoNumber => first | k_is | rfl | kernel_rfl); (case xehn_NoNumber => first | k_is | rfl | kernel_rfl); (case xeht_NoNumber => first | k_is | rfl | kernel_rfl); (case xehm_NoNumber => first | k_is | rfl | kernel_rfl); (case xo_NoNumber => first | k_is | rfl | kernel_rfl); (case xy_NoNumber_NoOrder => first | k_is | rfl | kernel_rfl); (case xy_NoNumber_NoWay => first | k_is | rfl | kernel_rfl); (case xy_NoNumber_NoFit => first | k_is | rfl | kernel_rfl); (case xy_NoNumber_NoPlace => first | k_is | rfl | kernel_rfl); (case xy_NoNumber_NoNumber => first | k_is | rfl | kernel_rfl); (case xy_NoNumber_TooMany => first | k_is | rfl | kernel_rfl); (case xy_NoNumber_NoText => first | k_is | rfl | kernel_rfl); (case xy_NoNumber_NoName => first | k_is | rfl | kernel_rfl); (case xy_NoNumber_NoRow => first | k_is | rfl | kernel_rfl)

