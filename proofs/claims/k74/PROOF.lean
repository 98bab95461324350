import PyProof.Rows.All
import Wide.All
import OpenK.AllK
import Wide.FinOn
import HandS.ForMost
import HandS.IsInst
import HandS.Conv
import HandS.Style
import HandS.More
import HandS.Evl
import HandS.Zip
import HandS.SetFor
import HandS.Sort
import HandS.Wide
import HandS.Deep
import KE.SortData
import PyProof.ReprRoads
import HandS.Exc
import HandS.ExcOwn
import HandS.ExcIs
import HandS.ExcValue
import HandS.Small
import HandS.FStr
import HandS.WordsExc
import KE.KDictZip
import HandS.RaiseMore
import HandS.SortKw
import KE.DatumOrd
import HandS.GenList
import HandS.AnyAll
import HandS.EndTab
import HandS.Text
import HandS.Steps
import PySem.Challenge.RW_farorders_k74_listers_that_are_full
set_option Elab.async false
set_option linter.all false
set_option maxRecDepth 100000
namespace Fo
open PySem PySem.Spec PyProof.Rows L2
/-! ### lists and orders -/
def rg (n : Nat) : List Int := (List.range n).map fun k => ((k : Nat) : Int)
def IsOrd (n : Nat) (ns : List Int) : Prop := ns.Perm (rg n)
theorem rg_len (n : Nat) : (rg n).length = n := by
  unfold rg
  rw [List.length_map, List.length_range]
theorem rg_mem {n : Nat} {x : Int} : x ∈ rg n ↔ 0 ≤ x ∧ x < n := by
  unfold rg
  rw [List.mem_map]
  constructor
  · rintro ⟨k, hk, rfl⟩
    have := List.mem_range.mp hk
    omega
  · rintro ⟨h0, h1⟩
    exact ⟨x.toNat, List.mem_range.mpr (by omega), by omega⟩
theorem rg_nodup (n : Nat) : (rg n).Nodup := by
  unfold rg
  exact List.Pairwise.map _ (fun a b h e => h (by omega)) List.nodup_range
theorem rg_sorted (n : Nat) : (rg n).Pairwise (· ≤ ·) := by
  unfold rg
  exact List.Pairwise.map _ (fun a b h => by omega) List.pairwise_lt_range
theorem rg_V (n : Nat) : rgV 0 (n : Int) = (rg n).map V.int := by
  unfold rgV rg
  rw [List.map_map, show ((n : Int) - 0).toNat = n by omega]
  apply List.map_congr_left
  intro a _
  show V.int (0 + (a : Int)) = V.int (a : Int)
  rw [Int.zero_add]
theorem IsOrd.len {n : Nat} {ns : List Int} (h : IsOrd n ns) : ns.length = n := (List.Perm.length_eq h).trans (rg_len n)
theorem IsOrd.mem {n : Nat} {ns : List Int} (h : IsOrd n ns) {x : Int} (m : x ∈ ns) : 0 ≤ x ∧ x < n := rg_mem.mp ((List.Perm.mem_iff h).mp m)
theorem IsOrd.nodup {n : Nat} {ns : List Int} (h : IsOrd n ns) : ns.Nodup := (List.Perm.nodup_iff h).mpr (rg_nodup n)
/-- two sorted lists of the same things are one -/
theorem sorted_eq : ∀ {a b : List Int}, a.Perm b → a.Pairwise (· ≤ ·) → b.Pairwise (· ≤ ·) → a = b := by
  intro a b hp ha hb
  exact List.Perm.eq_of_pairwise (fun x y _ _ h1 h2 => by omega) ha hb hp
/-- the things at p and p + 1 change places -/
def sw (xs : List Int) (p : Nat) : List Int := (xs.set p (xs.getD (p + 1) 0)).set (p + 1) (xs.getD p 0)
theorem split2 : ∀ {xs : List Int} {p : Nat}, p + 1 < xs.length → ∃ A a b B, xs = A ++ a :: b :: B ∧ A.length = p
  | [], p, h => by simp at h
  | [_], p, h => by simp at h
  | a :: b :: r, 0, _ => ⟨[], a, b, r, rfl, rfl⟩
  | a :: b :: r, p + 1, h => by
    obtain ⟨A, x, y, B, e, l⟩ := split2 (xs := b :: r) (p := p) (by simpa using h)
    exact ⟨a :: A, x, y, B, by rw [e]; rfl, by rw [List.length_cons, l]⟩
theorem sw_at : ∀ (A : List Int) (a b : Int) (B : List Int), sw (A ++ a :: b :: B) A.length = A ++ b :: a :: B
  | [], a, b, B => rfl
  | x :: A, a, b, B => by
    have ih := sw_at A a b B
    unfold sw at ih ⊢
    show x :: _ = x :: _
    exact congrArg (x :: ·) ih
theorem sw_perm {xs : List Int} {p : Nat} (h : p + 1 < xs.length) : (sw xs p).Perm xs := by
  obtain ⟨A, a, b, B, rfl, rfl⟩ := split2 h
  rw [sw_at]
  exact List.Perm.append_left A (List.Perm.swap a b B)
theorem sw_len (xs : List Int) (p : Nat) : (sw xs p).length = xs.length := by
  unfold sw
  rw [List.length_set, List.length_set]
theorem sw_ord {n : Nat} {xs : List Int} {p : Nat} (o : IsOrd n xs) (h : p + 1 < n) : IsOrd n (sw xs p) :=
  (sw_perm (by rw [o.len]; exact h)).trans o
theorem sw_V {xs : List Int} {p : Nat} {a b : Int} (ha : xs[p]? = some a) (hb : xs[p + 1]? = some b) : ((xs.map V.int).set p (V.int b)).set (p + 1) (V.int a) = (sw xs p).map V.int := by
  unfold sw
  rw [List.getD_eq_getElem?_getD, List.getD_eq_getElem?_getD, ha, hb, List.map_set, List.map_set]
  rfl
theorem pop_ins {xs : List Int} {p : Nat} {a : Int} (h : p + 1 < xs.length) (ha : xs[p]? = some a) : (xs.eraseIdx p).take (p + 1) ++ [a] ++ (xs.eraseIdx p).drop (p + 1) = sw xs p := by
  obtain ⟨A, x, y, B, rfl, rfl⟩ := split2 h
  have ex : x = a := by
    rw [List.getElem?_append_right (Nat.le_refl _), Nat.sub_self] at ha
    exact Option.some.inj ha
  subst ex
  rw [sw_at, List.eraseIdx_append_of_length_le (Nat.le_refl _), Nat.sub_self]
  show (A ++ y :: B).take (A.length + 1) ++ [x] ++ (A ++ y :: B).drop (A.length + 1) = _
  rw [List.take_append, List.drop_append]
  have t : A.length + 1 - A.length = 1 := by omega
  rw [t, List.take_of_length_le (by omega), List.drop_of_length_le (by omega)]
  simp
/-- the order at a walk's end -/
def wEnd (xs : List Int) (ws : List Int) : List Int := ws.foldl (fun x p => sw x p.toNat) xs
theorem wEnd_more {xs ws : List Int} {i : Nat} {p : Int} (h : ws[i]? = some p) : wEnd xs (ws.take (i + 1)) = sw (wEnd xs (ws.take i)) p.toNat := by
  unfold wEnd
  rw [List.take_add_one, h, List.foldl_append]
  rfl
theorem wEnd_ord {n : Nat} {xs : List Int} (o : IsOrd n xs) : ∀ {ws : List Int}, (∀ p ∈ ws, 0 ≤ p ∧ p + 1 < n) → IsOrd n (wEnd xs ws) := by
  intro ws
  induction ws generalizing xs with
  | nil => intro _; exact o
  | cons p ws ih =>
    intro h
    have hp := h p List.mem_cons_self
    exact ih (sw_ord o (by omega)) fun q hq => h q (List.mem_cons_of_mem _ hq)
theorem nodup_len : ∀ {l m : List Int}, l.Nodup → (∀ x ∈ l, x ∈ m) → l.length ≤ m.length
  | [], m, _, _ => Nat.zero_le _
  | a :: l, m, hn, hs => by
    obtain ⟨h1, h2⟩ := List.nodup_cons.mp hn
    have ha := hs a List.mem_cons_self
    have ih := nodup_len (l := l) (m := m.erase a) h2 fun x hx => by
      have ne : x ≠ a := fun e => h1 (by rw [← e]; exact hx)
      exact (List.mem_erase_of_ne ne).mpr (hs x (List.mem_cons_of_mem _ hx))
    rw [List.length_erase_of_mem ha] at ih
    have : 0 < m.length := List.length_pos_of_mem ha
    rw [List.length_cons]
    omega
theorem int_at {ns : List Int} {i : Nat} {x : Int} (h : ns[i]? = some x) : (ns.map V.int)[i]? = some (V.int x) := by
  rw [List.getElem?_map, h]
  rfl
theorem int_at_inv {ns : List Int} {i : Nat} {v : V} (h : (ns.map V.int)[i]? = some v) : ∃ x, ns[i]? = some x ∧ v = V.int x := by
  rw [List.getElem?_map] at h
  cases e : ns[i]? with
  | none => rw [e] at h; cases h
  | some x => rw [e] at h; exact ⟨x, rfl, (Option.some.inj h).symm⟩
theorem line_small {n : Nat} (h : n ≤ 16777216) : n ≤ sizeLine := by rw [sizeLine_eq]; exact h
theorem line_lt {n : Nat} (h : n < 16777216) : n < sizeLine := by rw [sizeLine_eq]; exact h
/-! ### data of ints -/
theorem dp_ints {K : PySem.W.Frag} {H : Hp} : ∀ ns : List Int, DpAll K H (ns.map V.int) (ns.map PyData.int)
  | [] => .nil
  | n :: r => .cons (.int n) (dp_ints r)
theorem dp_list {K : PySem.W.Frag} {H : Hp} {a : Addr} {ns : List Int} (h : H a = some (.lst (ns.map V.int))) : Dp K H (.ref a) (.list (ns.map PyData.int)) := .lst (SqL.of h) (dp_ints ns)
theorem eqv_int (i j : Int) : PyData.eqv (.int i) (.int j) = (i == j) := rfl
end Fo
namespace Fo
open PySem PySem.Spec PyProof.Rows L2
abbrev dI (ns : List Int) : List PyData := ns.map PyData.int
abbrev dL (ns : List Int) : PyData := .list (dI ns)
abbrev dLL (l : List (List Int)) : PyData := .list (l.map dL)
theorem lay_ints : ∀ ns : List Int, PyData.canLayAll0 (dI ns) = true
  | [] => rfl
  | n :: r => by
    show (PyData.canLay0 (.int n) && PyData.canLayAll0 (dI r)) = true
    rw [lay_ints r]
    rfl
theorem depth_ints : ∀ ns : List Int, PyData.depthAll (dI ns) = 0
  | [] => by simp [PyData.depthAll]
  | n :: r => by
    show PyData.depthAll (.int n :: dI r) = 0
    rw [PyData.depthAll, depth_ints r]
    simp [PyData.depth]
theorem lay_list (ns : List Int) : PyData.canLay0 (dL ns) = true := by
  rw [PyData.canLay0]
  exact lay_ints ns
theorem depth_list (ns : List Int) : PyData.depth (dL ns) = 1 := by
  rw [PyData.depth, depth_ints]
theorem shaped_list (ns : List Int) : SeqAt.shaped (dL ns) = true := by
  unfold SeqAt.shaped
  rw [lay_list, depth_list]
  rfl
theorem lay_lists : ∀ l : List (List Int), PyData.canLayAll0 (l.map dL) = true
  | [] => rfl
  | n :: r => by
    show (PyData.canLay0 (dL n) && PyData.canLayAll0 (r.map dL)) = true
    rw [lay_lists r, lay_list]
    rfl
theorem depth_lists : ∀ l : List (List Int), PyData.depthAll (l.map dL) ≤ 1
  | [] => by simp [PyData.depthAll]
  | n :: r => by
    show PyData.depthAll (dL n :: r.map dL) ≤ 1
    rw [PyData.depthAll, depth_list]
    have := depth_lists r
    omega
theorem shaped_lists (l : List (List Int)) : SeqAt.shaped (dLL l) = true := by
  unfold SeqAt.shaped
  rw [Bool.and_eq_true_iff]
  constructor
  · rw [PyData.canLay0]
    exact lay_lists l
  · apply decide_eq_true
    rw [PyData.depth]
    have := depth_lists l
    omega
theorem eqv_list (ns : List Int) : PyData.eqv (dL ns) (dL ns) = true := SeqAt.eqv_refl _ (lay_list ns)
theorem eqv_lists (l : List (List Int)) : PyData.eqv (dLL l) (dLL l) = true := SeqAt.eqv_refl _ (SeqAt.canLay_of_shaped (shaped_lists l))
theorem eqvAll_ints : ∀ a b : List Int, PyData.eqvAll (dI a) (dI b) = decide (a = b)
  | [], [] => by simp [PyData.eqvAll]
  | [], _ :: _ => by simp [PyData.eqvAll]
  | _ :: _, [] => by simp [PyData.eqvAll]
  | x :: a, y :: b => by
    show PyData.eqvAll (.int x :: dI a) (.int y :: dI b) = _
    rw [PyData.eqvAll, eqvAll_ints a b]
    show ((x == y) && decide (a = b)) = decide (x :: a = y :: b)
    by_cases h : x = y
    · subst h
      simp
    · simp [h]
theorem eqv_ints (a b : List Int) : PyData.eqv (dL a) (dL b) = decide (a = b) := by
  rw [PyData.eqv]
  exact eqvAll_ints a b
end Fo
namespace Fo
open PySem PySem.Spec PyProof.Rows L2
/-! ### slices of ints -/
def cutI (ws : List Int) (lo hi : Option Int) : List Int := (ws.drop (HT.sIx ws.length 0 lo)).take (HT.sIx ws.length ws.length hi - HT.sIx ws.length 0 lo)
theorem cut_ints (ws : List Int) (lo hi : Option Int) : cutV (ws.map V.int) lo hi = (cutI ws lo hi).map V.int := by
  unfold cutV cutI
  rw [List.length_map, List.map_take, List.map_drop]
theorem cutI_mem {ws : List Int} {lo hi : Option Int} {x : Int} (h : x ∈ cutI ws lo hi) : x ∈ ws := List.mem_of_mem_drop (List.mem_of_mem_take h)
theorem cutI_len (ws : List Int) (lo hi : Option Int) : (cutI ws lo hi).length ≤ ws.length := by
  unfold cutI
  rw [List.length_take, List.length_drop]
  omega
theorem cutI_head (ws : List Int) (k : Nat) : cutI ws none (some (k : Int)) = ws.take k := by
  unfold cutI
  rw [HT.sIx_none, HT.sIx_nat, List.drop_zero, Nat.sub_zero]
  by_cases h : k ≤ ws.length
  · rw [Nat.min_eq_left h]
  · rw [Nat.min_eq_right (by omega), List.take_length, List.take_of_length_le (by omega)]
theorem cutI_tail (ws : List Int) (k : Nat) : cutI ws (some (k : Int)) none = ws.drop k := by
  unfold cutI
  rw [HT.sIx_none, HT.sIx_nat]
  by_cases h : k ≤ ws.length
  · rw [Nat.min_eq_left h, List.take_of_length_le (by rw [List.length_drop]; exact Nat.le_refl _)]
  · rw [Nat.min_eq_right (by omega), List.drop_of_length_le (Nat.le_refl _), List.drop_of_length_le (by omega), List.take_nil]
end Fo
namespace Fo
open PySem PySem.Spec PyProof.Rows L2
/-! ### the text -/
def topS (i : Nat) : Stmt := PySem.Challenge.pw_farorders_k74_listers_that_are_full.main.body.getD i (.Pass ⟨0, 0, 0, 0⟩)
abbrev s_OrderError : Stmt := topS 1
abbrev s_NoOrder : Stmt := topS 2
abbrev s_NoWay : Stmt := topS 3
abbrev s_NoFit : Stmt := topS 4
abbrev s_NoPlace : Stmt := topS 5
abbrev s_NoNumber : Stmt := topS 6
abbrev s_TooMany : Stmt := topS 7
abbrev s_NoText : Stmt := topS 8
abbrev s_NoName : Stmt := topS 9
abbrev s_NoRow : Stmt := topS 10
abbrev s_is_whole : Stmt := topS 13
abbrev s_check_way : Stmt := topS 14
abbrev s_check_from : Stmt := topS 15
abbrev s_check_size : Stmt := topS 16
abbrev s_check_few : Stmt := topS 17
abbrev s_check_apart : Stmt := topS 18
abbrev s_is_order : Stmt := topS 23
abbrev s_check_order : Stmt := topS 24
abbrev s_places_in : Stmt := topS 25
abbrev s_seats_in : Stmt := topS 26
abbrev s_known_far : Stmt := topS 27
abbrev s_far_by_swap : Stmt := topS 28
abbrev s_far_by_spot : Stmt := topS 29
abbrev s_far_by_shift : Stmt := topS 30
abbrev s_all_orders : Stmt := topS 31
abbrev s_orders_with : Stmt := topS 32
abbrev s_is_far : Stmt := topS 34
abbrev s_check_many : Stmt := topS 36
abbrev s_Lister : Stmt := topS 39
abbrev s_Lister___init__ : Stmt := inClass (topS 39) 0
abbrev s_Lister_come : Stmt := inClass (topS 39) 1
abbrev s_Lister_drop : Stmt := inClass (topS 39) 2
abbrev s_Lister_change_to : Stmt := inClass (topS 39) 3
abbrev s_Lister_undo : Stmt := inClass (topS 39) 4
abbrev s_Lister_orders : Stmt := inClass (topS 39) 5
abbrev s_Lister_least_apart : Stmt := inClass (topS 39) 6
abbrev s_Lister_first_more : Stmt := inClass (topS 39) 7
abbrev s_Lister_how_many_more : Stmt := inClass (topS 39) 8
abbrev s_law_cell_at : Stmt := topS 41
abbrev s_law_stir : Stmt := topS 42
abbrev s_law_deck : Stmt := topS 43
abbrev s_law_next : Stmt := topS 44
abbrev s_law_order : Stmt := topS 45
abbrev s_law_places : Stmt := topS 46
abbrev s_law_far : Stmt := topS 47
abbrev s_law_whole : Stmt := topS 48
abbrev s_law_no_order : Stmt := topS 49
abbrev s_law_word : Stmt := topS 50
abbrev s_law_said : Stmt := topS 51
abbrev s_law_numbered : Stmt := topS 52
abbrev s_law_room_right : Stmt := topS 53
abbrev s_law_least_right : Stmt := topS 54
abbrev s_law_even : Stmt := topS 55
abbrev s_law_filled_right : Stmt := topS 56
abbrev s_law_undone_right : Stmt := topS 57
abbrev s_law_gone_right : Stmt := topS 58
abbrev s_law : Stmt := topS 59
/-- a def of the text, where it stands -/
structure Df (K : PySem.W.Frag) (mg : Str → Option Value) (x : Str) (st : Stmt) (ps : List Str) (f : Addr) (fd : FuncData) : Prop where
  F : Fun K x x st f fd
  b : Binds K fd ps []
  g : mg x = some (.ref f)
/-- the built-in names as they were -/
structure Bi (mg : Str → Option Value) : Prop where
  ValueError : mg "ValueError" = none
  abs : mg "abs" = none
  all : mg "all" = none
  bool : mg "bool" = none
  enumerate : mg "enumerate" = none
  int : mg "int" = none
  isinstance : mg "isinstance" = none
  len : mg "len" = none
  list : mg "list" = none
  max : mg "max" = none
  min : mg "min" = none
  range : mg "range" = none
  sorted : mg "sorted" = none
  str : mg "str" = none
  tuple : mg "tuple" = none
  zip : mg "zip" = none
end Fo
namespace Fo
open PySem PySem.Spec PyProof.Rows L2
theorem same_new {H : Hp} {p : Addr} {o : HO} (h : H p = none) : Same H (upd H p o) := fun b x e => by
  rw [upd_ne (ne_of_none e h)]
  exact e
theorem at2_0 {x y : V} : atI [x, y] 0 = some x := rfl
theorem at2_1 {x y : V} : atI [x, y] 1 = some y := rfl
end Fo
namespace Fo
open PySem PySem.Spec PyProof.Rows L2
theorem pop_perm : ∀ {xs : List Int} {k : Nat} {y : Int}, xs[k]? = some y → (y :: xs.eraseIdx k).Perm xs
  | [], k, y, h => by simp at h
  | a :: r, 0, y, h => by
    have e : a = y := Option.some.inj h
    subst e
    exact List.Perm.refl _
  | a :: r, k + 1, y, h => by
    have ih := pop_perm (xs := r) (k := k) (y := y) h
    show (y :: a :: r.eraseIdx k).Perm (a :: r)
    exact (List.Perm.swap a y _).trans (List.Perm.cons a ih)
theorem map_erase : ∀ (xs : List Int) (k : Nat), (xs.map V.int).eraseIdx k = (xs.eraseIdx k).map V.int
  | [], k => rfl
  | a :: r, 0 => rfl
  | a :: r, k + 1 => congrArg (V.int a :: ·) (map_erase r k)
/-- what len asks of a list or a tuple -/
abbrev rLenS (K : PySem.W.Frag) : List V → Hp → VK → Prop := fun xs H Q => ∃ p ys, xs = [.ref p] ∧ (SqL K H p ys ∨ SqT K H p ys) ∧ Q (.int ys.length) H
theorem seq_ix {i : Int} {k n : Nat} (e : i = (k : Int)) (h : k < n) : seqIndex? i n = some k := by
  subst e
  unfold seqIndex?
  have h1 : ¬ ((k : Int) < 0) := by omega
  simp only [h1, if_false]
  have h2 : (decide ((0 : Int) ≤ (k : Int)) && decide ((k : Int) < (n : Int))) = true := by
    simp
    omega
  rw [if_pos h2, Int.toNat_natCast]
theorem ix_n {i : Int} {k n : Nat} (e : i = (k : Int)) (h : k < n) : ixN n i = some k := by
  subst e
  unfold ixN
  rw [if_pos (by omega), if_pos (by omega), Int.toNat_natCast]
end Fo
namespace Fo
open PySem PySem.Spec PyProof.Rows L2
abbrev rMax2 : List V → Hp → VK → Prop := fun xs H Q => ∃ i j, xs = [.int i, .int j] ∧ Q (.int (if j > i then j else i)) H
abbrev rMin2 : List V → Hp → VK → Prop := fun xs H Q => ∃ i j, xs = [.int i, .int j] ∧ Q (.int (if j < i then j else i)) H
abbrev rInt1 : List V → Hp → VK → Prop := fun xs H Q => (∃ i, xs = [.int i] ∧ Q (.int i) H) ∨ ∃ k, xs = [.bl k] ∧ Q (.int (if k then 1 else 0)) H
theorem filter_more {l : List Int} {m : Nat} {x : Int} (p : Int → Bool) (h : l[m]? = some x) : (l.take (m + 1)).filter p = (l.take m).filter p ++ (if p x then [x] else []) := by
  rw [List.take_add_one, h, List.filter_append]
  show _ ++ List.filter p [x] = _
  rw [List.filter_cons]
  rfl
end Fo
namespace Fo
open PySem PySem.Spec PyProof.Rows L2
/-- what is tracked lies elsewhere than the table of modules -/
def SysAt (base : Heap) : Prop := ∃ o, base.get? sysModules = some o
/-! defs that ask repr: they want to know that no other repr is under way (A.guards) -/
structure FnG (P : Program) (w : World) (K : PySem.W.Frag) (mg : Str → Option Value) (base : Heap) (k : Nat) (f : Addr) (fd : FuncData) (ps : List Str) (sp : Sp) : Prop where
  len : ∀ vs H Q E, sp vs H Q E → vs.length = ps.length
  go : ∀ (A : Around) (outer : List Env) (s : Shared) (H : Hp) (args : Args) (us : List Value) (vs : List V) (Q : VK) (E : XK), A.guards = some [] → Room k A → Env0 P w K mg base A outer s H → BindsTo s fd args (ps.zip us) → Vals vs us → sp vs H Q E → codeAny (model P w) A (.call (.ref f) args) (CR CX0 outer P w H s Q E) s
section
variable {P : Program} {w : World} {K : PySem.W.Frag} {mg : Str → Option Value} {base : Heap}
/-- as Fun.ok -/
theorem okG {y qual : Str} {st : Stmt} {f : Addr} {fd : FuncData} {N ps : List Str} {k : Nat} {sp : Sp} (F : Fun K y qual st f fd) (S : FnScope N ps (defScope st)) (len : ∀ vs H Q E, sp vs H Q E → vs.length = ps.length)
    (body : ∀ (cdv : Value) (A : Around) (outer : List Env) (s : Shared) (H : Hp) (vs : List V) (Q : VK) (E : XK), A.guards = some [] → Room k (A.deeper (envOfC qual (defScope st) s.heap.objs.size f cdv)) → sp vs H Q E →
      ∃ t, PSs (cxOf CX0 P w K mg base N qual (defScope st) f cdv A outer s H E).nox (defBody st) t ∧ t { nx := fun _ H' => Q .non H', rt := Q } (start N vs) H) : FnG P w K mg base (k + 1) f fd ps sp := by
  obtain ⟨oc, od, kV, dc, pm, an, cdv, ct, osl, rfl, lk, hcd⟩ := F.ex
  refine ⟨len, fun A outer s H args us vs Q E gA rm ev bn rv h => ?_⟩
  have kin : K.In s.heap := ev.mod.kin.keeps fun b o e => (ev.bs b o e).1
  have nol : s.heap.NoLimit := ev.mod.nolimit.keeps fun b o e => (ev.bs b o e).1
  refine codeAny_call_function rm.depth (kin _ _ lk) rfl S.co S.gen rfl (PySem.W.codeRec_of kin hcd) (bn _ _ _ _ ?_)
  refine wpAny_newFunctionEnv_cells S.kind (fun yv hy => ?_) fun env he s1 inc => ?_
  · rcases S.par yv.1 (List.of_mem_zip hy).1 with z | z
    · exact .inl z
    · exact .inr ⟨z, PySem.W.cellsFrom_some _ _ _ (.inl z)⟩
  · subst he
    refine ⟨nol.keeps inc.toInCall.keep, codeAny_func ?_⟩
    obtain ⟨t, pt, qt⟩ := body cdv A outer s H vs Q E gA (rm.deeper _) h
    have J : Inv (cxOf CX0 P w K mg base N qual (defScope st) f cdv A outer s H E) [] (start N vs) H s1 := inv_start S rm.hd ev (len _ _ _ _ h) rv inc
    refine wpAny_mono (pt.nox.run [] s1 (start N vs) H _ J qt) (fun fl s' z => ?_) fun _ _ z => z
    cases fl with
    | brk => exact z.choose_spec.choose_spec.2.elim
    | cont => exact z.choose_spec.choose_spec.2.elim
    | next =>
      obtain ⟨σ', H', J', q⟩ := z
      exact ⟨V.non, H', J'.os, J'.bare, J'.base, J'.hok, rfl, q⟩
    | ret u =>
      obtain ⟨v, σ', H', J', r', q⟩ := z
      exact ⟨v, H', J'.os, J'.bare, J'.base, J'.hok, r', q⟩
end
section
variable {X : Cx}
/-- the call of such a def -/
theorem pe_callG {k : Nat} {f : Addr} {fd : FuncData} {ps : List Str} {sp : Sp} {y : Str} {p pos : Pos} {e : Expr} {es : List Expr} {t : TA} (F : FnG X.prog X.w X.K X.mg X.base k f fd ps sp) (gA : X.A.guards = some []) (hr : Room k X.A) (hg : Gl X y) (hm : X.mg y = some (.ref f)) (hk : PySem.W.keepIn X.K (.ref f) = true) (hb : Binds X.K fd ps [])
    (ha : PA X (e :: es) t) (hdb : (y == ("__debug__" : Str)) = false := by decide) (he : starEach (e :: es) X.env = (false, eval e X.env) :: starEach es X.env := by rfl) (hpl : (backTo pos (starEach es X.env)).any (·.1) = false := by rfl) :
    PE X (.Call (.Name y p) (e :: es) [] pos) (tCall sp [] E0 t) := by
  refine ⟨fun pins s σ H Q I h => wpAny_Call_Name_kw (ld_glob I hg hm (PySem.W.callWith_K (h₀ := X.base) I.ok.mod.kin hk (thn (ha.run pos pins s σ H _ I h) fun us s1 ⟨vs, H1, I1, r, q⟩ => ⟨I1.kIn, ?_⟩) he hpl) hdb)⟩
  have r2 : Vals (vs ++ []) (us ++ []) := r.append .nil
  have hl : (us ++ []).length = ps.length := by rw [← r2.length]; exact F.len _ _ _ _ q
  refine wpAny_call (codeAny_mono (F.go X.A X.stack s1 H1 ⟨us, []⟩ (us ++ []) (vs ++ []) Q E0 gA hr I1.env0 (hb s1 us I1.kIn hl) r2 q) fun rs s' hq => ?_)
  match rs, hq with
  | .error _, hq => exact hq.elim
  | .ok (.ret u), hq => exact I1.after hq
  | .ok .next, hq => exact False.elim hq
  | .ok .brk, hq => exact False.elim hq
  | .ok .cont, hq => exact False.elim hq
end
/-! the end of such a law -/
section
variable {P : Program} {w : World} {K : PySem.W.Frag} {mg mb : Str → Option Value} {k : Nat} {fa a : Addr} {fd : FuncData} {y : Str} {sp : Sp} {s : Shared} {us : List Value} {ns : List Int}
theorem lawG_at (kin : K.In s.heap) (ng : s.heap.Ns mainGlobals mg) (nb : s.heap.Ns builtinsNs mb) (eb : ∀ x : Str, x ≠ "__name__" → mb x = bootBuiltins x) (lim : s.heap.NoLimit) (eg : s.gens = #[]) (oa : s.heap.get? a = some { cls := .type "list", data := .seq us.toArray }) (rm : Room k callerA)
    (sy : ∃ m, s.heap.Ns sysModules m) (F : ∀ base : Heap, K.In base → base.Ns mainGlobals mg → SysAt base → FnG P w K mg base k fa fd [y] sp) (bn : ∀ (s : Shared) (u : Value), BindsTo s fd ⟨[u], []⟩ [(y, u)]) {H : Hp} (only : Only H) (hok : HOk P w H s.heap) (h1 : ∀ b, H b ≠ none → b = a) (h2 : H a ≠ none → K.lookup a = none) (h : sp [.ref a] H (fun v _ => v = .bl true) fun _ _ _ => False) :
    codeAny (model P w) callerA (.call (.ref fa) ⟨[.ref a], []⟩) (fun r s' => r = .ok (.ret (.bool true)) ∧ OldK s.heap s'.heap ∧ s'.os = s.os ∧ AllBare s'.gens) s := by
  have trk : ∀ {b : Addr} {u : HO}, H b = some u → b = a := fun {b u} e => h1 b (by rw [e]; exact fun z => nomatch z)
  have noD : ∀ {b : Addr} {o : Obj} {es : Array DictEntry} {ep : Nat}, s.heap.get? b = some o → o.data = .dict es ep → H b = none := fun {b o es ep} e dd => by
    cases q : H b with
    | none => rfl
    | some u =>
      have eq := trk q
      rw [eq, oa] at e
      cases e
      cases (show Data.seq us.toArray _ = Data.dict es ep from dd)
  have nsB : ∀ {b : Addr} {m : Str → Option Value}, s.heap.Ns b m → (hidT s.heap H).Ns b m := fun {b m} ⟨o, es, ep, e, dd, r⟩ => ⟨o, es, ep, hidT_get e (noD e dd), dd, r⟩
  have kinB : K.In (hidT s.heap H) := fun b o e => hidT_get (kin b o e) (by
    cases q : H b with
    | none => rfl
    | some u =>
      have eq := trk q
      rw [eq] at e q
      rw [h2 (by rw [q]; exact fun z => nomatch z)] at e
      cases e)
  have md : Mod K mg (hidT s.heap H) := ⟨kinB, nsB ng, ⟨mb, nsB nb, eb⟩, let ⟨mc, l1, l2⟩ := lim; ⟨mc, nsB l1, l2⟩⟩
  have noF : ∀ b : Addr, b ∉ ([] : List Addr) := fun b z => nomatch z
  have ev : Env0 P w K mg (hidT s.heap H) callerA [] s H := ⟨rfl, md, fun b o e => of_hidT e, Nat.le_of_eq (hidT_size _ _), trivial, fun b z => absurd (show b ∈ ([] : List Addr) from z) (noF b), hok, .of_eq eg⟩
  have sB : SysAt (hidT s.heap H) := by
    obtain ⟨m, z⟩ := sy
    obtain ⟨o, _, _, e, _⟩ := nsB z
    exact ⟨o, e⟩
  refine codeAny_mono ((F _ kinB (nsB ng) sB).go callerA [] s H ⟨[.ref a], []⟩ [.ref a] [.ref a] _ _ rfl rm ev (bn s (.ref a)) (.cons rfl .nil) h) fun rs s' z => ?_
  match rs, z with
  | .error _, z => exact z.elim
  | .ok .next, z => exact False.elim z
  | .ok .brk, z => exact False.elim z
  | .ok .cont, z => exact False.elim z
  | .ok (.ret u), z =>
    obtain ⟨v, H', os, ba, un, hok', rv, q⟩ := z
    obtain rfl : v = .bl true := q
    obtain rfl : u = Value.bool true := rv
    refine ⟨rfl, OldK.of_keep fun b o e => ?_, os, ba⟩
    rcases only b with z | ⟨ob, xs, z⟩
    · exact un.keep b o e z (fun y => absurd (show b ∈ ([] : List Addr) from y) (noF b)) (noF b)
    · obtain ⟨g1, _⟩ := hok b _ z
      obtain ⟨g2, _⟩ := hok' b _ (un.frzs b ob _ z)
      rw [e] at g1
      cases g1
      exact g2
theorem lawG (kin : K.In s.heap) (ng : s.heap.Ns mainGlobals mg) (nb : s.heap.Ns builtinsNs mb) (eb : ∀ x : Str, x ≠ "__name__" → mb x = bootBuiltins x) (lim : s.heap.NoLimit) (eg : s.gens = #[]) (oa : s.heap.get? a = some { cls := .type "list", data := .seq us.toArray }) (hi : IntsAre us ns) (hl : ns.length ≤ sizeLine) (rm : Room k callerA)
    (sy : ∃ m, s.heap.Ns sysModules m) (F : ∀ base : Heap, K.In base → base.Ns mainGlobals mg → SysAt base → FnG P w K mg base k fa fd [y] sp) (bn : ∀ (s : Shared) (u : Value), BindsTo s fd ⟨[u], []⟩ [(y, u)]) (hsp : ∀ H : Hp, Only H → SqL K H a (ns.map V.int) → sp [.ref a] H (fun v _ => v = .bl true) fun _ _ _ => False) :
    codeAny (model P w) callerA (.call (.ref fa) ⟨[.ref a], []⟩) (fun r s' => r = .ok (.ret (.bool true)) ∧ OldK s.heap s'.heap ∧ s'.os = s.os ∧ AllBare s'.gens) s := by
  have rv := vals_ints hi
  have el := hi.length
  cases hk : K.lookup a with
  | some o =>
    have e := kin a o hk
    rw [oa] at e
    cases e
    have o0 : Only (fun _ => none) := fun _ => .inl rfl
    exact lawG_at kin ng nb eb lim eg oa rm sy F bn o0 (fun b u z => absurd (show (none : Option HO) = some u from z) (fun y => nomatch y)) (fun b z => absurd rfl z) (fun z => absurd rfl z) (hsp _ o0 (.inr ⟨_, us.toArray, _, hk, rfl, rfl, rfl, by rw [List.size_toArray, el]; exact hl, by simpa using rv⟩))
  | none =>
    obtain ⟨ob, eo⟩ : ∃ ob : Obj, ob = { cls := .type "list", data := .seq us.toArray } := ⟨_, rfl⟩
    obtain ⟨H, eH⟩ : ∃ H : Hp, H = fun b => if b = a then some (.frz ob (.lst (ns.map V.int))) else none := ⟨_, rfl⟩
    have ha : H a = some (.frz ob (.lst (ns.map V.int))) := by rw [eH]; exact if_pos rfl
    have hb : ∀ b, b ≠ a → H b = none := fun b z => by rw [eH]; exact if_neg z
    have on : Only H := fun b => by
      by_cases z : b = a
      · rw [z]
        exact .inr ⟨_, _, ha⟩
      · exact .inl (hb b z)
    refine lawG_at kin ng nb eb lim eg oa rm sy F bn on (fun b u z => ?_) (fun b z => ?_) (fun _ => hk) (hsp H on (.inl (.inr ⟨ob, ha⟩)))
    · by_cases y : b = a
      · subst y
        rw [ha] at z
        cases z
        rw [eo]
        exact ⟨oa, by rw [List.length_map]; exact hl, us, _, rv, oa⟩
      · rw [hb b y] at z
        cases z
    · by_cases y : b = a
      · exact y
      · exact absurd (hb b y) z
end
theorem walkG {l : PySem.W.OpenLaw} {n k : Nat} {q : Program} {loose : List Str} {XP : (Str → Option Value) → Heap → Prop} {YP : World → Heap → Prop} {d : DefRec} {K : Params → PySem.W.Frag} {sp : World → Sp} {y : Str} (hn : l.most = some n) (hn2 : n ≤ sizeLine) (hdf : d.params.defaults = []) (rm : Room k callerA) (hY : ∀ (w : World) (h : Heap), YP w h → (K w.params).In h) (him : importsNone q = true)
    (F : ∀ (w : World) (mg : Str → Option Value) (fa : Addr) (h : Heap), (K w.params).In h → h.Ns mainGlobals mg → mg d.name = some (.ref fa) → ∃ fd : FuncData, (∀ (s : Shared) (u : Value), BindsTo s fd ⟨[u], []⟩ [(y, u)]) ∧ ∀ base : Heap, (K w.params).In base → base.Ns mainGlobals mg → SysAt base → FnG l.prog w (K w.params) mg base k fa fd [y] (sp w))
    (hsp : ∀ (w : World) (H : Hp) (a : Addr) (ns : List Int), ns.length ≤ n → Only H → SqL (K w.params) H a (ns.map V.int) → sp w [.ref a] H (fun v _ => v = .bl true) fun _ _ _ => False) : PySem.W.WalkO q loose XP YP l.row.toRowW d [] (fun f vs => PySem.call f vs) := by
  refine Att.attach_call hn hdf fun w sA sB mg mb fa o1 pm cd dc ad us ns G Y ho hd hcd hmg hob hin hle hge => ?_
  have KX := hY w _ Y
  obtain ⟨fd, hb, hF⟩ := F w mg fa _ KX G.T.g hmg
  obtain ⟨mm, sy, _⟩ := (G.T.seer him).mods
  exact lawG KX G.T.g G.T.b G.T.builtins G.T.nolimit hge hob hin (Nat.le_trans hle hn2) rm ⟨mm, sy⟩ hF hb fun H hH hS => hsp w H ad ns hle hH hS
end Fo
namespace Fo
open PySem PySem.Spec PyProof.Rows L2
/-! an error that was caught is known behind the try, too -/
def ExV (cls : Value) (d : Option Addr) (a : Addr) : HO := .ext fun h => ∃ oe : Obj, h.get? a = some oe ∧ Zc cls d oe ∧ ∃ vs, oe.data = .fields vs
theorem exV_ok {P : Program} {w : World} {H : Hp} {h : Heap} {a : Addr} {cls : Value} {d : Option Addr} {oe : Obj} (e : h.get? a = some oe) (z : Zc cls d oe) (f : ∃ vs, oe.data = .fields vs) : ObjOk P w H h a (ExV cls d a) :=
  ⟨⟨oe, e, z, f⟩, ⟨oe, e⟩, fun _ _ ⟨o, q, r⟩ k => ⟨o, k o q, r⟩⟩
theorem inv_track {X : Cx} {pins : List (Addr × Obj)} {σ : L2.St} {H : Hp} {s : Shared} {a : Addr} {o : HO} (I : Inv X pins σ H s) (na : H a = none) (n0 : X.s_0.heap.get? a = none) (nL : a ≠ X.env.locals) (nC : ∀ x c, X.env.cells.lookup x = some c → c ≠ a) (nP : ∀ p ∈ X.pn ++ pins, p.1 ≠ a) (new : ObjOk X.prog X.w (upd H a o) s.heap a o) :
    Inv X pins σ (upd H a o) s := by
  have n1 : ∀ b u, X.s_0.heap.get? b = some u → b ≠ a := fun b u e z => by rw [z, n0] at e; cases e
  refine ⟨I.ok, I.os, I.bare, ⟨I.base.keep, I.base.slot, fun b u e n hq => ?_, I.base.there, fun b xs e => ?_, fun b u xs e => ?_, fun b ps e => ?_⟩, I.loc, I.cell, ?_, fun x c e => ?_, fun p hp => ?_, I.hok.laidN (fun _ _ e => e) na new, I.len⟩
  · rw [upd_ne (n1 b u e)]
    exact I.base.free b u e n hq
  · have q := I.base.tups b xs e
    rw [upd_ne (ne_of_none q na)]
    exact q
  · have q := I.base.frzs b u xs e
    rw [upd_ne (ne_of_none q na)]
    exact q
  · obtain ⟨m, q⟩ := I.base.tbls b ps e
    exact ⟨m, by rw [upd_ne (ne_of_none q na)]; exact q⟩
  · rw [upd_ne (Ne.symm nL)]
    exact I.free
  · rw [upd_ne (nC x c e)]
    exact I.freeC x c e
  · obtain ⟨e, n, ne, nf, d⟩ := I.pin p hp
    exact ⟨e, by rw [upd_ne (nP p hp)]; exact n, ne, nf, d⟩
/-- what an «except x as n» wishes, the error known behind it -/
def wAsK (K : PySem.W.Frag) (c : Value) (i : Nat) (ts : Addr → Value → Option Addr → TS) (Wout : WX) (D : Ends) : WX := fun cls d σ H =>
  ∃ b, PySem.W.exmOne K cls c = some b ∧ (b = true → ∀ a, H a = none → ts a cls d ⟨fun σ' H' => D.nx (σ'.set i none) (upd H' a (ExV cls d a)), fun v H' => D.rt v (upd H' a (ExV cls d a)), fun σ' H' => D.bk (σ'.set i none) (upd H' a (ExV cls d a)), fun σ' H' => D.ct (σ'.set i none) (upd H' a (ExV cls d a))⟩ (σ.set i (some (.ref a))) H) ∧ (b = false → Wout cls d σ H)
section
variable {X : Cx} {x n : Str} {c : Value} {i : Nat} {body suite : List Stmt} {b₀ : Stmt} {np pos pos' : Pos} {tb : WX → TS} {ts : Addr → Value → Option Addr → TS} {Wout : WX}
theorem ps_try_k (hs : X.stack = X.env :: X.outer) (hf : X.env.frame = some X.env.locals) (hex : X.ex = []) (hN : X.N.Nodup) (hi : X.N[i]? = some n) (hln : X.env.kindOf n = some .local) (hc : Names X x c) (tk : Takes X Wout)
    (hb : ∀ (W : WX) (pn : List (Addr × Obj)) (xe : Value → Shared → Prop), Takes (X.tr pn xe) W → PassesOwn (model X.prog X.w) X.A X.env xe → PSs (X.tr pn xe) body (tb W)) (hsu : ∀ (a : Addr) (oe : Obj) (cls : Value) (d : Option Addr) (pn : List (Addr × Obj)), Zc cls d oe → (∃ vs, oe.data = .fields vs) → PSs (X.suite a ((a, oe) :: pn)) (b₀ :: suite) (ts a cls d)) : PS X (.Try body [.ExceptHandler (some (.Name x np)) (some n) (b₀ :: suite) pos'] [] [] pos) (fun D σ H => tb (wAsK X.K c i ts Wout D) D σ H) := by
  refine ⟨fun pins s σ H D I hw => ?_⟩
  have okX := I.ok
  have frX : X.A.frames = some (X.env :: X.outer) := by rw [okX.frames, hs]
  have lcN : Loc X.env.scope n := .inl hln
  refine wpAny_Try_except (wpAny_mono ((hb (wAsK X.K c i ts Wout D) (X.pn ++ pins) (fun e s₁ => wpAny (model X.prog X.w) X.A (noteFrame e X.env) (fun _ s₂ => wpAny (model X.prog X.w) X.A (setFlight e none) (fun _ s₃ => wpAny (model X.prog X.w) X.A (handleBy e X.env [.ExceptHandler (some (.Name x np)) (some n) (b₀ :: suite) pos']) (SP X pins D) X.xe s₃) X.xe s₂) X.xe s₁) (fun u s' xx => ?_) PassesOwn.looking).run [] s σ H D (I.toTry _) hw) (fun fl s1 hsp => ?_) (fun _ _ he => he))
  · obtain ⟨a, Bg, sI, pins', σ', H', cls, d, rfl, J', nb, up, sky, na, os, ag, b, hb1, hyes, hno⟩ := xx
    have Ja : Inv X pins σ' H' sI := J'.ofTry okX
    have skyE : Sky Bg (X.env :: X.outer) a (Zc cls d) X.env.locals s'.heap := by rw [← hs]; exact sky
    show wpAny (model X.prog X.w) X.A (noteFrame (.ref a) X.env) _ _ _
    refine Sky.land Zc.steady frX hf skyE fun h3 fl3 up3 => ?_
    have Jb : Inv X pins σ' H' { s' with heap := h3 } := Ja.landed nb fl3.1 (up.trans up3) os ag
    obtain ⟨oe3, vs3, he3, hz3, hd3⟩ := fl3.there
    have nfr : a ∉ frs (X.env :: X.outer) := fun hm => by
      obtain ⟨_, o', e', hnf⟩ := fl3.2.2.1.mem hm
      rw [he3] at e'
      cases e'
      exact hnf _ hd3
    have nL : a ≠ X.env.locals := fun z => nfr (List.mem_filterMap.mpr ⟨X.env, List.mem_cons_self, by rw [hf, z]⟩)
    have nF : a ∉ X.fs := fun hm => by
      obtain ⟨e, hem, q⟩ := List.mem_filterMap.mp hm
      exact nfr (List.mem_filterMap.mpr ⟨e, List.mem_cons_of_mem _ hem, q⟩)
    have nB : Bg.get? a = none := fl3.2.1
    have n0 : X.s_0.heap.get? a = none := by
      cases e : X.s_0.heap.get? a with
      | none => rfl
      | some o =>
        obtain ⟨o', q⟩ := Ja.base.there a o e (by rw [hex]; exact fun z => nomatch z)
        have z := nb a o' q (by rw [hs]; exact nfr)
        rw [nB] at z
        cases z
    have nP : ∀ p ∈ X.pn ++ pins, p.1 ≠ a := fun p hp z => by
      obtain ⟨e, _, ne, nf, _⟩ := Ja.pin p hp
      have q := nb p.1 p.2 e (fun hm => by
        rcases List.mem_cons.mp (Ja.stkSub p.1 hm) with y | y
        · exact ne y
        · exact nf y)
      rw [z, nB] at q
      cases q
    have Sb := Jb.suite he3 hd3 na nL nF
    refine wpAny_handleBy_cons (codeAny_handlers_test ?_) (by intro q; cases q)
    have tyA : PySem.W.Looks (model X.prog X.w) h3 (typeOf (.ref a)) cls := fun A Q E s k q => wpAny_typeOf_ref (k _ _ he3) (by rw [hz3.1]; exact q)
    have exA := PySem.W.exm_one (M := model X.prog X.w) (Jb.kIn) tyA hb1
    have nameA : ∀ {Q : Value → Shared → Prop} {E : Value → Shared → Prop}, Q c { s' with heap := h3 } → wpAny (model X.prog X.w) (X.A.mark (some (.ref a))) (eval (.Name x np) X.env) Q E { s' with heap := h3 } := fun {Q E} q => by
      rcases hc with ⟨hg, hdbg, hm | ⟨hm, hv, hnn⟩⟩
      · exact ld_glob (X := X.suite a ((a, oe3) :: (X.pn ++ pins))) Sb hg hm q hdbg
      · exact ld_blt (X := X.suite a ((a, oe3) :: (X.pn ++ pins))) Sb hg hm hv q hnn hdbg
    refine nameA (exA.here ?_)
    cases b with
    | false =>
      show wpAny _ X.A (handleBy (.ref a) X.env []) _ _ _
      refine wpAny_handleBy_nil ?_
      obtain ⟨k1, k2, k3, oe, vs, T, oT, ts', he, hz, hd, h1, hr⟩ := id fl3
      unfold PySem.passOn
      refine wpAny_bind (wpAny_field he hd h1 ?_)
      rw [if_neg (show ¬ ((Value.ref T == Value.none) = true) from by simp)]
      have out : wpAny (model X.prog X.w) X.A (setFlight (.ref a) X.env.frame) (fun _ s4 => wpAny (model X.prog X.w) X.A (throw (.ref a) : Sem Flow) (SP X pins D) X.xe s4) X.xe { s' with heap := h3 } := by
        rw [hf]
        exact HandSPX.setFlight_upZ fl3 fun h4 hh4 up4 => wpAny_throw (tk _ _ ⟨a, Bg, sI, pins, σ', H', cls, d, rfl, Ja, nb, (up.trans up3).trans up4, .inr (.inr (by rw [hs]; exact hh4)), na, os, ag, hno rfl⟩)
      first
        | exact wpAny_bind (wpAny_pure (wpAny_bind out))
        | exact wpAny_bind out
    | true =>
      refine codeAny_handlers_suite_as (HandSPX.lands_againZ fl3 fun h4 fl4 up4 => ?_)
      have Jc : Inv X pins σ' H' { s' with heap := h4 } := Ja.landed nb fl4.1 ((up.trans up3).trans up4) os ag
      obtain ⟨oe4, vs4, he4, hz4, hd4⟩ := fl4.there
      have Sc := Jc.suite he4 hd4 na nL nF
      refine store_ok (X := X.suite a ((a, oe4) :: (X.pn ++ pins))) (v := .ref a) Sc hN hi lcN rfl (fun s5 S5 => ?_) (.inr hln)
      refine wpAny_mono ((hsu a oe4 cls d (X.pn ++ pins) hz4 ⟨_, hd4⟩).run [] s5 _ H' _ S5 (hyes rfl a na)) (fun fl s6 hsp => ?_) (fun _ _ z => False.elim z)
      have fin : ∀ {σ6 : L2.St} {H6 : Hp} {Q : Shared → Prop}, Inv (X.suite a ((a, oe4) :: (X.pn ++ pins))) [] σ6 H6 s6 → (∀ s7, Inv X pins (σ6.set i none) (upd H6 a (ExV cls d a)) s7 → Q s7) → wpAny (model X.prog X.w) X.A (do bindName X.env n .none; unbindBehindTheSuite X.env n pos') (fun _ s7 => Q s7) X.xe s6 := fun {σ6 H6 Q} S6 hq =>
        gone_ok (X := X.suite a ((a, oe4) :: (X.pn ++ pins))) S6 hN hi hln fun s7 S7 => by
          obtain ⟨g7, n7, _, _, _⟩ := S7.pin (a, oe4) (List.mem_append.mpr (.inl List.mem_cons_self))
          have U7 : Inv X pins (σ6.set i none) H6 s7 := S7.unsuite okX
          refine hq s7 (inv_track U7 n7 n0 nL (fun y cc e z => ?_) nP (exV_ok g7 hz4 ⟨_, hd4⟩))
          obtain ⟨v, o, ho, hdo⟩ := U7.cell y cc e
          rw [z, show s7.heap.get? a = some oe4 from g7] at ho
          cases ho
          rw [hd4] at hdo
          cases hdo
      cases fl with
      | next => obtain ⟨σ6, H6, S6, q6⟩ := hsp; exact fin S6 fun s7 J7 => ⟨_, _, J7, q6⟩
      | brk => obtain ⟨σ6, H6, S6, q6⟩ := hsp; exact fin S6 fun s7 J7 => ⟨_, _, J7, q6⟩
      | cont => obtain ⟨σ6, H6, S6, q6⟩ := hsp; exact fin S6 fun s7 J7 => ⟨_, _, J7, q6⟩
      | ret u => obtain ⟨v6, σ6, H6, S6, r6, q6⟩ := hsp; exact fin S6 fun s7 J7 => ⟨_, _, _, J7, r6, q6⟩
  · cases fl with
    | next => obtain ⟨σ', H', J', q⟩ := hsp; exact wpAny_execs_nil ⟨σ', H', J'.ofTry okX, q⟩
    | brk => obtain ⟨σ', H', J', q⟩ := hsp; exact ⟨σ', H', J'.ofTry okX, q⟩
    | cont => obtain ⟨σ', H', J', q⟩ := hsp; exact ⟨σ', H', J'.ofTry okX, q⟩
    | ret u => obtain ⟨v, σ', H', J', r, q⟩ := hsp; exact ⟨v, σ', H', J'.ofTry okX, r, q⟩
end
/-! isinstance of such an error -/
theorem inst_of {X : Cx} {pins : List (Addr × Obj)} {σ : L2.St} {H : Hp} {s : Shared} {a C : Addr} (I : Inv X pins σ H s) (h : H a = some (ExV (.ref C) none a)) : ∃ oe, PySem.W.InstAt s.heap a oe C none := by
  obtain ⟨⟨oe, g, ⟨h1, h2⟩, vs, hv⟩, _, _⟩ := I.hok a _ h
  obtain ⟨oc, od, oda, osl⟩ := oe
  dsimp only at h1 h2 hv
  subst h1 h2 hv
  exact ⟨_, g, rfl, rfl, trivial⟩
/-- types, errors among them -/
inductive TyZ (K : PySem.W.Frag) (H : Hp) : V → Value → Prop where
  | x {v : V} {t : Value} (h : TyX K H v t) : TyZ K H v t
  | exc {a C : Addr} (h : H a = some (ExV (.ref C) none a)) (c : ExcC K C) : TyZ K H (.ref a) (.ref C)
theorem kitz_of {X : Cx} {pins : List (Addr × Obj)} {σ : L2.St} {H : Hp} {s : Shared} {v : V} {u t : Value} (I : Inv X pins σ H s) (rv : RelV v u) (ty : TyZ X.K H v t) : ∃ Pz : Heap → Prop, PySem.W.KitX X.K u t Pz ∧ Pz s.heap ∧ u ≠ .builtin "__main__.__loader__#opaque" := by
  cases ty with
  | x h => exact kit_of I rv h
  | @exc a C h c =>
    cases (show u = Value.ref a from rv)
    obtain ⟨oe, J⟩ := inst_of I h
    exact ⟨_, PySem.W.handS_kitx_exc c.hg c.hk c.hs c.hd c.ha c.hn c.ht c.hm, J, fun z => nomatch z⟩
def rIsZ (K : PySem.W.Frag) : List V → Hp → VK → Prop := fun xs H Q => ∃ (v c : V) (t u : Value) (b : Bool), xs = [v, c] ∧ ClsV c u ∧ TyZ K H v t ∧ PySem.W.kitOne K t u = some b ∧ Q (.bl b) H
def rIsZT (K : PySem.W.Frag) : List V → Hp → VK → Prop := fun xs H Q => ∃ (v : V) (tp : Addr) (cs : List V) (t : Value) (us : List Value) (b : Bool), xs = [v, .ref tp] ∧ H tp = some (.tup cs) ∧ Paired ClsV cs us ∧ TyZ K H v t ∧ PySem.W.kitAny K t us = some b ∧ Q (.bl b) H
theorem call_isZ {X : Cx} : CallR X (.builtin "isinstance") (rIsZ X.K) := by
  intro pins s σ H xs us Q I r h
  obtain ⟨v, c, t, u, b, rfl, k, ty, e, q⟩ := h
  obtain ⟨w1, w2, rfl, r1, r2⟩ := vals2 r
  obtain rfl := k.eq r2
  obtain ⟨Pz, Z, p, hx⟩ := kitz_of I r1 ty
  exact PySem.W.kia_one Z I.kIn p e hx fun tk => ⟨.bl b, H, I.tok tk, rfl, q⟩
theorem call_isZT {X : Cx} : CallR X (.builtin "isinstance") (rIsZT X.K) := by
  intro pins s σ H xs us Q I r h
  obtain ⟨v, tp, cs, t, ws, b, rfl, hT, k, ty, e, q⟩ := h
  obtain ⟨w1, w2, rfl, r1, r2⟩ := vals2 r
  cases (show w2 = Value.ref tp from r2)
  obtain ⟨Pz, Z, p, hx⟩ := kitz_of I r1 ty
  obtain ⟨_, its, rv, ob, h1, h2, n, h3⟩ := (show ObjOk X.prog X.w H s.heap tp (.tup cs) from I.hok tp _ hT)
  obtain rfl := ClsV.all k rv
  obtain ⟨oc, od, dt, sl⟩ := ob
  simp only at h2 h3
  subst h2 h3
  exact PySem.W.kia_tup Z I.kIn p h1 e hx fun tk => ⟨.bl b, H, I.tok tk, rfl, q⟩
end Fo
namespace Fo
open PySem PySem.Spec PyProof.Rows L2
/-! isinstance of the error that the suite holds, whatever class it has -/
def rIsP (K : PySem.W.Frag) (a : Addr) (cls : Value) (d : Option Addr) : List V → Hp → VK → Prop := fun xs H Q => ∃ (C : Addr) (c : V) (u : Value) (b : Bool), cls = .ref C ∧ d = none ∧ ExcC K C ∧ xs = [.ref a, c] ∧ ClsV c u ∧ PySem.W.kitOne K (.ref C) u = some b ∧ Q (.bl b) H
def rIsPT (K : PySem.W.Frag) (a : Addr) (cls : Value) (d : Option Addr) : List V → Hp → VK → Prop := fun xs H Q => ∃ (C : Addr) (tp : Addr) (cs : List V) (us : List Value) (b : Bool), cls = .ref C ∧ d = none ∧ ExcC K C ∧ xs = [.ref a, .ref tp] ∧ H tp = some (.tup cs) ∧ Paired ClsV cs us ∧ PySem.W.kitAny K (.ref C) us = some b ∧ Q (.bl b) H
theorem inst_pin {X : Cx} {pins pn : List (Addr × Obj)} {σ : L2.St} {H : Hp} {s : Shared} {a C : Addr} {oe : Obj} (I : Inv (X.suite a ((a, oe) :: pn)) pins σ H s) (hz : Zc (.ref C) none oe) (hf : ∃ vs, oe.data = .fields vs) : PySem.W.InstAt s.heap a oe C none := by
  obtain ⟨hget, _⟩ := I.pin (a, oe) (List.mem_append.mpr (.inl List.mem_cons_self))
  obtain ⟨vs, hv⟩ := hf
  obtain ⟨oc, od, oda, osl⟩ := oe
  obtain ⟨h1, h2⟩ := hz
  dsimp only at h1 h2 hv
  subst h1 h2 hv
  exact ⟨hget, rfl, rfl, trivial⟩
theorem call_isP {X : Cx} {a : Addr} {cls : Value} {d : Option Addr} {oe : Obj} {pn : List (Addr × Obj)} (hz : Zc cls d oe) (hf : ∃ vs, oe.data = .fields vs) : CallR (X.suite a ((a, oe) :: pn)) (.builtin "isinstance") (rIsP X.K a cls d) := by
  intro pins s σ H xs us Q I r h
  obtain ⟨C, c, u, b, rfl, rfl, ec, rfl, k, e, q⟩ := h
  obtain ⟨w1, w2, rfl, r1, r2⟩ := vals2 r
  obtain rfl := k.eq r2
  cases (show w1 = Value.ref a from r1)
  exact PySem.W.kia_one (PySem.W.handS_kitx_exc ec.hg ec.hk ec.hs ec.hd ec.ha ec.hn ec.ht ec.hm) I.kIn (inst_pin I hz hf) e (fun z => nomatch z) fun tk => ⟨.bl b, H, I.tok tk, rfl, q⟩
theorem call_isPT {X : Cx} {a : Addr} {cls : Value} {d : Option Addr} {oe : Obj} {pn : List (Addr × Obj)} (hz : Zc cls d oe) (hf : ∃ vs, oe.data = .fields vs) : CallR (X.suite a ((a, oe) :: pn)) (.builtin "isinstance") (rIsPT X.K a cls d) := by
  intro pins s σ H xs us Q I r h
  obtain ⟨C, tp, cs, ws, b, rfl, rfl, ec, rfl, hT, k, e, q⟩ := h
  obtain ⟨w1, w2, rfl, r1, r2⟩ := vals2 r
  cases (show w1 = Value.ref a from r1)
  cases (show w2 = Value.ref tp from r2)
  obtain ⟨_, its, rv, ob, h1, h2, n, h3⟩ := (show ObjOk _ _ H s.heap tp (.tup cs) from I.hok tp _ hT)
  obtain rfl := ClsV.all k rv
  obtain ⟨oc, od, dt, sl⟩ := ob
  simp only at h2 h3
  subst h2 h3
  exact PySem.W.kia_tup (PySem.W.handS_kitx_exc ec.hg ec.hk ec.hs ec.hd ec.ha ec.hn ec.ht ec.hm) I.kIn (inst_pin I hz hf) h1 e (fun z => nomatch z) fun tk => ⟨.bl b, H, I.tok tk, rfl, q⟩
theorem ix_listP {X : Cx} {a : Addr} {pn : List (Addr × Obj)} : IxR (X.suite a pn) (rIxL X.K) := ix_list
/-- none of several classes -/
theorem any_no {K : PySem.W.Frag} {t : Value} : ∀ {us : List Value}, (∀ u ∈ us, PySem.W.kitOne K t u = some false) → PySem.W.kitAny K t us = some false
  | [], _ => rfl
  | u :: r, h => by
    unfold PySem.W.kitAny
    rw [h u List.mem_cons_self]
    exact any_no fun x hx => h x (List.mem_cons_of_mem _ hx)
theorem any_yes {K : PySem.W.Frag} {t u : Value} : ∀ {us : List Value}, (∀ u ∈ us, ∃ b, PySem.W.kitOne K t u = some b) → u ∈ us → PySem.W.kitOne K t u = some true → PySem.W.kitAny K t us = some true
  | [], _, h, _ => absurd h List.not_mem_nil
  | w :: r, h, hu, e => by
    unfold PySem.W.kitAny
    obtain ⟨b, hb⟩ := h w List.mem_cons_self
    rw [hb]
    cases b with
    | true => rfl
    | false =>
      rcases List.mem_cons.mp hu with rfl | hu
      · rw [hb] at e
        cases e
      · exact any_yes (fun x hx => h x (List.mem_cons_of_mem _ hx)) hu e
end Fo
namespace Fo
open PySem PySem.Spec PyProof.Rows L2
/-! things of any kind, as data; repr of them -/
def keyD : Key → PyData
  | .inl i => .int i
  | .inr x => .str x
inductive Kvs : List (Key × V) → List (PyData × PyData) → Prop
  | nil : Kvs [] []
  | cons {k : Key} {i : Int} {r : List (Key × V)} {s : List (PyData × PyData)} : Kvs r s → Kvs ((k, .int i) :: r) ((keyD k, .int i) :: s)
mutual
inductive Dq (H : Hp) : V → PyData → Prop
  | non : Dq H .non .none
  | bl (b : Bool) : Dq H (.bl b) (.bool b)
  | int (i : Int) : Dq H (.int i) (.int i)
  | str (x : Str) : Dq H (.str x) (.str x)
  | lst {a : Addr} {xs : List V} {ds : List PyData} : H a = some (.lst xs) → DqAll H xs ds → Dq H (.ref a) (.list ds)
  | tup {a : Addr} {xs : List V} {ds : List PyData} : H a = some (.tup xs) → DqAll H xs ds → Dq H (.ref a) (.tuple ds)
  | dic {a : Addr} {kvs : List (Key × V)} {ks : List (PyData × PyData)} : H a = some (.dK kvs) → Kvs kvs ks → Dq H (.ref a) (.dict ks)
inductive DqAll (H : Hp) : List V → List PyData → Prop
  | nil : DqAll H [] []
  | cons {v : V} {vs : List V} {d : PyData} {ds : List PyData} : Dq H v d → DqAll H vs ds → DqAll H (v :: vs) (d :: ds)
end
mutual
theorem Dq.keep {H H' : Hp} (k : ∀ b o, H b = some o → H' b = some o) : ∀ (d : PyData) (v : V), Dq H v d → Dq H' v d
  | .none, _, h => by cases h; exact .non
  | .bool b, _, h => by cases h; exact .bl b
  | .int i, _, h => by cases h; exact .int i
  | .str x, _, h => by cases h; exact .str x
  | .list ds, _, h => by
    cases h with
    | lst e a => exact .lst (k _ _ e) (DqAll.keep k ds _ a)
  | .tuple ds, _, h => by
    cases h with
    | tup e a => exact .tup (k _ _ e) (DqAll.keep k ds _ a)
  | .dict ks, _, h => by
    cases h with
    | dic e a => exact .dic (k _ _ e) a
theorem DqAll.keep {H H' : Hp} (k : ∀ b o, H b = some o → H' b = some o) : ∀ (ds : List PyData) (vs : List V), DqAll H vs ds → DqAll H' vs ds
  | [], _, h => by cases h; exact .nil
  | d :: ds, _, h => by
    cases h with
    | cons h1 h2 => exact .cons (Dq.keep k d _ h1) (DqAll.keep k ds _ h2)
end
theorem Dq.same {H H' : Hp} {d : PyData} {v : V} (h : Dq H v d) (s : Same H H') : Dq H' v d := Dq.keep s d v h
theorem DqAll.same {H H' : Hp} {ds : List PyData} {vs : List V} (h : DqAll H vs ds) (s : Same H H') : DqAll H' vs ds := DqAll.keep s ds vs h
theorem DqAll.len {H : Hp} : ∀ {ds : List PyData} {vs : List V}, DqAll H vs ds → vs.length = ds.length
  | [], _, h => by cases h; rfl
  | d :: ds, _, h => by
    cases h with
    | cons h1 h2 => rw [List.length_cons, List.length_cons, DqAll.len h2]
theorem DqAll.get {H : Hp} : ∀ {ds : List PyData} {vs : List V} {i : Nat} {v : V}, DqAll H vs ds → vs[i]? = some v → ∃ d, ds[i]? = some d ∧ Dq H v d
  | [], _, i, v, h, e => by cases h; simp at e
  | d :: ds, _, 0, v, h, e => by
    cases h with
    | cons h1 h2 =>
      cases (Option.some.inj e)
      exact ⟨d, rfl, h1⟩
  | d :: ds, _, i + 1, v, h, e => by
    cases h with
    | cons h1 h2 => exact DqAll.get (i := i) h2 e
theorem DqAll.app {H : Hp} : ∀ {ds es : List PyData} {vs us : List V}, DqAll H vs ds → DqAll H us es → DqAll H (vs ++ us) (ds ++ es)
  | [], _, _, _, h, g => by cases h; exact g
  | d :: ds, _, _, _, h, g => by
    cases h with
    | cons h1 h2 => exact .cons h1 (DqAll.app h2 g)
theorem DqAll.take {H : Hp} : ∀ {ds : List PyData} {vs : List V} (n : Nat), DqAll H vs ds → DqAll H (vs.take n) (ds.take n)
  | [], _, n, h => by cases h; rw [List.take_nil, List.take_nil]; exact .nil
  | d :: ds, _, 0, h => .nil
  | d :: ds, _, n + 1, h => by
    cases h with
    | cons h1 h2 => exact .cons h1 (DqAll.take n h2)
theorem DqAll.drop {H : Hp} : ∀ {ds : List PyData} {vs : List V} (n : Nat), DqAll H vs ds → DqAll H (vs.drop n) (ds.drop n)
  | [], _, n, h => by cases h; rw [List.drop_nil, List.drop_nil]; exact .nil
  | d :: ds, _, 0, h => h
  | d :: ds, _, n + 1, h => by
    cases h with
    | cons h1 h2 => exact DqAll.drop n h2
theorem dq_ints {H : Hp} : ∀ ns : List Int, DqAll H (ns.map V.int) (ns.map PyData.int)
  | [] => .nil
  | n :: r => .cons (.int n) (dq_ints r)
theorem dq_list {H : Hp} {a : Addr} {ns : List Int} (h : H a = some (.lst (ns.map V.int))) : Dq H (.ref a) (.list (ns.map PyData.int)) := .lst h (dq_ints ns)
section
variable {X : Cx} {pins : List (Addr × Obj)} {σ : L2.St} {H : Hp} {s : Shared}
theorem not_sys (I : Inv X pins σ H s) (z : SysAt X.base) {a : Addr} {o : HO} (e : H a = some o) : sysModules ≠ a := fun q => by
  obtain ⟨ob, eb⟩ := z
  have := (I.env0.bs _ _ eb).2
  rw [q, e] at this
  cases this
theorem kvs_reads (h : Heap) : ∀ {kvs : List (Key × V)} {ks : List (PyData × PyData)} {vs : List (Key × Value)} {es : List DictEntry}, Kvs kvs ks → KV kvs vs → Pairs (mixKind X.prog X.w) es vs → ReadsAll h (es.map (·.key)) (ks.map (·.1)) [] ∧ ReadsAll h (es.map (·.val)) (ks.map (·.2)) []
  | [], _, _, _, q, r, p => by
    cases q
    cases r
    cases p
    exact ⟨.nil, .nil⟩
  | kv :: kvs, _, _, _, q, r, p => by
    cases q with
    | cons q' =>
      cases r with
      | cons r1 r2 =>
        cases p with
        | cons p1 p2 =>
          obtain ⟨hk, hv⟩ := r1
          obtain ⟨t1, t2⟩ := kvs_reads h q' r2 (by assumption)
          obtain ⟨tv, ev⟩ := hv
          rename_i kk ii ss bb l2 ee ees p3
          have e1 : ∃ u, Reads h ee.key (keyD kk) u ∧ u = [] := by
            have p1' : keyIs bb.1 ee.key = true := p1
            rw [← hk] at p1'
            rcases keyIs_shape p1' with ⟨i, t, a1, a2⟩ | ⟨x, t, a1, a2⟩
            · have a1 : kk = Sum.inl i := a1
              rw [a2, a1]
              exact ⟨_, .int i t, rfl⟩
            · have a1 : kk = Sum.inr x := a1
              rw [a2, a1]
              exact ⟨_, .str x t, rfl⟩
          obtain ⟨_, e1, rfl⟩ := e1
          refine ⟨ReadsAll.cons e1 t1, ReadsAll.cons (as := []) (d := .int ii) ?_ t2⟩
          show Reads h ee.val _ _
          rw [p2, ev]
          exact .int ii tv
mutual
theorem Dq.reads (I : Inv X pins σ H s) (z : SysAt X.base) : ∀ (d : PyData) (v : V) (u : Value), Dq H v d → RelV v u → ∃ as, Reads s.heap u d as ∧ sysModules ∉ as
  | .none, _, _, h, r => by
    cases h
    cases r
    exact ⟨_, .none, List.not_mem_nil⟩
  | .bool b, _, _, h, r => by
    cases h
    cases r
    exact ⟨_, .bool b, List.not_mem_nil⟩
  | .int i, _, _, h, r => by
    cases h
    obtain ⟨t, rfl⟩ := r
    exact ⟨_, .int i t, List.not_mem_nil⟩
  | .str x, _, _, h, r => by
    cases h
    obtain ⟨t, rfl⟩ := r
    exact ⟨_, .str x t, List.not_mem_nil⟩
  | .list ds, _, _, h, r => by
    cases h with
    | lst e ha =>
      cases r
      obtain ⟨its, rv, ⟨o, n, ho, hc, _, hd⟩, _⟩ := I.list (SqL.of e)
      obtain ⟨as, hr, hn⟩ := Dq.readsAll I z ds _ its ha rv
      exact ⟨_, .list ho hc hd hr, fun q => by
        rcases List.mem_cons.mp q with q | q
        · exact not_sys I z e q
        · exact hn q⟩
  | .tuple ds, _, _, h, r => by
    cases h with
    | tup e ha =>
      cases r
      obtain ⟨its, rv, ⟨o, ho, hc, n, hd⟩, _⟩ := I.tuple (SqT.of e)
      obtain ⟨as, hr, hn⟩ := Dq.readsAll I z ds _ its ha rv
      exact ⟨_, .tuple ho hc hd hr, hn⟩
  | .dict ks, _, _, h, r => by
    cases h with
    | dic e hk =>
      cases r
      obtain ⟨_, nsys, vs, rel, dof⟩ := dk_of I.hok e
      obtain ⟨ep, ob, es, ho, exd, hdat, hko, hpr, hnd⟩ := dof.dictAt
      obtain ⟨r1, r2⟩ := kvs_reads (X := X) s.heap hk rel hpr
      exact ⟨_, .dict ho exd.1 hdat r1 r2, fun q => by
        rcases List.mem_cons.mp q with q | q
        · exact not_sys I z e q
        · cases q⟩
theorem Dq.readsAll (I : Inv X pins σ H s) (z : SysAt X.base) : ∀ (ds : List PyData) (vs : List V) (us : List Value), DqAll H vs ds → Vals vs us → ∃ as, ReadsAll s.heap us ds as ∧ sysModules ∉ as
  | [], _, _, h, r => by
    cases h
    cases r
    exact ⟨_, .nil, List.not_mem_nil⟩
  | d :: ds, _, _, h, r => by
    cases h with
    | cons h1 h2 =>
      cases r with
      | cons r1 r2 =>
        obtain ⟨as, q1, n1⟩ := Dq.reads I z d _ _ h1 r1
        obtain ⟨bs, q2, n2⟩ := Dq.readsAll I z ds _ _ h2 r2
        exact ⟨_, .cons q1 q2, fun q => by
          rcases List.mem_append.mp q with q | q
          · exact n1 q
          · exact n2 q⟩
end
/-- fit to be shown -/
structure Rp (m : Nat) (d : PyData) : Prop where
  show' : d.showable = true
  len : d.shown.length ≤ m
  dep : d.depth ≤ 20
/-- repr of a thing -/
def rReprD : List V → Hp → VK → Prop := fun xs H Q => ∃ (v : V) (d : PyData) (m : Nat), xs = [v] ∧ Dq H v d ∧ Rp m d ∧ m ≤ 16777216 ∧ Q (.str d.shown) H
theorem call_reprD {k : Nat} (g : X.A.guards = some []) (rm : Room k X.A) (z : SysAt X.base) : CallR X (.builtin "repr") rReprD := by
  intro pins s σ H xs us Q I r h
  obtain ⟨v, d, m, rfl, hd, rp, hm, q⟩ := h
  obtain ⟨u, rfl, ru⟩ := vals1 r
  have hun := rm.un
  have hdp := rp.dep
  have hsz : d.shown.length ≤ sizeLine := by rw [sizeLine_eq]; exact Nat.le_trans rp.len hm
  obtain ⟨as, rd, ns⟩ := Dq.reads I z d v u hd ru
  have big : ∀ {a : Addr}, u = .ref a → wpAny (model X.prog X.w) X.A (PySem.call (.builtin "repr") [u]) (EP X pins σ Q) X.xe s := fun {a} e => by
    subst e
    exact repr_of_reads' rd rp.show' (fun _ => ns) g (by omega) (fun _ _ e => e) (fun h' tk' tk kp => ⟨.str d.shown, H, I.kept (t' := tk) kp, ⟨_, rfl⟩, q⟩) hsz
  cases hd with
  | non =>
    cases ru
    have e : PyData.shown .none = "None" := by rw [PyData.shown]
    rw [e] at q
    exact PySem.P.repr_of_none ⟨.str _, H, I.tok _, ⟨_, rfl⟩, q⟩
  | bl b =>
    cases ru
    have e : PyData.shown (.bool b) = (if b = true then Str.ofString "True" else Str.ofString "False") := by rw [PyData.shown]
    rw [e] at q
    exact PySem.P.repr_of_bool ⟨.str _, H, I.tok _, ⟨_, rfl⟩, q⟩
  | int i =>
    obtain ⟨t, rfl⟩ := ru
    have e : PyData.shown (.int i) = Str.ofString (toString i) := by rw [PyData.shown]
    rw [e] at q
    exact PySem.P.repr_of_int (by have := rp.show'; rw [PyData.showable] at this; exact of_decide_eq_true this) ⟨.str _, H, I.tok _, ⟨_, rfl⟩, q⟩
  | str x =>
    obtain ⟨t, rfl⟩ := ru
    have e : PyData.shown (.str x) = reprText x := by rw [PyData.shown]
    rw [e] at q hsz
    exact PySem.P.repr_of_str ⟨.str _, H, I.tok _, ⟨_, rfl⟩, q⟩ hsz
  | lst e _ => exact big ru
  | tup e _ => exact big ru
  | dic e _ => exact big ru
end
/-! how long the texts are -/
theorem textFrom_le : ∀ (ts : List Str) (k : Nat) (acc : Str), (textFrom k acc ts).length ≤ acc.length + piled ts
  | [], k, acc => by rw [textFrom]; exact Nat.le_add_right _ _
  | t :: ts, k, acc => by
    rw [textFrom, piled_cons]
    have := textFrom_le ts (k + 1) (acc ++ Str.ofString (if k > 0 then ", " else "") ++ t)
    have e : (Str.ofString (if k > 0 then ", " else "")).length ≤ 2 := by split <;> decide
    rw [strLen_append, strLen_append] at this
    omega
theorem listText_le (ts : List Str) : (listText ts).length ≤ piled ts + 2 := by
  unfold listText
  have := textFrom_le ts 0 (Str.ofString "[")
  rw [strLen_append]
  have e1 : (Str.ofString "[").length = 1 := rfl
  have e2 : (Str.ofString "]").length = 1 := rfl
  omega
theorem piled_le : ∀ {ts : List Str} {m : Nat}, (∀ t ∈ ts, t.length ≤ m) → piled ts ≤ ts.length * (m + 2)
  | [], m, _ => by rw [piled_nil]; exact Nat.zero_le _
  | t :: ts, m, h => by
    rw [piled_cons, List.length_cons, Nat.succ_mul]
    have h1 := piled_le (ts := ts) fun x hx => h x (List.mem_cons_of_mem _ hx)
    have h2 := h t List.mem_cons_self
    omega
theorem join_le (ts : List Str) : (Str.join ", " ts).length ≤ piled ts := by
  by_cases h : ts = []
  · subst h
    decide
  · have := join_length_add ts h
    omega
theorem shownAll_eq : ∀ xs : List PyData, PyData.shownAll xs = xs.map PyData.shown
  | [] => by rw [PyData.shownAll]; rfl
  | x :: xs => by rw [PyData.shownAll, shownAll_eq xs]; rfl
theorem showableAll_of : ∀ {xs : List PyData}, (∀ x ∈ xs, PyData.showable x = true) → PyData.showableAll xs = true
  | [], _ => by rw [PyData.showableAll]
  | x :: xs, h => by rw [PyData.showableAll, h x List.mem_cons_self, showableAll_of fun y hy => h y (List.mem_cons_of_mem _ hy)]; rfl
theorem depthAll_of : ∀ {xs : List PyData} {k : Nat}, (∀ x ∈ xs, PyData.depth x ≤ k) → PyData.depthAll xs ≤ k
  | [], _, _ => by rw [PyData.depthAll]; exact Nat.zero_le _
  | x :: xs, k, h => by
    rw [PyData.depthAll]
    have h1 := h x List.mem_cons_self
    have h2 := depthAll_of fun y hy => h y (List.mem_cons_of_mem _ hy)
    exact Nat.max_le.mpr ⟨h1, h2⟩
/-- shown in m signs, k deep -/
structure Rq (m k : Nat) (d : PyData) : Prop where
  s : d.showable = true
  l : d.shown.length ≤ m
  d : d.depth ≤ k
theorem Rq.rp {m k : Nat} {d : PyData} (h : Rq m k d) (hk : k ≤ 20) : Rp m d := ⟨h.s, h.l, Nat.le_trans h.d hk⟩
theorem Rq.mono {m k m' k' : Nat} {d : PyData} (h : Rq m k d) (hm : m ≤ m') (hk : k ≤ k') : Rq m' k' d := ⟨h.s, Nat.le_trans h.l hm, Nat.le_trans h.d hk⟩
theorem rq_none : Rq 110 0 .none := ⟨by rw [PyData.showable], by rw [PyData.shown]; decide, by rw [PyData.depth]; exact Nat.le_refl _⟩
theorem rq_bool (b : Bool) : Rq 110 0 (.bool b) := ⟨by rw [PyData.showable], by rw [PyData.shown]; cases b <;> decide, by rw [PyData.depth]; exact Nat.le_refl _⟩
theorem rq_int {i : Int} (h : i.natAbs.log2 < 100) : Rq 110 0 (.int i) := by
  refine ⟨by rw [PyData.showable]; exact decide_eq_true (by omega), ?_, by rw [PyData.depth]; exact Nat.le_refl _⟩
  rw [PyData.shown]
  have := int_text_length_le (k := 100) (by decide) h
  show (Str.ofString (toString i)).length ≤ 110
  rw [PySem.ofString_length]
  omega
theorem rq_str {x : Str} (h : (reprText x).length ≤ 110) : Rq 110 0 (.str x) := ⟨by rw [PyData.showable], by rw [PyData.shown]; exact h, by rw [PyData.depth]; exact Nat.le_refl _⟩
theorem rq_list {xs : List PyData} {m k n : Nat} (h : ∀ x ∈ xs, Rq m k x) (hn : xs.length ≤ n) : Rq (n * (m + 2) + 2) (k + 1) (.list xs) := by
  refine ⟨by rw [PyData.showable]; exact showableAll_of fun x hx => (h x hx).s, ?_, by rw [PyData.depth]; exact Nat.succ_le_succ (depthAll_of fun x hx => (h x hx).d)⟩
  rw [PyData.shown, shownAll_eq]
  have h1 := listText_le (xs.map PyData.shown)
  have h2 := piled_le (ts := xs.map PyData.shown) (m := m) fun t ht => by
    obtain ⟨x, hx, rfl⟩ := List.mem_map.mp ht
    exact (h x hx).l
  rw [List.length_map] at h2
  have h3 := Nat.mul_le_mul_right (m + 2) hn
  omega
theorem rq_tup {xs : List PyData} {m k n : Nat} (h : ∀ x ∈ xs, Rq m k x) (hn : xs.length ≤ n) : Rq (n * (m + 2) + 3) (k + 1) (.tuple xs) := by
  refine ⟨by rw [PyData.showable]; exact showableAll_of fun x hx => (h x hx).s, ?_, by rw [PyData.depth]; exact Nat.succ_le_succ (depthAll_of fun x hx => (h x hx).d)⟩
  rw [PyData.shown, shownAll_eq]
  unfold tupleText
  rw [strLen_append, strLen_append]
  have h1 := join_le (xs.map PyData.shown)
  have h2 := piled_le (ts := xs.map PyData.shown) (m := m) fun t ht => by
    obtain ⟨x, hx, rfl⟩ := List.mem_map.mp ht
    exact (h x hx).l
  rw [List.length_map] at h2
  have h3 := Nat.mul_le_mul_right (m + 2) hn
  have e1 : (Str.ofString "(").length = 1 := rfl
  have e2 : (Str.ofString (if ((xs.map PyData.shown).length == 1) = true then ",)" else ")")).length ≤ 2 := by split <;> decide
  omega
theorem showableKv_of : ∀ {ks : List (PyData × PyData)}, (∀ p ∈ ks, PyData.showable p.1 = true ∧ PyData.showable p.2 = true) → PyData.showableKv ks = true
  | [], _ => by rw [PyData.showableKv]
  | (a, b) :: ks, h => by
    obtain ⟨h1, h2⟩ := h (a, b) List.mem_cons_self
    rw [PyData.showableKv, h1, h2, showableKv_of fun y hy => h y (List.mem_cons_of_mem _ hy)]
    rfl
theorem depthKv_of : ∀ {ks : List (PyData × PyData)} {k : Nat}, (∀ p ∈ ks, PyData.depth p.1 ≤ k ∧ PyData.depth p.2 ≤ k) → PyData.depthKv ks ≤ k
  | [], _, _ => by rw [PyData.depthKv]; exact Nat.zero_le _
  | (a, b) :: ks, k, h => by
    rw [PyData.depthKv]
    obtain ⟨h1, h3⟩ := h (a, b) List.mem_cons_self
    exact Nat.max_le.mpr ⟨Nat.max_le.mpr ⟨h1, h3⟩, depthKv_of fun y hy => h y (List.mem_cons_of_mem _ hy)⟩
theorem shownKv_map : ∀ ks : List (PyData × PyData), PyData.shownKv ks = ks.map fun p => p.1.shown ++ Str.ofString ": " ++ p.2.shown
  | [] => by rw [PyData.shownKv]; rfl
  | (a, b) :: ks => by rw [PyData.shownKv, shownKv_map ks]; rfl
theorem rq_dict {ks : List (PyData × PyData)} {m k n : Nat} (h : ∀ p ∈ ks, Rq m k p.1 ∧ Rq m k p.2) (hn : ks.length ≤ n) : Rq (n * (2 * m + 4) + 2) (k + 1) (.dict ks) := by
  refine ⟨by rw [PyData.showable]; exact showableKv_of fun p hp => ⟨(h p hp).1.s, (h p hp).2.s⟩, ?_, by rw [PyData.depth]; exact Nat.succ_le_succ (depthKv_of fun p hp => ⟨(h p hp).1.d, (h p hp).2.d⟩)⟩
  rw [PyData.shown, shownKv_map]
  unfold dictText
  rw [strLen_append, strLen_append]
  have h1 := join_le (ks.map fun p => p.1.shown ++ Str.ofString ": " ++ p.2.shown)
  have h2 := piled_le (ts := ks.map fun p => p.1.shown ++ Str.ofString ": " ++ p.2.shown) (m := 2 * m + 2) fun t ht => by
    obtain ⟨p, hp, rfl⟩ := List.mem_map.mp ht
    have a1 := (h p hp).1.l
    have a2 := (h p hp).2.l
    have e3 : (Str.ofString ": ").length = 2 := rfl
    rw [strLen_append, strLen_append]
    omega
  rw [List.length_map, show 2 * m + 2 + 2 = 2 * m + 4 by omega] at h2
  have h3 := Nat.mul_le_mul_right (2 * m + 4) hn
  have e1 : (Str.ofString "{").length = 1 := rfl
  have e2 : (Str.ofString "}").length = 1 := rfl
  omega
end Fo
namespace Fo
open PySem PySem.Spec PyProof.Rows L2
/-! dict(enumerate(xs)) of a list of ints -/
def enumKV : Nat → List Int → List (Key × V)
  | _, [] => []
  | i, x :: r => (.inl (i : Int), .int x) :: enumKV (i + 1) r
theorem enumKV_len : ∀ (i : Nat) (ns : List Int), (enumKV i ns).length = ns.length
  | _, [] => rfl
  | i, x :: r => by rw [enumKV, List.length_cons, List.length_cons, enumKV_len (i + 1) r]
def enumD : Nat → List Int → List (PyData × PyData)
  | _, [] => []
  | i, x :: r => (.int (i : Int), .int x) :: enumD (i + 1) r
theorem enumD_len : ∀ (i : Nat) (ns : List Int), (enumD i ns).length = ns.length
  | _, [] => rfl
  | i, x :: r => by rw [enumD, List.length_cons, List.length_cons, enumD_len (i + 1) r]
theorem enum_kvs : ∀ (i : Nat) (ns : List Int), Kvs (enumKV i ns) (enumD i ns)
  | _, [] => .nil
  | i, x :: r => .cons (k := .inl (i : Int)) (enum_kvs (i + 1) r)
theorem enumD_mem : ∀ {i : Nat} {ns : List Int} {p : PyData × PyData}, p ∈ enumD i ns → ∃ (j : Nat) (x : Int), p = (.int (j : Int), .int x) ∧ j < i + ns.length ∧ x ∈ ns
  | _, [], _, h => absurd h List.not_mem_nil
  | i, x :: r, p, h => by
    rcases List.mem_cons.mp h with h | h
    · exact ⟨i, x, h, by rw [List.length_cons]; omega, List.mem_cons_self⟩
    · obtain ⟨j, y, e, hj, hy⟩ := enumD_mem h
      exact ⟨j, y, e, by rw [List.length_cons]; omega, List.mem_cons_of_mem _ hy⟩
theorem merge_enum : ∀ (ns : List Int) (acc : List (Key × V)) (i : Nat), (∀ p ∈ acc, ∃ j : Nat, p.1 = .inl (j : Int) ∧ j < i) → mergeK acc (enumKV i ns) = acc ++ enumKV i ns
  | [], acc, i, _ => by
    rw [enumKV, List.append_nil]
    rfl
  | x :: r, acc, i, h => by
    have e : valV acc (.inl (i : Int)) = none := by
      unfold valV
      rw [Option.map_eq_none_iff, List.find?_eq_none]
      intro p hp hd
      obtain ⟨j, ej, hj⟩ := h p hp
      have := of_decide_eq_true hd
      rw [ej] at this
      injection this with this
      omega
    show mergeK (putK acc (.inl (i : Int)) (.int x)) (enumKV (i + 1) r) = _
    rw [putK_new _ e, merge_enum r _ (i + 1) (fun p hp => ?_), List.append_assoc]
    · rfl
    · rcases List.mem_append.mp hp with hp | hp
      · obtain ⟨j, ej, hj⟩ := h p hp
        exact ⟨j, ej, by omega⟩
      · rw [List.mem_singleton.mp hp]
        exact ⟨i, rfl, by omega⟩
/-- what the dict holds, by the list's own values -/
def enumV : Nat → List Value → List (Key × Value)
  | _, [] => []
  | i, x :: r => (.inl (i : Int), x) :: enumV (i + 1) r
theorem enumV_len : ∀ (i : Nat) (us : List Value), (enumV i us).length = us.length
  | _, [] => rfl
  | i, x :: r => by rw [enumV, List.length_cons, List.length_cons, enumV_len (i + 1) r]
theorem enumV_at : ∀ {j i : Nat} {us : List Value} {v : Value}, us[j]? = some v → (enumV i us)[j]? = some (.inl ((i + j : Nat) : Int), v)
  | _, _, [], _, h => by simp at h
  | 0, i, x :: r, v, h => by
    cases (Option.some.inj h)
    rfl
  | j + 1, i, x :: r, v, h => by
    have := enumV_at (j := j) (i := i + 1) (us := r) h
    rw [show i + (j + 1) = i + 1 + j by omega]
    exact this
theorem enumV_rel : ∀ {i : Nat} {ns : List Int} {us : List Value}, Vals (ns.map V.int) us → KV (enumKV i ns) (enumV i us)
  | _, [], _, h => by cases h; exact .nil
  | i, x :: r, _, h => by
    cases h with
    | cons h1 h2 => exact .cons ⟨rfl, h1⟩ (enumV_rel h2)
section
variable {X : Cx}
def tDictEnum (K : PySem.W.Frag) (te : TE) : TE := fun σ H Q => te σ H fun x H1 => ∃ (a : Addr) (ns : List Int), x = .ref a ∧ SqL K H1 a (ns.map V.int) ∧ ∀ p, H1 p = none → Q (.ref p) (upd H1 p (.dK (enumKV 0 ns)))
theorem pe_dictEnum {e : Expr} {te : TE} {p q pos qos : Pos} (calm : X.calm = true) (gd : Gl X "dict") (md : X.mg "dict" = none) (ge : Gl X "enumerate") (me : X.mg "enumerate" = none) (he : PE X e te)
    (st : starEach [Expr.Call (.Name "enumerate" q) [e] [] qos] X.env = [(false, eval (Expr.Call (.Name "enumerate" q) [e] [] qos) X.env)] := by rfl) (su : starEach [e] X.env = [(false, eval e X.env)] := by rfl) :
    PE X (.Call (.Name "dict" p) [.Call (.Name "enumerate" q) [e] [] qos] [] pos) (tDictEnum X.K te) := by
  refine ⟨fun pins s σ H Q I h => ?_⟩
  refine wpAny_Call_Name_kw (ld_blt I gd md (u := .type "dict") (by decide +kernel) ?_ (by decide +kernel) (by decide +kernel))
  rw [st]
  refine PySem.callWith_type1 ?_
  refine wpAny_Call_Name_kw (ld_blt I ge me (u := .type "enumerate") (by decide +kernel) ?_ (by decide +kernel) (by decide +kernel))
  rw [su]
  refine PySem.callWith_type1 (thn (he.run pins s σ H _ I h) fun u s1 ⟨x, H1, I1, r1, a, ns, ex, sq, qk⟩ => ?_)
  subst ex
  obtain rfl : u = Value.ref a := r1
  obtain ⟨its, rv, pl, hz⟩ := I1.list sq
  have hlt := Heap.lt_size pl.isList.choose_spec.1
  refine call_enumerate_list pl.isList fun h' en it sz kp => ?_
  have I2 : Inv X pins σ H1 { s1 with heap := h' } := I1.kept (t' := s1.toks) kp
  have lis : h'.IsList a its.toArray := pl.isList.at fun o e => kp _ _ e
  have ln : its.length = ns.length := by rw [← rv.length, List.length_map]
  have hzn : ns.length ≤ sizeLine := by rw [List.length_map] at hz; exact hz
  refine PySem.call_dict_pairs (knd := mixKind X.prog X.w) (kvs := enumV 0 its) (PairArg.enumerate (s1.heap.objs.size + 1) s1.heap.objs.size a (Nat.succ_ne_self _) (Nat.ne_of_lt (Nat.lt_succ_of_lt hlt)) (Nat.ne_of_lt hlt) its.toArray) (I.ok.hd calm) ⟨⟨_, en⟩, it, lis⟩ ⟨by rw [enumV_len]; simp, fun i key v hr => ?_⟩ (by simp only [List.size_toArray]; omega) fun h2 tk hd2 kp2 => ?_
  · obtain ⟨⟨t, rfl⟩, hv⟩ := hr
    refine ⟨.inl (i : Int), ?_, ?_⟩
    · have := enumV_at (j := i) (i := 0) (us := its) (v := v) (by simpa using hv)
      rw [Nat.zero_add] at this
      exact this
    · show Value.isInt (i : Int) (.int (i : Int) t) = true
      simp [Value.isInt]
  · have em : KV (enumKV 0 ns) (merged [] (enumV 0 its)) := by
      have := KV.merge (enumV_rel (i := 0) rv) (.nil : KV (κ := Key) [] [])
      rw [merge_enum ns [] 0 (fun p hp => absurd hp List.not_mem_nil)] at this
      exact this
    have nn : H1 h'.objs.size = none := I2.hok.fresh (Nat.le_refl _)
    refine ⟨.ref h'.objs.size, upd H1 h'.objs.size (.dK (enumKV 0 ns)), I1.laid (t' := tk) (fun b o e => kp2 b o (fun z => ?_) (kp b o e)) (by rw [sz]; omega) (show ObjOk X.prog X.w _ _ _ (.dK (enumKV 0 ns)) from ⟨by rw [enumKV_len]; exact hzn, beq_eq_false_iff_ne.mpr (Nat.ne_of_gt I2.big), merged [] (enumV 0 its), em, hd2⟩), rfl, qk _ nn⟩
    have := Heap.lt_size e
    simp only [List.mem_cons, List.not_mem_nil, or_false] at z
    rcases z with z | z
    · rw [z] at this
      exact absurd this (Nat.not_lt.mpr (Nat.le_succ _))
    · rw [z] at this
      exact absurd this (Nat.lt_irrefl _)
end
end Fo
namespace Fo
open PySem PySem.Spec PyProof.Rows L2
/-! kinds of things -/
def tyD : PyData → String
  | .none => "NoneType"
  | .bool _ => "bool"
  | .int _ => "int"
  | .str _ => "str"
  | .list _ => "list"
  | .tuple _ => "tuple"
  | .dict _ => "dict"
theorem dq_ty {K : PySem.W.Frag} {H : Hp} {v : V} {d : PyData} (h : Dq H v d) : TyX K H v (.type (tyD d)) := by
  cases h with
  | non => exact .base .non
  | bl b => exact .base (.bl b)
  | int i => exact .base (.int i)
  | str x => exact .base (.str x)
  | lst e _ => exact .base (.lst e)
  | tup e _ => exact .base (.tup e)
  | dic e _ => exact .base (.dK e)
def isIntD : PyData → Bool
  | .int _ => true
  | .bool _ => true
  | _ => false
def isBoolD : PyData → Bool
  | .bool _ => true
  | _ => false
def isListD : PyData → Bool
  | .list _ => true
  | _ => false
def isStrD : PyData → Bool
  | .str _ => true
  | _ => false
theorem kit_intD {K : PySem.W.Frag} : ∀ d : PyData, PySem.W.kitOne K (.type (tyD d)) (.type "int") = some (isIntD d)
  | .none => show PySem.W.kitOne K (.type "NoneType") (.type "int") = some false from kit_ty (by decide +kernel)
  | .bool _ => show PySem.W.kitOne K (.type "bool") (.type "int") = some true from kit_ty (by decide +kernel)
  | .int _ => show PySem.W.kitOne K (.type "int") (.type "int") = some true from kit_ty (by decide +kernel)
  | .str _ => show PySem.W.kitOne K (.type "str") (.type "int") = some false from kit_ty (by decide +kernel)
  | .list _ => show PySem.W.kitOne K (.type "list") (.type "int") = some false from kit_ty (by decide +kernel)
  | .tuple _ => show PySem.W.kitOne K (.type "tuple") (.type "int") = some false from kit_ty (by decide +kernel)
  | .dict _ => show PySem.W.kitOne K (.type "dict") (.type "int") = some false from kit_ty (by decide +kernel)
theorem kit_boolD {K : PySem.W.Frag} : ∀ d : PyData, PySem.W.kitOne K (.type (tyD d)) (.type "bool") = some (isBoolD d)
  | .none => show PySem.W.kitOne K (.type "NoneType") (.type "bool") = some false from kit_ty (by decide +kernel)
  | .bool _ => show PySem.W.kitOne K (.type "bool") (.type "bool") = some true from kit_ty (by decide +kernel)
  | .int _ => show PySem.W.kitOne K (.type "int") (.type "bool") = some false from kit_ty (by decide +kernel)
  | .str _ => show PySem.W.kitOne K (.type "str") (.type "bool") = some false from kit_ty (by decide +kernel)
  | .list _ => show PySem.W.kitOne K (.type "list") (.type "bool") = some false from kit_ty (by decide +kernel)
  | .tuple _ => show PySem.W.kitOne K (.type "tuple") (.type "bool") = some false from kit_ty (by decide +kernel)
  | .dict _ => show PySem.W.kitOne K (.type "dict") (.type "bool") = some false from kit_ty (by decide +kernel)
theorem kit_listD {K : PySem.W.Frag} : ∀ d : PyData, PySem.W.kitOne K (.type (tyD d)) (.type "list") = some (isListD d)
  | .none => show PySem.W.kitOne K (.type "NoneType") (.type "list") = some false from kit_ty (by decide +kernel)
  | .bool _ => show PySem.W.kitOne K (.type "bool") (.type "list") = some false from kit_ty (by decide +kernel)
  | .int _ => show PySem.W.kitOne K (.type "int") (.type "list") = some false from kit_ty (by decide +kernel)
  | .str _ => show PySem.W.kitOne K (.type "str") (.type "list") = some false from kit_ty (by decide +kernel)
  | .list _ => show PySem.W.kitOne K (.type "list") (.type "list") = some true from kit_ty (by decide +kernel)
  | .tuple _ => show PySem.W.kitOne K (.type "tuple") (.type "list") = some false from kit_ty (by decide +kernel)
  | .dict _ => show PySem.W.kitOne K (.type "dict") (.type "list") = some false from kit_ty (by decide +kernel)
theorem kit_strD {K : PySem.W.Frag} : ∀ d : PyData, PySem.W.kitOne K (.type (tyD d)) (.type "str") = some (isStrD d)
  | .none => show PySem.W.kitOne K (.type "NoneType") (.type "str") = some false from kit_ty (by decide +kernel)
  | .bool _ => show PySem.W.kitOne K (.type "bool") (.type "str") = some false from kit_ty (by decide +kernel)
  | .int _ => show PySem.W.kitOne K (.type "int") (.type "str") = some false from kit_ty (by decide +kernel)
  | .str _ => show PySem.W.kitOne K (.type "str") (.type "str") = some true from kit_ty (by decide +kernel)
  | .list _ => show PySem.W.kitOne K (.type "list") (.type "str") = some false from kit_ty (by decide +kernel)
  | .tuple _ => show PySem.W.kitOne K (.type "tuple") (.type "str") = some false from kit_ty (by decide +kernel)
  | .dict _ => show PySem.W.kitOne K (.type "dict") (.type "str") = some false from kit_ty (by decide +kernel)
def wholeD : PyData → Bool
  | .int _ => true
  | _ => false
def GoodD (d : PyData) : Prop := ∃ ns : List Int, d = .list (ns.map PyData.int) ∧ IsOrd ns.length ns ∧ 1 ≤ ns.length ∧ ns.length ≤ 12
theorem all_ints : ∀ {ds : List PyData}, ds.all wholeD = true → ∃ ns : List Int, ds = ns.map PyData.int
  | [], _ => ⟨[], rfl⟩
  | d :: ds, h => by
    rw [List.all_cons, Bool.and_eq_true] at h
    obtain ⟨ns, e⟩ := all_ints h.2
    cases d with
    | int i => exact ⟨i :: ns, by rw [e]; rfl⟩
    | _ => cases h.1
theorem dq_intsV {H : Hp} : ∀ {ns : List Int} {vs : List V}, DqAll H vs (ns.map PyData.int) → vs = ns.map V.int
  | [], _, h => by cases h; rfl
  | n :: r, _, h => by
    rw [List.map_cons] at h
    cases h with
    | cons h1 h2 =>
      cases h1
      rw [dq_intsV h2]
      rfl
theorem intD_inj : ∀ {a b : List Int}, a.map PyData.int = b.map PyData.int → a = b
  | [], [], _ => rfl
  | [], _ :: _, h => by cases h
  | _ :: _, [], h => by cases h
  | x :: a, y :: b, h => by
    rw [List.map_cons, List.map_cons] at h
    injection h with h1 h2
    injection h1 with h1
    rw [h1, intD_inj h2]
theorem good_all {ds : List PyData} (h : GoodD (.list ds)) : ds.all wholeD = true := by
  obtain ⟨ns, e, _⟩ := h
  injection e with e
  rw [e, List.all_eq_true]
  intro x hx
  obtain ⟨i, _, rfl⟩ := List.mem_map.mp hx
  rfl
def spWholeD : Sp := fun vs H Q _ => ∃ (v : V) (d : PyData), vs = [v] ∧ Dq H v d ∧ Q (.bl (wholeD d)) H
def spIsOrdD : Sp := fun vs H Q _ => ∃ (v : V) (d : PyData), vs = [v] ∧ Dq H v d ∧ ∀ (b : Bool) (H' : Hp), (b = true ↔ GoodD d) → Same H H' → Q (.bl b) H'
def spGoodL : Sp := fun vs H Q _ => ∃ (v : V) (d : PyData), vs = [v] ∧ Dq H v d ∧ ∀ (b : Bool) (H' : Hp), (b = true ↔ GoodD d) → Same H H' → Q (.bl b) H'
theorem not_good {d : PyData} (h : isListD d = false) : (false = true ↔ GoodD d) := by
  refine ⟨fun z => absurd z Bool.false_ne_true, fun z => ?_⟩
  obtain ⟨ns, e, _⟩ := z
  rw [e] at h
  cases h
theorem not_good_len {ds : List PyData} (h : ds.length < 1 ∨ 12 < ds.length) : (false = true ↔ GoodD (.list ds)) := by
  refine ⟨fun z => absurd z Bool.false_ne_true, fun z => ?_⟩
  obtain ⟨ns, e, _, h1, h2⟩ := z
  injection e with e
  rw [e, List.length_map] at h
  omega
theorem not_good_all {ds : List PyData} (h : ds.all wholeD = false) : (false = true ↔ GoodD (.list ds)) := ⟨fun z => absurd z Bool.false_ne_true, fun z => by rw [good_all z] at h; cases h⟩
theorem all_map_id (ds : List PyData) : (ds.map wholeD).all id = ds.all wholeD := by
  rw [List.all_map]
  rfl
theorem perm_sub : ∀ {a b : List Int}, a.Nodup → (∀ x ∈ a, x ∈ b) → b.length ≤ a.length → a.Perm b
  | [], b, _, _, h => by
    have : b = [] := List.eq_nil_of_length_eq_zero (Nat.le_zero.mp h)
    rw [this]
  | x :: a, b, nd, sub, h => by
    have hx := sub x List.mem_cons_self
    have nx := (List.nodup_cons.mp nd).1
    have h1 := List.length_erase_of_mem hx
    rw [List.length_cons] at h
    refine List.Perm.trans (List.Perm.cons x (perm_sub (b := b.erase x) (List.nodup_cons.mp nd).2 (fun y hy => ?_) (by omega))) (List.perm_cons_erase hx).symm
    exact (List.mem_erase_of_ne (fun z => nx (by rw [← z]; exact hy))).mpr (sub y (List.mem_cons_of_mem _ hy))
theorem ord_of {ns : List Int} (nd : ns.Nodup) (h : ∀ x ∈ ns, 0 ≤ x ∧ x < (ns.length : Int)) : IsOrd ns.length ns := by
  have sub : ∀ x ∈ ns, x ∈ rg ns.length := fun x hx => rg_mem.mpr (h x hx)
  exact perm_sub nd sub (by rw [rg_len]; exact Nat.le_refl _)
theorem inV_ints (t : Int) : ∀ row : List Int, inV (.int t) (row.map V.int) = decide (t ∈ row)
  | [] => rfl
  | x :: r => by
    have ih := inV_ints t r
    unfold inV at ih ⊢
    have eqI : eqV (.int x) (.int t) = decide (x = t) := by
      unfold eqV
      by_cases e : x = t
      · subst e
        simp
      · simp [e]
    rw [List.map_cons, List.any_cons, ih, eqI]
    by_cases e : x = t
    · subst e
      simp
    · have e1 : ¬ t = x := fun z => e z.symm
      simp [e, e1]
theorem flatI (row : List Int) : (row.map V.int).all flatV = true := by
  rw [List.all_eq_true]
  intro x hx
  obtain ⟨i, _, rfl⟩ := List.mem_map.mp hx
  rfl
section
variable {P : Program} {w : World} {K : PySem.W.Frag} {mg : Str → Option Value} {base : Heap}
theorem scWholeD : FnScope ["thing"] ["thing"] (defScope s_is_whole) := ⟨rfl, rfl, rfl, by decide +kernel, rfl, by decide +kernel, by decide +kernel⟩
theorem ok_wholeD {f : Addr} {fd : FuncData} {k : Nat} (T : Df K mg "is_whole" s_is_whole ["thing"] f fd) (B : Bi mg) : FnOk P w K mg base CX0 (k + 1) f fd ["thing"] spWholeD := by
  refine T.F.ok scWholeD (fun vs H Q E h => ?_) (fun cdv A outer s H vs Q E hr h => ?_)
  · obtain ⟨v, d, rfl, _⟩ := h
    rfl
  · obtain ⟨v, d, rfl, hd, q⟩ := h
    refine ⟨_, 
      (pss_one (ps_ret (pe_and (pe_callB call_isi (by rfl) B.isinstance (by decide +kernel) (pa_cons (pv 0) (pa_cons (pe_bltn (v := .ty "int") (by rfl) B.int (by decide +kernel) rfl) pa_nil))) (pe_one (pe_not (pe_callB call_isi (by rfl) B.isinstance (by decide +kernel) (pa_cons (pv 0) (pa_cons (pe_bltn (v := .ty "bool") (by rfl) B.bool (by decide +kernel) rfl) pa_nil)))))))), ?_⟩
    refine ⟨_, rfl, _, _, _, _, isIntD d, rfl, .ty _, dq_ty hd, kit_intD d, _, rfl, ?_⟩
    cases d with
    | int i => exact iteT ⟨_, rfl, _, _, _, _, false, rfl, .ty _, dq_ty hd, kit_boolD _, false, rfl, q⟩
    | bool b => exact iteT ⟨_, rfl, _, _, _, _, true, rfl, .ty _, dq_ty hd, kit_boolD _, true, rfl, q⟩
    | _ => exact iteF q
theorem scIsOrdD : FnScope ["thing", "number"] ["thing"] (defScope s_is_order) := ⟨rfl, rfl, rfl, by decide +kernel, rfl, by decide +kernel, by decide +kernel⟩
set_option maxHeartbeats 2000000 in
theorem ok_isOrdD {f fW : Addr} {fd fdW : FuncData} {k : Nat} {t : Tok} (T : Df K mg "is_order" s_is_order ["thing"] f fd) (T_is_whole : Df K mg "is_whole" s_is_whole ["thing"] fW fdW) (B : Bi mg) (mM : mg "MOST_THINGS" = some (.int 12 t)) : FnOk P w K mg base CX0 (k + 2) f fd ["thing"] spIsOrdD := by
  have G_is_whole : FnOk P w K mg base CX0 (k + 1) fW fdW ["thing"] spWholeD := ok_wholeD T_is_whole B
  refine T.F.ok scIsOrdD (fun vs H Q E h => ?_) (fun cdv A outer s H vs Q E hr h => ?_)
  · obtain ⟨v, d, rfl, _⟩ := h
    rfl
  · obtain ⟨v, d, rfl, hd, q⟩ := h
    refine ⟨_, 
      (pss_cons (ps_if (PW.pt (pw_or (pt_not (pt_val (pe_callB call_isi (by rfl) B.isinstance (by decide +kernel) (pa_cons (pv 0) (pa_cons (pe_bltn (v := .ty "list") (by rfl) B.list (by decide +kernel) rfl) pa_nil))))) (pw_or (pt_cmpR op_lt (pe_callB call_len_seq (by rfl) B.len PySem.boot_len (pa_cons (pv 0) pa_nil)) pe_int (nomark _)) (pw_or1 (pt_cmpR op_gt (pe_callB call_len_seq (by rfl) B.len PySem.boot_len (pa_cons (pv 0) pa_nil)) (pe_glob (v := .int 12) (by rfl) mM ⟨_, rfl⟩) (nomark _))))))
        (pss_one (ps_ret pe_bl))
        pss_nil)
      (pss_cons (ps_if (pt_not (pt_val (pe_callB (cr_all rfl) (by rfl) B.all (by decide +kernel) (pa_cons (pe_lc (own := [("number", 1)]) (g := (gName 1)) (tt := tYes) (te := (tCall spWholeD [] E0 (tCons (tVar 1) tNil))) rfl scIsOrdD.nd (pi_list (pv 0)) (blkOk_by (N := ["thing", "number"]) (sc := defScope s_is_order) (by decide +kernel)) (fun _ _ _ _ _ => (pg_name (i := 1) scIsOrdD.nd rfl (.inl rfl))) (fun _ _ _ _ _ => pts_nil) (fun _ _ _ _ _ => (pe_call G_is_whole hr (by rfl) T_is_whole.g T_is_whole.F.kp T_is_whole.b .nil pass0 (pa_cons (pv 1) pa_nil)))) pa_nil))))
        (pss_one (ps_ret pe_bl))
        pss_nil)
      (pss_one (ps_ret (pe_cmpR (op_eqD hr.units) (pe_callB cr_sorted (by rfl) B.sorted (by decide +kernel) (pa_cons (pv 0) pa_nil)) (pe_listRg rfl (by rfl) B.list (prg_1 (by rfl) B.range (pe_callB call_len_seq (by rfl) B.len PySem.boot_len (pa_cons (pv 0) pa_nil)))) (nomark _)))))), ?_⟩
    refine ⟨_, rfl, _, _, _, _, isListD d, rfl, .ty _, dq_ty hd, kit_listD d, _, rfl, ?_⟩
    cases hl : isListD d with
    | false => exact iteT (iteT (q _ _ (not_good hl) (Same.refl _)))
    | true =>
      cases hd with
      | @lst a xs ds e al =>
        have hlen := al.len
        refine iteF ?_
        refine ⟨_, rfl, a, _, rfl, .inl (SqL.of e), _, 1, rfl, rfl, _, rfl, ite2 (fun c => ?_) (fun c => ?_)⟩
        · exact iteT (q _ _ (not_good_len (.inl (by have := of_decide_eq_true c; omega))) (Same.refl _))
        have c1 : 1 ≤ ds.length := by
          by_cases z : ds.length < 1
          · exact absurd (decide_eq_true (show ((xs.length : Nat) : Int) < 1 by omega)) c
          · omega
        refine ⟨_, rfl, a, _, rfl, .inl (SqL.of e), _, 12, rfl, rfl, _, rfl, ite2 (fun c => ?_) (fun c => ?_)⟩
        · exact q _ _ (not_good_len (.inr (by have := of_decide_eq_true c; omega))) (Same.refl _)
        have c2 : ds.length ≤ 12 := by
          by_cases z : 12 < ds.length
          · exact absurd (decide_eq_true (show (12 : Int) < ((xs.length : Nat) : Int) by omega)) c
          · omega
        refine ⟨_, rfl, a, rfl, ⟨_, SqL.of e⟩, fun p np => ?_⟩
        refine lc_list (K := K) (a := a) (xs := xs) (fun i H3 => H3 p = some (.lst (((ds.take i).map wholeD).map V.bl)) ∧ Same H H3) ⟨upd_same, same_new np⟩ (fun i H3 _ hP => SqL.of (hP.2 _ _ e)) (fun i x H3 hx hP => ?_) (fun H3 hP => ?_)
        · obtain ⟨hp3, sm⟩ := hP
          obtain ⟨d, ed, hd⟩ := al.get hx
          have hi := (List.getElem?_eq_some_iff.mp ed).1
          refine ⟨rfl, _, rfl, x, d, rfl, hd.same sm, _, hp3, line_lt (by rw [List.length_map, List.length_map, List.length_take]; omega), ?_, fun b o eb => ?_⟩
          · rw [upd_same, List.take_add_one, ed, List.map_append, List.map_append]
            rfl
          · rw [upd_ne (ne_of_none eb np)]
            exact sm _ _ eb
        · obtain ⟨hp3, sm⟩ := hP
          rw [hlen, List.take_length] at hp3
          have e3 := sm _ _ e
          refine ⟨p, _, rfl, SqL.of hp3, _, rfl, ?_⟩
          rw [all_map_id]
          cases ha : ds.all wholeD with
          | false => exact iteT (q _ _ (not_good_all ha) sm)
          | true =>
            obtain ⟨ns, ens⟩ := all_ints ha
            subst ens
            have exs := dq_intsV al
            subst exs
            rw [List.length_map] at c1 c2 hlen
            refine iteF ?_
            refine ⟨_, rfl, a, ns, rfl, SqL.of e3, by omega, fun ns' s1 hperm hsrt ns1 => ?_⟩
            have e4 := same_new (o := .lst (ns'.map V.int)) ns1 _ _ e3
            refine ⟨_, rfl, a, _, rfl, .inl (SqL.of e4), _, rfl, RgOk.of_le (by omega) (by rw [List.length_map]; omega) (by omega) (by omega), fun s2 ns2 => ?_⟩
            rw [List.length_map]
            have h1 : (upd (upd H3 s1 (.lst (ns'.map V.int))) s2 (.lst (rgV 0 (ns.length : Int)))) s1 = some (.lst (ns'.map V.int)) := same_new ns2 _ _ upd_same
            have h2 : (upd (upd H3 s1 (.lst (ns'.map V.int))) s2 (.lst (rgV 0 (ns.length : Int)))) s2 = some (.lst ((rg ns.length).map V.int)) := by rw [upd_same, rg_V]
            refine ⟨_, _, dp_list h1, dp_list h2, shaped_list _, shaped_list _, ?_⟩
            rw [show PyData.eqv (.list (ns'.map PyData.int)) (.list ((rg ns.length).map PyData.int)) = decide (ns' = rg ns.length) from eqv_ints _ _]
            refine q _ _ ⟨fun z => ?_, fun z => ?_⟩ ((sm.trans (same_new ns1)).trans (same_new ns2))
            · have z := of_decide_eq_true z
              rw [z] at hperm
              exact ⟨ns, rfl, hperm.symm, c1, c2⟩
            · obtain ⟨ms, em, ho, _⟩ := z
              injection em with em
              have em := intD_inj em
              subst em
              exact decide_eq_true (sorted_eq (hperm.trans ho) hsrt (rg_sorted _))
      | _ => cases hl
end
end Fo
namespace Fo
open PySem PySem.Spec PyProof.Rows L2
/-! ### lists of lists -/
def LL (H : Hp) : List Addr → List (List Int) → Prop
  | [], [] => True
  | a :: as, r :: rs => H a = some (.lst (r.map V.int)) ∧ LL H as rs
  | _, _ => False
theorem LL.len {H : Hp} : ∀ {as : List Addr} {rs : List (List Int)}, LL H as rs → as.length = rs.length
  | [], [], _ => rfl
  | [], _ :: _, h => h.elim
  | _ :: _, [], h => h.elim
  | a :: as, r :: rs, h => by rw [List.length_cons, List.length_cons, LL.len h.2]
theorem LL.keep {H H' : Hp} : ∀ {as : List Addr} {rs : List (List Int)}, LL H as rs → (∀ a ∈ as, ∀ o, H a = some o → H' a = some o) → LL H' as rs
  | [], [], _, _ => trivial
  | [], _ :: _, h, _ => h.elim
  | _ :: _, [], h, _ => h.elim
  | a :: as, r :: rs, h, k => ⟨k a List.mem_cons_self _ h.1, LL.keep h.2 fun b hb => k b (List.mem_cons_of_mem _ hb)⟩
theorem LL.same {H H' : Hp} {as : List Addr} {rs : List (List Int)} (h : LL H as rs) (s : Same H H') : LL H' as rs := h.keep fun a _ o e => s a o e
theorem LL.get {H : Hp} : ∀ {as : List Addr} {rs : List (List Int)} {i : Nat} {a : Addr}, LL H as rs → as[i]? = some a → ∃ r, rs[i]? = some r ∧ H a = some (.lst (r.map V.int))
  | [], [], _, _, _, e => by simp at e
  | [], _ :: _, _, _, h, _ => h.elim
  | _ :: _, [], _, _, h, _ => h.elim
  | a :: as, r :: rs, 0, b, h, e => by
    have e2 : a = b := Option.some.inj e
    subst e2
    exact ⟨r, rfl, h.1⟩
  | a :: as, r :: rs, i + 1, b, h, e => LL.get (i := i) h.2 e
theorem LL.tracked {H : Hp} {as : List Addr} {rs : List (List Int)} (h : LL H as rs) {a : Addr} (ha : a ∈ as) : ∃ o, H a = some o := by
  obtain ⟨i, hi⟩ := List.mem_iff_getElem?.mp ha
  obtain ⟨r, _, e⟩ := h.get hi
  exact ⟨_, e⟩
theorem LL.snoc {H : Hp} : ∀ {as : List Addr} {rs : List (List Int)} {a : Addr} {r : List Int}, LL H as rs → H a = some (.lst (r.map V.int)) → LL H (as ++ [a]) (rs ++ [r])
  | [], [], _, _, _, e => ⟨e, trivial⟩
  | [], _ :: _, _, _, h, _ => h.elim
  | _ :: _, [], _, _, h, _ => h.elim
  | b :: as, s :: rs, _, _, h, e => ⟨h.1, LL.snoc h.2 e⟩
theorem LL.drop {H : Hp} : ∀ {as : List Addr} {rs : List (List Int)} (k : Nat), LL H as rs → LL H (as.drop k) (rs.drop k)
  | as, rs, 0, h => h
  | [], [], k + 1, _ => trivial
  | [], _ :: _, _ + 1, h => h.elim
  | _ :: _, [], _ + 1, h => h.elim
  | _ :: as, _ :: rs, k + 1, h => LL.drop k h.2
theorem dp_LL {K : PySem.W.Frag} {H : Hp} : ∀ {as : List Addr} {rs : List (List Int)}, LL H as rs → DpAll K H (as.map V.ref) (rs.map dL)
  | [], [], _ => .nil
  | [], _ :: _, h => h.elim
  | _ :: _, [], h => h.elim
  | _ :: _, _ :: _, h => .cons (dp_list h.1) (dp_LL h.2)
theorem dp_lists {K : PySem.W.Frag} {H : Hp} {l : Addr} {as : List Addr} {rs : List (List Int)} (hl : H l = some (.lst (as.map V.ref))) (h : LL H as rs) : Dp K H (.ref l) (dLL rs) := .lst (SqL.of hl) (dp_LL h)
theorem ref_at {as : List Addr} {i : Nat} {a : Addr} (h : as[i]? = some a) : (as.map V.ref)[i]? = some (V.ref a) := by
  rw [List.getElem?_map, h]
  rfl
theorem ref_at_inv {as : List Addr} {i : Nat} {v : V} (h : (as.map V.ref)[i]? = some v) : ∃ a, as[i]? = some a ∧ v = V.ref a := by
  rw [List.getElem?_map] at h
  cases e : as[i]? with
  | none => rw [e] at h; cases h
  | some x => rw [e] at h; exact ⟨x, rfl, (Option.some.inj h).symm⟩
theorem cutV_tail (xs : List V) (k : Nat) : cutV xs (some (k : Int)) none = xs.drop k := by
  unfold cutV
  rw [HT.sIx_none, HT.sIx_nat]
  by_cases h : k ≤ xs.length
  · rw [Nat.min_eq_left h, List.take_of_length_le (by rw [List.length_drop]; exact Nat.le_refl _)]
  · rw [Nat.min_eq_right (by omega), List.drop_of_length_le (Nat.le_refl _), List.drop_of_length_le (by omega), List.take_nil]
end Fo
namespace Fo
open PySem PySem.Spec PyProof.Rows L2
/-- a loop over enumerate of a list that stands still -/
theorem for_enumL {K : PySem.W.Frag} {a : Addr} {xs : List V} {g : TG} {tb : TS} {D : Ends} {σ : L2.St} {H : Hp} (Pv : Nat → L2.St → Hp → Prop) (h0 : Pv 0 σ H) (hq : ∀ i σ H, Pv i σ H → SqL K H a xs)
    (hs : ∀ (i : Nat) (x : V) (T : Addr) (σ : L2.St) (H : Hp), xs[i]? = some x → Pv i σ H → H T = none → g (.ref T) σ (upd H T (.tup [.int (i : Nat), x])) fun σ2 H2 => tb { D with nx := Pv (i + 1), ct := Pv (i + 1), bk := D.nx } σ2 H2) (hd : ∀ σ H, Pv xs.length σ H → D.nx σ H) :
    ∃ W : Nat → Nat → L2.St → Hp → Prop, (∃ m, W 0 m σ H) ∧ ∀ i m σ H, W i m σ H →
      ((Ite K a).stop i H ∧ D.nx σ H) ∨ ((Ite K a).go i H ∧ ∃ N : L2.St → Hp → Prop, (∀ σ' H', N σ' H' → ∃ m', m' < m ∧ W (i + 1) m' σ' H') ∧ ∀ v H', (Ite K a).yld i H v H' → g v σ H' fun σ2 H2 => tb { D with nx := N, ct := N, bk := D.nx } σ2 H2) := by
  refine ⟨fun i m σ H => m = xs.length - i ∧ i ≤ xs.length ∧ Pv i σ H, ⟨xs.length, rfl, Nat.zero_le _, h0⟩, ?_⟩
  rintro i m σ H ⟨rfl, hi, p⟩
  have qx := hq i σ H p
  by_cases hlt : i < xs.length
  · have hx : xs[i]? = some xs[i] := List.getElem?_eq_getElem hlt
    refine .inr ⟨⟨xs, _, qx, hx⟩, Pv (i + 1), fun σ' H' p' => ⟨xs.length - (i + 1), by omega, rfl, hlt, p'⟩, fun v H' y => ?_⟩
    obtain ⟨T, x', rfl, hT, rfl, f1⟩ := y
    exact hs i x' T σ H (f1 xs qx) p hT
  · have e : i = xs.length := by omega
    subst e
    exact .inl ⟨⟨xs, qx, Nat.le_refl _⟩, hd σ H p⟩
/-- a comprehension over enumerate of a list that stands still -/
theorem lc_enumL {K : PySem.W.Frag} {a : Addr} {xs : List V} {g : TG} {tt : TT} {te : TE} {vs : List Nat} {σ : L2.St} {H1 : Hp} {D : Addr} {Qd : Hp → Prop} (Pv : Nat → Hp → Prop) (h0 : Pv 0 (upd H1 D (.lst []))) (hl : ∀ i H, i ≤ xs.length → Pv i H → SqL K H a xs)
    (hs : ∀ (i : Nat) (x : V) (T : Addr) (H : Hp), xs[i]? = some x → Pv i H → H T = none → g (.ref T) (wipe σ vs) (upd H T (.tup [.int (i : Nat), x])) fun σ2 H2 => wipe σ2 vs = wipe σ vs ∧ tt σ2 H2 fun b H3 =>
      if b = true then te σ2 H3 fun y H4 => ∃ acc, H4 D = some (.lst acc) ∧ acc.length < sizeLine ∧ Pv (i + 1) (upd H4 D (.lst (acc ++ [y]))) else Pv (i + 1) H3) (hd : ∀ H, Pv xs.length H → Qd H) :
    ∃ W : Nat → Nat → Hp → Prop, (∃ m, W 0 m (upd H1 D (.lst []))) ∧ ∀ i m H, W i m H →
      ((Ite K a).stop i H ∧ Qd H) ∨ ((Ite K a).go i H ∧ ∃ Nx : Hp → Prop, (∀ H', Nx H' → ∃ m', m' < m ∧ W (i + 1) m' H') ∧ ∀ x H', (Ite K a).yld i H x H' → g x (wipe σ vs) H' fun σ2 H2 => wipe σ2 vs = wipe σ vs ∧ tt σ2 H2 fun b H3 =>
        if b = true then te σ2 H3 fun y H4 => ∃ acc, H4 D = some (.lst acc) ∧ acc.length < sizeLine ∧ Nx (upd H4 D (.lst (acc ++ [y]))) else Nx H3) := by
  refine ⟨fun i m H => m = xs.length - i ∧ i ≤ xs.length ∧ Pv i H, ⟨xs.length, by simp, Nat.zero_le _, h0⟩, ?_⟩
  rintro i m H ⟨rfl, hi, p⟩
  have q := hl i H hi p
  by_cases hlt : i < xs.length
  · refine .inr ⟨⟨xs, xs[i], q, by simp [hlt]⟩, Pv (i + 1), fun H' p' => ⟨xs.length - (i + 1), by omega, rfl, hlt, p'⟩, fun x H' y => ?_⟩
    obtain ⟨T, x', rfl, hT, rfl, f1⟩ := y
    exact hs i x' T H (f1 xs q) p hT
  · have e : i = xs.length := by omega
    subst e
    exact .inl ⟨⟨xs, q, Nat.le_refl _⟩, hd H p⟩
/-! ### the back of an order -/
def IsBack (ns ps : List Int) : Prop := ps.length = ns.length ∧ ∀ (j : Nat) (x : Int), ns[j]? = some x → ps[x.toNat]? = some (j : Int)
theorem ord_at {n : Nat} {ns : List Int} (o : IsOrd n ns) {t : Nat} (h : t < n) : ∃ j : Nat, j < n ∧ ns[j]? = some (t : Int) := by
  have m : (t : Int) ∈ ns := (List.Perm.mem_iff o).mpr (rg_mem.mpr ⟨by omega, by omega⟩)
  obtain ⟨j, hj⟩ := List.mem_iff_getElem?.mp m
  exact ⟨j, by have := (List.getElem?_eq_some_iff.mp hj).1; rw [o.len] at this; exact this, hj⟩
theorem ord_ix {n : Nat} {ns : List Int} (o : IsOrd n ns) {j : Nat} (h : j < n) : ∃ x : Int, ns[j]? = some x ∧ 0 ≤ x ∧ x < n := by
  have hj : j < ns.length := by rw [o.len]; exact h
  exact ⟨ns[j], List.getElem?_eq_getElem hj, o.mem (List.getElem_mem hj)⟩
theorem back_eq {n : Nat} {ns a b : List Int} (o : IsOrd n ns) (ha : IsBack ns a) (hb : IsBack ns b) : a = b := by
  apply List.ext_getElem?
  intro t
  by_cases h : t < n
  · obtain ⟨j, _, hj⟩ := ord_at o h
    have h1 := ha.2 j _ hj
    have h2 := hb.2 j _ hj
    rw [Int.toNat_natCast] at h1 h2
    rw [h1, h2]
  · rw [List.getElem?_eq_none (by rw [ha.1, o.len]; omega), List.getElem?_eq_none (by rw [hb.1, o.len]; omega)]
def behindL (ns ms : List Int) : List Int := ms.map fun p => ns.getD p.toNat 0
theorem behind_at {ns ms : List Int} {i : Nat} {p x : Int} (hp : ms[i]? = some p) (hx : ns[p.toNat]? = some x) : (behindL ns ms)[i]? = some x := by
  unfold behindL
  rw [List.getElem?_map, hp]
  show some (ns.getD p.toNat 0) = some x
  rw [List.getD_eq_getElem?_getD, hx]
  rfl
theorem behind_len (ns ms : List Int) : (behindL ns ms).length = ms.length := by
  unfold behindL
  rw [List.length_map]
theorem take_more {l : List Int} {i : Nat} {x : Int} (h : l[i]? = some x) : l.take (i + 1) = l.take i ++ [x] := by
  rw [List.take_add_one, h]
  rfl
theorem flat_ints : ∀ ns : List Int, (ns.map V.int).all flatV = true
  | [] => rfl
  | n :: r => by
    show (flatV (V.int n) && (r.map V.int).all flatV) = true
    rw [flat_ints r]
    rfl
theorem eqV_int (i j : Int) : eqV (.int i) (.int j) = (i == j) := rfl
end Fo
namespace Fo
open PySem PySem.Spec PyProof.Rows L2
/-! ### sorted(rows), rows a list of lists of whole numbers -/
def rowsR (ps : List (Addr × List Int)) : List (Addr × List Int) := ps.mergeSort fun p q => decide (p.2 ≤ q.2)
def rSortedR (K : PySem.W.Frag) : List V → Hp → VK → Prop := fun vs H Q => ∃ (a : Addr) (ps : List (Addr × List Int)), vs = [V.ref a] ∧ SqL K H a (ps.map fun p => V.ref p.1) ∧ (∀ p ∈ ps, Dp K H (.ref p.1) (dL p.2)) ∧
  ∀ q, H q = none → Q (.ref q) (upd H q (.lst ((rowsR ps).map fun p => V.ref p.1)))
theorem each_refs : ∀ {ps : List (Addr × List Int)} {us : List Value}, Vals (ps.map fun p => V.ref p.1) us → PySem.W.EachIs (fun v (p : Addr × List Int) => v = Value.ref p.1) us ps
  | [], _, .nil => .nil
  | p :: ps, _, .cons r t => .cons r (each_refs t)
theorem refs_each : ∀ {ps : List (Addr × List Int)} {us : List Value}, PySem.W.EachIs (fun v (p : Addr × List Int) => v = Value.ref p.1) us ps → Vals (ps.map fun p => V.ref p.1) us
  | _, _, .nil => .nil
  | _, _, .cons r t => .cons r (refs_each t)
theorem each_all {R S : Value → (Addr × List Int) → Prop} : ∀ {us : List Value} {ps : List (Addr × List Int)}, PySem.W.EachIs R us ps → (∀ v p, p ∈ ps → R v p → S v p) → PySem.W.EachIs S us ps
  | _, _, .nil, _ => .nil
  | _, _, .cons r t, h => .cons (h _ _ List.mem_cons_self r) (each_all t fun v p hp => h v p (List.mem_cons_of_mem _ hp))
theorem cr_sortedR {X : Cx} (hu : X.A.units + 64 < cLine) : CallR X (.builtin "sorted") (rSortedR X.K) := by
  intro pins s σ H vs us Q J rel hz
  obtain ⟨a, ps, ev, sq, hd, q⟩ := hz
  subst ev
  obtain ⟨its, rv, hl, hlen⟩ := J.list sq
  rw [Vals.ref1 rel]
  have e := each_refs rv
  have el := rv.length
  rw [List.length_map] at el hlen
  refine PySem.W.sorted_data (enc := fun p : Addr × List Int => .list (p.2.map .int)) hl.isList e (each_all e fun v p hp hv => ?_) (PySem.W.AllAlike.of fun b b' => ?_) (PySem.W.Sortable.others fun b => ⟨(fun z => by cases z), (fun xs z => by cases z)⟩) hlen (fun b _ => ?_) fun out ol eo => ?_
  · subst hv
    exact Dp.reads J _ _ _ (hd p hp) rfl
  · show PySem.W.alike (.list (b.2.map .int)) (.list (b'.2.map .int)) = true
    simp only [PySem.W.alike]
    exact PySem.W.alike_ints _ _
  · show X.A.units + 2 + (dL b.2).depth < cLine
    rw [depth_list]
    omega
  · rw [PySem.W.dataLe_rows (fun p : Addr × List Int => p.2)] at eo
    obtain ⟨ep, he⟩ := PyProof.Rows.sortedAll_at s.heap its out.toArray
    have hl2 : ((rowsR ps).map fun p => V.ref p.1).length ≤ sizeLine := by
      unfold rowsR
      rw [List.length_map, List.length_mergeSort]
      exact hlen
    exact ⟨.ref _, upd H (s.heap.objs.size + 1) (.lst ((rowsR ps).map fun p => V.ref p.1)), J.laid (t' := s.toks) (fun _ _ => PyProof.Rows.sortedAll_old) (Nat.le_succ _) ⟨hl2, out, ep, refs_each eo, he⟩, rfl, q _ (J.hok.fresh (Nat.le_succ _))⟩
theorem rows_le_total (a b : Addr × List Int) : (decide (a.2 ≤ b.2) || decide (b.2 ≤ a.2)) = true := by
  rcases List.le_total a.2 b.2 with h | h
  · rw [decide_eq_true h]; rfl
  · rw [decide_eq_true h, Bool.or_true]
theorem rowsR_perm (ps : List (Addr × List Int)) : (rowsR ps).Perm ps := List.mergeSort_perm _ _
theorem rowsR_sorted (ps : List (Addr × List Int)) : ((rowsR ps).map (·.2)).Pairwise (· ≤ ·) := by
  have h := List.pairwise_mergeSort (le := fun p q : Addr × List Int => decide (p.2 ≤ q.2)) (fun a b c h1 h2 => decide_eq_true (List.le_trans (of_decide_eq_true h1) (of_decide_eq_true h2))) rows_le_total ps
  exact List.pairwise_map.mpr (h.imp fun h => of_decide_eq_true h)
end Fo
namespace Fo
open PySem PySem.Spec PyProof.Rows L2
theorem units65 {k : Nat} {A : Around} (r : Room k A) : A.units + 65 < cLine := by have := r.un; omega
theorem any_row (rs : List (List Int)) (o : List Int) : ((rs.map dL).any fun z => PyData.eqv z (dL o)) = decide (o ∈ rs) := by
  induction rs with
  | nil => rfl
  | cons a rs ih =>
    rw [List.map_cons, List.any_cons, ih, eqv_ints]
    by_cases c : a = o
    · subst c; simp
    · have c2 : ¬ o = a := fun e => c e.symm
      simp [c, c2]
end Fo
namespace Fo
open PySem PySem.Spec PyProof.Rows L2
/-! defs that refuse -/
section
variable {P : Program} {w : World} {K : PySem.W.Frag} {mg : Str → Option Value} {base : Heap} {k : Nat} {f : Addr} {fd : FuncData} {ps : List Str}
theorem fn_up {sp : Sp} (F : FnOk P w K mg base CX0 k f fd ps sp) : FnOk P w K mg base (L2.CX P w) k f fd ps sp :=
  ⟨F.len, fun A outer s H args us vs Q E hr e0 hb hv hs => codeAny_mono (F.run A outer s H args us vs Q E hr e0 hb hv hs) fun r s' h => match r, h with
    | .error _, h => h.elim
    | .ok (.ret _), h => h
    | .ok .next, h => h
    | .ok .brk, h => h
    | .ok .cont, h => h⟩
theorem fn_or {CX : CXT} {sp sp' : Sp} (F : FnOk P w K mg base CX k f fd ps sp) (G : FnOk P w K mg base CX k f fd ps sp') : FnOk P w K mg base CX k f fd ps (fun vs H Q E => sp vs H Q E ∨ sp' vs H Q E) :=
  ⟨fun vs H Q E h => h.elim (F.len vs H Q E) (G.len vs H Q E), fun A outer s H args us vs Q E hr e0 hb hv hs => hs.elim (F.run A outer s H args us vs Q E hr e0 hb hv) (G.run A outer s H args us vs Q E hr e0 hb hv)⟩
def spNever : Sp := fun _ _ _ _ => False
theorem fn_never {CX : CXT} : FnOk P w K mg base CX k f fd ps spNever := ⟨fun _ _ _ _ h => h.elim, fun _ _ _ _ _ _ _ _ _ _ _ _ _ h => h.elim⟩
end
/-- an error class of the program, over ValueError -/
structure ExK (K : PySem.W.Frag) (mg : Str → Option Value) (x : Str) (C : Addr) : Prop where
  g : mg x = some (.ref C)
  q : PySem.W.excIn K C [.type "ValueError", .type "Exception", .type "BaseException", .type "object"] "ValueError.__new__" = true
  kp : PySem.W.keepIn K (.ref C) = true
  sb : PySem.W.subIn K (.ref C) (.type "BaseException") = some true
  ty : PySem.W.typeIn K (.ref C) = some (.type "type")
  ec : ExcC K C
section
variable {X : Cx}
theorem ps_raiseK {W : WX} {x m : Str} {C : Addr} {j : Nat} {p p2 pos pos' : Pos} (hc : X.calm = true) (tk : Takes X W) (c : ExK X.K X.mg x C) (hg : Gl X x) (hdb : (x == ("__debug__" : Str)) = false := by decide) :
    PS X (.Raise (some (.Call (.Name x p) [.Constant (.str m) j p2] [] pos)) none pos') (fun _ σ H => W (.ref C) none σ H) :=
  ps_raise hc tk (pmk_own PySem.F.excBase_ValueError c.q c.g c.kp (raises_own c.sb c.ty) hg hdb)
theorem ps_raiseA {W : WX} {x : Str} {C : Addr} {e : Expr} {ta : TE} {p pos pos' : Pos} (hc : X.calm = true) (tk : Takes X W) (c : ExK X.K X.mg x C) (hg : Gl X x) (he : PE X e ta) (hdb : (x == ("__debug__" : Str)) = false := by decide)
    (hs : starEach [e] X.env = (false, eval e X.env) :: starEach [] X.env := by rfl) :
    PS X (.Raise (some (.Call (.Name x p) [e] [] pos)) none pos') (fun _ σ H => ta σ H fun _ H1 => W (.ref C) none σ H1) :=
  ps_raise hc tk (SkE.pmk_own1 PySem.F.excBase_ValueError c.q c.g c.kp (raises_own c.sb c.ty) hg he hs hdb)
end
end Fo
namespace Fo
open PySem PySem.Spec PyProof.Rows L2
abbrev rListOf (K : PySem.W.Frag) : List V → Hp → VK → Prop := fun xs H Q => ∃ p ys, xs = [.ref p] ∧ (SqL K H p ys ∨ SqT K H p ys) ∧ ∀ l, H l = none → Q (.ref l) (upd H l (.lst ys))
/-! min(xs, default=None); methods that may raise -/
def rMinDef (K : PySem.W.Frag) : List V → List V → Hp → VK → Prop := fun xs zs H Q => ∃ (a : Addr) (ns : List Int), xs = [V.ref a] ∧ zs = [V.non] ∧ SqL K H a (ns.map V.int) ∧ (ns = [] → Q .non H) ∧ ∀ m, m ∈ ns → (∀ y, y ∈ ns → m ≤ y) → Q (.int m) H
theorem hold_ints {h : Heap} : ∀ {ns : List Int} {us : List Value}, Vals (ns.map V.int) us → PySem.W.HoldAll h us ns
  | [], _, r => by cases r; exact PySem.W.HoldAll.nil
  | n :: ns, _, r => by
    cases r with
    | cons r1 r2 =>
      obtain ⟨t, rfl⟩ := r1
      exact PySem.W.HoldAll.cons (PySem.W.holds_int n t) (hold_ints r2)
theorem minOf_spec (x : Int) : ∀ ys : List Int, PySem.W.minOf x ys ∈ x :: ys ∧ ∀ y ∈ x :: ys, PySem.W.minOf x ys ≤ y := by
  intro ys
  induction ys generalizing x with
  | nil => exact ⟨List.mem_cons_self, fun y hy => by rw [List.mem_singleton.mp hy]; exact Int.le_refl _⟩
  | cons z r ih =>
    have e : PySem.W.minOf x (z :: r) = PySem.W.minOf (if PySem.W.DatumOrd.lt z x = true then z else x) r := rfl
    rw [e]
    have hl : PySem.W.DatumOrd.lt z x = decide (z < x) := rfl
    rw [hl]
    by_cases c : z < x
    · rw [if_pos (decide_eq_true c)]
      obtain ⟨i1, i2⟩ := ih z
      refine ⟨List.mem_cons_of_mem _ i1, fun y hy => ?_⟩
      rcases List.mem_cons.mp hy with rfl | hy
      · have := i2 z List.mem_cons_self
        omega
      · exact i2 y hy
    · rw [if_neg (fun q => c (of_decide_eq_true q))]
      obtain ⟨i1, i2⟩ := ih x
      refine ⟨?_, fun y hy => ?_⟩
      · rcases List.mem_cons.mp i1 with i1 | i1
        · rw [i1]
          exact List.mem_cons_self
        · exact List.mem_cons_of_mem _ (List.mem_cons_of_mem _ i1)
      · rcases List.mem_cons.mp hy with rfl | hy
        · exact i2 y List.mem_cons_self
        · rcases List.mem_cons.mp hy with rfl | hy
          · have := i2 x List.mem_cons_self
            omega
          · exact i2 y (List.mem_cons_of_mem _ hy)
theorem cr_minDef {X : Cx} (hu : X.A.units + 64 < cLine) (calm : X.calm = true) : CallRK X (.builtin "min") [Str.ofString "default"] (rMinDef X.K) := by
  intro pins s σ H vs zs us ws Q I r rz h
  obtain ⟨a, ns, rfl, rfl, hs, q0, q⟩ := h
  obtain rfl := Vals.ref1 r
  obtain ⟨w1, rfl, e1⟩ := vals1 rz
  obtain rfl : w1 = Value.none := e1
  obtain ⟨its, rv, pl, _⟩ := I.list hs
  refine PySem.W.min_list_datum_default (I.ok.hd calm) pl.isList (hold_ints rv) (by show _ + 1 + 0 < _; omega) (fun e h' tk kp => ?_) fun y ys i v h' tk e hi hv kp => ?_
  · exact ⟨.non, H, I.kept (t' := tk) kp, rfl, q0 e⟩
  · obtain ⟨m1, m2⟩ := minOf_spec y ys
    obtain ⟨t, rfl⟩ := PySem.W.int_of_holds hv
    exact ⟨.int _, H, I.kept (t' := tk) kp, ⟨t, rfl⟩, q _ (by rw [e]; exact m1) fun z hz => m2 z (by rw [← e]; exact hz)⟩
theorem pe_minDef {X : Cx} {e d : Expr} {te td : TE} {p kp pos : Pos} (hu : X.A.units + 64 < cLine) (calm : X.calm = true) (hg : Gl X "min") (hm : X.mg "min" = none) (he : PE X e te) (hd : PE X d td)
    (b1 : backTo pos (starEach (e :: []) X.env) = (false, eval e X.env) :: backTo pos (starEach [] X.env) := by rfl) (b2 : (backTo pos (starEach (e :: []) X.env)).any (·.1) = false := by rfl) (b3 : (backToKw pos (keywordEach [⟨some "default", d, kp⟩] X.env)).all (·.1.isSome) = true := by rfl)
    (b4 : (backToKw pos (keywordEach [⟨some "default", d, kp⟩] X.env)).any (·.1.isNone) = false := by rfl) (b6 : starEach [e] X.env = (false, eval e X.env) :: starEach [] X.env := by rfl) (b5 : (backToKw pos (keywordEach [⟨some "default", d, kp⟩] X.env)).filterMap (·.1) = [Str.ofString "default"] := by rfl) :
    PE X (.Call (.Name "min" p) [e] [⟨some "default", d, kp⟩] pos) (tCKw (rMinDef X.K) (tCons te tNil) (tCons td tNil)) :=
  pe_callBK (cr_minDef hu calm) hg hm (by decide +kernel) (pa_cons he pa_nil (hs := b6)) (pk_cons hd pk_nil) (he := b1) (hpl := b2) (hall := b3) (hnone := b4) (hks := b5)
/-- a method that may raise, without arguments and with them -/
def tMethS (C : Addr) (m : Str) (sp : Sp) (E : L2.St → XK) (ta : TE) (t : TA) : TE := fun σ H Q => ta σ H fun x H1 => ∃ a dx fs, x = .ref a ∧ H1 a = some (.ins C dx fs) ∧ fs.lookup m = none ∧ t σ H1 fun vs H2 => sp (x :: vs) H2 Q (E σ)
section
variable {X : Cx} {CX : CXT} {k : Nat} {f C : Addr} {fd : FuncData} {ps : List Str} {sp : Sp} {E : L2.St → XK} {m : Str} {pos apos : Pos} {e o : Expr} {es : List Expr} {ta : TE} {t : TA} {pl : Sem Bool}
theorem pe_meth0S (ho : PE X o ta) (cl : Cls X.K C) (me : Meth X.K C m f) (F : FnOk X.prog X.w X.K X.mg X.base CX k f fd ps sp) (rm : Room k X.A) (bi : Binds X.K fd ps []) (pa : ∀ σ, PassesAt CX X σ (E σ))
    (ht : eval (.Call (.Attribute o m apos) [] [] pos) X.env = (do let ov ← eval o X.env; standAt apos.atName; let (f, first) ← holding [ov] (getMethod ov m pl); callWith pos f first (backTo pos (starEach [] X.env)) (backToKw pos (keywordEach [] X.env))) := by rfl) :
    PE X (.Call (.Attribute o m apos) [] [] pos) (tMethS C m sp E ta tNil) :=
  ⟨fun pins s σ H Q I w => PySem.W.methodCall_KW (pl := pl) (thn (ho.run pins s σ H _ I w) fun u s1 ⟨x, H1, I1, rx, a, dx, fs, ex, ea, l, q⟩ => by
    cases ex
    cases (show u = Value.ref a from rx)
    exact getmeth_ok I1 ea cl me l (PySem.W.callWith_K0 (first := [.ref a]) I1.kIn me.kp (run_fnS (us := [.ref a]) (vs := [.ref a]) F rm bi (pa σ) I1 (.cons rfl .nil) q))) ht⟩
theorem pe_methS (ho : PE X o ta) (cl : Cls X.K C) (me : Meth X.K C m f) (F : FnOk X.prog X.w X.K X.mg X.base CX k f fd ps sp) (rm : Room k X.A) (bi : Binds X.K fd ps []) (pa : ∀ σ, PassesAt CX X σ (E σ)) (as : PA X (e :: es) t)
    (st : starEach (e :: es) X.env = (false, eval e X.env) :: starEach es X.env := by rfl) (na : (backTo pos (starEach es X.env)).any (·.1) = false := by rfl)
    (ht : eval (.Call (.Attribute o m apos) (e :: es) [] pos) X.env = (do let ov ← eval o X.env; standAt apos.atName; let (f, first) ← holding [ov] (getMethod ov m pl); callWith pos f first (backTo pos (starEach (e :: es) X.env)) (backToKw pos (keywordEach [] X.env))) := by rfl) :
    PE X (.Call (.Attribute o m apos) (e :: es) [] pos) (tMethS C m sp E ta t) :=
  ⟨fun pins s σ H Q I w => PySem.W.methodCall_KW (pl := pl) (thn (ho.run pins s σ H _ I w) fun u s1 ⟨x, H1, I1, rx, a, dx, fs, ex, ea, l, q⟩ => by
    cases ex
    cases (show u = Value.ref a from rx)
    exact getmeth_ok I1 ea cl me l (PySem.W.callWith_K (first := [.ref a]) (h₀ := X.base) I.ok.mod.kin me.kp (thn (as.run pos pins s1 σ H1 _ I1 q) fun us s2 ⟨vs, H2, I2, r, q2⟩ => ⟨I2.kIn, run_fnS (us := .ref a :: us) (vs := .ref a :: vs) F rm bi (pa σ) I2 (.cons rfl r) q2⟩) st na)) ht⟩
end
/-- a method of the text, where it stands -/
structure Dm (K : PySem.W.Frag) (C : Addr) (x q : Str) (st : Stmt) (ps : List Str) (f : Addr) (fd : FuncData) : Prop where
  F : Fun K x q st f fd
  b : Binds K fd ps []
  m : PySem.W.findIn K (.ref C) x = some (some (.ref f)) ∧ PySem.W.isFn K (.ref f) = true
theorem Dm.me {K : PySem.W.Frag} {C : Addr} {x q : Str} {st : Stmt} {ps : List Str} {f : Addr} {fd : FuncData} (d : Dm K C x q st ps f fd) : Meth K C x f := ⟨d.m.1, d.m.2, d.F.kp⟩
end Fo
namespace Fo
open PySem PySem.Spec PyProof.Rows L2
/-! ### sums -/
def ind (b : Bool) : Nat := if b then 1 else 0
def sumN (l : List Int) (f : Int → Nat) : Nat := (l.map f).sum
theorem sumN_nil (f : Int → Nat) : sumN [] f = 0 := rfl
theorem sumN_cons (a : Int) (l : List Int) (f : Int → Nat) : sumN (a :: l) f = f a + sumN l f := by
  unfold sumN
  rw [List.map_cons, List.sum_cons]
theorem sumN_append (l m : List Int) (f : Int → Nat) : sumN (l ++ m) f = sumN l f + sumN m f := by
  unfold sumN
  rw [List.map_append, List.sum_append]
theorem sumN_perm {l m : List Int} (h : l.Perm m) (f : Int → Nat) : sumN l f = sumN m f := by
  induction h with
  | nil => rfl
  | cons x _ ih => rw [sumN_cons, sumN_cons, ih]
  | swap x y l => rw [sumN_cons, sumN_cons, sumN_cons, sumN_cons]; omega
  | trans _ _ h1 h2 => exact h1.trans h2
theorem sumN_congr {l : List Int} {f g : Int → Nat} (h : ∀ x ∈ l, f x = g x) : sumN l f = sumN l g := by
  unfold sumN
  rw [List.map_congr_left h]
theorem sumN_map (l : List Int) (g : Int → Int) (f : Int → Nat) : sumN (l.map g) f = sumN l (fun x => f (g x)) := by
  unfold sumN
  rw [List.map_map]
  rfl
theorem sumN_zero {l : List Int} {f : Int → Nat} (h : ∀ x ∈ l, f x = 0) : sumN l f = 0 := by
  rw [sumN_congr h]
  induction l with
  | nil => rfl
  | cons a l ih => rw [sumN_cons, ih fun x hx => h x (List.mem_cons_of_mem _ hx)]
theorem sumN_add (l : List Int) (f g : Int → Nat) : sumN l (fun x => f x + g x) = sumN l f + sumN l g := by
  induction l with
  | nil => rfl
  | cons a l ih => rw [sumN_cons, sumN_cons, sumN_cons, ih]; omega
theorem sumN_swap (l m : List Int) (f : Int → Int → Nat) : sumN l (fun i => sumN m (fun j => f i j)) = sumN m (fun j => sumN l (fun i => f i j)) := by
  induction l with
  | nil => exact (sumN_zero fun x _ => rfl).symm
  | cons a l ih =>
    rw [sumN_cons, ih, ← sumN_add]
    exact sumN_congr fun x _ => by rw [sumN_cons]
theorem filter_len (l : List Int) (p : Int → Bool) : (l.filter p).length = sumN l (fun x => ind (p x)) := by
  induction l with
  | nil => rfl
  | cons a l ih =>
    rw [sumN_cons, List.filter_cons]
    unfold ind at ih ⊢
    cases p a
    · simp only [Bool.false_eq_true, if_false]; omega
    · simp only [if_true, List.length_cons]; omega
/-! ### a list by its places -/
def g0 (s : List Int) (i : Int) : Int := s.getD i.toNat 0
theorem g0_at {s : List Int} {i : Nat} {x : Int} (h : s[i]? = some x) : g0 s (i : Int) = x := by
  unfold g0
  rw [Int.toNat_natCast, List.getD_eq_getElem?_getD, h]
  rfl
theorem by_places (s : List Int) : s = (rg s.length).map (g0 s) := by
  apply List.ext_getElem?
  intro i
  unfold rg
  rw [List.getElem?_map, List.getElem?_map]
  by_cases h : i < s.length
  · rw [List.getElem?_range h, List.getElem?_eq_getElem h]
    show some s[i] = some (g0 s (i : Int))
    rw [g0_at (List.getElem?_eq_getElem h)]
  · rw [List.getElem?_eq_none (by omega), List.getElem?_eq_none (by rw [List.length_range]; omega)]
    rfl
theorem rg_succ (n : Nat) : rg (n + 1) = rg n ++ [(n : Int)] := by
  unfold rg
  rw [List.range_succ, List.map_append]
  rfl
/-- how many of the later ones are less -/
def cntL (s : List Int) (i : Nat) : Nat := ((s.drop (i + 1)).filter (fun x => decide (x < g0 s i))).length
def invF (n : Nat) (a : Int → Int) : Nat := sumN (rg n) fun i => sumN (rg n) fun j => ind (decide (i < j) && decide (a j < a i))
def invN (s : List Int) : Nat := sumN (rg s.length) fun i => cntL s i.toNat
theorem drop_sum (n i : Nat) (f : Int → Nat) : sumN ((rg n).drop (i + 1)) f = sumN (rg n) fun j => if (i : Int) < j then f j else 0 := by
  induction n with
  | zero => rfl
  | succ n ih =>
    rw [rg_succ, sumN_append, ← ih, List.drop_append, sumN_append, rg_len]
    congr 1
    by_cases h : i + 1 ≤ n
    · rw [show i + 1 - n = 0 by omega, List.drop_zero, sumN_cons, sumN_cons, sumN_nil, sumN_nil, if_pos (by omega)]
    · rw [show i + 1 - n = (i - n) + 1 by omega, List.drop_succ_cons, List.drop_nil, sumN_cons, sumN_nil, sumN_nil, if_neg (by omega)]
theorem cnt_sum (s : List Int) (i : Nat) : cntL s i = sumN (rg s.length) fun j => ind (decide ((i : Int) < j) && decide (g0 s j < g0 s i)) := by
  unfold cntL
  rw [filter_len]
  have e : s.drop (i + 1) = ((rg s.length).drop (i + 1)).map (g0 s) := by
    rw [List.map_drop, ← by_places]
  rw [e, sumN_map, drop_sum]
  apply sumN_congr
  intro j _
  unfold ind
  by_cases h : (i : Int) < j
  · simp [h]
  · simp [h]
theorem inv_eq (s : List Int) : invN s = invF s.length (g0 s) := by
  unfold invN invF
  apply sumN_congr
  intro i hi
  have := rg_mem.mp hi
  rw [cnt_sum, Int.toNat_of_nonneg this.1]
/-! ### places of things -/
def pos (ys : List Int) (x : Int) : Int := ((ys.idxOf x : Nat) : Int)
def seatsL (xs ys : List Int) : List Int := xs.map (pos ys)
theorem pos_of {n : Nat} {ys : List Int} (o : IsOrd n ys) {j : Nat} {x : Int} (h : ys[j]? = some x) : pos ys x = (j : Int) := by
  obtain ⟨hj, e⟩ := List.getElem?_eq_some_iff.mp h
  have m : x ∈ ys := List.mem_of_getElem? h
  have hi : ys.idxOf x < ys.length := List.idxOf_lt_length_iff.mpr m
  have h2 : ys[ys.idxOf x]? = some x := by
    rw [List.getElem?_eq_getElem hi]
    exact congrArg some (List.getElem_idxOf hi)
  unfold pos
  rw [nd_ix o.nodup h2 h]
theorem pos_at {n : Nat} {ys : List Int} (o : IsOrd n ys) {x : Int} (h0 : 0 ≤ x) (h1 : x < n) : ∃ j : Nat, j < n ∧ ys[j]? = some x ∧ pos ys x = (j : Int) := by
  obtain ⟨j, hj, e⟩ := ord_at o (t := x.toNat) (by omega)
  rw [Int.toNat_of_nonneg h0] at e
  exact ⟨j, hj, e, pos_of o e⟩
theorem back_pos {n : Nat} {ys ps : List Int} (o : IsOrd n ys) (h : IsBack ys ps) {x : Int} (h0 : 0 ≤ x) (h1 : x < n) : ps[x.toNat]? = some (pos ys x) := by
  obtain ⟨j, hj, e, ep⟩ := pos_at o h0 h1
  rw [ep]
  exact h.2 j x e
theorem seats_len (xs ys : List Int) : (seatsL xs ys).length = xs.length := by
  unfold seatsL
  rw [List.length_map]
theorem seats_at {xs ys : List Int} {i : Nat} {x : Int} (h : xs[i]? = some x) : (seatsL xs ys)[i]? = some (pos ys x) := by
  unfold seatsL
  rw [List.getElem?_map, h]
  rfl
theorem seats_self {n : Nat} {ys : List Int} (o : IsOrd n ys) : seatsL ys ys = rg n := by
  apply List.ext_getElem?
  intro i
  by_cases h : i < n
  · obtain ⟨x, hx, _⟩ := ord_ix o h
    rw [seats_at hx, pos_of o hx]
    unfold rg
    rw [List.getElem?_map, List.getElem?_range h]
    rfl
  · rw [List.getElem?_eq_none (by rw [seats_len, o.len]; omega), List.getElem?_eq_none (by rw [rg_len]; omega)]
theorem seats_ord {n : Nat} {xs ys : List Int} (ox : IsOrd n xs) (oy : IsOrd n ys) : IsOrd n (seatsL xs ys) := by
  have h : (seatsL xs ys).Perm (seatsL ys ys) := List.Perm.map _ (ox.trans oy.symm)
  rw [seats_self oy] at h
  exact h
theorem g0_ord {n : Nat} {s : List Int} (o : IsOrd n s) : s = (rg n).map (g0 s) := by
  have e := by_places s
  rw [o.len] at e
  exact e
/-- inversions from the other side -/
theorem inv_turn {n : Nat} {s t : List Int} (os : IsOrd n s) (ot : IsOrd n t) (h : ∀ u ∈ rg n, g0 s (g0 t u) = u) : invN s = invN t := by
  rw [inv_eq, inv_eq, os.len, ot.len]
  unfold invF
  have p1 : ∀ f : Int → Nat, sumN (rg n) f = sumN (rg n) fun u => f (g0 t u) := fun f => by
    have e : sumN ((rg n).map (g0 t)) f = sumN (rg n) fun u => f (g0 t u) := sumN_map _ _ _
    rw [← e, ← g0_ord ot]
    exact (sumN_perm ot f).symm
  rw [p1]
  rw [sumN_congr (g := fun u => sumN (rg n) fun v => ind (decide (g0 t u < g0 t v) && decide (v < u))) (fun u hu => by
    rw [p1]
    exact sumN_congr fun v hv => by rw [h u hu, h v hv])]
  rw [sumN_swap]
  apply sumN_congr
  intro v _
  apply sumN_congr
  intro u _
  rw [Bool.and_comm]
theorem seats_turn {n : Nat} {xs ys : List Int} (ox : IsOrd n xs) (oy : IsOrd n ys) : ∀ u ∈ rg n, g0 (seatsL xs ys) (g0 (seatsL ys xs) u) = u := by
  intro u hu
  have hb := rg_mem.mp hu
  obtain ⟨y, hy, y0, y1⟩ := ord_ix oy (j := u.toNat) (by omega)
  have e1 : g0 (seatsL ys xs) u = pos xs y := by
    have := g0_at (seats_at (ys := xs) hy)
    rw [Int.toNat_of_nonneg hb.1] at this
    exact this
  obtain ⟨j, hj, ej, pj⟩ := pos_at ox y0 y1
  rw [e1, pj, g0_at (seats_at (ys := ys) ej), pos_of oy hy]
  omega
/-! ### how far two orders are -/
def farSwap (xs ys : List Int) : Int := ((invN (seatsL xs ys) : Nat) : Int)
def spotL (xs ys : List Int) : List Int := (rg xs.length).filter fun p => !decide (g0 xs p = g0 ys p)
def farSpot (xs ys : List Int) : Int := (((spotL xs ys).length : Nat) : Int)
def absI (i : Int) : Int := if i < 0 then -i else i
def gapsL (xs ys : List Int) : List Int := (rg xs.length).map fun p => absI (p - g0 (seatsL xs ys) p)
def maxL (l : List Int) : Int := l.foldr max 0
def farShift (xs ys : List Int) : Int := maxL (gapsL xs ys)
theorem maxL_of : ∀ {l : List Int} {m : Int}, (∀ x ∈ l, 0 ≤ x) → m ∈ l → (∀ x ∈ l, x ≤ m) → maxL l = m := by
  intro l m h0 hm hle
  have key : ∀ l : List Int, (∀ x ∈ l, x ≤ m) → maxL l ≤ m := by
    intro l hl
    induction l with
    | nil => exact h0 m hm
    | cons a l ih =>
      show max a (maxL l) ≤ m
      have h1 := hl a List.mem_cons_self
      have h2 := ih fun x hx => hl x (List.mem_cons_of_mem _ hx)
      omega
  have key2 : ∀ l : List Int, ∀ x ∈ l, x ≤ maxL l := by
    intro l
    induction l with
    | nil => intro x hx; exact absurd hx List.not_mem_nil
    | cons a l ih =>
      intro x hx
      show x ≤ max a (maxL l)
      rcases List.mem_cons.mp hx with rfl | hx
      · omega
      · have := ih x hx
        omega
  have := key l hle
  have := key2 l m hm
  omega
theorem gaps_nonneg (xs ys : List Int) : ∀ x ∈ gapsL xs ys, 0 ≤ x := by
  intro x hx
  obtain ⟨p, _, rfl⟩ := List.mem_map.mp hx
  unfold absI
  split <;> omega
theorem maxL_mem {l : List Int} (h0 : ∀ x ∈ l, 0 ≤ x) (hl : 0 < l.length) : maxL l ∈ l ∧ ∀ x ∈ l, x ≤ maxL l := by
  induction l with
  | nil => exact absurd hl (Nat.lt_irrefl _)
  | cons a l ih =>
    show max a (maxL l) ∈ a :: l ∧ ∀ x ∈ a :: l, x ≤ max a (maxL l)
    by_cases c : 0 < l.length
    · obtain ⟨h1, h2⟩ := ih (fun x hx => h0 x (List.mem_cons_of_mem _ hx)) c
      constructor
      · by_cases d : maxL l ≤ a
        · rw [Int.max_eq_left d]
          exact List.mem_cons_self
        · rw [Int.max_eq_right (by omega)]
          exact List.mem_cons_of_mem _ h1
      · intro x hx
        rcases List.mem_cons.mp hx with rfl | hx
        · omega
        · have := h2 x hx
          omega
    · have e : l = [] := List.eq_nil_of_length_eq_zero (by omega)
      subst e
      have := h0 a List.mem_cons_self
      have e2 : max a (maxL []) = a := by show max a 0 = a; omega
      rw [e2]
      exact ⟨List.mem_cons_self, fun x hx => by rw [List.mem_singleton.mp hx]; exact Int.le_refl _⟩
theorem farSwap_turn {n : Nat} {xs ys : List Int} (ox : IsOrd n xs) (oy : IsOrd n ys) : farSwap ys xs = farSwap xs ys := by
  unfold farSwap
  rw [inv_turn (seats_ord ox oy) (seats_ord oy ox) (seats_turn ox oy)]
theorem inv_rg (n : Nat) : invN (rg n) = 0 := by
  rw [inv_eq]
  unfold invF
  apply sumN_zero
  intro i hi
  apply sumN_zero
  intro j hj
  rw [rg_len] at hi hj
  have hi2 := rg_mem.mp hi
  have hj2 := rg_mem.mp hj
  have e : ∀ k : Int, k ∈ rg n → g0 (rg n) k = k := fun k hk => by
    have := rg_mem.mp hk
    have z : (rg n)[k.toNat]? = some k := by
      unfold rg
      rw [List.getElem?_map, List.getElem?_range (by omega)]
      show some ((k.toNat : Nat) : Int) = some k
      rw [Int.toNat_of_nonneg this.1]
    have z2 := g0_at z
    rw [Int.toNat_of_nonneg this.1] at z2
    exact z2
  rw [e i hi, e j hj]
  unfold ind
  by_cases c : i < j
  · have d : ¬ j < i := by omega
    simp [c, d]
  · simp [c]
theorem farSwap_self {n : Nat} {xs : List Int} (ox : IsOrd n xs) : farSwap xs xs = 0 := by
  unfold farSwap
  rw [seats_self ox, inv_rg]
  rfl
theorem farSpot_turn {xs ys : List Int} (h : xs.length = ys.length) : farSpot ys xs = farSpot xs ys := by
  unfold farSpot spotL
  rw [h]
  congr 3
  funext p
  congr 1
  by_cases c : g0 ys p = g0 xs p
  · rw [decide_eq_true c, decide_eq_true c.symm]
  · rw [decide_eq_false c, decide_eq_false fun e => c e.symm]
theorem farSpot_self (xs : List Int) : farSpot xs xs = 0 := by
  unfold farSpot spotL
  have e : ((rg xs.length).filter fun p => !decide (g0 xs p = g0 xs p)) = [] := by
    rw [List.filter_eq_nil_iff]
    intro a _
    simp
  rw [e]
  rfl
theorem gaps_len (xs ys : List Int) : (gapsL xs ys).length = xs.length := by
  unfold gapsL
  rw [List.length_map, rg_len]
theorem gaps_sub {n : Nat} {xs ys : List Int} (ox : IsOrd n xs) (oy : IsOrd n ys) : ∀ g ∈ gapsL ys xs, g ∈ gapsL xs ys := by
  intro g hg
  obtain ⟨u, hu, rfl⟩ := List.mem_map.mp hg
  rw [oy.len] at hu
  have hb := (seats_ord oy ox).mem (x := g0 (seatsL ys xs) u) (by
    have e := g0_ord (seats_ord oy ox)
    rw [e]
    exact List.mem_map.mpr ⟨u, hu, by rw [← e]⟩)
  refine List.mem_map.mpr ⟨g0 (seatsL ys xs) u, by rw [ox.len]; exact rg_mem.mpr hb, ?_⟩
  rw [seats_turn ox oy u hu]
  unfold absI
  split <;> split <;> omega
theorem farShift_turn {n : Nat} {xs ys : List Int} (ox : IsOrd n xs) (oy : IsOrd n ys) (hn : 1 ≤ n) : farShift ys xs = farShift xs ys := by
  unfold farShift
  obtain ⟨h1, h2⟩ := maxL_mem (gaps_nonneg xs ys) (by rw [gaps_len, ox.len]; exact hn)
  exact maxL_of (gaps_nonneg ys xs) (gaps_sub oy ox _ h1) fun x hx => h2 x (gaps_sub ox oy x hx)
theorem farShift_self {n : Nat} {xs : List Int} (ox : IsOrd n xs) (hn : 1 ≤ n) : farShift xs xs = 0 := by
  unfold farShift
  have z : ∀ g ∈ gapsL xs xs, g = 0 := by
    intro g hg
    obtain ⟨u, hu, rfl⟩ := List.mem_map.mp hg
    rw [ox.len] at hu
    have hb := rg_mem.mp hu
    rw [seats_self ox]
    have e : (rg n)[u.toNat]? = some u := by
      unfold rg
      rw [List.getElem?_map, List.getElem?_range (by omega)]
      show some ((u.toNat : Nat) : Int) = some u
      rw [Int.toNat_of_nonneg hb.1]
    have z2 := g0_at e
    rw [Int.toNat_of_nonneg hb.1] at z2
    rw [z2]
    unfold absI
    split <;> omega
  obtain ⟨h1, _⟩ := maxL_mem (gaps_nonneg xs xs) (by rw [gaps_len, ox.len]; exact hn)
  exact z _ h1
end Fo
namespace Fo
open PySem PySem.Spec PyProof.Rows L2
/-! ### turned pairs, one after the other -/
def invR : List Int → Nat
  | [] => 0
  | x :: r => (r.filter (fun z => decide (z < x))).length + invR r
theorem rg_cons (n : Nat) : rg (n + 1) = 0 :: (rg n).map (· + 1) := by
  unfold rg
  rw [List.range_succ_eq_map, List.map_cons, List.map_map, List.map_map]
  rfl
theorem inv_NR : ∀ s : List Int, invN s = invR s
  | [] => rfl
  | x :: r => by
    have ih := inv_NR r
    unfold invN at ih ⊢
    rw [List.length_cons, rg_cons, sumN_cons, sumN_map]
    show cntL (x :: r) (0 : Int).toNat + _ = (r.filter (fun z => decide (z < x))).length + invR r
    rw [← ih]
    have e1 : cntL (x :: r) (0 : Int).toNat = (r.filter (fun z => decide (z < x))).length := rfl
    rw [e1]
    congr 1
    apply sumN_congr
    intro i hi
    have hb := rg_mem.mp hi
    obtain ⟨j, rfl⟩ : ∃ j : Nat, i = (j : Int) := ⟨i.toNat, by omega⟩
    rw [show ((j : Int) + 1).toNat = j + 1 by omega, Int.toNat_natCast]
    unfold cntL
    have e2 : g0 (x :: r) ((j + 1 : Nat) : Int) = g0 r (j : Int) := by
      unfold g0
      rw [Int.toNat_natCast, Int.toNat_natCast]
      rfl
    rw [e2]
    rfl
theorem filt_perm {a b : List Int} (h : a.Perm b) (p : Int → Bool) : (a.filter p).length = (b.filter p).length := (h.filter p).length_eq
theorem invR_at : ∀ (A : List Int) (a b : Int) (B : List Int), b < a → invR (A ++ a :: b :: B) = invR (A ++ b :: a :: B) + 1
  | [], a, b, B, h => by
    show ((b :: B).filter (fun z => decide (z < a))).length + ((B.filter (fun z => decide (z < b))).length + invR B) = ((a :: B).filter (fun z => decide (z < b))).length + ((B.filter (fun z => decide (z < a))).length + invR B) + 1
    rw [List.filter_cons, List.filter_cons, decide_eq_true h, decide_eq_false (show ¬ a < b by omega), if_pos rfl, if_neg (by decide), List.length_cons]
    omega
  | x :: A, a, b, B, h => by
    have ih := invR_at A a b B h
    show ((A ++ a :: b :: B).filter (fun z => decide (z < x))).length + invR (A ++ a :: b :: B) = ((A ++ b :: a :: B).filter (fun z => decide (z < x))).length + invR (A ++ b :: a :: B) + 1
    rw [ih, filt_perm (List.Perm.append_left A (List.Perm.swap b a B))]
    omega
theorem invR_sw {s : List Int} {p : Nat} {a b : Int} (ha : s[p]? = some a) (hb : s[p + 1]? = some b) (h : b < a) : invR s = invR (sw s p) + 1 := by
  have hl := (List.getElem?_eq_some_iff.mp hb).1
  obtain ⟨A, x, y, B, rfl, rfl⟩ := split2 hl
  have ex : x = a := by
    rw [List.getElem?_append_right (Nat.le_refl _), Nat.sub_self] at ha
    exact Option.some.inj ha
  have ey : y = b := by
    rw [List.getElem?_append_right (by omega), show A.length + 1 - A.length = 1 by omega] at hb
    exact Option.some.inj hb
  subst ex ey
  rw [sw_at, invR_at A x y B h]
def firstDesc : List Int → Option Nat
  | [] => none
  | [_] => none
  | x :: y :: r => if y < x then some 0 else (firstDesc (y :: r)).map (· + 1)
theorem fd_cons (x y : Int) (r : List Int) : firstDesc (x :: y :: r) = if y < x then some 0 else (firstDesc (y :: r)).map (· + 1) := by rw [firstDesc]
theorem fd_some : ∀ {s : List Int} {p : Nat} {a b : Int}, (∀ (j : Nat) (u v : Int), j < p → s[j]? = some u → s[j + 1]? = some v → u ≤ v) → s[p]? = some a → s[p + 1]? = some b → b < a → firstDesc s = some p
  | [], p, a, b, _, ha, _, _ => by simp at ha
  | [_], p, a, b, _, _, hb, _ => by simp at hb
  | x :: y :: r, 0, a, b, _, ha, hb, h => by
    have e1 : x = a := Option.some.inj ha
    have e2 : y = b := Option.some.inj hb
    rw [fd_cons, if_pos (by omega)]
  | x :: y :: r, p + 1, a, b, hl, ha, hb, h => by
    have h0 : x ≤ y := hl 0 x y (by omega) rfl rfl
    have ih := fd_some (s := y :: r) (p := p) (a := a) (b := b) (fun j u v hj hu hv => hl (j + 1) u v (by omega) hu hv) ha hb h
    rw [fd_cons, if_neg (by omega), ih]
    rfl
theorem fd_none : ∀ {s : List Int}, (∀ (j : Nat) (u v : Int), s[j]? = some u → s[j + 1]? = some v → u ≤ v) → firstDesc s = none
  | [], _ => rfl
  | [_], _ => rfl
  | x :: y :: r, hl => by
    have h0 : x ≤ y := hl 0 x y rfl rfl
    have ih := fd_none (s := y :: r) (fun j u v hu hv => hl (j + 1) u v hu hv)
    rw [fd_cons, if_neg (by omega), ih]
    rfl
theorem fd_at : ∀ {s : List Int} {p : Nat}, firstDesc s = some p → ∃ a b, s[p]? = some a ∧ s[p + 1]? = some b ∧ b < a ∧ ∀ (j : Nat) (u v : Int), j < p → s[j]? = some u → s[j + 1]? = some v → u ≤ v
  | [], p, h => by cases h
  | [_], p, h => by cases h
  | x :: y :: r, p, h => by
    rw [fd_cons] at h
    by_cases c : y < x
    · rw [if_pos c] at h
      cases h
      exact ⟨x, y, rfl, rfl, c, fun j u v hj => absurd hj (Nat.not_lt_zero _)⟩
    · rw [if_neg c] at h
      cases e : firstDesc (y :: r) with
      | none => rw [e] at h; cases h
      | some q =>
        rw [e] at h
        have ep : q + 1 = p := Option.some.inj h
        subst ep
        obtain ⟨a, b, ha, hb, hlt, hl⟩ := fd_at e
        refine ⟨a, b, ha, hb, hlt, fun j u v hj hu hv => ?_⟩
        cases j with
        | zero =>
          have e1 : x = u := Option.some.inj hu
          have e2 : y = v := Option.some.inj hv
          omega
        | succ j => exact hl j u v (by omega) hu hv
theorem fd_sorted : ∀ {s : List Int}, firstDesc s = none → s.Pairwise (· ≤ ·)
  | [], _ => List.Pairwise.nil
  | [_], _ => List.pairwise_singleton _ _
  | x :: y :: r, h => by
    rw [fd_cons] at h
    by_cases c : y < x
    · rw [if_pos c] at h; cases h
    · rw [if_neg c] at h
      have e : firstDesc (y :: r) = none := by
        cases e : firstDesc (y :: r) with
        | none => rfl
        | some q => rw [e] at h; cases h
      have ih := fd_sorted e
      refine List.Pairwise.cons (fun z hz => ?_) ih
      rcases List.mem_cons.mp hz with rfl | hz
      · omega
      · have := (List.pairwise_cons.mp ih).1 z hz
        omega
theorem invR_sorted : ∀ {s : List Int}, s.Pairwise (· ≤ ·) → invR s = 0
  | [], _ => rfl
  | x :: r, h => by
    obtain ⟨h1, h2⟩ := List.pairwise_cons.mp h
    show (r.filter (fun z => decide (z < x))).length + invR r = 0
    rw [invR_sorted h2, List.filter_eq_nil_iff.mpr (fun z hz => by
      have := h1 z hz
      simp
      omega)]
    rfl
theorem fd_pos {s : List Int} (h : 0 < invR s) : ∃ p, firstDesc s = some p := by
  cases e : firstDesc s with
  | none => rw [invR_sorted (fd_sorted e)] at h; omega
  | some p => exact ⟨p, rfl⟩
/-- the first of the shortest walks, of at most m places -/
def gw : Nat → List Int → List Int
  | 0, _ => []
  | m + 1, s => match firstDesc s with
    | none => []
    | some p => (p : Int) :: gw m (sw s p)
abbrev walkL (s : List Int) : List Int := gw (invR s) s
theorem walk_none {s : List Int} (h : firstDesc s = none) : walkL s = [] := by
  unfold walkL
  rw [invR_sorted (fd_sorted h)]
  rfl
theorem walk_some {s : List Int} {p : Nat} (h : firstDesc s = some p) : walkL s = (p : Int) :: walkL (sw s p) := by
  obtain ⟨a, b, ha, hb, hlt, _⟩ := fd_at h
  unfold walkL
  rw [invR_sw ha hb hlt, gw, h]
theorem walk_len : ∀ (m : Nat) (s : List Int), invR s = m → (walkL s).length = m
  | 0, s, h => by
    unfold walkL
    rw [h]
    rfl
  | m + 1, s, h => by
    obtain ⟨p, hp⟩ := fd_pos (s := s) (by omega)
    obtain ⟨a, b, ha, hb, hlt, _⟩ := fd_at hp
    rw [walk_some hp, List.length_cons, walk_len m (sw s p) (by have := invR_sw ha hb hlt; omega)]
theorem invR_len (s : List Int) : invR s ≤ s.length * s.length := by
  induction s with
  | nil => exact Nat.le_refl _
  | cons x r ih =>
    show (r.filter _).length + invR r ≤ (r.length + 1) * (r.length + 1)
    have h1 : (r.filter (fun z => decide (z < x))).length ≤ r.length := List.length_filter_le _ _
    have h2 : (r.length + 1) * (r.length + 1) = r.length * r.length + r.length + r.length + 1 := by
      rw [Nat.add_mul, Nat.mul_add]
      omega
    omega
theorem seats_sw {xs ys : List Int} {p : Nat} (h : p + 1 < xs.length) : seatsL (sw xs p) ys = sw (seatsL xs ys) p := by
  obtain ⟨A, a, b, B, rfl, rfl⟩ := split2 h
  rw [sw_at]
  unfold seatsL
  rw [List.map_append, List.map_cons, List.map_cons, List.map_append, List.map_cons, List.map_cons]
  have e := sw_at (A.map (pos ys)) (pos ys a) (pos ys b) (B.map (pos ys))
  rw [List.length_map] at e
  exact e.symm
theorem cut_sw {xs : List Int} {p : Nat} {a b : Int} (ha : xs[p]? = some a) (hb : xs[p + 1]? = some b) : xs.take p ++ [b, a] ++ xs.drop (p + 2) = sw xs p := by
  have hl := (List.getElem?_eq_some_iff.mp hb).1
  obtain ⟨A, x, y, B, rfl, rfl⟩ := split2 hl
  have ex : x = a := by
    rw [List.getElem?_append_right (Nat.le_refl _), Nat.sub_self] at ha
    exact Option.some.inj ha
  have ey : y = b := by
    rw [List.getElem?_append_right (by omega), show A.length + 1 - A.length = 1 by omega] at hb
    exact Option.some.inj hb
  subst ex ey
  rw [sw_at, List.take_left, List.drop_append, List.drop_of_length_le (by omega), show A.length + 2 - A.length = 2 by omega]
  simp
theorem filt_map (l : List Int) (f : Int → Int) (p : Int → Bool) : ((l.map f).filter p).length = (l.filter (fun x => p (f x))).length := by
  rw [List.filter_map, List.length_map]
  rfl
end Fo
namespace Fo
open PySem PySem.Spec PyProof.Rows L2
theorem pos_ord {n : Nat} {xs : List Int} (o : IsOrd n xs) : IsOrd n ((rg n).map (pos xs)) := by
  have h : ((rg n).map (pos xs)).Perm (seatsL xs xs) := List.Perm.map _ o.symm
  rw [seats_self o] at h
  exact h
theorem pos_in {n : Nat} {xs : List Int} (o : IsOrd n xs) {t : Int} (h : t ∈ rg n) : pos xs t ∈ rg n := by
  have := (pos_ord o).mem (List.mem_map.mpr ⟨t, h, rfl⟩)
  exact rg_mem.mpr this
theorem pos_inj {n : Nat} {xs : List Int} (o : IsOrd n xs) {t u : Int} (ht : t ∈ rg n) (hu : u ∈ rg n) (e : pos xs t = pos xs u) : t = u := by
  have h1 := rg_mem.mp ht
  have h2 := rg_mem.mp hu
  obtain ⟨i, _, ei, pi⟩ := pos_at o h1.1 h1.2
  obtain ⟨j, _, ej, pj⟩ := pos_at o h2.1 h2.2
  have : i = j := by omega
  subst this
  exact Option.some.inj (ei.symm.trans ej)
/-- a sum over the places is a sum over the things -/
theorem sum_pos {n : Nat} {xs : List Int} (o : IsOrd n xs) (f : Int → Nat) : sumN (rg n) f = sumN (rg n) fun t => f (pos xs t) := by
  have e : sumN ((rg n).map (pos xs)) f = sumN (rg n) fun t => f (pos xs t) := sumN_map _ _ _
  rw [← e]
  exact (sumN_perm (pos_ord o) f).symm
theorem sum_g0 {n : Nat} {xs : List Int} (o : IsOrd n xs) (f : Int → Nat) : sumN (rg n) f = sumN (rg n) fun p => f (g0 xs p) := by
  have e : sumN ((rg n).map (g0 xs)) f = sumN (rg n) fun t => f (g0 xs t) := sumN_map _ _ _
  rw [← e, ← g0_ord o]
  exact (sumN_perm o f).symm
theorem g0_pos {n : Nat} {xs : List Int} (o : IsOrd n xs) {t : Int} (h : t ∈ rg n) : g0 xs (pos xs t) = t := by
  have h1 := rg_mem.mp h
  obtain ⟨j, _, ej, pj⟩ := pos_at o h1.1 h1.2
  rw [pj]
  exact g0_at ej
theorem pos_g0 {n : Nat} {xs : List Int} (o : IsOrd n xs) {p : Int} (h : p ∈ rg n) : pos xs (g0 xs p) = p := by
  have h1 := rg_mem.mp h
  obtain ⟨x, hx, _⟩ := ord_ix o (j := p.toNat) (by omega)
  have e := g0_at hx
  rw [Int.toNat_of_nonneg h1.1] at e
  rw [e, pos_of o hx]
  omega
theorem g0_in {n : Nat} {xs : List Int} (o : IsOrd n xs) {p : Int} (h : p ∈ rg n) : g0 xs p ∈ rg n := by
  have h1 := rg_mem.mp h
  obtain ⟨x, hx, x0, x1⟩ := ord_ix o (j := p.toNat) (by omega)
  have e := g0_at hx
  rw [Int.toNat_of_nonneg h1.1] at e
  rw [e]
  exact rg_mem.mpr ⟨x0, x1⟩
end Fo
namespace Fo
open PySem PySem.Spec PyProof.Rows L2
/-! ### all orders of few things -/
def extO (n : Nat) (o : List Int) : List (List Int) := ((rg n).filter fun t => !decide (t ∈ o)).map fun t => o ++ [t]
def allK (n : Nat) : Nat → List (List Int)
  | 0 => [[]]
  | k + 1 => (allK n k).flatMap (extO n)
theorem allK_row {n : Nat} : ∀ (k : Nat) (r : List Int), r ∈ allK n k → r.length = k ∧ r.Nodup ∧ ∀ x ∈ r, x ∈ rg n
  | 0, r, h => by
    rw [List.mem_singleton.mp h]
    exact ⟨rfl, List.nodup_nil, fun x hx => absurd hx List.not_mem_nil⟩
  | k + 1, r, h => by
    obtain ⟨o, ho, hr⟩ := List.mem_flatMap.mp h
    obtain ⟨h1, h2, h3⟩ := allK_row k o ho
    obtain ⟨t, ht, rfl⟩ := List.mem_map.mp hr
    obtain ⟨ht1, ht2⟩ := List.mem_filter.mp ht
    have hto : t ∉ o := by simpa using ht2
    refine ⟨by rw [List.length_append, h1]; rfl, ?_, fun x hx => ?_⟩
    · rw [List.nodup_append]
      refine ⟨h2, List.nodup_cons.mpr ⟨List.not_mem_nil, List.nodup_nil⟩, fun x hx y hy e => ?_⟩
      rw [List.mem_singleton.mp hy] at e
      exact hto (by rw [← e]; exact hx)
    · rcases List.mem_append.mp hx with hx | hx
      · exact h3 x hx
      · rw [List.mem_singleton.mp hx]
        exact ht1
theorem extO_len (n : Nat) (o : List Int) : (extO n o).length ≤ n := by
  unfold extO
  rw [List.length_map]
  have := List.length_filter_le (fun t => !decide (t ∈ o)) (rg n)
  rw [rg_len] at this
  exact this
theorem flat_len (n : Nat) : ∀ l : List (List Int), (l.flatMap (extO n)).length ≤ l.length * n
  | [] => Nat.zero_le _
  | o :: l => by
    rw [List.flatMap_cons, List.length_append, List.length_cons, Nat.add_mul, Nat.one_mul]
    have := flat_len n l
    have := extO_len n o
    omega
theorem allK_len {n : Nat} (hn : n ≤ 6) : ∀ k, k ≤ n → (allK n k).length ≤ 6 ^ k
  | 0, _ => Nat.le_refl _
  | k + 1, hk => by
    have ih := allK_len hn k (by omega)
    have h1 : (allK n (k + 1)).length ≤ (allK n k).length * n := flat_len n (allK n k)
    have h2 : (allK n k).length * n ≤ 6 ^ k * 6 := Nat.mul_le_mul ih hn
    rw [Nat.pow_succ]
    omega
theorem pow6 {k : Nat} (h : k ≤ 6) : 6 ^ k ≤ 46656 := by
  have : 6 ^ k ≤ 6 ^ 6 := Nat.pow_le_pow_right (by decide) h
  exact this
theorem nodup_count : ∀ {l : List Int}, l.Nodup → ∀ a, l.count a = if a ∈ l then 1 else 0
  | [], _, a => by simp
  | b :: l, h, a => by
    obtain ⟨h1, h2⟩ := List.nodup_cons.mp h
    have ih := nodup_count h2 a
    rw [List.count_cons, ih]
    by_cases c : b = a
    · subst c
      simp [h1]
    · have c2 : ¬ a = b := fun e => c e.symm
      simp [c, c2]
theorem nodup_ord {n : Nat} {s : List Int} (hl : s.length = n) (hn : s.Nodup) (hb : ∀ x ∈ s, x ∈ rg n) : IsOrd n s := by
  unfold IsOrd
  rw [List.perm_iff_count]
  intro a
  rw [nodup_count hn, nodup_count (rg_nodup n)]
  by_cases c : a ∈ s
  · rw [if_pos c, if_pos (hb a c)]
  · rw [if_neg c]
    by_cases d : a ∈ rg n
    · exfalso
      have := nodup_len (l := a :: s) (m := rg n) (List.nodup_cons.mpr ⟨c, hn⟩) fun x hx => by
        rcases List.mem_cons.mp hx with rfl | hx
        · exact d
        · exact hb x hx
      rw [List.length_cons, rg_len] at this
      omega
    · rw [if_neg d]
theorem all_ord {n : Nat} {r : List Int} (h : r ∈ allK n n) : IsOrd n r := by
  obtain ⟨h1, h2, h3⟩ := allK_row n r h
  exact nodup_ord h1 h2 h3
theorem inV_int (t : Int) : ∀ row : List Int, inV (.int t) (row.map V.int) = decide (t ∈ row)
  | [] => rfl
  | a :: r => by
    have ih := inV_int t r
    unfold inV at ih ⊢
    rw [List.map_cons, List.any_cons, ih, eqV_int]
    by_cases c : a = t
    · subst c
      simp
    · have c2 : ¬ t = a := fun e => c e.symm
      simp [c, c2]
theorem ext_more {n : Nat} {o : List Int} (j : Nat) : ((rg (j + 1)).filter fun t => !decide (t ∈ o)).map (fun t => o ++ [t]) = (((rg j).filter fun t => !decide (t ∈ o)).map fun t => o ++ [t]) ++ (if (j : Int) ∈ o then [] else [o ++ [(j : Int)]]) := by
  rw [rg_succ, List.filter_append, List.map_append, List.filter_cons]
  congr 1
  by_cases c : (j : Int) ∈ o
  · rw [decide_eq_true c, if_pos c]
    rfl
  · rw [decide_eq_false c, if_neg c]
    rfl
/-! ### comprehensions with two fors: a list, then a range -/
theorem lc2_list {K : PySem.W.Frag} {a : Addr} {xs : List V} {g : TG} {tt : TT} {wi1 : TI} {g1 : TG} {tt1 : TT} {te : TE} {vs vs1 : List Nat} {σ : L2.St} {H1 : Hp} {D : Addr} {Qd : Hp → Prop} (Pv : Nat → Hp → Prop) (h0 : Pv 0 (upd H1 D (.lst []))) (hl : ∀ i H, i ≤ xs.length → Pv i H → SqL K H a xs)
    (hs : ∀ i x H, xs[i]? = some x → Pv i H → g x (wipe σ vs) H fun σ2 H2 => wipe σ2 vs = wipe σ vs ∧ tt σ2 H2 fun b H3 =>
      if b = true then wi1 σ2 H3 fun J1 H4 => ∃ W1 : Nat → Nat → Hp → Prop, (∃ m, W1 0 m H4) ∧ ∀ j k H, W1 j k H →
        (J1.stop j H ∧ Pv (i + 1) H) ∨ (J1.go j H ∧ ∃ Nx1 : Hp → Prop, (∀ H', Nx1 H' → ∃ k', k' < k ∧ W1 (j + 1) k' H') ∧ ∀ x H', J1.yld j H x H' → g1 x (wipe σ2 vs1) H' fun σ3 H5 => wipe σ3 vs1 = wipe σ2 vs1 ∧ tt1 σ3 H5 fun b H6 =>
          if b = true then te σ3 H6 fun y H7 => ∃ acc, H7 D = some (.lst acc) ∧ acc.length < sizeLine ∧ Nx1 (upd H7 D (.lst (acc ++ [y]))) else Nx1 H6)
      else Pv (i + 1) H3) (hd : ∀ H, Pv xs.length H → Qd H) :
    ∃ W : Nat → Nat → Hp → Prop, (∃ m, W 0 m (upd H1 D (.lst []))) ∧ ∀ i m H, W i m H →
      ((Itl K a).stop i H ∧ Qd H) ∨ ((Itl K a).go i H ∧ ∃ Nx : Hp → Prop, (∀ H', Nx H' → ∃ m', m' < m ∧ W (i + 1) m' H') ∧ ∀ x H', (Itl K a).yld i H x H' → g x (wipe σ vs) H' fun σ2 H2 => wipe σ2 vs = wipe σ vs ∧ tt σ2 H2 fun b H3 =>
        if b = true then wi1 σ2 H3 fun J1 H4 => ∃ W1 : Nat → Nat → Hp → Prop, (∃ m, W1 0 m H4) ∧ ∀ j k H, W1 j k H →
          (J1.stop j H ∧ Nx H) ∨ (J1.go j H ∧ ∃ Nx1 : Hp → Prop, (∀ H', Nx1 H' → ∃ k', k' < k ∧ W1 (j + 1) k' H') ∧ ∀ x H', J1.yld j H x H' → g1 x (wipe σ2 vs1) H' fun σ3 H5 => wipe σ3 vs1 = wipe σ2 vs1 ∧ tt1 σ3 H5 fun b H6 =>
            if b = true then te σ3 H6 fun y H7 => ∃ acc, H7 D = some (.lst acc) ∧ acc.length < sizeLine ∧ Nx1 (upd H7 D (.lst (acc ++ [y]))) else Nx1 H6)
        else Nx H3) := by
  refine ⟨fun i m H => m = xs.length - i ∧ i ≤ xs.length ∧ Pv i H, ⟨xs.length, by simp, Nat.zero_le _, h0⟩, ?_⟩
  rintro i m H ⟨rfl, hi, p⟩
  have q := hl i H hi p
  by_cases hlt : i < xs.length
  · refine .inr ⟨⟨xs, xs[i], q, by simp [hlt]⟩, Pv (i + 1), fun H' p' => ⟨xs.length - (i + 1), by omega, rfl, hlt, p'⟩, fun x H' y => ?_⟩
    obtain ⟨e, y⟩ := y
    subst e
    exact hs i x _ (y _ q) p
  · have e : i = xs.length := by omega
    subst e
    exact .inl ⟨⟨xs, q, Nat.le_refl _⟩, hd H p⟩
theorem in_range {lo : Int} {n : Nat} {g1 : TG} {tt1 : TT} {te : TE} {vs1 : List Nat} {σ2 : L2.St} {H4 : Hp} {D : Addr} {Nx : Hp → Prop} (Pw : Nat → Hp → Prop) (h0 : Pw 0 H4)
    (hs : ∀ j H, j < n → Pw j H → g1 (.int (lo + j)) (wipe σ2 vs1) H fun σ3 H5 => wipe σ3 vs1 = wipe σ2 vs1 ∧ tt1 σ3 H5 fun b H6 =>
      if b = true then te σ3 H6 fun y H7 => ∃ acc, H7 D = some (.lst acc) ∧ acc.length < sizeLine ∧ Pw (j + 1) (upd H7 D (.lst (acc ++ [y]))) else Pw (j + 1) H6) (hd : ∀ H, Pw n H → Nx H) :
    ∃ W1 : Nat → Nat → Hp → Prop, (∃ m, W1 0 m H4) ∧ ∀ j k H, W1 j k H →
      ((Itr lo n).stop j H ∧ Nx H) ∨ ((Itr lo n).go j H ∧ ∃ Nx1 : Hp → Prop, (∀ H', Nx1 H' → ∃ k', k' < k ∧ W1 (j + 1) k' H') ∧ ∀ x H', (Itr lo n).yld j H x H' → g1 x (wipe σ2 vs1) H' fun σ3 H5 => wipe σ3 vs1 = wipe σ2 vs1 ∧ tt1 σ3 H5 fun b H6 =>
        if b = true then te σ3 H6 fun y H7 => ∃ acc, H7 D = some (.lst acc) ∧ acc.length < sizeLine ∧ Nx1 (upd H7 D (.lst (acc ++ [y]))) else Nx1 H6) := by
  refine ⟨fun j m H => m = n - j ∧ j ≤ n ∧ Pw j H, ⟨n, by simp, Nat.zero_le _, h0⟩, ?_⟩
  rintro j m H ⟨rfl, hi, p⟩
  by_cases hlt : j < n
  · refine .inr ⟨hlt, Pw (j + 1), fun H' p' => ⟨n - (j + 1), by omega, rfl, hlt, p'⟩, fun x H' y => ?_⟩
    obtain ⟨e, y⟩ := y
    subst e y
    exact hs j _ hlt p
  · have e : j = n := by omega
    subst e
    exact .inl ⟨Nat.le_refl _, hd H p⟩
end Fo
namespace Fo
open PySem PySem.Spec PyProof.Rows L2
def spWhole : Sp := fun vs H Q _ => ∃ i : Int, vs = [.int i] ∧ Q (.bl true) H
section
variable {P : Program} {w : World} {K : PySem.W.Frag} {mg : Str → Option Value} {base : Heap}
theorem scWhole : FnScope ["thing"] ["thing"] (defScope s_is_whole) := ⟨rfl, rfl, rfl, by decide +kernel, rfl, by decide +kernel, by decide +kernel⟩
theorem ok_whole {f : Addr} {fd : FuncData} {k : Nat} (T : Df K mg "is_whole" s_is_whole ["thing"] f fd) (B : Bi mg) : FnOk P w K mg base CX0 (k + 1) f fd ["thing"] spWhole := by
  refine T.F.ok scWhole (fun vs H Q E h => ?_) (fun cdv A outer s H vs Q E hr h => ?_)
  · obtain ⟨i, rfl, _⟩ := h
    rfl
  · obtain ⟨i, rfl, q⟩ := h
    refine ⟨_, pss_one (ps_ret (pe_and (pe_callB call_isi (by rfl) B.isinstance (by decide +kernel) (pa_cons (pv 0) (pa_cons (pe_bltn (v := .ty "int") (by rfl) B.int (by decide +kernel) rfl) pa_nil)))
      (pe_one (pe_not (pe_callB call_isi (by rfl) B.isinstance (by decide +kernel) (pa_cons (pv 0) (pa_cons (pe_bltn (v := .ty "bool") (by rfl) B.bool (by decide +kernel) rfl) pa_nil))))))), ?_⟩
    refine ⟨_, rfl, _, _, _, _, true, rfl, .ty _, .base (.int _), kit_ty (by decide +kernel), true, rfl, iteT ?_⟩
    exact ⟨_, rfl, _, _, _, _, false, rfl, .ty _, .base (.int _), kit_ty (by decide +kernel), false, rfl, q⟩
end
end Fo
namespace Fo
open PySem PySem.Spec PyProof.Rows L2
/-! ### whole numbers, orders -/
def spIsOrd : Sp := fun vs H Q _ => ∃ (a : Addr) (n : Nat) (ns : List Int), vs = [.ref a] ∧ H a = some (.lst (ns.map V.int)) ∧ IsOrd n ns ∧ 1 ≤ n ∧ n ≤ 12 ∧ ∀ H', Same H H' → Q (.bl true) H'
def spCheck : Sp := fun vs H Q _ => ∃ (a : Addr) (n : Nat) (ns : List Int), vs = [.ref a] ∧ H a = some (.lst (ns.map V.int)) ∧ IsOrd n ns ∧ 1 ≤ n ∧ n ≤ 12 ∧ ∀ H', Same H H' → Q .non H'
section
variable {P : Program} {w : World} {K : PySem.W.Frag} {mg : Str → Option Value} {base : Heap}
theorem scIsOrd : FnScope ["thing", "number"] ["thing"] (defScope s_is_order) := ⟨rfl, rfl, rfl, by decide +kernel, rfl, by decide +kernel, by decide +kernel⟩
theorem all_true (n : Nat) : (List.replicate n true).all id = true := by simp
set_option maxHeartbeats 2000000 in
theorem ok_is_order {f fW : Addr} {fd fdW : FuncData} {k : Nat} {t : Tok} (T : Df K mg "is_order" s_is_order ["thing"] f fd) (TW : Df K mg "is_whole" s_is_whole ["thing"] fW fdW) (B : Bi mg) (mM : mg "MOST_THINGS" = some (.int 12 t)) : FnOk P w K mg base CX0 (k + 2) f fd ["thing"] spIsOrd := by
  have GW : FnOk P w K mg base CX0 (k + 1) fW fdW ["thing"] spWhole := ok_whole TW B
  refine T.F.ok scIsOrd (fun vs H Q E h => ?_) (fun cdv A outer s H vs Q E hr h => ?_)
  · obtain ⟨a, n, ns, rfl, _⟩ := h
    rfl
  · obtain ⟨a, n, ns, rfl, hl, ho, hn1, hn2, q⟩ := h
    have hlm : (ns.map V.int).length = n := by rw [List.length_map, ho.len]
    refine ⟨_, pss_cons (ps_if (PW.pt (pw_or (pt_not (pt_val (pe_callB call_isi (by rfl) B.isinstance (by decide +kernel) (pa_cons (pv 0) (pa_cons (pe_bltn (v := .ty "list") (by rfl) B.list (by decide +kernel) rfl) pa_nil)))))
        (pw_or (pt_cmpR op_lt (pe_callB call_len_seq (by rfl) B.len PySem.boot_len (pa_cons (pv 0) pa_nil)) pe_int (nomark _)) (pw_or1 (pt_cmpR op_gt (pe_callB call_len_seq (by rfl) B.len PySem.boot_len (pa_cons (pv 0) pa_nil)) (pe_glob (v := .int 12) (by rfl) mM ⟨_, rfl⟩) (nomark _))))))
        (pss_one (ps_ret pe_bl)) pss_nil)
      (pss_cons (ps_if (pt_not (pt_val (pe_callB (cr_all rfl) (by rfl) B.all (by decide +kernel) (pa_cons (pe_lc (own := [("number", 1)]) (g := gName 1) (tt := tYes) (te := tCall spWhole [] E0 (tCons (tVar 1) tNil)) rfl scIsOrd.nd (pi_list (pv 0)) (blkOk_by (N := ["thing", "number"]) (sc := defScope s_is_order) (by decide +kernel)) (fun _ _ _ _ _ => pg_name (i := 1) scIsOrd.nd rfl (.inl rfl)) (fun _ _ _ _ _ => pts_nil)
          (fun _ _ _ _ _ => pe_call GW hr (by rfl) TW.g TW.F.kp TW.b .nil pass0 (pa_cons (pv 1) pa_nil))) pa_nil)))) (pss_one (ps_ret pe_bl)) pss_nil)
      (pss_one (ps_ret (pe_cmpR (op_eqD hr.units) (pe_callB cr_sorted (by rfl) B.sorted (by decide +kernel) (pa_cons (pv 0) pa_nil)) (pe_listRg rfl (by rfl) B.list (prg_1 (by rfl) B.range (pe_callB call_len_seq (by rfl) B.len PySem.boot_len (pa_cons (pv 0) pa_nil)))) (nomark _))))), ?_⟩
    refine ⟨_, rfl, _, _, _, _, true, rfl, .ty _, .base (.lst hl), kit_ty (by decide +kernel), true, rfl, iteF ?_⟩
    refine ⟨_, rfl, a, _, rfl, .inl (SqL.of hl), _, 1, rfl, rfl, _, rfl, ite2 (fun c => absurd (of_decide_eq_true c) (by rw [hlm]; omega)) (fun _ => ?_)⟩
    refine ⟨_, rfl, a, _, rfl, .inl (SqL.of hl), _, 12, rfl, rfl, _, rfl, ite2 (fun c => absurd (of_decide_eq_true c) (by rw [hlm]; omega)) (fun _ => ?_)⟩
    refine ⟨_, rfl, a, rfl, ⟨_, SqL.of hl⟩, fun p np => ?_⟩
    refine lc_list (K := K) (a := a) (xs := ns.map V.int) (fun i H3 => H3 p = some (.lst ((List.replicate i true).map V.bl)) ∧ Same H H3) ⟨upd_same, same_new np⟩ (fun i H3 _ hP => SqL.of (hP.2 _ _ hl)) (fun i x H3 hx hP => ?_) (fun H3 hP => ?_)
    · obtain ⟨y, ey, rfl⟩ := int_at_inv hx
      obtain ⟨hp3, sm⟩ := hP
      refine ⟨rfl, _, rfl, y, rfl, _, hp3, line_lt (by
        rw [List.length_map, List.length_replicate]
        have := (List.getElem?_eq_some_iff.mp hx).1
        omega), ?_, fun b o e => ?_⟩
      · rw [upd_same, List.replicate_succ', List.map_append]
        rfl
      · rw [upd_ne (ne_of_none e np)]
        exact sm _ _ e
    · obtain ⟨hp3, sm⟩ := hP
      have hl3 := sm _ _ hl
      refine ⟨p, _, rfl, SqL.of hp3, _, rfl, ?_⟩
      rw [all_true]
      refine iteF ?_
      refine ⟨_, rfl, a, ns, rfl, SqL.of hl3, by rw [ho.len]; omega, fun ns' s1 hperm hsrt ns1 => ?_⟩
      have hl4 := same_new (o := .lst (ns'.map V.int)) ns1 _ _ hl3
      refine ⟨_, rfl, a, _, rfl, .inl (SqL.of hl4), _, rfl, RgOk.of_le (by omega) (by rw [hlm]; omega) (by omega) (by omega), fun s2 ns2 => ?_⟩
      have e1 : ns' = rg n := sorted_eq (hperm.trans ho) hsrt (rg_sorted n)
      subst e1
      rw [hlm]
      have h1 : (upd (upd H3 s1 (.lst ((rg n).map V.int))) s2 (.lst (rgV 0 (n : Int)))) s1 = some (.lst ((rg n).map V.int)) := same_new ns2 _ _ upd_same
      have h2 : (upd (upd H3 s1 (.lst ((rg n).map V.int))) s2 (.lst (rgV 0 (n : Int)))) s2 = some (.lst ((rg n).map V.int)) := by rw [upd_same, rg_V]
      refine ⟨_, _, dp_list h1, dp_list h2, shaped_list _, shaped_list _, ?_⟩
      rw [eqv_list]
      exact q _ ((sm.trans (same_new ns1)).trans (same_new ns2))
theorem scCheck : FnScope ["thing"] ["thing"] (defScope s_check_order) := ⟨rfl, rfl, rfl, by decide +kernel, rfl, by decide +kernel, by decide +kernel⟩
theorem ok_check {f fO fW : Addr} {fd fdO fdW : FuncData} {k : Nat} {t : Tok} (T : Df K mg "check_order" s_check_order ["thing"] f fd) (TO : Df K mg "is_order" s_is_order ["thing"] fO fdO) (TW : Df K mg "is_whole" s_is_whole ["thing"] fW fdW) (B : Bi mg) (mM : mg "MOST_THINGS" = some (.int 12 t)) : FnOk P w K mg base CX0 (k + 3) f fd ["thing"] spCheck := by
  have GO : FnOk P w K mg base CX0 (k + 2) fO fdO ["thing"] spIsOrd := ok_is_order TO TW B mM
  refine T.F.ok scCheck (fun vs H Q E h => ?_) (fun cdv A outer s H vs Q E hr h => ?_)
  · obtain ⟨a, n, ns, rfl, _⟩ := h
    rfl
  · obtain ⟨a, n, ns, rfl, hl, ho, hn1, hn2, q⟩ := h
    refine ⟨_, pss_one (ps_if (pt_not (pt_val (pe_call GO hr (by rfl) TO.g TO.F.kp TO.b .nil pass0 (pa_cons (pv 0) pa_nil)))) (pss_one ps_never) pss_nil), ?_⟩
    exact ⟨_, rfl, a, n, ns, rfl, hl, ho, hn1, hn2, fun H' sm => ⟨_, rfl, iteF (q H' sm)⟩⟩
end
end Fo
namespace Fo
open PySem PySem.Spec PyProof.Rows L2
def IsWay (w : Str) : Prop := w = "swap" ∨ w = "spot" ∨ w = "shift"
theorem n1 : ¬ (("spot" : Str) = "swap") := by decide +kernel
theorem n2 : ¬ (("shift" : Str) = "swap") := by decide +kernel
theorem n3 : ¬ (("shift" : Str) = "spot") := by decide +kernel
/-- the ways as the top has written them -/
structure Wy (K : PySem.W.Frag) (mg : Str → Option Value) (aW : Addr) : Prop where
  g : mg "WAYS" = some (.ref aW)
  t : ∀ H : Hp, SqT K H aW [.str "swap", .str "spot", .str "shift"]
theorem wy_mk {K : PySem.W.Frag} {mg : Str → Option Value} {aW : Addr} {dd : Option Addr} {n : Nat} {t1 t2 t3 : Tok} {sl : Array (Option Value)} (g : mg "WAYS" = some (.ref aW)) (l : K.lookup aW = some ⟨.type "tuple", dd, .seq #[.str "swap" t1, .str "spot" t2, .str "shift" t3] n, sl⟩) : Wy K mg aW :=
  ⟨g, fun H => .inr ⟨_, _, _, l, rfl, rfl, line_small (by show 3 ≤ 16777216; decide), .cons ⟨_, rfl⟩ (.cons ⟨_, rfl⟩ (.cons ⟨_, rfl⟩ .nil))⟩⟩
def spWay : Sp := fun vs H Q _ => ∃ (w : Str), vs = [.str w] ∧ IsWay w ∧ Q .non H
section
variable {P : Program} {w : World} {K : PySem.W.Frag} {mg : Str → Option Value} {base : Heap}
theorem scWay : FnScope ["thing"] ["thing"] (defScope s_check_way) := ⟨rfl, rfl, rfl, by decide +kernel, rfl, by decide +kernel, by decide +kernel⟩
theorem ok_way {f aW : Addr} {fd : FuncData} {k : Nat} (T : Df K mg "check_way" s_check_way ["thing"] f fd) (W : Wy K mg aW) (B : Bi mg) : FnOk P w K mg base CX0 (k + 1) f fd ["thing"] spWay := by
  refine T.F.ok scWay (fun vs H Q E h => ?_) (fun cdv A outer s H vs Q E hr h => ?_)
  · obtain ⟨z, rfl, _⟩ := h
    rfl
  · obtain ⟨z, rfl, hz, q⟩ := h
    refine ⟨_, 
      (pss_one (ps_if (PW.pt (pw_or (pt_not (pt_val (pe_callB call_isi (by rfl) B.isinstance (by decide +kernel) (pa_cons (pv 0) (pa_cons (pe_bltn (v := .ty "str") (by rfl) B.str (by decide +kernel) rfl) pa_nil))))) (pw_or1 (pt_cmpR op_notIn_seq (pv 0) (pe_glob (v := .ref aW) (by rfl) W.g rfl) (by rfl)))))
        (pss_one ps_never)
        pss_nil)), ?_⟩
    refine ⟨_, rfl, _, _, _, _, true, rfl, .ty _, .base (.str _), kit_ty (by decide +kernel), true, rfl, iteF ?_⟩
    rcases hz with rfl | rfl | rfl
    · exact ⟨_, rfl, aW, _, rfl, .inr (W.t H), rfl, rfl, _, rfl, ite2 (fun c => absurd c (by decide +kernel)) (fun _ => q)⟩
    · exact ⟨_, rfl, aW, _, rfl, .inr (W.t H), rfl, rfl, _, rfl, ite2 (fun c => absurd c (by decide +kernel)) (fun _ => q)⟩
    · exact ⟨_, rfl, aW, _, rfl, .inr (W.t H), rfl, rfl, _, rfl, ite2 (fun c => absurd c (by decide +kernel)) (fun _ => q)⟩
end
end Fo
namespace Fo
open PySem PySem.Spec PyProof.Rows L2
def spFrom : Sp := fun vs H Q _ => ∃ (r least : Int), vs = [.int r, .int least] ∧ least ≤ r ∧ Q .non H
section
variable {P : Program} {w : World} {K : PySem.W.Frag} {mg : Str → Option Value} {base : Heap}
theorem scFrom : FnScope ["thing", "least"] ["thing", "least"] (defScope s_check_from) := ⟨rfl, rfl, rfl, by decide +kernel, rfl, by decide +kernel, by decide +kernel⟩
theorem ok_from {f fW : Addr} {fd fdW : FuncData} {k : Nat} (T : Df K mg "check_from" s_check_from ["thing", "least"] f fd) (T_is_whole : Df K mg "is_whole" s_is_whole ["thing"] fW fdW) (B : Bi mg) : FnOk P w K mg base CX0 (k + 2) f fd ["thing", "least"] spFrom := by
  have G_is_whole : FnOk P w K mg base CX0 (k + 1) fW fdW ["thing"] spWhole := ok_whole T_is_whole B
  refine T.F.ok scFrom (fun vs H Q E h => ?_) (fun cdv A outer s H vs Q E hr h => ?_)
  · obtain ⟨r, least, rfl, _⟩ := h
    rfl
  · obtain ⟨r, least, rfl, hle, q⟩ := h
    refine ⟨_, 
      (pss_one (ps_if (PW.pt (pw_or (pt_not (pt_val (pe_call G_is_whole hr (by rfl) T_is_whole.g T_is_whole.F.kp T_is_whole.b .nil pass0 (pa_cons (pv 0) pa_nil)))) (pw_or1 (pt_cmpR op_lt (pv 0) (pv 1) (nomark _)))))
        (pss_one ps_never)
        pss_nil)), ?_⟩
    refine ⟨_, rfl, r, rfl, _, rfl, iteF ?_⟩
    exact ⟨_, rfl, _, rfl, r, least, rfl, rfl, _, rfl, ite2 (fun z => absurd (of_decide_eq_true z) (by omega)) (fun _ => q)⟩
end
end Fo
namespace Fo
open PySem PySem.Spec PyProof.Rows L2
def spSize : Sp := fun vs H Q _ => ∃ (n most : Int), vs = [.int n, .int most] ∧ 1 ≤ n ∧ n ≤ most ∧ Q .non H
section
variable {P : Program} {w : World} {K : PySem.W.Frag} {mg : Str → Option Value} {base : Heap}
theorem scSize : FnScope ["thing", "most"] ["thing", "most"] (defScope s_check_size) := ⟨rfl, rfl, rfl, by decide +kernel, rfl, by decide +kernel, by decide +kernel⟩
theorem ok_size {f fW : Addr} {fd fdW : FuncData} {k : Nat} (T : Df K mg "check_size" s_check_size ["thing", "most"] f fd) (T_is_whole : Df K mg "is_whole" s_is_whole ["thing"] fW fdW) (B : Bi mg) : FnOk P w K mg base CX0 (k + 2) f fd ["thing", "most"] spSize := by
  have G_is_whole : FnOk P w K mg base CX0 (k + 1) fW fdW ["thing"] spWhole := ok_whole T_is_whole B
  refine T.F.ok scSize (fun vs H Q E h => ?_) (fun cdv A outer s H vs Q E hr h => ?_)
  · obtain ⟨n, most, rfl, _⟩ := h
    rfl
  · obtain ⟨n, most, rfl, h1, h2, q⟩ := h
    refine ⟨_, 
      (pss_one (ps_if (PW.pt (pw_or (pt_not (pt_val (pe_call G_is_whole hr (by rfl) T_is_whole.g T_is_whole.F.kp T_is_whole.b .nil pass0 (pa_cons (pv 0) pa_nil)))) (pw_or (pt_cmpR op_lt (pv 0) pe_int (nomark _)) (pw_or1 (pt_cmpR op_gt (pv 0) (pv 1) (nomark _))))))
        (pss_one ps_never)
        pss_nil)), ?_⟩
    refine ⟨_, rfl, n, rfl, _, rfl, iteF ?_⟩
    refine ⟨_, rfl, n, 1, rfl, rfl, _, rfl, ite2 (fun z => absurd (of_decide_eq_true z) (by omega)) (fun _ => ?_)⟩
    exact ⟨_, rfl, _, rfl, n, most, rfl, rfl, _, rfl, ite2 (fun z => absurd (of_decide_eq_true z) (by omega)) (fun _ => q)⟩
end
end Fo
namespace Fo
open PySem PySem.Spec PyProof.Rows L2
def spApart : Sp := fun vs H Q _ => ∃ (w : Str) (n most d : Int), vs = [.str w, .int n, .int most, .int d] ∧ IsWay w ∧ 1 ≤ n ∧ n ≤ most ∧ 1 ≤ d ∧ Q .non H
section
variable {P : Program} {w : World} {K : PySem.W.Frag} {mg : Str → Option Value} {base : Heap}
theorem scApart : FnScope ["way", "n", "most", "d"] ["way", "n", "most", "d"] (defScope s_check_apart) := ⟨rfl, rfl, rfl, by decide +kernel, rfl, by decide +kernel, by decide +kernel⟩
theorem ok_apart {f f1 f2 f3 fW aW : Addr} {fd d1 d2 d3 dW : FuncData} {k : Nat} (T : Df K mg "check_apart" s_check_apart ["way", "n", "most", "d"] f fd) (T_check_way : Df K mg "check_way" s_check_way ["thing"] f1 d1) (T_check_size : Df K mg "check_size" s_check_size ["thing", "most"] f2 d2) (T_check_from : Df K mg "check_from" s_check_from ["thing", "least"] f3 d3) (T_is_whole : Df K mg "is_whole" s_is_whole ["thing"] fW dW) (W : Wy K mg aW) (B : Bi mg) : FnOk P w K mg base CX0 (k + 3) f fd ["way", "n", "most", "d"] spApart := by
  have G_check_way : FnOk P w K mg base CX0 (k + 2) f1 d1 ["thing"] spWay := ok_way (k := k + 1) T_check_way W B
  have G_check_size : FnOk P w K mg base CX0 (k + 2) f2 d2 ["thing", "most"] spSize := ok_size T_check_size T_is_whole B
  have G_check_from : FnOk P w K mg base CX0 (k + 2) f3 d3 ["thing", "least"] spFrom := ok_from T_check_from T_is_whole B
  refine T.F.ok scApart (fun vs H Q E h => ?_) (fun cdv A outer s H vs Q E hr h => ?_)
  · obtain ⟨w, n, most, d, rfl, _⟩ := h
    rfl
  · obtain ⟨w, n, most, d, rfl, hw, h1, h2, h3, q⟩ := h
    refine ⟨_, 
      (pss_cons (ps_expr (pe_call G_check_way hr (by rfl) T_check_way.g T_check_way.F.kp T_check_way.b .nil pass0 (pa_cons (pv 0) pa_nil)))
      (pss_cons (ps_expr (pe_call G_check_size hr (by rfl) T_check_size.g T_check_size.F.kp T_check_size.b .nil pass0 (pa_cons (pv 1) (pa_cons (pv 2) pa_nil))))
      (pss_one (ps_expr (pe_call G_check_from hr (by rfl) T_check_from.g T_check_from.F.kp T_check_from.b .nil pass0 (pa_cons (pv 3) (pa_cons pe_int pa_nil))))))), ?_⟩
    exact ⟨_, rfl, w, rfl, hw, _, rfl, _, rfl, n, most, rfl, h1, h2, _, rfl, d, 1, rfl, h3, q⟩
end
end Fo
namespace Fo
open PySem PySem.Spec PyProof.Rows L2
def farW (w : Str) (xs ys : List Int) : Int := if w = "swap" then farSwap xs ys else if w = "spot" then farSpot xs ys else farShift xs ys
theorem farW_swap (xs ys : List Int) : farW "swap" xs ys = farSwap xs ys := if_pos rfl
theorem farW_spot (xs ys : List Int) : farW "spot" xs ys = farSpot xs ys := by
  unfold farW
  rw [if_neg n1, if_pos rfl]
theorem farW_shift (xs ys : List Int) : farW "shift" xs ys = farShift xs ys := by
  unfold farW
  rw [if_neg n2, if_neg n3]
theorem farW_turn {w : Str} {n : Nat} {xs ys : List Int} (ox : IsOrd n xs) (oy : IsOrd n ys) (hn : 1 ≤ n) : farW w ys xs = farW w xs ys := by
  unfold farW
  rw [farSwap_turn ox oy, farSpot_turn (by rw [ox.len, oy.len]), farShift_turn ox oy hn]
theorem farW_self {w : Str} {n : Nat} {xs : List Int} (ox : IsOrd n xs) (hn : 1 ≤ n) : farW w xs xs = 0 := by
  unfold farW
  rw [farSwap_self ox, farSpot_self, farShift_self ox hn]
  split
  · rfl
  · split <;> rfl
abbrev rAbs : List V → Hp → VK → Prop := fun xs H Q => ∃ i, xs = [.int i] ∧ Q (.int (if i < 0 then -i else i)) H
def spFar : Sp := fun vs H Q _ => ∃ (w : Str) (a b : Addr) (n : Nat) (xs ys : List Int), vs = [.str w, .ref a, .ref b] ∧ IsWay w ∧ H a = some (.lst (xs.map V.int)) ∧ H b = some (.lst (ys.map V.int)) ∧ IsOrd n xs ∧ IsOrd n ys ∧ 1 ≤ n ∧ n ≤ 12 ∧ ∀ (H' : Hp), Same H H' → Q (.int (farW w xs ys)) H'
end Fo
namespace Fo
open PySem PySem.Spec PyProof.Rows L2
def two (vs : List V) (H : Hp) (a b : Addr) (n : Nat) (xs ys : List Int) : Prop := vs = [.ref a, .ref b] ∧ H a = some (.lst (xs.map V.int)) ∧ H b = some (.lst (ys.map V.int)) ∧ IsOrd n xs ∧ IsOrd n ys ∧ 1 ≤ n ∧ n ≤ 12
end Fo
namespace Fo
open PySem PySem.Spec PyProof.Rows L2
def spPlaces : Sp := fun vs H Q _ => ∃ (a : Addr) (n : Nat) (ns : List Int), vs = [.ref a] ∧ H a = some (.lst (ns.map V.int)) ∧ IsOrd n ns ∧ 1 ≤ n ∧ n ≤ 12 ∧
  ∀ (ps : List Int) (l : Addr) (H' : Hp), IsBack ns ps → H l = none → H' l = some (.lst (ps.map V.int)) → Same H H' → Q (.ref l) H'
section
variable {P : Program} {w : World} {K : PySem.W.Frag} {mg : Str → Option Value} {base : Heap}
theorem scPlaces : FnScope ["order", "places", "place", "thing"] ["order"] (defScope s_places_in) := ⟨rfl, rfl, rfl, by decide +kernel, rfl, by decide +kernel, by decide +kernel⟩
set_option maxHeartbeats 2000000 in
theorem ok_places {f : Addr} {fd : FuncData} {k : Nat} (T : Df K mg "places_in" s_places_in ["order"] f fd) (B : Bi mg) : FnOk P w K mg base CX0 (k + 1) f fd ["order"] spPlaces := by
  refine T.F.ok scPlaces (fun vs H Q E h => ?_) (fun cdv A outer s H vs Q E hr h => ?_)
  · obtain ⟨a, n, ns, rfl, _⟩ := h
    rfl
  · obtain ⟨a, n, ns, rfl, ha, ho, hn1, hn2, q⟩ := h
    have hlm : (ns.map V.int).length = n := by rw [List.length_map, ho.len]
    have hz : ∀ m : Nat, (List.replicate m [V.int 0]).flatten = (List.replicate m (0 : Int)).map V.int := by
      intro m
      induction m with
      | zero => rfl
      | succ m ih => rw [List.replicate_succ, List.replicate_succ, List.flatten_cons, ih]; rfl
    refine ⟨_, 
      (pss_cons (ps_set (i := 1) scPlaces.nd rfl (.inl rfl) (pe_op op_rep (pe_lst (pa_cons pe_int pa_nil)) (pe_callB call_len_seq (by rfl) B.len PySem.boot_len (pa_cons (pv 0) pa_nil))))
      (pss_cons (ps_for PassesOwn.never rfl (pi_enum (by rfl) B.enumerate (pa_cons (pv 0) pa_nil)) (pg_tup (by rfl) (pgs_cons (pg_name (i := 2) scPlaces.nd rfl (.inl rfl)) (pgs_cons (pg_name (i := 3) scPlaces.nd rfl (.inl rfl)) pgs_nil)))
        (pss_one (ps_asg (pv 2) (pg_sub (pv 1) (pv 3) set_list))))
      (pss_one (ps_ret (pv 1))))), ?_⟩
    refine ⟨line_small (by show 1 ≤ 16777216; decide), fun z nz => ?_⟩
    have s1 := same_new (o := .lst [.int 0]) nz
    refine ⟨_, rfl, a, _, rfl, .inl (SqL.of (s1 _ _ ha)), z, _, _, rfl, rfl, upd_same, by omega, by rw [hlm]; omega, line_small (by rw [hlm, Int.toNat_natCast]; show 1 * n ≤ _; omega), fun l nl => ?_⟩
    have s2 := s1.trans (same_new (o := .lst (List.replicate (((ns.map V.int).length : Nat) : Int).toNat [V.int 0]).flatten) nl)
    have nHl : H l = none := s1.free nl
    refine ⟨_, rfl, a, _, rfl, SqL.of (s2 _ _ ha), ?_⟩
    refine for_enumL (xs := ns.map V.int) (fun i σ H3 => ∃ (y2 y3 : Option V) (ps : List Int), σ = [some (.ref a), some (.ref l), y2, y3] ∧ H3 l = some (.lst (ps.map V.int)) ∧ ps.length = n ∧ (∀ (j : Nat) (x : Int), j < i → ns[j]? = some x → ps[x.toNat]? = some (j : Int)) ∧ Same H H3)
      ⟨none, none, List.replicate n 0, rfl, by rw [upd_same, hz, hlm, Int.toNat_natCast], by rw [List.length_replicate], fun j x hj => absurd hj (Nat.not_lt_zero _), s2⟩ (fun i σ H3 hP => by obtain ⟨_, _, _, _, _, _, _, sm⟩ := hP; exact SqL.of (sm _ _ ha)) (fun i x t σ H3 hx hP nt => ?_) (fun σ H3 hP => ?_)
    · obtain ⟨y2, y3, ps, rfl, hl3, el, hat, sm⟩ := hP
      obtain ⟨y, ey, rfl⟩ := int_at_inv hx
      have hy := ho.mem (List.mem_of_getElem? ey)
      have s3 := same_new (o := .tup [.int (i : Nat), .int y]) nt
      have hl4 := s3 _ _ hl3
      refine ⟨t, _, rfl, .inl (.inl upd_same), rfl, _, _, rfl, _, _, rfl, rfl, ?_⟩
      refine ⟨_, rfl, _, rfl, _, rfl, l, _, _, y.toNat, rfl, rfl, hl4, ix_n (by omega) (by rw [List.length_map]; omega), ?_⟩
      refine ⟨_, _, ps.set y.toNat (i : Int), rfl, by rw [upd_same, List.map_set], by rw [List.length_set]; exact el, fun j x hj hx2 => ?_, fun c o e => ?_⟩
      · by_cases c : j = i
        · subst c
          have e1 : x = y := Option.some.inj (hx2.symm.trans ey)
          subst e1
          rw [List.getElem?_set_self (by omega)]
        · have hx3 := ho.mem (List.mem_of_getElem? hx2)
          have ne : y.toNat ≠ x.toNat := fun e => c (nd_ix ho.nodup hx2 (by rw [ey]; congr 1; omega))
          rw [List.getElem?_set_ne ne]
          exact hat j x (by omega) hx2
      · rw [upd_ne (ne_of_none e nHl)]
        exact s3 _ _ (sm _ _ e)
    · obtain ⟨y2, y3, ps, rfl, hl3, el, hat, sm⟩ := hP
      rw [hlm] at hat
      refine ⟨_, rfl, q ps l H3 ⟨by rw [el, ho.len], fun j x hx => hat j x ?_ hx⟩ nHl hl3 sm⟩
      have := (List.getElem?_eq_some_iff.mp hx).1
      rw [ho.len] at this
      exact this
end
end Fo
namespace Fo
open PySem PySem.Spec PyProof.Rows L2
theorem g0_getD {s : List Int} {i : Nat} {x : Int} (h : s[i]? = some x) : g0 s i = x := g0_at h
def spSeats : Sp := fun vs H Q _ => ∃ (a b : Addr) (n : Nat) (xs ys : List Int), two vs H a b n xs ys ∧ ∀ (l : Addr) (H' : Hp), H l = none → H' l = some (.lst ((seatsL xs ys).map V.int)) → Same H H' → Q (.ref l) H'
section
variable {P : Program} {w : World} {K : PySem.W.Frag} {mg : Str → Option Value} {base : Heap}
theorem scSeats : FnScope ["one", "other", "places", "thing"] ["one", "other"] (defScope s_seats_in) := ⟨rfl, rfl, rfl, by decide +kernel, rfl, by decide +kernel, by decide +kernel⟩
set_option maxHeartbeats 2000000 in
theorem ok_seats {f fP : Addr} {fd fdP : FuncData} {k : Nat} (T : Df K mg "seats_in" s_seats_in ["one", "other"] f fd) (T_places_in : Df K mg "places_in" s_places_in ["order"] fP fdP) (B : Bi mg) : FnOk P w K mg base CX0 (k + 2) f fd ["one", "other"] spSeats := by
  have G_places_in : FnOk P w K mg base CX0 (k + 1) fP fdP ["order"] spPlaces := ok_places T_places_in B
  refine T.F.ok scSeats (fun vs H Q E h => ?_) (fun cdv A outer s H vs Q E hr h => ?_)
  · obtain ⟨a, b, n, xs, ys, ⟨rfl, _⟩, _⟩ := h
    rfl
  · obtain ⟨a, b, n, xs, ys, ⟨rfl, ha, hb, ox, oy, hn1, hn2⟩, q⟩ := h
    refine ⟨_, 
      (pss_cons (ps_set (i := 2) scSeats.nd rfl (.inr rfl) (pe_call G_places_in hr (by rfl) T_places_in.g T_places_in.F.kp T_places_in.b .nil pass0 (pa_cons (pv 1) pa_nil)))
      (pss_one (ps_ret (pe_lc (own := [("thing", 3)]) (g := (gName 3)) (tt := tYes) (te := (tOp (rIxL K) (tVar 2) (tVar 3))) rfl scSeats.nd (pi_list (pv 0)) (blkOk_by (N := ["one", "other", "places", "thing"]) (sc := defScope s_seats_in) (by decide +kernel)) (fun _ _ _ _ _ => (pg_name (i := 3) scSeats.nd rfl (.inl rfl))) (fun _ _ _ _ _ => pts_nil) (fun _ _ _ _ _ => (pe_ix ix_list (pv 2) (pv 3) (fun _ _ => rfl))))))), ?_⟩
    refine ⟨_, rfl, b, n, ys, rfl, hb, oy, hn1, hn2, fun ps l H1 hps nl hl s1 => ?_⟩
    refine ⟨_, rfl, a, rfl, ⟨_, SqL.of (s1 _ _ ha)⟩, fun D nD => ?_⟩
    have nHD : H D = none := s1.free nD
    refine lc_list (K := K) (a := a) (xs := xs.map V.int) (fun i H3 => H3 D = some (.lst (((seatsL xs ys).take i).map V.int)) ∧ H3 l = some (.lst (ps.map V.int)) ∧ Same H H3) ⟨upd_same, same_new nD _ _ hl, s1.trans (same_new nD)⟩ (fun i H3 _ hP => SqL.of (hP.2.2 _ _ ha)) (fun i x H3 hx hP => ?_) (fun H3 hP => ?_)
    · obtain ⟨y, ey, rfl⟩ := int_at_inv hx
      obtain ⟨hD3, hl3, sm⟩ := hP
      have hy := ox.mem (List.mem_of_getElem? ey)
      have hi := (List.getElem?_eq_some_iff.mp ey).1
      rw [ox.len] at hi
      refine ⟨rfl, _, rfl, _, rfl, l, _, _, _, rfl, rfl, SqL.of hl3, at_of (j := y.toNat) (by omega) (int_at (back_pos oy hps hy.1 hy.2)), _, hD3, line_lt (by rw [List.length_map, List.length_take]; omega), ?_, ?_, fun c o e => ?_⟩
      · rw [upd_same, take_more (seats_at ey), List.map_append]
        rfl
      · rw [upd_ne (ne_of_none hl nD)]
        exact hl3
      · rw [upd_ne (ne_of_none e nHD)]
        exact sm _ _ e
    · obtain ⟨hD3, hl3, sm⟩ := hP
      rw [List.take_of_length_le (by rw [seats_len, List.length_map]; exact Nat.le_refl _)] at hD3
      exact q D H3 nHD hD3 sm
end
end Fo
namespace Fo
open PySem PySem.Spec PyProof.Rows L2
def spSwap : Sp := fun vs H Q _ => ∃ (a b : Addr) (n : Nat) (xs ys : List Int), two vs H a b n xs ys ∧ ∀ (H' : Hp), Same H H' → Q (.int (farSwap xs ys)) H'
def spSpot : Sp := fun vs H Q _ => ∃ (a b : Addr) (n : Nat) (xs ys : List Int), two vs H a b n xs ys ∧ ∀ (H' : Hp), Same H H' → Q (.int (farSpot xs ys)) H'
def spShift : Sp := fun vs H Q _ => ∃ (a b : Addr) (n : Nat) (xs ys : List Int), two vs H a b n xs ys ∧ ∀ (H' : Hp), Same H H' → Q (.int (farShift xs ys)) H'
section
variable {P : Program} {w : World} {K : PySem.W.Frag} {mg : Str → Option Value} {base : Heap}
theorem scSwap : FnScope ["one", "other", "seats", "turned", "place", "seat", "later"] ["one", "other"] (defScope s_far_by_swap) := ⟨rfl, rfl, rfl, by decide +kernel, rfl, by decide +kernel, by decide +kernel⟩
set_option maxHeartbeats 2000000 in
theorem ok_swap {f fP : Addr} {fd fdP : FuncData} {k : Nat} (T : Df K mg "far_by_swap" s_far_by_swap ["one", "other"] f fd) (T_seats_in : Df K mg "seats_in" s_seats_in ["one", "other"] fP fdP) (G_seats_in : FnOk P w K mg base CX0 k fP fdP ["one", "other"] spSeats) (B : Bi mg) : FnOk P w K mg base CX0 (k + 1) f fd ["one", "other"] spSwap := by
  refine T.F.ok scSwap (fun vs H Q E h => ?_) (fun cdv A outer s H vs Q E hr h => ?_)
  · obtain ⟨a, b, n, xs, ys, ⟨rfl, _⟩, _⟩ := h
    rfl
  · obtain ⟨a, b, n, xs, ys, ⟨rfl, ha, hb, ox, oy, hn1, hn2⟩, q⟩ := h
    refine ⟨_, 
      (pss_cons (ps_set (i := 2) scSwap.nd rfl (.inl rfl) (pe_call G_seats_in hr (by rfl) T_seats_in.g T_seats_in.F.kp T_seats_in.b .nil pass0 (pa_cons (pv 0) (pa_cons (pv 1) pa_nil))))
      (pss_cons (ps_set (i := 3) scSwap.nd rfl (.inl rfl) pe_int)
      (pss_cons (ps_for PassesOwn.never rfl (pi_enum (by rfl) B.enumerate (pa_cons (pv 2) pa_nil)) (pg_tup (by rfl) (pgs_cons (pg_name (i := 4) scSwap.nd rfl (.inl rfl)) (pgs_cons (pg_name (i := 5) scSwap.nd rfl (.inr rfl)) pgs_nil)))
        (pss_one (ps_aug (i := 3) scSwap.nd rfl (.inl rfl) (pe_callB call_len_seq (by rfl) B.len PySem.boot_len (pa_cons (pe_lc (own := [("later", 6)]) (g := (gName 6)) (tt := (tTest (tOp (rI0 fun i j => .bl (decide (i < j))) (tVar 6) (tVar 5)))) (te := (tVar 6)) rfl scSwap.nd (pi_list (pe_slice sl_list (pv 2) (po_some (pe_op op_add (pv 4) pe_int)) po_none)) (blkOk_by (N := ["one", "other", "seats", "turned", "place", "seat", "later"]) (sc := defScope s_far_by_swap) (by decide +kernel)) (fun _ _ _ _ _ => (pg_name (i := 6) scSwap.nd rfl (.inl rfl))) (fun _ _ _ _ _ => (pts_one (pt_cmpR op_lt (pv 6) (pv 5) (nomark _)))) (fun _ _ _ _ _ => (pv 6))) pa_nil)) ip_add)))
      (pss_one (ps_ret (pv 3)))))), ?_⟩
    refine ⟨_, rfl, _, rfl, a, b, n, xs, ys, ⟨rfl, ha, hb, ox, oy, hn1, hn2⟩, fun l H1 nl hl s1 => ?_⟩
    have os := seats_ord ox oy
    refine ⟨_, rfl, l, _, rfl, SqL.of hl, ?_⟩
    refine for_enumL (xs := (seatsL xs ys).map V.int) (fun i σ H3 => ∃ (y4 y5 y6 : Option V), σ = [some (.ref a), some (.ref b), some (.ref l), some (.int ((sumN (rg i) (fun p => cntL (seatsL xs ys) p.toNat) : Nat) : Int)), y4, y5, y6] ∧ H3 l = some (.lst ((seatsL xs ys).map V.int)) ∧ Same H H3)
      ⟨none, none, none, rfl, hl, s1⟩ (fun i σ H3 hP => by obtain ⟨_, _, _, _, hl3, _⟩ := hP; exact SqL.of hl3) (fun i x t σ H3 hx hP nt => ?_) (fun σ H3 hP => ?_)
    · obtain ⟨y4, y5, y6, rfl, hl3, sm⟩ := hP
      obtain ⟨y, ey, rfl⟩ := int_at_inv hx
      have hi := (List.getElem?_eq_some_iff.mp ey).1
      rw [os.len] at hi
      have s3 := same_new (o := .tup [.int (i : Nat), .int y]) nt
      refine ⟨t, _, rfl, .inl (.inl upd_same), rfl, _, _, rfl, _, _, rfl, rfl, ?_⟩
      refine ⟨_, rfl, _, rfl, _, rfl, (i : Int), 1, rfl, rfl, _, rfl, l, _, rfl, SqL.of (s3 _ _ hl3), fun c nc => ?_⟩
      have s4 := s3.trans (same_new (o := .lst (cutV ((seatsL xs ys).map V.int) (some ((i : Int) + 1)) none)) nc)
      have ecut : cutV ((seatsL xs ys).map V.int) (some ((i : Int) + 1)) none = (((seatsL xs ys).drop (i + 1)).map V.int) := by
        rw [cut_ints, show (i : Int) + 1 = ((i + 1 : Nat) : Int) by omega, cutI_tail]
      have hc4 : (upd (upd H3 t (.tup [.int (i : Nat), .int y])) c (.lst (cutV ((seatsL xs ys).map V.int) (some ((i : Int) + 1)) none))) c = some (.lst (((seatsL xs ys).drop (i + 1)).map V.int)) := by rw [upd_same, ecut]
      refine ⟨c, rfl, ⟨_, SqL.of hc4⟩, fun D nD => ?_⟩
      have ncD : c ≠ D := ne_of_none hc4 nD
      refine lc_list (K := K) (a := c) (xs := ((seatsL xs ys).drop (i + 1)).map V.int) (fun m H5 => H5 D = some (.lst (((((seatsL xs ys).drop (i + 1)).take m).filter (fun z => decide (z < g0 (seatsL xs ys) i))).map V.int)) ∧ H5 c = some (.lst (((seatsL xs ys).drop (i + 1)).map V.int)) ∧ Same H3 H5)
        ⟨upd_same, by rw [upd_ne ncD]; exact hc4, s4.trans (same_new nD)⟩ (fun m H5 _ hP => SqL.of hP.2.1) (fun m x H5 hx hP => ?_) (fun H5 hP => ?_)
      · obtain ⟨hD5, hc5, s5⟩ := hP
        obtain ⟨z, ez, rfl⟩ := int_at_inv hx
        have eg : g0 (seatsL xs ys) i = y := g0_at ey
        refine ⟨rfl, _, rfl, _, rfl, z, y, rfl, rfl, _, rfl, ite2 (fun c => ?_) (fun c => ?_)⟩
        · have hz : z < y := of_decide_eq_true c
          refine ⟨_, rfl, _, hD5, line_lt ?_, ?_, by rw [upd_ne ncD]; exact hc5, fun u o e => ?_⟩
          · rw [List.length_map]
            refine Nat.lt_of_le_of_lt (List.length_filter_le _ _) ?_
            rw [List.length_take, List.length_drop, os.len]
            omega
          · rw [upd_same, filter_more _ ez, eg, decide_eq_true hz, if_pos rfl, List.map_append]
            rfl
          · rw [upd_ne (ne_of_none (s4 _ _ e) nD)]
            exact s5 _ _ e
        · refine ⟨?_, hc5, s5⟩
          rw [filter_more _ ez, eg, decide_eq_false (fun hz => c (decide_eq_true hz)), if_neg (by decide), List.append_nil]
          rw [eg] at hD5
          exact hD5
      · obtain ⟨hD5, hc5, s5⟩ := hP
        rw [List.length_map, List.take_length] at hD5
        refine ⟨D, _, rfl, .inl (SqL.of hD5), _, _, rfl, rfl, ?_⟩
        refine ⟨some (.int (i : Int)), some (.int y), y6, ?_, s5 _ _ hl3, sm.trans s5⟩
        rw [rg_succ, sumN_append, sumN_cons, sumN_nil, List.length_map]
        show [some (.ref a), some (.ref b), some (.ref l), some (V.int (((sumN (rg i) (fun p => cntL (seatsL xs ys) p.toNat) : Nat) : Int) + ((cntL (seatsL xs ys) i : Nat) : Int))), some (.int (i : Int)), some (.int y), y6] = _
        rw [Int.toNat_natCast, Int.natCast_add, Nat.add_zero]
    · obtain ⟨y4, y5, y6, rfl, hl3, sm⟩ := hP
      refine ⟨_, rfl, ?_⟩
      have z := q H3 sm
      unfold farSwap invN at z
      rw [List.length_map]
      exact z
theorem scSpot : FnScope ["one", "other", "place"] ["one", "other"] (defScope s_far_by_spot) := ⟨rfl, rfl, rfl, by decide +kernel, rfl, by decide +kernel, by decide +kernel⟩
set_option maxHeartbeats 2000000 in
theorem ok_spot {f : Addr} {fd : FuncData} {k : Nat} (T : Df K mg "far_by_spot" s_far_by_spot ["one", "other"] f fd) (B : Bi mg) : FnOk P w K mg base CX0 (k + 1) f fd ["one", "other"] spSpot := by
  refine T.F.ok scSpot (fun vs H Q E h => ?_) (fun cdv A outer s H vs Q E hr h => ?_)
  · obtain ⟨a, b, n, xs, ys, ⟨rfl, _⟩, _⟩ := h
    rfl
  · obtain ⟨a, b, n, xs, ys, ⟨rfl, ha, hb, ox, oy, hn1, hn2⟩, q⟩ := h
    have hxl : (xs.map V.int).length = n := by rw [List.length_map, ox.len]
    refine ⟨_, 
      (pss_one (ps_ret (pe_callB call_len_seq (by rfl) B.len PySem.boot_len (pa_cons (pe_lc (own := [("place", 2)]) (g := (gName 2)) (tt := (tTest (tOp rNe (tOp (rIxL K) (tVar 0) (tVar 2)) (tOp (rIxL K) (tVar 1) (tVar 2))))) (te := (tVar 2)) rfl scSpot.nd (pi_range1 (by rfl) B.range (pa_cons (pe_callB call_len_seq (by rfl) B.len PySem.boot_len (pa_cons (pv 0) pa_nil)) pa_nil)) (blkOk_by (N := ["one", "other", "place"]) (sc := defScope s_far_by_spot) (by decide +kernel)) (fun _ _ _ _ _ => (pg_name (i := 2) scSpot.nd rfl (.inl rfl))) (fun _ _ _ _ _ => (pts_one (pt_cmpR op_ne (pe_ix ix_list (pv 0) (pv 2) (fun _ _ => rfl)) (pe_ix ix_list (pv 1) (pv 2) (fun _ _ => rfl)) (nomark _)))) (fun _ _ _ _ _ => (pv 2))) pa_nil)))), ?_⟩
    refine ⟨_, rfl, a, _, rfl, .inl (SqL.of ha), _, rfl, by omega, by rw [hxl]; omega, fun D nD => ?_⟩
    rw [hxl, Int.toNat_natCast]
    refine lc_range (lo := 0) (n := n) (fun m H3 => H3 D = some (.lst (((rg m).filter (fun p => !decide (g0 xs p = g0 ys p))).map V.int)) ∧ Same H H3) ⟨upd_same, same_new nD⟩ (fun m H3 hm hP => ?_) (fun H3 hP => ?_)
    · obtain ⟨hD3, sm⟩ := hP
      obtain ⟨x, ex, _⟩ := ord_ix ox hm
      obtain ⟨y, ey, _⟩ := ord_ix oy hm
      have gx : g0 xs (m : Int) = x := g0_at ex
      have gy : g0 ys (m : Int) = y := g0_at ey
      have fm : ((rg (m + 1)).filter fun p => !decide (g0 xs p = g0 ys p)) = ((rg m).filter fun p => !decide (g0 xs p = g0 ys p)) ++ (if x = y then [] else [(m : Int)]) := by
        rw [rg_succ, List.filter_append, List.filter_cons, gx, gy]
        congr 1
        by_cases c : x = y
        · simp [c]
        · simp [c]
      refine ⟨rfl, _, rfl, _, rfl, a, _, _, _, rfl, rfl, SqL.of (sm _ _ ha), at_of (j := m) (by omega) (int_at ex), _, rfl, _, rfl, b, _, _, _, rfl, rfl, SqL.of (sm _ _ hb), at_of (j := m) (by omega) (int_at ey), rfl, _, rfl, ?_⟩
      by_cases c : x = y
      · subst c
        refine iteNS rfl ⟨?_, sm⟩
        rw [fm, if_pos rfl, List.append_nil]
        exact hD3
      · rw [decide_eq_false (fun e => c (V.int.inj e))]
        refine iteT ⟨_, rfl, _, hD3, line_lt ?_, ?_, fun u o e => ?_⟩
        · rw [List.length_map]
          refine Nat.lt_of_le_of_lt (List.length_filter_le _ _) ?_
          rw [rg_len]
          omega
        · rw [upd_same, fm, if_neg c, List.map_append, Int.zero_add]
          rfl
        · rw [upd_ne (ne_of_none e nD)]
          exact sm _ _ e
    · obtain ⟨hD3, sm⟩ := hP
      refine ⟨D, _, rfl, .inl (SqL.of hD3), ?_⟩
      have z := q H3 sm
      unfold farSpot spotL at z
      rw [ox.len] at z
      rw [List.length_map]
      exact z
theorem scShift : FnScope ["one", "other", "place", "seat"] ["one", "other"] (defScope s_far_by_shift) := ⟨rfl, rfl, rfl, by decide +kernel, rfl, by decide +kernel, by decide +kernel⟩
set_option maxHeartbeats 2000000 in
theorem ok_shift {f fP : Addr} {fd fdP : FuncData} {k : Nat} (T : Df K mg "far_by_shift" s_far_by_shift ["one", "other"] f fd) (T_seats_in : Df K mg "seats_in" s_seats_in ["one", "other"] fP fdP) (G_seats_in : FnOk P w K mg base CX0 k fP fdP ["one", "other"] spSeats) (B : Bi mg) : FnOk P w K mg base CX0 (k + 1) f fd ["one", "other"] spShift := by
  refine T.F.ok scShift (fun vs H Q E h => ?_) (fun cdv A outer s H vs Q E hr h => ?_)
  · obtain ⟨a, b, n, xs, ys, ⟨rfl, _⟩, _⟩ := h
    rfl
  · obtain ⟨a, b, n, xs, ys, ⟨rfl, ha, hb, ox, oy, hn1, hn2⟩, q⟩ := h
    refine ⟨_, 
      (pss_one (ps_ret (pe_callB (cr_max rfl) (by rfl) B.max (by decide +kernel) (pa_cons (pe_lc (own := [("place", 2), ("seat", 3)]) (g := (gTup K 2 (gCons (gName 2) (gCons (gName 3) gNil)))) (tt := tYes) (te := (tCB rAbs (tCons (tOp (rI0 fun i j => .int (i - j)) (tVar 2) (tVar 3)) tNil))) rfl scShift.nd (pi_enum (by rfl) B.enumerate (pa_cons (pe_call G_seats_in hr (by rfl) T_seats_in.g T_seats_in.F.kp T_seats_in.b .nil pass0 (pa_cons (pv 0) (pa_cons (pv 1) pa_nil))) pa_nil)) (blkOk_by (N := ["one", "other", "place", "seat"]) (sc := defScope s_far_by_shift) (by decide +kernel)) (fun _ _ _ _ _ => (pg_tup (by rfl) (pgs_cons (pg_name (i := 2) scShift.nd rfl (.inl rfl)) (pgs_cons (pg_name (i := 3) scShift.nd rfl (.inl rfl)) pgs_nil)))) (fun _ _ _ _ _ => pts_nil) (fun _ _ _ _ _ => (pe_callB call_abs (by rfl) B.abs (by decide +kernel) (pa_cons (pe_op op_sub (pv 2) (pv 3)) pa_nil)))) pa_nil)))), ?_⟩
    have os := seats_ord ox oy
    refine ⟨_, rfl, _, rfl, a, b, n, xs, ys, ⟨rfl, ha, hb, ox, oy, hn1, hn2⟩, fun l H1 nl hl s1 => ?_⟩
    refine ⟨l, _, rfl, SqL.of hl, fun D nD => ?_⟩
    have nlD : l ≠ D := ne_of_none hl nD
    have nHD : H D = none := s1.free nD
    refine lc_enumL (K := K) (a := l) (xs := (seatsL xs ys).map V.int) (fun m H3 => H3 D = some (.lst (((gapsL xs ys).take m).map V.int)) ∧ H3 l = some (.lst ((seatsL xs ys).map V.int)) ∧ Same H H3) ⟨upd_same, by rw [upd_ne nlD]; exact hl, s1.trans (same_new nD)⟩ (fun m H3 _ hP => SqL.of hP.2.1) (fun m x t H3 hx hP nt => ?_) (fun H3 hP => ?_)
    · obtain ⟨hD3, hl3, sm⟩ := hP
      obtain ⟨y, ey, rfl⟩ := int_at_inv hx
      have hi := (List.getElem?_eq_some_iff.mp ey).1
      rw [os.len] at hi
      have s3 := same_new (o := .tup [.int (m : Nat), .int y]) nt
      have eg : (gapsL xs ys)[m]? = some (absI ((m : Int) - y)) := by
        unfold gapsL rg
        rw [List.map_map, List.getElem?_map, List.getElem?_range (by rw [ox.len]; exact hi)]
        show some (absI ((m : Int) - g0 (seatsL xs ys) (m : Int))) = _
        rw [g0_at ey]
      refine ⟨t, _, rfl, .inl (.inl upd_same), rfl, _, _, rfl, _, _, rfl, rfl, rfl, ?_⟩
      refine ⟨_, rfl, _, rfl, (m : Int), y, rfl, rfl, _, rfl, _, s3 _ _ hD3, line_lt (by rw [List.length_map, List.length_take, gaps_len, ox.len]; omega), ?_, ?_, fun u o e => ?_⟩
      · rw [upd_same, take_more eg, List.map_append]
        rfl
      · rw [upd_ne nlD]
        exact s3 _ _ hl3
      · rw [upd_ne (ne_of_none e nHD)]
        exact s3 _ _ (sm _ _ e)
    · obtain ⟨hD3, hl3, sm⟩ := hP
      rw [List.take_of_length_le (by rw [gaps_len, List.length_map, seats_len]; exact Nat.le_refl _)] at hD3
      refine ⟨D, gapsL xs ys, rfl, SqL.of hD3, by rw [gaps_len, ox.len]; exact hn1, fun m hm hle => ?_⟩
      have e : farShift xs ys = m := maxL_of (gaps_nonneg xs ys) hm hle
      rw [← e]
      exact q H3 sm
theorem scKnown : FnScope ["way", "one", "other"] ["way", "one", "other"] (defScope s_known_far) := ⟨rfl, rfl, rfl, by decide +kernel, rfl, by decide +kernel, by decide +kernel⟩
theorem ok_known {f f4 f5 f6 : Addr} {fd d4 d5 d6 : FuncData} {k : Nat} (T : Df K mg "known_far" s_known_far ["way", "one", "other"] f fd) (T_far_by_swap : Df K mg "far_by_swap" s_far_by_swap ["one", "other"] f4 d4) (T_far_by_spot : Df K mg "far_by_spot" s_far_by_spot ["one", "other"] f5 d5) (T_far_by_shift : Df K mg "far_by_shift" s_far_by_shift ["one", "other"] f6 d6)
    (G_far_by_swap : FnOk P w K mg base CX0 k f4 d4 ["one", "other"] spSwap) (G_far_by_spot : FnOk P w K mg base CX0 k f5 d5 ["one", "other"] spSpot) (G_far_by_shift : FnOk P w K mg base CX0 k f6 d6 ["one", "other"] spShift) :
    FnOk P w K mg base CX0 (k + 1) f fd ["way", "one", "other"] spFar := by
  refine T.F.ok scKnown (fun vs H Q E h => ?_) (fun cdv A outer s H vs Q E hr h => ?_)
  · obtain ⟨z, a, b, n, xs, ys, rfl, _⟩ := h
    rfl
  · obtain ⟨z, a, b, n, xs, ys, rfl, hz, ha, hb, ox, oy, hn1, hn2, q⟩ := h
    refine ⟨_, 
      (pss_cons (ps_if (pt_cmpR op_eq (pv 0) pe_str (nomark _))
        (pss_one (ps_ret (pe_call G_far_by_swap hr (by rfl) T_far_by_swap.g T_far_by_swap.F.kp T_far_by_swap.b .nil pass0 (pa_cons (pv 1) (pa_cons (pv 2) pa_nil)))))
        pss_nil)
      (pss_cons (ps_if (pt_cmpR op_eq (pv 0) pe_str (nomark _))
        (pss_one (ps_ret (pe_call G_far_by_spot hr (by rfl) T_far_by_spot.g T_far_by_spot.F.kp T_far_by_spot.b .nil pass0 (pa_cons (pv 1) (pa_cons (pv 2) pa_nil)))))
        pss_nil)
      (pss_one (ps_ret (pe_call G_far_by_shift hr (by rfl) T_far_by_shift.g T_far_by_shift.F.kp T_far_by_shift.b .nil pass0 (pa_cons (pv 1) (pa_cons (pv 2) pa_nil))))))), ?_⟩
    rcases hz with rfl | rfl | rfl
    · refine ⟨_, rfl, rfl, _, rfl, ite2 (fun _ => ?_) (fun c => absurd (by decide +kernel) c)⟩
      exact ⟨_, rfl, _, rfl, a, b, n, xs, ys, ⟨rfl, ha, hb, ox, oy, hn1, hn2⟩, fun H2 s2 => by rw [← farW_swap]; exact q H2 s2⟩
    · refine ⟨_, rfl, rfl, _, rfl, ite2 (fun c => absurd c (by decide +kernel)) (fun _ => ?_)⟩
      refine ⟨_, rfl, rfl, _, rfl, ite2 (fun _ => ?_) (fun c => absurd (by decide +kernel) c)⟩
      exact ⟨_, rfl, _, rfl, a, b, n, xs, ys, ⟨rfl, ha, hb, ox, oy, hn1, hn2⟩, fun H2 s2 => by rw [← farW_spot]; exact q H2 s2⟩
    · refine ⟨_, rfl, rfl, _, rfl, ite2 (fun c => absurd c (by decide +kernel)) (fun _ => ?_)⟩
      refine ⟨_, rfl, rfl, _, rfl, ite2 (fun c => absurd c (by decide +kernel)) (fun _ => ?_)⟩
      exact ⟨_, rfl, _, rfl, a, b, n, xs, ys, ⟨rfl, ha, hb, ox, oy, hn1, hn2⟩, fun H2 s2 => by rw [← farW_shift]; exact q H2 s2⟩
end
end Fo
namespace Fo
open PySem PySem.Spec PyProof.Rows L2
def spFew : Sp := fun vs H Q _ => ∃ (n m : Int), vs = [.int n, .int m] ∧ n ≤ m ∧ Q .non H
section
variable {P : Program} {w : World} {K : PySem.W.Frag} {mg : Str → Option Value} {base : Heap}
theorem scFew : FnScope ["n", "most"] ["n", "most"] (defScope s_check_few) := ⟨rfl, rfl, rfl, by decide +kernel, rfl, by decide +kernel, by decide +kernel⟩
theorem ok_few {f : Addr} {fd : FuncData} {k : Nat} (T : Df K mg "check_few" s_check_few ["n", "most"] f fd) : FnOk P w K mg base CX0 (k + 1) f fd ["n", "most"] spFew := by
  refine T.F.ok scFew (fun vs H Q E h => ?_) (fun cdv A outer s H vs Q E hr h => ?_)
  · obtain ⟨n, m, rfl, _⟩ := h
    rfl
  · obtain ⟨n, m, rfl, hl, q⟩ := h
    refine ⟨_, 
      (pss_one (ps_if (pt_cmpR op_gt (pv 0) (pv 1) (nomark _))
        (pss_one ps_never)
        pss_nil)), ?_⟩
    exact ⟨_, rfl, _, rfl, n, m, rfl, rfl, _, rfl, ite2 (fun c => absurd (of_decide_eq_true c) (by omega)) (fun _ => q)⟩
end
end Fo
namespace Fo
open PySem PySem.Spec PyProof.Rows L2
/-! a Lister between two calls -/
/-- rows that stand: where each one is, and what it holds -/
def RP (H : Hp) (t : Addr) (ps : List (Addr × List Int)) : Prop := H t = some (.lst (ps.map fun p => V.ref p.1)) ∧ ∀ p ∈ ps, H p.1 = some (.lst (p.2.map V.int))
abbrev rws (ps : List (Addr × List Int)) : List (List Int) := ps.map (·.2)
theorem RP.same {H H' : Hp} {t : Addr} {ps : List (Addr × List Int)} (h : RP H t ps) (s : Same H H') : RP H' t ps := ⟨s _ _ h.1, fun p hp => s _ _ (h.2 p hp)⟩
def fldsL (w : Str) (n d : Int) (t e : Addr) : List (Str × V) := [("way", .str w), ("n", .int n), ("d", .int d), ("taken", .ref t), ("earlier", .ref e)]
theorem n_wn : (("n" : Str) == "way") = false := by decide +kernel
theorem n_wd : (("d" : Str) == "way") = false := by decide +kernel
theorem n_nd : (("d" : Str) == "n") = false := by decide +kernel
theorem n_wt : (("taken" : Str) == "way") = false := by decide +kernel
theorem n_nt : (("taken" : Str) == "n") = false := by decide +kernel
theorem n_dt : (("taken" : Str) == "d") = false := by decide +kernel
theorem n_we : (("earlier" : Str) == "way") = false := by decide +kernel
theorem n_ne : (("earlier" : Str) == "n") = false := by decide +kernel
theorem n_de : (("earlier" : Str) == "d") = false := by decide +kernel
theorem n_te : (("earlier" : Str) == "taken") = false := by decide +kernel
section
variable {w : Str} {n d : Int} {t e t' : Addr}
theorem fl_w : (fldsL w n d t e).lookup ("way" : Str) = some (V.str w) := by unfold fldsL; rw [List.lookup_cons_self]
theorem fl_n : (fldsL w n d t e).lookup ("n" : Str) = some (V.int n) := by unfold fldsL; rw [List.lookup_cons, n_wn, List.lookup_cons_self]
theorem fl_d : (fldsL w n d t e).lookup ("d" : Str) = some (V.int d) := by unfold fldsL; rw [List.lookup_cons, n_wd, List.lookup_cons, n_nd, List.lookup_cons_self]
theorem fl_t : (fldsL w n d t e).lookup ("taken" : Str) = some (V.ref t) := by unfold fldsL; rw [List.lookup_cons, n_wt, List.lookup_cons, n_nt, List.lookup_cons, n_dt, List.lookup_cons_self]
theorem fl_e : (fldsL w n d t e).lookup ("earlier" : Str) = some (V.ref e) := by unfold fldsL; rw [List.lookup_cons, n_we, List.lookup_cons, n_ne, List.lookup_cons, n_de, List.lookup_cons, n_te, List.lookup_cons_self]
theorem fl_no {m : Str} (h1 : (m == "way") = false) (h2 : (m == "n") = false) (h3 : (m == "d") = false) (h4 : (m == "taken") = false) (h5 : (m == "earlier") = false) : (fldsL w n d t e).lookup m = none := by
  unfold fldsL
  rw [List.lookup_cons, h1, List.lookup_cons, h2, List.lookup_cons, h3, List.lookup_cons, h4, List.lookup_cons, h5]
  rfl
end
/-- a Lister at a, its stack at e: rs its orders, ss those ahead of them, the last at the end -/
structure LsAt (C : Addr) (H : Hp) (a e : Addr) (X : List Addr) (w : Str) (n : Nat) (d : Int) (rs : List (List Int)) (ss : List (List (List Int))) : Prop where
  ex : ∃ (dx t : Addr) (ps : List (Addr × List Int)) (st : List (Addr × List (Addr × List Int))), H a = some (.ins C dx (fldsL w n d t e)) ∧ H e = some (.lst (st.map fun q => V.ref q.1)) ∧ RP H t ps ∧ rws ps = rs ∧ (∀ q ∈ st, RP H q.1 q.2) ∧ st.map (fun q => rws q.2) = ss ∧
    e ∈ X ∧ t ∉ X ∧ (∀ p ∈ ps, p.1 ∉ X) ∧ ∀ q ∈ st, q.1 ∉ X ∧ ∀ p ∈ q.2, p.1 ∉ X
  tr : ∀ x ∈ X, ∃ o, H x = some o
  wy : IsWay w
  n1 : 1 ≤ n
  n2 : n ≤ 8
  d1 : 1 ≤ d
  ord : ∀ r ∈ rs, IsOrd n r
  ords : ∀ s ∈ ss, ∀ r ∈ s, IsOrd n r
/-- what stays while a Lister is changed -/
def KpL (a e : Addr) (H H' : Hp) : Prop := ∀ b o, H b = some o → b ≠ a → b ≠ e → H' b = some o
theorem KpL.of_same {a e : Addr} {H H' : Hp} (s : Same H H') : KpL a e H H' := fun b o h _ _ => s b o h
theorem KpL.trans {a e : Addr} {H H1 H2 : Hp} (k : KpL a e H H1) (l : KpL a e H1 H2) : KpL a e H H2 := fun b o h n1 n2 => l b o (k b o h n1 n2) n1 n2
theorem LsAt.same {C : Addr} {H H' : Hp} {a e : Addr} {X : List Addr} {w : Str} {n : Nat} {d : Int} {rs : List (List Int)} {ss : List (List (List Int))} (h : LsAt C H a e X w n d rs ss) (s : Same H H') : LsAt C H' a e X w n d rs ss := by
  obtain ⟨⟨dx, t, ps, st, e1, e2, e3, e4, e5, e6, e7⟩, tr, r⟩ := h
  exact ⟨⟨dx, t, ps, st, s _ _ e1, s _ _ e2, e3.same s, e4, fun q hq => (e5 q hq).same s, e6, e7⟩, fun x hx => (tr x hx).imp fun o h => s _ _ h, by assumption, by assumption, by assumption, by assumption, by assumption, by assumption⟩
/-- the class, as the top has made it -/
structure TxL (K : PySem.W.Frag) (mg : Str → Option Value) (C fI : Addr) : Prop where
  cl : Cls K C
  mkx : Mk K C fI
  g : mg "Lister" = some (.ref C)
  nW : NoAttr K C "way"
  nN : NoAttr K C "n"
  nD : NoAttr K C "d"
  nT : NoAttr K C "taken"
  nE : NoAttr K C "earlier"
theorem ka : ¬ (("way" : Str) = "n") ∧ ¬ (("way" : Str) = "d") ∧ ¬ (("way" : Str) = "taken") ∧ ¬ (("way" : Str) = "earlier") ∧ ¬ (("n" : Str) = "d") ∧ ¬ (("n" : Str) = "taken") ∧ ¬ (("n" : Str) = "earlier") ∧ ¬ (("d" : Str) = "taken") ∧ ¬ (("d" : Str) = "earlier") ∧ ¬ (("taken" : Str) = "earlier") := by decide +kernel
theorem put_t (w : Str) (n d : Int) (t e t' : Addr) : putF "taken" (.ref t') (fldsL w n d t e) = fldsL w n d t' e := by
  obtain ⟨-, -, k1, -, -, k2, -, k3, -, -⟩ := ka
  unfold fldsL
  rw [putF, if_neg k1, putF, if_neg k2, putF, if_neg k3, putF, if_pos rfl]
theorem pl {f : Str} {v : V} : ∀ {fs : List (Str × V)} {n : Nat}, fs.length ≤ n → (putF f v fs).length ≤ n + 1
  | [], _, _ => Nat.succ_le_succ (Nat.zero_le _)
  | p :: fs, n, h => by
    unfold putF
    split
    · exact Nat.le_succ_of_le h
    · exact Nat.succ_le_succ (by cases n with | zero => exact absurd h (Nat.not_succ_le_zero _) | succ n => exact pl (Nat.le_of_succ_le_succ h))
theorem put_init (w : Str) (n d : Int) (t e : Addr) : putF "earlier" (.ref e) (putF "taken" (.ref t) (putF "d" (.int d) (putF "n" (.int n) (putF "way" (.str w) [])))) = fldsL w n d t e := by
  obtain ⟨k1, k2, k3, k4, k5, k6, k7, k8, k9, k10⟩ := ka
  unfold fldsL
  simp only [putF, if_neg k1, if_neg k2, if_neg k3, if_neg k4, if_neg k5, if_neg k6, if_neg k7, if_neg k8, if_neg k9, if_neg k10]
theorem RP.kpl {C dx : Addr} {fs : List (Str × V)} {a e t : Addr} {ps : List (Addr × List Int)} {H H' : Hp} (h : RP H t ps) (k : KpL a e H H') (ha : H a = some (.ins C dx fs)) (nt : t ≠ e) (np : ∀ p ∈ ps, p.1 ≠ e) : RP H' t ps :=
  ⟨k _ _ h.1 (ne_of h.1 ha (by intro z; cases z)) nt, fun p hp => k _ _ (h.2 p hp) (ne_of (h.2 p hp) ha (by intro z; cases z)) (np p hp)⟩
theorem RP.at {H : Hp} {t : Addr} {ps : List (Addr × List Int)} (h : RP H t ps) {i : Nat} {x : V} (hx : (ps.map fun p => V.ref p.1)[i]? = some x) : ∃ p, ps[i]? = some p ∧ x = .ref p.1 ∧ H p.1 = some (.lst (p.2.map V.int)) := by
  rw [List.getElem?_map] at hx
  cases e : ps[i]? with
  | none => rw [e] at hx; cases hx
  | some p => rw [e] at hx; exact ⟨p, rfl, (Option.some.inj hx).symm, h.2 p (List.mem_of_getElem? e)⟩
theorem rp_dps {K : PySem.W.Frag} {H : Hp} : ∀ {ps : List (Addr × List Int)}, (∀ p ∈ ps, H p.1 = some (.lst (p.2.map V.int))) → DpAll K H (ps.map fun p => V.ref p.1) ((rws ps).map dL)
  | [], _ => .nil
  | p :: ps, h => .cons (dp_list (h p List.mem_cons_self)) (rp_dps fun q hq => h q (List.mem_cons_of_mem _ hq))
theorem RP.dp {K : PySem.W.Frag} {H : Hp} {t : Addr} {ps : List (Addr × List Int)} (h : RP H t ps) : Dp K H (.ref t) (dLL (rws ps)) := .lst (SqL.of h.1) (rp_dps h.2)
theorem rws_at {ps : List (Addr × List Int)} {i : Nat} {p : Addr × List Int} (h : ps[i]? = some p) : (rws ps)[i]? = some p.2 := by rw [List.getElem?_map, h]; rfl
theorem take_p {α : Type} {ps : List α} {i : Nat} {p : α} (h : ps[i]? = some p) : ps.take (i + 1) = ps.take i ++ [p] := by rw [List.take_add_one, h]; rfl
theorem filter_p {α : Type} {ps : List α} {i : Nat} {p : α} (f : α → Bool) (h : ps[i]? = some p) : (ps.take (i + 1)).filter f = (ps.take i).filter f ++ (if f p = true then [p] else []) := by
  rw [take_p h, List.filter_append]
  show _ ++ List.filter f [p] = _
  rw [List.filter_cons]
  rfl
theorem trK {a e : Addr} {X : List Addr} {H H' : Hp} {o1 o2 : HO} (tr : ∀ x ∈ X, ∃ o, H x = some o) (k : KpL a e H H') (h1 : H' a = some o1) (h2 : H' e = some o2) : ∀ x ∈ X, ∃ o, H' x = some o := fun x hx => by
  obtain ⟨o, h⟩ := tr x hx
  by_cases c : x = a
  · exact ⟨o1, c ▸ h1⟩
  · by_cases c2 : x = e
    · exact ⟨o2, c2 ▸ h2⟩
    · exact ⟨o, k x o h c c2⟩
theorem LsAt.growL {C : Addr} {H H' : Hp} {a e : Addr} {X ys : List Addr} {w : Str} {n : Nat} {d : Int} {rs : List (List Int)} {ss : List (List (List Int))} (L : LsAt C H a e X w n d rs ss) (s : Same H H') (ny : ∀ y ∈ ys, H y = none ∧ ∃ o, H' y = some o) : LsAt C H' a e (ys ++ X) w n d rs ss := by
  obtain ⟨⟨dx, t, ps, st, e1, e2, e3, e4, e5, e6, eX, tX, pX, sX⟩, tr, r⟩ := L
  have ne : ∀ {b : Addr} {o : HO}, H b = some o → b ∉ X → b ∉ ys ++ X := fun {b o} h1 h2 z => by
    rcases List.mem_append.mp z with z | z
    · rw [(ny b z).1] at h1
      cases h1
    · exact h2 z
  refine ⟨⟨dx, t, ps, st, s _ _ e1, s _ _ e2, e3.same s, e4, fun q hq => (e5 q hq).same s, e6, List.mem_append_right _ eX, ne e3.1 tX, fun p hp => ne (e3.2 p hp) (pX p hp), fun q hq => ⟨ne (e5 q hq).1 (sX q hq).1, fun p hp => ne ((e5 q hq).2 p hp) ((sX q hq).2 p hp)⟩⟩, fun x hx => ?_, by assumption, by assumption, by assumption, by assumption, by assumption, by assumption⟩
  rcases List.mem_append.mp hx with hx | hx
  · exact (ny x hx).2
  · exact (tr x hx).imp fun o h => s _ _ h
def spInitL (C : Addr) : Sp := fun vs H Q _ => ∃ (a dx : Addr) (X : List Addr) (w : Str) (n : Nat) (d : Int), vs = [.ref a, .str w, .int n, .int d] ∧ H a = some (.ins C dx []) ∧ IsWay w ∧ 1 ≤ n ∧ n ≤ 8 ∧ 1 ≤ d ∧ (∀ x ∈ X, ∃ o, H x = some o) ∧ a ∉ X ∧
  ∀ (e : Addr) (H' : Hp), H e = none → LsAt C H' a e (e :: X) w n d [] [] → (∀ b o, H b = some o → b ≠ a → H' b = some o) → Q .non H'
def spManyOk : Sp := fun vs H Q _ => ∃ m : Int, vs = [.int m] ∧ m ≤ 120 ∧ Q .non H
def nearR (w : Str) (xs : List Int) (d : Int) (rs : List (List Int)) : List (List Int) := rs.filter fun r => decide (farW w xs r < d)
/-- new rows at l -/
def NewRows (H H' : Hp) (l : Addr) (qs : List (Addr × List Int)) : Prop := RP H' l qs ∧ H l = none ∧ ∀ q ∈ qs, H q.1 = none
def spComeL (C : Addr) : Sp := fun vs H Q _ => ∃ (a e o : Addr) (X : List Addr) (w : Str) (n : Nat) (d : Int) (rs : List (List Int)) (ss : List (List (List Int))) (xs : List Int), vs = [.ref a, .ref o] ∧ LsAt C H a e X w n d rs ss ∧ H o = some (.lst (xs.map V.int)) ∧ IsOrd n xs ∧ rs.length < 120 ∧ ss.length < 1000 ∧
  ∀ (l : Addr) (qs : List (Addr × List Int)) (rs' : List (List Int)) (ss' : List (List (List Int))) (H' : Hp), rws qs = nearR w xs d rs → (qs = [] → rs'.Perm (rs ++ [xs]) ∧ rs'.Pairwise (· ≤ ·) ∧ ss' = ss ++ [rs]) → (qs ≠ [] → rs' = rs ∧ ss' = ss) → NewRows H H' l qs → LsAt C H' a e (l :: (qs.map (·.1) ++ X)) w n d rs' ss' → KpL a e H H' → Q (.ref l) H'
def spChangeL (C : Addr) : Sp := fun vs H Q _ => ∃ (a e l : Addr) (X : List Addr) (w : Str) (n : Nat) (d : Int) (rs : List (List Int)) (ss : List (List (List Int))) (qs : List (Addr × List Int)), vs = [.ref a, .ref l] ∧ LsAt C H a e X w n d rs ss ∧ RP H l qs ∧ l ∉ X ∧ (∀ q ∈ qs, q.1 ∉ X) ∧ (∀ r ∈ rws qs, IsOrd n r) ∧ ss.length < 1000 ∧
  ∀ H', LsAt C H' a e X w n d (rws qs) (ss ++ [rs]) → KpL a e H H' → Q .non H'
def spDropL (C : Addr) : Sp := fun vs H Q _ => ∃ (a e o : Addr) (X : List Addr) (w : Str) (n : Nat) (d : Int) (rs : List (List Int)) (ss : List (List (List Int))) (xs : List Int), vs = [.ref a, .ref o] ∧ LsAt C H a e X w n d rs ss ∧ H o = some (.lst (xs.map V.int)) ∧ xs ∈ rs ∧ IsOrd n xs ∧ ss.length < 1000 ∧ rs.length ≤ 120 ∧
  ∀ H', LsAt C H' a e X w n d (rs.filter fun r => !decide (r = xs)) (ss ++ [rs]) → KpL a e H H' → Q .non H'
def spUndoL (C cN : Addr) : Sp := fun vs H Q E => ∃ (a e : Addr) (X : List Addr) (w : Str) (n : Nat) (d : Int) (rs : List (List Int)) (ss : List (List (List Int))), vs = [.ref a] ∧ LsAt C H a e X w n d rs ss ∧ (∀ r0 ss0, ss = ss0 ++ [r0] → ∀ H', LsAt C H' a e X w n d r0 ss0 → KpL a e H H' → Q .non H') ∧ (ss = [] → E (.ref cN) none H)
def spUndoN (C : Addr) : Sp := fun vs H Q _ => ∃ (a e : Addr) (X : List Addr) (w : Str) (n : Nat) (d : Int) (rs r0 : List (List Int)) (ss0 : List (List (List Int))), vs = [.ref a] ∧ LsAt C H a e X w n d rs (ss0 ++ [r0]) ∧ ∀ H', LsAt C H' a e X w n d r0 ss0 → KpL a e H H' → Q .non H'
def spLeast0 (C : Addr) : Sp := fun vs H Q _ => ∃ (a e : Addr) (X : List Addr) (w : Str) (n : Nat) (d : Int) (ss : List (List (List Int))), vs = [.ref a] ∧ LsAt C H a e X w n d [] ss ∧ ∀ H', Same H H' → Q .non H'
def spOrdersL (C : Addr) : Sp := fun vs H Q _ => ∃ (a e : Addr) (X : List Addr) (w : Str) (n : Nat) (d : Int) (rs : List (List Int)) (ss : List (List (List Int))), vs = [.ref a] ∧ LsAt C H a e X w n d rs ss ∧ rs.length ≤ 120 ∧ ∀ (l : Addr) (qs : List (Addr × List Int)) (H' : Hp), rws qs = rs → NewRows H H' l qs → Same H H' → Q (.ref l) H'
section
variable {P : Program} {w : World} {K : PySem.W.Frag} {mg : Str → Option Value} {base : Heap}
theorem scManyOk : FnScope ["many"] ["many"] (defScope s_check_many) := ⟨rfl, rfl, rfl, by decide +kernel, rfl, by decide +kernel, by decide +kernel⟩
theorem ok_manyOk {f : Addr} {fd : FuncData} {k : Nat} {tO : Tok} (T : Df K mg "check_many" s_check_many ["many"] f fd) (mO : mg "MOST_ORDERS" = some (.int 120 tO)) : FnOk P w K mg base CX0 (k + 1) f fd ["many"] spManyOk := by
  refine T.F.ok scManyOk (fun vs H Q E h => ?_) (fun cdv A outer s H vs Q E hr h => ?_)
  · obtain ⟨m, rfl, _⟩ := h
    rfl
  · obtain ⟨m, rfl, hm, q⟩ := h
    refine ⟨_, 
      (pss_one (ps_if (pt_cmpR op_gt (pv 0) (pe_glob (v := .int 120) (by rfl) mO ⟨_, rfl⟩) (nomark _))
        (pss_one ps_never)
        pss_nil)), ?_⟩
    refine ⟨_, rfl, m, 120, rfl, rfl, _, rfl, ?_⟩
    rw [decide_eq_false (show ¬ (120 : Int) < m by omega)]
    exact iteF q
end
end Fo
namespace Fo
open PySem PySem.Spec PyProof.Rows L2
section
variable {P : Program} {w : World} {K : PySem.W.Frag} {mg : Str → Option Value} {base : Heap}
theorem scChangeL : FnScope ["self", "orders"] ["self", "orders"] (defScope s_Lister_change_to) := ⟨rfl, rfl, rfl, by decide +kernel, rfl, by decide +kernel, by decide +kernel⟩
theorem ok_changeL {C_Lister fI f : Addr} {fd : FuncData} {k : Nat} (T : Dm K C_Lister "change_to" "Lister.change_to" s_Lister_change_to ["self", "orders"] f fd) (TC : TxL K mg C_Lister fI) : FnOk P w K mg base CX0 (k + 1) f fd ["self", "orders"] (spChangeL C_Lister) := by
  refine T.F.ok scChangeL (fun vs H Q E h => ?_) (fun cdv A outer s H vs Q E hr h => ?_)
  · obtain ⟨a, e, l, X, w, n, d, rs, ss, qs, rfl, _⟩ := h
    rfl
  · obtain ⟨a, e, l, X, w, n, d, rs, ss, qs, rfl, L, hl, nlX, nqX, oq, hz, q⟩ := h
    obtain ⟨dx, t, ps, st, ha, he, ht, ert, hst, ess, heX, ntX, npX, nsX⟩ := L.ex
    have nte : t ≠ e := fun z => ntX (z ▸ heX)
    have npe : ∀ p ∈ ps, p.1 ≠ e := fun p hp z => npX p hp (z ▸ heX)
    have nse : ∀ q ∈ st, q.1 ≠ e ∧ ∀ p ∈ q.2, p.1 ≠ e := fun q hq => ⟨fun z => (nsX q hq).1 (z ▸ heX), fun p hp z => (nsX q hq).2 p hp (z ▸ heX)⟩
    have nae : a ≠ e := ne_of ha he (by intro z; cases z)
    have nle : l ≠ e := fun z => nlX (z ▸ heX)
    have nqe : ∀ q ∈ qs, q.1 ≠ e := fun q hq z => nqX q hq (z ▸ heX)
    have nla : l ≠ a := ne_of hl.1 ha (by intro z; cases z)
    refine ⟨_, 
      (pss_cons (ps_expr (pe_bm PySem.F.plainAttrs_list PySem.F.slot_list_append PySem.F.type_list_append mt_append (pe_fld (pv 0) rfl) (pa_cons (pe_fld (pv 0) rfl) pa_nil)))
      (pss_one (ps_fld (pv 0) (pv 1) rfl))), ?_⟩
    refine ⟨_, rfl, a, _, dx, _, _, rfl, ha, TC.cl, TC.nE, fl_e, ?_⟩
    refine ⟨.inl ⟨rfl, _, SqL.of he⟩, ?_⟩
    refine ⟨_, rfl, a, _, dx, _, _, rfl, ha, TC.cl, TC.nT, fl_t, ?_⟩
    refine ⟨e, _, _, rfl, rfl, he, line_lt (by rw [List.length_map, ← List.length_map (f := fun q : Addr × List (Addr × List Int) => rws q.2), ess]; omega), ?_⟩
    refine ⟨_, rfl, _, rfl, a, _, dx, _, rfl, (by rw [upd_ne nae]; exact ha), TC.cl, TC.nT, (by show 5 < 1000; decide), ?_⟩
    rw [put_t]
    have kp : KpL a e H (upd (upd H e (.lst ((st.map fun q => V.ref q.1) ++ [V.ref t]))) a (.ins C_Lister dx (fldsL w n d l e))) := fun b o h n1 n2 => by rw [upd_ne n1, upd_ne n2]; exact h
    refine q _ ⟨⟨dx, l, qs, st ++ [(t, ps)], upd_same, (by rw [upd_ne nae.symm, upd_same, List.map_append]; rfl), hl.kpl kp ha nle nqe, rfl, fun q hq => ?_, ?_, heX, nlX, nqX, fun q hq => ?_⟩, trK L.tr kp upd_same (by rw [upd_ne nae.symm, upd_same]), L.wy, L.n1, L.n2, L.d1, oq, fun s hs r hr => ?_⟩ kp
    · rcases List.mem_append.mp hq with hq | hq
      · exact (hst q hq).kpl kp ha (nse q hq).1 (nse q hq).2
      · rw [List.mem_singleton.mp hq]
        exact ht.kpl kp ha nte npe
    · rw [List.map_append, ess, ← ert]
      rfl
    · rcases List.mem_append.mp hq with hq | hq
      · exact nsX q hq
      · rw [List.mem_singleton.mp hq]
        exact ⟨ntX, npX⟩
    · rcases List.mem_append.mp hs with hs | hs
      · exact L.ords s hs r hr
      · rw [List.mem_singleton.mp hs] at hr
        exact L.ord r hr
theorem scInitL : FnScope ["self", "way", "n", "d"] ["self", "way", "n", "d"] (defScope s_Lister___init__) := ⟨rfl, rfl, rfl, by decide +kernel, rfl, by decide +kernel, by decide +kernel⟩
theorem ok_initL {C_Lister fI f f1 : Addr} {fd d1 : FuncData} {k : Nat} {tK : Tok} (T : Dm K C_Lister "__init__" "Lister.__init__" s_Lister___init__ ["self", "way", "n", "d"] f fd) (TC : TxL K mg C_Lister fI) (T_check_apart : Df K mg "check_apart" s_check_apart ["way", "n", "most", "d"] f1 d1) (G_check_apart : FnOk P w K mg base CX0 k f1 d1 ["way", "n", "most", "d"] spApart) (mK : mg "MOST_KEPT" = some (.int 8 tK)) : FnOk P w K mg base CX0 (k + 1) f fd ["self", "way", "n", "d"] (spInitL C_Lister) := by
  refine T.F.ok scInitL (fun vs H Q E h => ?_) (fun cdv A outer s H vs Q E hr h => ?_)
  · obtain ⟨a, dx, X, w, n, d, rfl, _⟩ := h
    rfl
  · obtain ⟨a, dx, X, w, n, d, rfl, ha, hw, h1, h2, h3, htr, naX, q⟩ := h
    refine ⟨_, 
      (pss_cons (ps_expr (pe_call G_check_apart hr (by rfl) T_check_apart.g T_check_apart.F.kp T_check_apart.b .nil pass0 (pa_cons (pv 1) (pa_cons (pv 2) (pa_cons (pe_glob (v := .int 8) (by rfl) mK ⟨_, rfl⟩) (pa_cons (pv 3) pa_nil))))))
      (pss_cons (ps_fld (pv 0) (pv 1) rfl)
      (pss_cons (ps_fld (pv 0) (pv 2) rfl)
      (pss_cons (ps_fld (pv 0) (pv 3) rfl)
      (pss_cons (ps_fld (pv 0) (pe_lst pa_nil) rfl)
      (pss_one (ps_fld (pv 0) (pe_lst pa_nil) rfl))))))), ?_⟩
    refine ⟨_, rfl, _, rfl, _, rfl, w, n, 8, d, rfl, hw, by omega, by omega, h3, ?_⟩
    refine ⟨_, rfl, _, rfl, a, _, dx, _, rfl, ha, TC.cl, TC.nW, (by show 0 < 1000; decide), ?_⟩
    refine ⟨_, rfl, _, rfl, a, _, dx, _, rfl, upd_same, TC.cl, TC.nN, (by show 1 < 1000; decide), ?_⟩
    refine ⟨_, rfl, _, rfl, a, _, dx, _, rfl, upd_same, TC.cl, TC.nD, (Nat.lt_of_le_of_lt (pl (pl (Nat.le_refl 0))) (by decide)), ?_⟩
    refine ⟨by decide, fun t nt => ?_⟩
    have nta : a ≠ t := ne_of_none upd_same nt
    refine ⟨_, rfl, a, _, dx, _, rfl, (by rw [upd_ne nta]; exact upd_same), TC.cl, TC.nT, (Nat.lt_of_le_of_lt (pl (pl (pl (Nat.le_refl 0)))) (by decide)), ?_⟩
    refine ⟨by decide, fun e ne => ?_⟩
    have nae : a ≠ e := ne_of_none upd_same ne
    have nte : t ≠ e := ne_of_none (by rw [upd_ne nta.symm, upd_same]) ne
    refine ⟨_, rfl, a, _, dx, _, rfl, (by rw [upd_ne nae]; exact upd_same), TC.cl, TC.nE, (Nat.lt_of_le_of_lt (pl (pl (pl (pl (Nat.le_refl 0))))) (by decide)), ?_⟩
    rw [put_init]
    have hte : H t = none := by rw [← nt, upd_ne nta.symm, upd_ne nta.symm, upd_ne nta.symm]
    have hee : H e = none := by rw [← ne, upd_ne nae.symm, upd_ne nte.symm, upd_ne nae.symm, upd_ne nae.symm, upd_ne nae.symm]
    have kp : ∀ b o, H b = some o → b ≠ a → (upd (upd (upd (upd (upd (upd (upd H a (.ins C_Lister dx (putF "way" (.str w) []))) a (.ins C_Lister dx (putF "n" (.int n) (putF "way" (.str w) [])))) a (.ins C_Lister dx (putF "d" (.int d) (putF "n" (.int n) (putF "way" (.str w) []))))) t (.lst [])) a (.ins C_Lister dx (putF "taken" (.ref t) (putF "d" (.int d) (putF "n" (.int n) (putF "way" (.str w) [])))))) e (.lst [])) a (.ins C_Lister dx (fldsL w n d t e))) b = some o := fun b o h nb => by
      rw [upd_ne nb, upd_ne (ne_of_none h hee), upd_ne nb, upd_ne (ne_of_none h hte), upd_ne nb, upd_ne nb, upd_ne nb]
      exact h
    refine q e _ hee ⟨⟨dx, t, [], [], upd_same, (by rw [upd_ne nae.symm, upd_same]; rfl), ⟨(by rw [upd_ne nta.symm, upd_ne nte, upd_ne nta.symm, upd_same]; rfl), fun p hp => absurd hp List.not_mem_nil⟩, rfl, fun p hp => absurd hp List.not_mem_nil, rfl, List.mem_cons_self, fun hm => ?_, fun p hp => absurd hp List.not_mem_nil, fun p hp => absurd hp List.not_mem_nil⟩, fun x hx => ?_, hw, h1, h2, h3, fun r hr => absurd hr List.not_mem_nil, fun r hr => absurd hr List.not_mem_nil⟩ fun b o h nb => kp b o h nb
    · rcases List.mem_cons.mp hm with z | hm
      · exact nte z
      · obtain ⟨o, ho⟩ := htr t hm
        rw [hte] at ho
        cases ho
    · rcases List.mem_cons.mp hx with rfl | hx
      · exact ⟨_, by rw [upd_ne nae.symm, upd_same]⟩
      · obtain ⟨o, ho⟩ := htr x hx
        exact ⟨o, kp x o ho fun z => naX (z ▸ hx)⟩
theorem scUndoL : FnScope ["self"] ["self"] (defScope s_Lister_undo) := ⟨rfl, rfl, rfl, by decide +kernel, rfl, by decide +kernel, by decide +kernel⟩
theorem ok_undoL {cN C_Lister fI f : Addr} {fd : FuncData} {k : Nat} (T : Dm K C_Lister "undo" "Lister.undo" s_Lister_undo ["self"] f fd) (TC : TxL K mg C_Lister fI) (X_NoNumber : ExK K mg "NoNumber" cN) (B : Bi mg) : FnOk P w K mg base (L2.CX P w) (k + 1) f fd ["self"] (spUndoL C_Lister cN) := by
  refine T.F.okX scUndoL (fun vs H Q E h => ?_) (fun cdv A outer s H vs Q E hr h => ?_)
  · obtain ⟨a, e, X, w, n, d, rs, ss, rfl, _⟩ := h
    rfl
  · obtain ⟨a, e, X, w, n, d, rs, ss, rfl, L, q1, q2⟩ := h
    obtain ⟨dx, t, ps, st, ha, he, ht, ert, hst, ess, heX, ntX, npX, nsX⟩ := L.ex
    have nte : t ≠ e := fun z => ntX (z ▸ heX)
    have npe : ∀ p ∈ ps, p.1 ≠ e := fun p hp z => npX p hp (z ▸ heX)
    have nse : ∀ q ∈ st, q.1 ≠ e ∧ ∀ p ∈ q.2, p.1 ≠ e := fun q hq => ⟨fun z => (nsX q hq).1 (z ▸ heX), fun p hp z => (nsX q hq).2 p hp (z ▸ heX)⟩
    have nae : a ≠ e := ne_of ha he (by intro z; cases z)
    refine ⟨_, 
      (pss_cons (ps_if (pt_cmpR op_eq (pe_callB call_len_seq (by rfl) B.len PySem.boot_len (pa_cons (pe_fld (pv 0) rfl) pa_nil)) pe_int (nomark _))
        (pss_one (ps_raiseK rfl (takes_of rfl rfl rfl rfl) X_NoNumber (by rfl)))
        pss_nil)
      (pss_one (ps_fld (pv 0) (pe_bm0 PySem.F.plainAttrs_list PySem.F.slot_list_pop PySem.F.type_list_pop mt_pop (pe_fld (pv 0) rfl)) rfl))), ?_⟩
    refine ⟨_, rfl, a, _, dx, _, _, rfl, ha, TC.cl, TC.nE, fl_e, e, _, rfl, .inl (SqL.of he), rfl, _, rfl, ?_⟩
    rw [List.length_map]
    by_cases c : st = []
    · subst c
      exact iteT (q2 ess.symm)
    · have hl : st.length ≠ 0 := fun z => c (List.eq_nil_of_length_eq_zero z)
      rw [decide_eq_false (show ¬ (V.int (st.length : Int) = V.int 0) from fun z => by have := V.int.inj z; omega)]
      refine iteF ?_
      obtain ⟨st0, tp, rfl⟩ : ∃ st0 tp, st = st0 ++ [tp] := ⟨st.dropLast, st.getLast c, (List.dropLast_concat_getLast c).symm⟩
      obtain ⟨t0, ps0⟩ := tp
      have m0 : (t0, ps0) ∈ st0 ++ [(t0, ps0)] := List.mem_append_right _ List.mem_cons_self
      refine ⟨_, rfl, a, _, dx, _, _, rfl, ha, TC.cl, TC.nE, fl_e, ?_⟩
      refine ⟨.inl ⟨rfl, _, SqL.of he⟩, e, _, V.ref t0, rfl, rfl, he, ?_, ?_⟩
      · rw [List.map_append, List.length_append]
        show (List.map _ st0 ++ [V.ref t0])[(List.map _ st0).length + 1 - 1]? = _
        rw [Nat.add_sub_cancel, List.getElem?_append_right (Nat.le_refl _), Nat.sub_self]
        rfl
      refine ⟨_, rfl, a, _, dx, _, rfl, (by rw [upd_ne nae]; exact ha), TC.cl, TC.nT, (by show 5 < 1000; decide), ?_⟩
      rw [put_t]
      have ed : (List.map (fun q : Addr × List (Addr × List Int) => V.ref q.1) (st0 ++ [(t0, ps0)])).dropLast = st0.map fun q => V.ref q.1 := by
        rw [List.map_append]
        exact List.dropLast_concat
      rw [ed]
      have kp : KpL a e H (upd (upd H e (.lst (st0.map fun q => V.ref q.1))) a (.ins C_Lister dx (fldsL w n d t0 e))) := fun b o h n1 n2 => by rw [upd_ne n1, upd_ne n2]; exact h
      have es : ss = (st0.map fun q => rws q.2) ++ [rws ps0] := by rw [← ess, List.map_append]; rfl
      refine q1 (rws ps0) _ es _ ⟨⟨dx, t0, ps0, st0, upd_same, (by rw [upd_ne nae.symm, upd_same]), (hst _ m0).kpl kp ha (nse _ m0).1 (nse _ m0).2, rfl, fun q hq => (hst q (List.mem_append_left _ hq)).kpl kp ha (nse q (List.mem_append_left _ hq)).1 (nse q (List.mem_append_left _ hq)).2, rfl, heX, (nsX _ m0).1, (nsX _ m0).2, fun q hq => nsX q (List.mem_append_left _ hq)⟩, trK L.tr kp upd_same (by rw [upd_ne nae.symm, upd_same]), L.wy, L.n1, L.n2, L.d1, fun r hr => L.ords _ (by rw [es]; exact List.mem_append_right _ List.mem_cons_self) r hr, fun s hs r hr => L.ords s (by rw [es]; exact List.mem_append_left _ hs) r hr⟩ kp
theorem scUndoN : FnScope ["self"] ["self"] (defScope s_Lister_undo) := ⟨rfl, rfl, rfl, by decide +kernel, rfl, by decide +kernel, by decide +kernel⟩
theorem ok_undoN {C_Lister fI f : Addr} {fd : FuncData} {k : Nat} (T : Dm K C_Lister "undo" "Lister.undo" s_Lister_undo ["self"] f fd) (TC : TxL K mg C_Lister fI) (B : Bi mg) : FnOk P w K mg base CX0 (k + 1) f fd ["self"] (spUndoN C_Lister) := by
  refine T.F.ok scUndoN (fun vs H Q E h => ?_) (fun cdv A outer s H vs Q E hr h => ?_)
  · obtain ⟨a, e, X, w, n, d, rs, r00, ss00, rfl, _⟩ := h
    rfl
  · obtain ⟨a, e, X, w, n, d, rs, r00, ss00, rfl, L, q1⟩ := h
    obtain ⟨dx, t, ps, st, ha, he, ht, ert, hst, ess, heX, ntX, npX, nsX⟩ := L.ex
    have nte : t ≠ e := fun z => ntX (z ▸ heX)
    have npe : ∀ p ∈ ps, p.1 ≠ e := fun p hp z => npX p hp (z ▸ heX)
    have nse : ∀ q ∈ st, q.1 ≠ e ∧ ∀ p ∈ q.2, p.1 ≠ e := fun q hq => ⟨fun z => (nsX q hq).1 (z ▸ heX), fun p hp z => (nsX q hq).2 p hp (z ▸ heX)⟩
    have nae : a ≠ e := ne_of ha he (by intro z; cases z)
    refine ⟨_, 
      (pss_cons (ps_if (pt_cmpR op_eq (pe_callB call_len_seq (by rfl) B.len PySem.boot_len (pa_cons (pe_fld (pv 0) rfl) pa_nil)) pe_int (nomark _))
        (pss_one ps_never)
        pss_nil)
      (pss_one (ps_fld (pv 0) (pe_bm0 PySem.F.plainAttrs_list PySem.F.slot_list_pop PySem.F.type_list_pop mt_pop (pe_fld (pv 0) rfl)) rfl))), ?_⟩
    refine ⟨_, rfl, a, _, dx, _, _, rfl, ha, TC.cl, TC.nE, fl_e, e, _, rfl, .inl (SqL.of he), rfl, _, rfl, ?_⟩
    rw [List.length_map]
    by_cases c : st = []
    · subst c
      exact absurd ess.symm (by simp)
    · have hl : st.length ≠ 0 := fun z => c (List.eq_nil_of_length_eq_zero z)
      rw [decide_eq_false (show ¬ (V.int (st.length : Int) = V.int 0) from fun z => by have := V.int.inj z; omega)]
      refine iteF ?_
      obtain ⟨st0, tp, rfl⟩ : ∃ st0 tp, st = st0 ++ [tp] := ⟨st.dropLast, st.getLast c, (List.dropLast_concat_getLast c).symm⟩
      obtain ⟨t0, ps0⟩ := tp
      have m0 : (t0, ps0) ∈ st0 ++ [(t0, ps0)] := List.mem_append_right _ List.mem_cons_self
      refine ⟨_, rfl, a, _, dx, _, _, rfl, ha, TC.cl, TC.nE, fl_e, ?_⟩
      refine ⟨.inl ⟨rfl, _, SqL.of he⟩, e, _, V.ref t0, rfl, rfl, he, ?_, ?_⟩
      · rw [List.map_append, List.length_append]
        show (List.map _ st0 ++ [V.ref t0])[(List.map _ st0).length + 1 - 1]? = _
        rw [Nat.add_sub_cancel, List.getElem?_append_right (Nat.le_refl _), Nat.sub_self]
        rfl
      refine ⟨_, rfl, a, _, dx, _, rfl, (by rw [upd_ne nae]; exact ha), TC.cl, TC.nT, (by show 5 < 1000; decide), ?_⟩
      rw [put_t]
      have ed : (List.map (fun q : Addr × List (Addr × List Int) => V.ref q.1) (st0 ++ [(t0, ps0)])).dropLast = st0.map fun q => V.ref q.1 := by
        rw [List.map_append]
        exact List.dropLast_concat
      rw [ed]
      have kp : KpL a e H (upd (upd H e (.lst (st0.map fun q => V.ref q.1))) a (.ins C_Lister dx (fldsL w n d t0 e))) := fun b o h n1 n2 => by rw [upd_ne n1, upd_ne n2]; exact h
      have es : ss00 ++ [r00] = (st0.map fun q => rws q.2) ++ [rws ps0] := by rw [← ess, List.map_append]; rfl
      have es2 := List.append_inj' es rfl
      have e1 : r00 = rws ps0 := List.cons.inj es2.2 |>.1
      have e2 := es2.1
      subst e1
      subst e2
      refine q1 _ ⟨⟨dx, t0, ps0, st0, upd_same, (by rw [upd_ne nae.symm, upd_same]), (hst _ m0).kpl kp ha (nse _ m0).1 (nse _ m0).2, rfl, fun q hq => (hst q (List.mem_append_left _ hq)).kpl kp ha (nse q (List.mem_append_left _ hq)).1 (nse q (List.mem_append_left _ hq)).2, rfl, heX, (nsX _ m0).1, (nsX _ m0).2, fun q hq => nsX q (List.mem_append_left _ hq)⟩, trK L.tr kp upd_same (by rw [upd_ne nae.symm, upd_same]), L.wy, L.n1, L.n2, L.d1, fun r hr => L.ords _ (List.mem_append_right _ List.mem_cons_self) r hr, fun s hs r hr => L.ords s (List.mem_append_left _ hs) r hr⟩ kp
end
end Fo
namespace Fo
open PySem PySem.Spec PyProof.Rows L2
section
variable {P : Program} {w : World} {K : PySem.W.Frag} {mg : Str → Option Value} {base : Heap}
theorem scOrdersL : FnScope ["self", "order"] ["self"] (defScope s_Lister_orders) := ⟨rfl, rfl, rfl, by decide +kernel, rfl, by decide +kernel, by decide +kernel⟩
theorem ok_ordersL {C_Lister fI f : Addr} {fd : FuncData} {k : Nat} (T : Dm K C_Lister "orders" "Lister.orders" s_Lister_orders ["self"] f fd) (TC : TxL K mg C_Lister fI) (B : Bi mg) : FnOk P w K mg base CX0 (k + 1) f fd ["self"] (spOrdersL C_Lister) := by
  refine T.F.ok scOrdersL (fun vs H Q E h => ?_) (fun cdv A outer s H vs Q E hr h => ?_)
  · obtain ⟨a, e, X, w, n, d, rs, ss, rfl, _⟩ := h
    rfl
  · obtain ⟨a, e, X, w, n, d, rs, ss, rfl, L, hl, q⟩ := h
    obtain ⟨dx, t, ps, st, ha, he, ht, ert, hst, ess, heX, ntX, npX, nsX⟩ := L.ex
    have nte : t ≠ e := fun z => ntX (z ▸ heX)
    have npe : ∀ p ∈ ps, p.1 ≠ e := fun p hp z => npX p hp (z ▸ heX)
    have nse : ∀ q ∈ st, q.1 ≠ e ∧ ∀ p ∈ q.2, p.1 ≠ e := fun q hq => ⟨fun z => (nsX q hq).1 (z ▸ heX), fun p hp z => (nsX q hq).2 p hp (z ▸ heX)⟩
    have hpl : ps.length ≤ 120 := by rw [← ert, List.length_map] at hl; exact hl
    refine ⟨_, 
      (pss_one (ps_ret (pe_lc (own := [("order", 1)]) (g := (gName 1)) (tt := tYes) (te := (tCB (rListOf K) (tCons (tVar 1) tNil))) rfl scOrdersL.nd (pi_list (pe_fld (pv 0) rfl)) (blkOk_by (N := ["self", "order"]) (sc := defScope s_Lister_orders) (by decide +kernel)) (fun _ _ _ _ _ => (pg_name (i := 1) scOrdersL.nd rfl (.inl rfl))) (fun _ _ _ _ _ => pts_nil) (fun _ _ _ _ _ => (pe_callTy call_list_of (by rfl) B.list (by decide +kernel) (pa_cons (pv 1) pa_nil)))))), ?_⟩
    refine ⟨_, rfl, a, _, dx, _, _, rfl, ha, TC.cl, TC.nT, fl_t, t, rfl, ⟨_, SqL.of ht.1⟩, fun D nD => ?_⟩
    refine lc_list (K := K) (a := t) (xs := ps.map fun p => V.ref p.1) (fun i H3 => ∃ bs : List (Addr × List Int), RP H3 D bs ∧ rws bs = rs.take i ∧ (∀ b ∈ bs, H b.1 = none ∧ b.1 ≠ D) ∧ Same H H3)
      ⟨[], ⟨upd_same, fun p hp => absurd hp List.not_mem_nil⟩, rfl, fun p hp => absurd hp List.not_mem_nil, same_new nD⟩ (fun i H3 _ hP => by obtain ⟨_, _, _, _, sm⟩ := hP; exact SqL.of (sm _ _ ht.1)) (fun i x H3 hx hP => ?_) (fun H3 hP => ?_)
    · obtain ⟨bs, hb, eb, nb, sm⟩ := hP
      obtain ⟨p, ep, rfl, hp⟩ := ht.at hx
      have hbl : bs.length ≤ 120 := by
        have := congrArg List.length eb
        rw [List.length_map, List.length_take] at this
        omega
      refine ⟨rfl, _, rfl, p.1, _, rfl, .inl (SqL.of (sm _ _ hp)), fun c nc => ?_⟩
      have s4 := same_new (o := .lst (p.2.map V.int)) nc
      have npc : D ≠ c := ne_of_none hb.1 nc
      refine ⟨_, s4 _ _ hb.1, line_lt (by rw [List.length_map]; omega), bs ++ [(c, p.2)], ⟨by rw [upd_same, List.map_append]; rfl, fun u hu => ?_⟩, ?_, fun u hu => ?_, fun b o h => ?_⟩
      · rcases List.mem_append.mp hu with hu | hu
        · rw [upd_ne (nb u hu).2]
          exact s4 _ _ (hb.2 u hu)
        · rw [List.mem_singleton.mp hu, upd_ne npc.symm, upd_same]
      · rw [take_p (by rw [← ert]; exact rws_at ep), ← eb]
        show List.map _ (bs ++ [(c, p.2)]) = _
        rw [List.map_append]
        rfl
      · rcases List.mem_append.mp hu with hu | hu
        · exact nb u hu
        · rw [List.mem_singleton.mp hu]
          exact ⟨sm.free nc, npc.symm⟩
      · rw [upd_ne (ne_of_none h nD)]
        exact s4 _ _ (sm _ _ h)
    · obtain ⟨bs, hb, eb, nb, sm⟩ := hP
      rw [List.length_map, List.take_of_length_le (by rw [← ert, List.length_map]; exact Nat.le_refl _)] at eb
      exact q D bs H3 eb ⟨hb, nD, fun u hu => (nb u hu).1⟩ sm
theorem scDropL : FnScope ["self", "order", "other"] ["self", "order"] (defScope s_Lister_drop) := ⟨rfl, rfl, rfl, by decide +kernel, rfl, by decide +kernel, by decide +kernel⟩
theorem ok_dropL {C_Lister fI f f1 f2 : Addr} {fd d1 d2 : FuncData} {k : Nat} (T : Dm K C_Lister "drop" "Lister.drop" s_Lister_drop ["self", "order"] f fd) (T_Lister : TxL K mg C_Lister fI) (T_check_order : Df K mg "check_order" s_check_order ["thing"] f1 d1) (G_check_order : FnOk P w K mg base CX0 k f1 d1 ["thing"] spCheck)
    (T_Lister_change_to : Dm K C_Lister "change_to" "Lister.change_to" s_Lister_change_to ["self", "orders"] f2 d2) (G_Lister_change_to : FnOk P w K mg base CX0 k f2 d2 ["self", "orders"] (spChangeL C_Lister)) (B : Bi mg) : FnOk P w K mg base CX0 (k + 1) f fd ["self", "order"] (spDropL C_Lister) := by
  refine T.F.ok scDropL (fun vs H Q E h => ?_) (fun cdv A outer s H vs Q E hr h => ?_)
  · obtain ⟨a, e, o, X, w, n, d, rs, ss, xs, rfl, _⟩ := h
    rfl
  · obtain ⟨a, e, o, X, w, n, d, rs, ss, xs, rfl, L, ho, hx, hox, hz, hrl, q⟩ := h
    obtain ⟨dx, t, ps, st, ha, he, ht, ert, hst, ess, heX, ntX, npX, nsX⟩ := L.ex
    have nte : t ≠ e := fun z => ntX (z ▸ heX)
    have npe : ∀ p ∈ ps, p.1 ≠ e := fun p hp z => npX p hp (z ▸ heX)
    have nse : ∀ q ∈ st, q.1 ≠ e ∧ ∀ p ∈ q.2, p.1 ≠ e := fun q hq => ⟨fun z => (nsX q hq).1 (z ▸ heX), fun p hp z => (nsX q hq).2 p hp (z ▸ heX)⟩
    have hpl : ps.length ≤ 120 := by rw [← ert, List.length_map] at hrl; exact hrl
    refine ⟨_, 
      (pss_cons (ps_expr (pe_call G_check_order hr (by rfl) T_check_order.g T_check_order.F.kp T_check_order.b .nil pass0 (pa_cons (pv 1) pa_nil)))
      (pss_cons (ps_if (pt_cmpR (op_notInD (units65 hr)) (pv 1) (pe_fld (pv 0) rfl) (by rfl))
        (pss_one ps_never)
        pss_nil)
      (pss_one (ps_expr (pe_meth (pv 0) T_Lister.cl T_Lister_change_to.me G_Lister_change_to hr T_Lister_change_to.b .nil pass0 (pa_cons (pe_lc (own := [("other", 2)]) (g := (gName 2)) (tt := (tTest (tOp (rNeD K) (tVar 2) (tVar 1)))) (te := (tVar 2)) rfl scDropL.nd (pi_list (pe_fld (pv 0) rfl)) (blkOk_by (N := ["self", "order", "other"]) (sc := defScope s_Lister_drop) (by decide +kernel)) (fun _ _ _ _ _ => (pg_name (i := 2) scDropL.nd rfl (.inl rfl))) (fun _ _ _ _ _ => (pts_one (pt_cmpR (op_neD hr.units) (pv 2) (pv 1) (nomark _)))) (fun _ _ _ _ _ => (pv 2))) pa_nil)))))), ?_⟩
    refine ⟨_, rfl, o, n, xs, rfl, ho, hox, L.n1, by have := L.n2; omega, fun H1 s1 => ?_⟩
    have L1 := L.same s1
    have ha1 := s1 _ _ ha
    have ht1 := ht.same s1
    refine ⟨_, rfl, _, rfl, a, _, dx, _, _, rfl, ha1, T_Lister.cl, T_Lister.nT, fl_t, _, _, dp_list (s1 _ _ ho), ht1.dp, shaped_list _, shaped_lists _, _, rfl, ?_⟩
    rw [any_row, ert, decide_eq_true hx]
    refine iteF ?_
    refine ⟨_, rfl, a, dx, _, rfl, ha1, fl_no (by decide +kernel) (by decide +kernel) (by decide +kernel) (by decide +kernel) (by decide +kernel), ?_⟩
    refine ⟨_, rfl, a, _, dx, _, _, rfl, ha1, T_Lister.cl, T_Lister.nT, fl_t, t, rfl, ⟨_, SqL.of ht1.1⟩, fun D nD => ?_⟩
    have nDX : D ∉ X := fun hm => by
      obtain ⟨o, ho⟩ := L1.tr D hm
      rw [nD] at ho
      cases ho
    refine lc_list (K := K) (a := t) (xs := ps.map fun p => V.ref p.1) (fun i H3 => H3 = upd H1 D (.lst (((ps.take i).filter fun p => !decide (p.2 = xs)).map fun p => V.ref p.1)))
      rfl (fun i H3 _ hP => by rw [hP]; exact SqL.of (same_new nD _ _ ht1.1)) (fun i x H3 hx hP => ?_) (fun H3 hP => ?_)
    · obtain ⟨p, ep, rfl, hp⟩ := ht1.at hx
      subst hP
      refine ⟨rfl, _, rfl, _, rfl, _, _, dp_list (same_new nD _ _ hp), dp_list (same_new nD _ _ (s1 _ _ ho)), shaped_list _, shaped_list _, _, rfl, ite2 (fun z => ?_) (fun z => ?_)⟩
      · rw [eqv_ints] at z
        refine ⟨_, rfl, _, upd_same, line_lt ?_, ?_⟩
        · rw [List.length_map]
          have := List.length_filter_le (fun p : Addr × List Int => !decide (p.2 = xs)) (ps.take i)
          rw [List.length_take] at this
          omega
        · rw [filter_p _ ep, if_pos z, List.map_append, upd_upd]
          rfl
      · rw [eqv_ints] at z
        rw [filter_p _ ep, if_neg z, List.append_nil]
    · subst hP
      rw [List.length_map, List.take_length]
      have hs := same_new (o := .lst ((ps.filter fun p => !decide (p.2 = xs)).map fun p => V.ref p.1)) nD
      refine ⟨a, e, D, X, w, n, d, rs, ss, ps.filter (fun p => !decide (p.2 = xs)), rfl, L1.same hs, ⟨upd_same, fun p hp => hs _ _ (ht1.2 p (List.mem_filter.mp hp).1)⟩, nDX, fun p hp => npX p (List.mem_filter.mp hp).1, fun r hr => ?_, hz, fun H' L' k' => ?_⟩
      · obtain ⟨p, hp, rfl⟩ := List.mem_map.mp hr
        exact L.ord _ (by rw [← ert]; exact List.mem_map_of_mem (List.mem_filter.mp hp).1)
      · refine q H' ?_ (((KpL.of_same (s1.trans hs))).trans k')
        have e1 : rws (ps.filter fun p => !decide (p.2 = xs)) = rs.filter fun r => !decide (r = xs) := by
          rw [← ert]
          show List.map _ (List.filter _ _) = List.filter _ (List.map _ _)
          rw [List.filter_map]
          rfl
        rw [← e1]
        exact L'
end
end Fo
namespace Fo
open PySem PySem.Spec PyProof.Rows L2
section
variable {P : Program} {w : World} {K : PySem.W.Frag} {mg : Str → Option Value} {base : Heap}
theorem rws_perm {ps qs : List (Addr × List Int)} (h : ps.Perm qs) : (rws ps).Perm (rws qs) := h.map _
theorem scComeL : FnScope ["self", "order", "near", "other"] ["self", "order"] (defScope s_Lister_come) := ⟨rfl, rfl, rfl, by decide +kernel, rfl, by decide +kernel, by decide +kernel⟩
set_option maxHeartbeats 2000000 in
theorem ok_comeL {C_Lister fI f f1 f2 f3 f4 : Addr} {fd d1 d2 d3 d4 : FuncData} {k : Nat} (T : Dm K C_Lister "come" "Lister.come" s_Lister_come ["self", "order"] f fd) (T_Lister : TxL K mg C_Lister fI) (T_check_order : Df K mg "check_order" s_check_order ["thing"] f1 d1) (G_check_order : FnOk P w K mg base CX0 k f1 d1 ["thing"] spCheck)
    (T_check_many : Df K mg "check_many" s_check_many ["many"] f3 d3) (G_check_many : FnOk P w K mg base CX0 k f3 d3 ["many"] spManyOk) (T_known_far : Df K mg "known_far" s_known_far ["way", "one", "other"] f4 d4) (G_known_far : FnOk P w K mg base CX0 k f4 d4 ["way", "one", "other"] spFar)
    (T_Lister_change_to : Dm K C_Lister "change_to" "Lister.change_to" s_Lister_change_to ["self", "orders"] f2 d2) (G_Lister_change_to : FnOk P w K mg base CX0 k f2 d2 ["self", "orders"] (spChangeL C_Lister)) (B : Bi mg) : FnOk P w K mg base CX0 (k + 1) f fd ["self", "order"] (spComeL C_Lister) := by
  refine T.F.ok scComeL (fun vs H Q E h => ?_) (fun cdv A outer s H vs Q E hr h => ?_)
  · obtain ⟨a, e, o, X, w, n, d, rs, ss, xs, rfl, _⟩ := h
    rfl
  · obtain ⟨a, e, o, X, w, n, d, rs, ss, xs, rfl, L, ho, hx, hrl, hz, q⟩ := h
    obtain ⟨dx, t, ps, st, ha, he, ht, ert, hst, ess, heX, ntX, npX, nsX⟩ := L.ex
    have nte : t ≠ e := fun z => ntX (z ▸ heX)
    have npe : ∀ p ∈ ps, p.1 ≠ e := fun p hp z => npX p hp (z ▸ heX)
    have nse : ∀ q ∈ st, q.1 ≠ e ∧ ∀ p ∈ q.2, p.1 ≠ e := fun q hq => ⟨fun z => (nsX q hq).1 (z ▸ heX), fun p hp z => (nsX q hq).2 p hp (z ▸ heX)⟩
    have hpl : ps.length < 120 := by rw [← ert, List.length_map] at hrl; exact hrl
    have hn2 := L.n2
    refine ⟨_, 
      (pss_cons (ps_expr (pe_call G_check_order hr (by rfl) T_check_order.g T_check_order.F.kp T_check_order.b .nil pass0 (pa_cons (pv 1) pa_nil)))
      (pss_cons (ps_if (pt_cmpR op_ne (pe_callB call_len_seq (by rfl) B.len PySem.boot_len (pa_cons (pv 1) pa_nil)) (pe_fld (pv 0) rfl) (nomark _))
        (pss_one ps_never)
        pss_nil)
      (pss_cons (ps_expr (pe_call G_check_many hr (by rfl) T_check_many.g T_check_many.F.kp T_check_many.b .nil pass0 (pa_cons (pe_op op_add (pe_callB call_len_seq (by rfl) B.len PySem.boot_len (pa_cons (pe_fld (pv 0) rfl) pa_nil)) pe_int) pa_nil)))
      (pss_cons (ps_setLc (i := 2) (own := [("other", 3)]) (g := (gName 3)) (tt := (tTest (tOp (rI0 fun i j => .bl (decide (i < j))) (tCall spFar [] E0 (tCons (tFld K (tVar 0) "way") (tCons (tVar 1) (tCons (tVar 3) tNil)))) (tFld K (tVar 0) "d")))) (te := (tCB (rListOf K) (tCons (tVar 3) tNil))) (by rfl) scComeL.nd rfl rfl (sw_true rfl rfl rfl (by decide +kernel)) (pi_list (pe_fld (pv 0) rfl)) (blkOk_by (N := ["self", "order", "near", "other"]) (sc := defScope s_Lister_come) (by decide +kernel)) (fun _ _ _ _ _ => (pg_name (i := 3) scComeL.nd rfl (.inl rfl))) (fun _ _ _ _ _ => (pts_one (pt_cmpR op_lt (pe_call G_known_far hr (by rfl) T_known_far.g T_known_far.F.kp T_known_far.b .nil pass0 (pa_cons (pe_fld (pv 0) rfl) (pa_cons (pv 1) (pa_cons (pv 3) pa_nil)))) (pe_fld (pv 0) rfl) (nomark _)))) (fun _ _ _ _ _ => (pe_callTy call_list_of (by rfl) B.list (by decide +kernel) (pa_cons (pv 3) pa_nil))))
      (Evl.pss_cut (ps_if (pt_cmpR op_eq (pe_callB call_len_seq (by rfl) B.len PySem.boot_len (pa_cons (pv 2) pa_nil)) pe_int (nomark _))
        (pss_one (ps_expr (pe_meth (pv 0) T_Lister.cl T_Lister_change_to.me G_Lister_change_to hr T_Lister_change_to.b .nil pass0 (pa_cons (pe_callB (cr_sortedR hr.units) (by rfl) B.sorted (by decide +kernel) (pa_cons (pe_op op_cat (pe_fld (pv 0) rfl) (pe_lst (pa_cons (pe_callTy call_list_of (by rfl) B.list (by decide +kernel) (pa_cons (pv 1) pa_nil)) pa_nil))) pa_nil)) pa_nil))))
        pss_nil)
      (pss_one (ps_ret (pv 2)))))))), ?_⟩
    refine ⟨_, rfl, o, n, xs, rfl, ho, hx, L.n1, by omega, fun H1 s1 => ?_⟩
    have L1 := L.same s1
    have ha1 := s1 _ _ ha
    have ht1 := ht.same s1
    have ho1 := s1 _ _ ho
    refine ⟨_, rfl, o, _, rfl, .inl (SqL.of ho1), _, rfl, a, _, dx, _, _, rfl, ha1, T_Lister.cl, T_Lister.nN, fl_n, rfl, _, rfl, ?_⟩
    rw [List.length_map, hx.len, decide_eq_true rfl]
    refine iteF ?_
    refine ⟨_, rfl, a, _, dx, _, _, rfl, ha1, T_Lister.cl, T_Lister.nT, fl_t, t, _, rfl, .inl (SqL.of ht1.1), _, _, rfl, rfl, _, rfl, by rw [List.length_map]; omega, ?_⟩
    refine ⟨_, rfl, a, _, dx, _, _, rfl, ha1, T_Lister.cl, T_Lister.nT, fl_t, t, rfl, ⟨_, SqL.of ht1.1⟩, fun D nD => ?_⟩
    have nHD : H D = none := s1.free nD
    refine lc_list (K := K) (a := t) (xs := ps.map fun p => V.ref p.1) (fun i H3 => ∃ bs : List (Addr × List Int), RP H3 D bs ∧ rws bs = nearR w xs d (rs.take i) ∧ bs.length ≤ 120 ∧ (∀ b ∈ bs, H1 b.1 = none ∧ b.1 ≠ D) ∧ Same H1 H3)
      ⟨[], ⟨upd_same, fun p hp => absurd hp List.not_mem_nil⟩, rfl, Nat.zero_le _, fun p hp => absurd hp List.not_mem_nil, same_new nD⟩ (fun i H3 _ hP => by obtain ⟨_, _, _, _, _, sm⟩ := hP; exact SqL.of (sm _ _ ht1.1)) (fun i x H3 hxi hP => ?_) (fun H3 hP => ?_)
    · obtain ⟨bs, hb, eb, lb, nb, sm⟩ := hP
      obtain ⟨p, ep, rfl, hp⟩ := ht1.at hxi
      have er : rs[i]? = some p.2 := by rw [← ert]; exact rws_at ep
      refine ⟨rfl, _, rfl, a, _, dx, _, _, rfl, sm _ _ ha1, T_Lister.cl, T_Lister.nW, fl_w, _, rfl, _, rfl, w, o, p.1, n, xs, p.2, rfl, L.wy, sm _ _ ho1, sm _ _ hp, hx, L.ord _ (List.mem_of_getElem? er), L.n1, by omega, fun H4 s4 => ?_⟩
      have t4 := sm.trans s4
      refine ⟨_, rfl, a, _, dx, _, _, rfl, t4 _ _ ha1, T_Lister.cl, T_Lister.nD, fl_d, _, _, rfl, rfl, _, rfl, ite2 (fun z => ?_) (fun z => ?_)⟩
      · refine ⟨_, rfl, p.1, _, rfl, .inl (SqL.of (t4 _ _ hp)), fun c nc => ?_⟩
        have s5 := same_new (o := .lst (p.2.map V.int)) nc
        have hb4 := hb.same s4
        have npc : D ≠ c := ne_of_none hb4.1 nc
        have hi : i < 120 := by
          have := (List.getElem?_eq_some_iff.mp ep).1
          omega
        have hbl : bs.length ≤ i := by
          have := congrArg List.length eb
          have h2 := List.length_filter_le (fun r => decide (farW w xs r < d)) (rs.take i)
          rw [List.length_map] at this
          rw [List.length_take] at h2
          unfold nearR at this
          omega
        refine ⟨_, s5 _ _ hb4.1, line_lt (by rw [List.length_map]; omega), bs ++ [(c, p.2)], ⟨by rw [upd_same, List.map_append]; rfl, fun u hu => ?_⟩, ?_, by rw [List.length_append]; show _ + 1 ≤ _; omega, fun u hu => ?_, fun b ob h => ?_⟩
        · rcases List.mem_append.mp hu with hu | hu
          · rw [upd_ne (nb u hu).2]
            exact s5 _ _ (hb4.2 u hu)
          · rw [List.mem_singleton.mp hu, upd_ne npc.symm, upd_same]
        · unfold nearR at eb ⊢
          rw [filter_p _ er, if_pos z, ← eb]
          show List.map _ (bs ++ [(c, p.2)]) = _
          rw [List.map_append]
          rfl
        · rcases List.mem_append.mp hu with hu | hu
          · exact nb u hu
          · rw [List.mem_singleton.mp hu]
            exact ⟨t4.free nc, npc.symm⟩
        · rw [upd_ne (ne_of_none h nD)]
          exact s5 _ _ (t4 _ _ h)
      · refine ⟨bs, hb.same s4, ?_, lb, nb, t4⟩
        unfold nearR at eb ⊢
        rw [filter_p _ er, if_neg z, List.append_nil]
        exact eb
    · obtain ⟨bs, hb, eb, lb, nb, sm⟩ := hP
      rw [List.length_map, List.take_of_length_le (by rw [← ert, List.length_map]; exact Nat.le_refl _)] at eb
      have s13 := s1.trans sm
      have L3 : LsAt C_Lister H3 a e (D :: (bs.map (·.1) ++ X)) w n d rs ss := L1.growL (ys := D :: bs.map fun b : Addr × List Int => b.1) sm fun y hy => by
        rcases List.mem_cons.mp hy with rfl | hy
        · exact ⟨nD, _, hb.1⟩
        · obtain ⟨b, hb2, rfl⟩ := List.mem_map.mp hy
          exact ⟨(nb b hb2).1, _, hb.2 b hb2⟩
      have ntr : ∀ {x : Addr} {o : HO}, H1 x = some o → x ∉ X → x ∉ D :: (bs.map (·.1) ++ X) := fun {x o} hx h1 hm => by
        rcases List.mem_cons.mp hm with rfl | hm
        · rw [nD] at hx; cases hx
        · rcases List.mem_append.mp hm with hm | hm
          · obtain ⟨b, hb2, rfl⟩ := List.mem_map.mp hm
            rw [(nb b hb2).1] at hx
            cases hx
          · exact h1 hm
      have ha3 := s13 _ _ ha
      have ht3 := ht.same s13
      have nDa : D ≠ a := fun z => by rw [z, ha1] at nD; cases nD
      have nDe : D ≠ e := fun z => by rw [z, s1 _ _ he] at nD; cases nD
      have nbe : ∀ b ∈ bs, b.1 ≠ e := fun b hb z => by
        have h2 := (nb b hb).1
        rw [z, s1 _ _ he] at h2
        cases h2
      have nbH : ∀ b ∈ bs, H b.1 = none := fun b hb => s1.free (nb b hb).1
      refine ⟨fun σ' H' => σ' = [some (.ref a), some (.ref o), some (.ref D), none] ∧ ∃ rs' ss', (bs = [] → rs'.Perm (rs ++ [xs]) ∧ rs'.Pairwise (· ≤ ·) ∧ ss' = ss ++ [rs]) ∧ (bs ≠ [] → rs' = rs ∧ ss' = ss) ∧ LsAt C_Lister H' a e (D :: (bs.map (·.1) ++ X)) w n d rs' ss' ∧ RP H' D bs ∧ KpL a e H H', ?_, fun σ' H' hM => ?_⟩
      · refine ⟨_, rfl, D, _, rfl, .inl (SqL.of hb.1), rfl, _, rfl, ite2 (fun z => ?_) (fun z => ?_)⟩
        · have eb0 : bs = [] := by
            have z2 := V.int.inj (of_decide_eq_true z)
            rw [List.length_map] at z2
            exact List.eq_nil_of_length_eq_zero (by omega)
          refine ⟨_, rfl, a, dx, _, rfl, ha3, fl_no (by decide +kernel) (by decide +kernel) (by decide +kernel) (by decide +kernel) (by decide +kernel), ?_⟩
          refine ⟨_, rfl, a, _, dx, _, _, rfl, ha3, T_Lister.cl, T_Lister.nT, fl_t, _, rfl, o, _, rfl, .inl (SqL.of (s13 _ _ ho)), fun c nc => ?_⟩
          have s5 := same_new (o := .lst (xs.map V.int)) nc
          refine ⟨(by show 1 ≤ sizeLine; decide), fun u nu => ?_⟩
          have s6 := same_new (o := .lst [V.ref c]) nu
          refine ⟨t, u, _, _, rfl, rfl, s6 _ _ (s5 _ _ ht3.1), upd_same, ?_, fun v nv => ?_⟩
          · refine Nat.le_of_lt (line_lt ?_)
            rw [List.length_map]
            show _ + 1 < _
            omega
          have s7 := same_new (o := .lst (ps.map (fun p => V.ref p.1) ++ [V.ref c])) nv
          have ev : ps.map (fun p => V.ref p.1) ++ [V.ref c] = (ps ++ [(c, xs)]).map fun p => V.ref p.1 := by
            rw [List.map_append]
            rfl
          have hall : ∀ p ∈ ps ++ [(c, xs)], (upd (upd (upd H3 c (.lst (xs.map V.int))) u (.lst [V.ref c])) v (.lst (ps.map (fun p => V.ref p.1) ++ [V.ref c]))) p.1 = some (.lst (p.2.map V.int)) := fun p hp => by
            rcases List.mem_append.mp hp with hp | hp
            · exact s7 _ _ (s6 _ _ (s5 _ _ (ht3.2 p hp)))
            · rw [List.mem_singleton.mp hp]
              exact s7 _ _ (s6 _ _ upd_same)
          refine ⟨v, ps ++ [(c, xs)], rfl, by rw [← ev]; exact SqL.of upd_same, fun p hp => dp_list (hall p hp), fun y ny => ?_⟩
          have s8 := same_new (o := .lst ((rowsR (ps ++ [(c, xs)])).map fun p => V.ref p.1)) ny
          have s58 := s5.trans (s6.trans (s7.trans s8))
          have he3 := s13 _ _ he
          have nHX : ∀ {b : Addr} {G : Hp}, Same H3 G → G b = none → b ∉ D :: (bs.map (·.1) ++ X) := fun sG h hm => by
            obtain ⟨o, ho⟩ := L3.tr _ hm
            rw [sG _ _ ho] at h
            cases h
          refine ⟨a, e, y, _, w, n, d, rs, ss, rowsR (ps ++ [(c, xs)]), rfl, L3.same s58, ⟨upd_same, fun p hp => s8 _ _ (hall p ((rowsR_perm _).mem_iff.mp hp))⟩, nHX (s5.trans (s6.trans s7)) ny, fun p hp => ?_, fun r hr => ?_, hz, fun H' L' k' => ?_⟩
          · rcases List.mem_append.mp ((rowsR_perm _).mem_iff.mp hp) with hp | hp
            · exact ntr (ht1.2 p hp) (npX p hp)
            · rw [List.mem_singleton.mp hp]
              exact nHX (Same.refl _) nc
          · obtain ⟨p, hp, rfl⟩ := List.mem_map.mp hr
            rcases List.mem_append.mp ((rowsR_perm _).mem_iff.mp hp) with hp | hp
            · exact L.ord _ (by rw [← ert]; exact List.mem_map_of_mem hp)
            · rw [List.mem_singleton.mp hp]
              exact hx
          · have kk := (KpL.of_same (a := a) (e := e) s58).trans k'
            refine ⟨rfl, _, _, fun _ => ⟨?_, rowsR_sorted _, rfl⟩, fun z2 => absurd eb0 z2, L', hb.kpl kk ha3 nDe nbe, (KpL.of_same s13).trans kk⟩
            have := rws_perm (rowsR_perm (ps ++ [(c, xs)]))
            rw [show rws (ps ++ [(c, xs)]) = rs ++ [xs] by rw [← ert]; show List.map _ _ = _; rw [List.map_append]; rfl] at this
            exact this
        · have nb0 : bs ≠ [] := fun z2 => z (by rw [z2]; rfl)
          exact ⟨rfl, rs, ss, fun z2 => absurd z2 nb0, fun _ => ⟨rfl, rfl⟩, L3, hb, KpL.of_same s13⟩
      · obtain ⟨rfl, rs', ss', c1, c2, L', hb', kk⟩ := hM
        exact ⟨_, rfl, q D bs rs' ss' H' eb c1 c2 ⟨hb', nHD, nbH⟩ L' kk⟩
end
end Fo
namespace Fo
open PySem PySem.Spec PyProof.Rows L2
/-! ### a deck: a list of drawn numbers that never gets empty -/
def DqAt (H : Hp) (d : Addr) : Prop := ∃ ms : List Int, H d = some (.lst (ms.map V.int)) ∧ 1 ≤ ms.length ∧ ms.length ≤ 1200 ∧ ∀ m ∈ ms, 0 ≤ m ∧ m < 2147483648
def KeepD (d : Addr) (H H' : Hp) : Prop := ∀ b o, H b = some o → b ≠ d → H' b = some o
theorem KeepD.refl (d : Addr) (H : Hp) : KeepD d H H := fun _ _ e _ => e
theorem KeepD.trans {d : Addr} {H H1 H2 : Hp} (a : KeepD d H H1) (b : KeepD d H1 H2) : KeepD d H H2 := fun c o e f => b c o (a c o e f) f
theorem KeepD.of_same {d : Addr} {H H' : Hp} (h : Same H H') : KeepD d H H' := fun b o e _ => h b o e
theorem KeepD.new {d : Addr} {H : Hp} {p : Addr} {o : HO} (e : H p = none) : KeepD d H (upd H p o) := KeepD.of_same (same_new e)
theorem KeepD.none {d : Addr} {H H1 : Hp} (k : KeepD d H H1) {p : Addr} (np : H1 p = none) (nf : p ≠ d) : H p = none := by
  cases e : H p with
  | none => rfl
  | some o =>
    have z := k p o e nf
    rw [np] at z
    cases z
theorem DqAt.same {H H' : Hp} {d : Addr} (h : DqAt H d) (s : Same H H') : DqAt H' d := by
  obtain ⟨ms, e, r⟩ := h
  exact ⟨ms, s _ _ e, r⟩
theorem DqAt.ne {H : Hp} {d : Addr} (h : DqAt H d) {p : Addr} (e : H p = none) : p ≠ d := by
  obtain ⟨ms, e1, _⟩ := h
  exact (ne_of_none e1 e).symm
theorem DqAt.upd {H : Hp} {d : Addr} (h : DqAt H d) {p : Addr} {o : HO} (n1 : p ≠ d) : DqAt (upd H p o) d := by
  obtain ⟨ms, e, r⟩ := h
  exact ⟨ms, by rw [upd_ne n1.symm]; exact e, r⟩
theorem DqAt.new {H : Hp} {d : Addr} (h : DqAt H d) {p : Addr} {o : HO} (e : H p = none) : DqAt (L2.upd H p o) d := h.upd (h.ne e)
def spCell (K : PySem.W.Frag) : Sp := fun vs H Q _ => ∃ (a : Addr) (ns : List Int) (k : Nat), vs = [.ref a, .int k] ∧ SqL K H a (ns.map V.int) ∧ ∀ (v : Int), Q (.int v) H
def spStir : Sp := fun vs H Q _ => ∃ (c k : Int), vs = [.int c, .int k] ∧ 0 ≤ k ∧ k ≤ 1200 ∧ ∀ (v : Int), 0 ≤ v → v < 2147483648 → Q (.int v) H
def spDeckN : Sp := fun vs H Q _ => ∃ (c : Int) (many : Nat), vs = [.int c, .int many] ∧ 1 ≤ many ∧ many ≤ 1200 ∧ ∀ (d : Addr) (H' : Hp), H d = none → DqAt H' d → Same H H' → Q (.ref d) H'
def spNext : Sp := fun vs H Q _ => ∃ (d : Addr), vs = [.ref d] ∧ DqAt H d ∧ ∀ (v : Int) (H' : Hp), 0 ≤ v → v < 2147483648 → DqAt H' d → KeepD d H H' → Q (.int v) H'
def spOrderN : Sp := fun vs H Q _ => ∃ (d : Addr) (n : Nat), vs = [.ref d, .int n] ∧ DqAt H d ∧ n ≤ 12 ∧
  ∀ (ns : List Int) (l : Addr) (H' : Hp), IsOrd n ns → H l = none → H' l = some (.lst (ns.map V.int)) → l ≠ d → DqAt H' d → KeepD d H H' → Q (.ref l) H'
def spNearN : Sp := fun vs H Q _ => ∃ (d o : Addr) (n : Nat) (ns : List Int), vs = [.ref d, .ref o] ∧ DqAt H d ∧ H o = some (.lst (ns.map V.int)) ∧ IsOrd n ns ∧ 1 ≤ n ∧ n ≤ 12 ∧
  ∀ (ms : List Int) (l : Addr) (H' : Hp), IsOrd n ms → H l = none → H' l = some (.lst (ms.map V.int)) → l ≠ d → DqAt H' d → KeepD d H H' → Q (.ref l) H'
theorem mod_b (x : Int) {m : Int} (h : 0 < m) : 0 ≤ x % m ∧ x % m < m := ⟨Int.emod_nonneg x (by omega), Int.emod_lt_of_pos x h⟩
theorem mul_b {x y a b : Int} (hx : 0 ≤ x) (hxa : x ≤ a) (hy : 0 ≤ y) (hyb : y ≤ b) : 0 ≤ x * y ∧ x * y ≤ a * b := ⟨Int.mul_nonneg hx hy, Int.mul_le_mul hxa hyb hy (by omega)⟩
section
variable {P : Program} {w : World} {K : PySem.W.Frag} {mg : Str → Option Value} {base : Heap}
theorem scCell : FnScope ["script", "k"] ["script", "k"] (defScope s_law_cell_at) := ⟨rfl, rfl, rfl, by decide +kernel, rfl, by decide +kernel, by decide +kernel⟩
theorem ok_cell {f : Addr} {fd : FuncData} {k : Nat} (T : Df K mg "_law_cell_at" s_law_cell_at ["script", "k"] f fd) (B : Bi mg) : FnOk P w K mg base CX0 (k + 1) f fd ["script", "k"] (spCell K) := by
  refine T.F.ok scCell (fun vs H Q E h => ?_) (fun cdv A outer s H vs Q E hr h => ?_)
  · obtain ⟨a, ns, k, rfl, _⟩ := h
    rfl
  · obtain ⟨a, ns, k, rfl, hS, q⟩ := h
    refine ⟨_, 
      (pss_cons (ps_if (pt_cmpR op_lt (pv 1) (pe_callB call_len_seq (by rfl) B.len PySem.boot_len (pa_cons (pv 0) pa_nil)) (nomark _))
        (pss_one (ps_ret (pe_ix ix_list (pv 0) (pv 1) (fun _ _ => rfl))))
        pss_nil)
      (pss_one (ps_ret pe_int))), ?_⟩
    refine ⟨_, rfl, _, rfl, a, _, rfl, .inl hS, (k : Int), _, rfl, rfl, _, rfl, ite2 (fun c => ?_) (fun _ => q 0)⟩
    have hl : (k : Int) < (((ns.map V.int).length : Nat) : Int) := of_decide_eq_true c
    rw [List.length_map] at hl
    exact ⟨_, rfl, _, rfl, a, _, _, _, rfl, rfl, hS, at_of (j := k) rfl (int_at (List.getElem?_eq_getElem (show k < ns.length by omega))), q _⟩
theorem scStir : FnScope ["cell", "k", "one"] ["cell", "k"] (defScope s_law_stir) := ⟨rfl, rfl, rfl, by decide +kernel, rfl, by decide +kernel, by decide +kernel⟩
theorem ok_stir {f : Addr} {fd : FuncData} {k : Nat} (T : Df K mg "_law_stir" s_law_stir ["cell", "k"] f fd) (B : Bi mg) : FnOk P w K mg base CX0 (k + 1) f fd ["cell", "k"] spStir := by
  refine T.F.ok scStir (fun vs H Q E h => ?_) (fun cdv A outer s H vs Q E hr h => ?_)
  · obtain ⟨c, k, rfl, _⟩ := h
    rfl
  · obtain ⟨c, k, rfl, k0, k1, q⟩ := h
    refine ⟨_, 
      (Evl.pss_cut (ps_set (i := 2) scStir.nd rfl (.inl rfl) (pe_op op_mod (pe_op op_mul (pe_op op_add (pe_op op_add (pe_op op_mod (pv 0) pe_int) (pe_op op_mul pe_int (pv 1))) pe_int) pe_int) pe_int))
      (Evl.pss_cut (ps_set (i := 2) scStir.nd rfl (.inl rfl) (pe_op op_mod (pe_op op_mul (pv 2) (pv 2)) pe_int))
      (pss_one (ps_ret (pe_op op_fdiv (pe_op op_mod (pe_op op_mul (pe_op op_add (pv 2) (pe_op op_mul pe_int (pv 1))) pe_int) pe_int) pe_int))))), ?_⟩
    refine ⟨fun τ G => ∃ x : Int, 0 ≤ x ∧ x < 2147483647 ∧ τ = [some (.int c), some (.int k), some (.int x)] ∧ G = H, ?_, fun τ G hM => ?_⟩
    · exact ⟨_, rfl, c, 2147483629, rfl, rfl, (show (0 : Int) < 2147483629 by decide), _, rfl, 9973, k, rfl, rfl, .inl ⟨by decide, by decide⟩, _, _, rfl, rfl, _, 5, rfl, rfl, _, 48271, rfl, rfl, .inr ⟨by decide, by decide⟩, _, 2147483647, rfl, rfl, (show (0 : Int) < 2147483647 by decide), _, (mod_b _ (by decide)).1, (mod_b _ (by decide)).2, rfl, rfl⟩
    obtain ⟨x, x0, x1, rfl, e1⟩ := hM
    subst e1
    refine ⟨fun τ G' => ∃ y : Int, 0 ≤ y ∧ y < 2147483587 ∧ τ = [some (.int c), some (.int k), some (.int y)] ∧ G' = G, ?_, fun τ G' hM => ?_⟩
    · exact ⟨_, rfl, _, rfl, x, x, rfl, rfl, .inl ⟨by omega, by omega⟩, _, 2147483587, rfl, rfl, (show (0 : Int) < 2147483587 by decide), _, (mod_b _ (by decide)).1, (mod_b _ (by decide)).2, rfl, rfl⟩
    obtain ⟨y, y0, y1, rfl, e1⟩ := hM
    subst e1
    have h1 := mod_b ((y + 7919 * k) * 16807) (m := 2147483563) (by decide)
    exact ⟨_, rfl, _, rfl, 7919, k, rfl, rfl, .inl ⟨by decide, by decide⟩, _, _, rfl, rfl, _, 16807, rfl, rfl, .inr ⟨by decide, by decide⟩, _, 2147483563, rfl, rfl, (show (0 : Int) < 2147483563 by decide), _, 8, rfl, rfl, ⟨by decide, by decide⟩, q _ (by omega) (by omega)⟩
theorem scDeckN : FnScope ["cell", "many", "found", "digits", "k", "number"] ["cell", "many"] (defScope s_law_deck) := ⟨rfl, rfl, rfl, by decide +kernel, rfl, by decide +kernel, by decide +kernel⟩
set_option maxHeartbeats 2000000 in
theorem ok_deckN {f fS : Addr} {fd fdS : FuncData} {k : Nat} (T : Df K mg "_law_deck" s_law_deck ["cell", "many"] f fd) (T__law_stir : Df K mg "_law_stir" s_law_stir ["cell", "k"] fS fdS) (B : Bi mg) : FnOk P w K mg base CX0 (k + 2) f fd ["cell", "many"] spDeckN := by
  have G__law_stir : FnOk P w K mg base CX0 (k + 1) fS fdS ["cell", "k"] spStir := ok_stir T__law_stir B
  refine T.F.ok scDeckN (fun vs H Q E h => ?_) (fun cdv A outer s H vs Q E hr h => ?_)
  · obtain ⟨c, m, rfl, _⟩ := h
    rfl
  · obtain ⟨c, m, rfl, m1, m2, q⟩ := h
    refine ⟨_, 
      (pss_cons (ps_set (i := 2) scDeckN.nd rfl (.inl rfl) (pe_lst pa_nil))
      (pss_cons (ps_set (i := 3) scDeckN.nd rfl (.inl rfl) (pv 0))
      (pss_cons (ps_for PassesOwn.never rfl (pi_range1 (by rfl) B.range (pa_cons (pv 1) pa_nil)) (pg_name (i := 4) scDeckN.nd rfl (.inl rfl))
        (pss_cons (ps_set (i := 5) scDeckN.nd rfl (.inl rfl) (pe_call G__law_stir hr (by rfl) T__law_stir.g T__law_stir.F.kp T__law_stir.b .nil pass0 (pa_cons (pv 0) (pa_cons (pv 4) pa_nil))))
        (Evl.pss_cut (ps_if (pt_cmpR op_ge (pv 0) (pe_op op_pow pe_int pe_int) (nomark _))
          (pss_one (ps_set (i := 5) scDeckN.nd rfl (.inl rfl) (pe_op op_mod (pv 3) pe_int)))
          pss_nil)
        (pss_cons (ps_set (i := 3) scDeckN.nd rfl (.inl rfl) (pe_op op_fdiv (pv 3) pe_int))
        (pss_one (ps_expr (pe_bm PySem.F.plainAttrs_list PySem.F.slot_list_append PySem.F.type_list_append mt_append (pv 2) (pa_cons (pv 5) pa_nil))))))))
      (pss_one (ps_ret (pe_revL (pv 2))))))), ?_⟩
    refine ⟨line_small (by show 0 ≤ 16777216; decide), fun l nl => ⟨_, rfl, ?_⟩⟩
    refine ⟨_, rfl, m, rfl, by omega, by omega, ?_⟩
    rw [Int.toNat_natCast]
    refine for_range (n := m) (fun i σ H3 => ∃ (x : Int) (y4 y5 : Option V) (ms : List Int), σ = [some (.int c), some (.int m), some (.ref l), some (.int x), y4, y5] ∧ H3 l = some (.lst (ms.map V.int)) ∧ ms.length = i ∧ (∀ z ∈ ms, 0 ≤ z ∧ z < 2147483648) ∧ Same H H3)
      ⟨c, none, none, [], rfl, upd_same, rfl, (fun _ h => absurd h List.not_mem_nil), same_new nl⟩ (fun i σ H3 hi hP => ?_) (fun σ H3 hP => ?_)
    · obtain ⟨x, y4, y5, ms, rfl, hl3, el, hb, s3⟩ := hP
      refine ⟨_, rfl, _, rfl, c, _, rfl, by omega, by omega, fun v v0 v1 => ?_⟩
      refine ⟨fun τ G => ∃ z : Int, 0 ≤ z ∧ z < 2147483648 ∧ τ = [some (.int c), some (.int m), some (.ref l), some (.int x), some (.int (0 + (i : Int))), some (.int z)] ∧ G = H3, ?_, fun τ G hM => ?_⟩
      · refine ⟨_, rfl, 10, 18, rfl, rfl, ⟨by decide, by decide, by decide⟩, c, _, rfl, rfl, _, rfl, ite2 (fun _ => ?_) (fun _ => ⟨v, v0, v1, rfl, rfl⟩)⟩
        have h1 := mod_b x (m := 720720) (by decide)
        exact ⟨_, rfl, x, 720720, rfl, rfl, (show (0 : Int) < 720720 by decide), _, h1.1, by omega, rfl, rfl⟩
      obtain ⟨z, z0, z1, rfl, e1⟩ := hM
      subst e1
      refine ⟨_, rfl, x, 720720, rfl, rfl, ⟨by decide, by decide⟩, ?_⟩
      refine ⟨_, rfl, .inl ⟨rfl, _, SqL.of hl3⟩, _, rfl, l, _, _, rfl, rfl, hl3, line_lt (by rw [List.length_map]; omega), ?_⟩
      refine ⟨_, _, _, ms ++ [z], rfl, by rw [upd_same, List.map_append]; rfl, by rw [List.length_append, el]; rfl, fun u hu => ?_, fun b o e => ?_⟩
      · rcases List.mem_append.mp hu with h | h
        · exact hb u h
        · rw [List.mem_singleton.mp h]
          exact ⟨z0, z1⟩
      · rw [upd_ne (ne_of_none e nl)]
        exact s3 _ _ e
    · obtain ⟨x, y4, y5, ms, rfl, hl3, el, hb, s3⟩ := hP
      refine ⟨_, rfl, l, _, rfl, SqL.of hl3, fun p np => ?_⟩
      have hHp : H p = none := by
        cases e : H p with
        | none => rfl
        | some o =>
          have z := s3 p o e
          rw [np] at z
          cases z
      refine q p _ hHp ⟨ms.reverse, by rw [upd_same, List.map_reverse], by rw [List.length_reverse]; omega, by rw [List.length_reverse]; omega, fun z hz => hb z (List.mem_reverse.mp hz)⟩ (s3.trans (same_new np))
theorem scNext : FnScope ["deck"] ["deck"] (defScope s_law_next) := ⟨rfl, rfl, rfl, by decide +kernel, rfl, by decide +kernel, by decide +kernel⟩
set_option maxHeartbeats 2000000 in
theorem ok_next {f fS : Addr} {fd fdS : FuncData} {k : Nat} (T : Df K mg "_law_next" s_law_next ["deck"] f fd) (T__law_stir : Df K mg "_law_stir" s_law_stir ["cell", "k"] fS fdS) (B : Bi mg) : FnOk P w K mg base CX0 (k + 2) f fd ["deck"] spNext := by
  have G__law_stir : FnOk P w K mg base CX0 (k + 1) fS fdS ["cell", "k"] spStir := ok_stir T__law_stir B
  refine T.F.ok scNext (fun vs H Q E h => ?_) (fun cdv A outer s H vs Q E hr h => ?_)
  · obtain ⟨d, rfl, _⟩ := h
    rfl
  · obtain ⟨d, rfl, ⟨ms, hd, l1, l2, hb⟩, q⟩ := h
    refine ⟨_, 
      (Evl.pss_cut (ps_if (pt_cmpR op_eq (pe_callB call_len_seq (by rfl) B.len PySem.boot_len (pa_cons (pv 0) pa_nil)) pe_int (nomark _))
        (pss_one (ps_expr (pe_bm PySem.F.plainAttrs_list PySem.F.slot_list_insert PySem.F.type_list_insert mt_insert (pv 0) (pa_cons pe_int (pa_cons (pe_op op_mul (pe_call G__law_stir hr (by rfl) T__law_stir.g T__law_stir.F.kp T__law_stir.b .nil pass0 (pa_cons (pe_ix ix_list (pv 0) pe_int (fun _ _ => rfl)) (pa_cons pe_int pa_nil))) (pe_callTy call_int1 (by rfl) B.int (by decide +kernel) (pa_cons (pe_cmpR op_gt (pe_ix ix_list (pv 0) pe_int (fun _ _ => rfl)) pe_int (nomark _)) pa_nil))) pa_nil)))))
        pss_nil)
      (pss_one (ps_ret (pe_bm0 PySem.F.plainAttrs_list PySem.F.slot_list_pop PySem.F.type_list_pop mt_pop (pv 0))))), ?_⟩
    refine ⟨fun τ G => ∃ ks : List Int, τ = [some (.ref d)] ∧ G d = some (.lst (ks.map V.int)) ∧ 2 ≤ ks.length ∧ ks.length ≤ 1200 ∧ (∀ z ∈ ks, 0 ≤ z ∧ z < 2147483648) ∧ KeepD d H G, ?_, fun τ G hM => ?_⟩
    · refine ⟨_, rfl, d, _, rfl, .inl (SqL.of hd), rfl, _, rfl, ite2 (fun c => ?_) (fun c => ?_)⟩
      · have hl : ms.length = 1 := by
          have z : V.int (((ms.map V.int).length : Nat) : Int) = V.int 1 := of_decide_eq_true c
          have z2 : (((ms.map V.int).length : Nat) : Int) = 1 := V.int.inj z
          rw [List.length_map] at z2
          omega
        obtain ⟨x, rfl⟩ := List.length_eq_one_iff.mp hl
        have hx := hb x List.mem_cons_self
        refine ⟨_, rfl, .inl ⟨rfl, _, SqL.of hd⟩, _, rfl, d, _, 0, _, rfl, rfl, SqL.of hd, rfl, x, 7, rfl, by decide, by decide, fun v v0 v1 => ⟨_, rfl, d, _, 0, _, rfl, rfl, SqL.of hd, rfl, x, 0, rfl, rfl, .inr ⟨_, rfl, v, _, rfl, rfl, .inl ⟨by omega, by omega⟩, ?_⟩⟩⟩
        refine ⟨d, _, 0, _, rfl, rfl, hd, line_lt (by show 1 < 16777216; decide), by decide, by decide, ?_⟩
        obtain ⟨u, eu, u0, u1⟩ : ∃ u : Int, v * (if decide ((0 : Int) < x) = true then 1 else 0) = u ∧ 0 ≤ u ∧ u < 2147483648 := by
          by_cases c : (0 : Int) < x
          · rw [decide_eq_true c, if_pos rfl, Int.mul_one]
            exact ⟨v, rfl, v0, v1⟩
          · rw [decide_eq_false c, if_neg (by decide), Int.mul_zero]
            exact ⟨0, rfl, by decide, by decide⟩
        refine ⟨[u, x], rfl, ?_, by show 2 ≤ 2; decide, by show 2 ≤ 1200; decide, fun z hz => ?_, fun b o e nb => by rw [upd_ne nb]; exact e⟩
        · rw [upd_same]
          dsimp only
          rw [eu]
          rfl
        · rcases List.mem_cons.mp hz with rfl | hz
          · exact ⟨u0, u1⟩
          · rw [List.mem_singleton.mp hz]
            exact hx
      · refine ⟨ms, rfl, hd, ?_, l2, hb, KeepD.refl _ _⟩
        by_cases e : ms.length = 1
        · exfalso
          apply c
          apply decide_eq_true
          rw [List.length_map, e]
          rfl
        · omega
    obtain ⟨ks, rfl, hk, l3, l4, hb3, kp⟩ := hM
    obtain ⟨y, ey⟩ : ∃ y, ks[ks.length - 1]? = some y := ⟨ks[ks.length - 1]'(by omega), List.getElem?_eq_getElem (by omega)⟩
    have hy := hb3 y (List.mem_of_getElem? ey)
    refine ⟨_, rfl, .inl ⟨rfl, _, SqL.of hk⟩, d, _, _, rfl, rfl, hk, by rw [List.length_map]; exact int_at ey, ?_⟩
    refine q y _ hy.1 hy.2 ⟨ks.dropLast, by rw [upd_same, List.map_dropLast], by rw [List.length_dropLast]; omega, by rw [List.length_dropLast]; omega, fun z hz => hb3 z ((List.dropLast_prefix ks).subset hz)⟩ (kp.trans fun b o e nb => by rw [upd_ne nb]; exact e)
end
end Fo
namespace Fo
open PySem PySem.Spec PyProof.Rows L2
theorem ins_perm (xs : List Int) (k : Nat) (y : Int) : (xs.take k ++ [y] ++ xs.drop k).Perm (y :: xs) := by
  rw [List.append_assoc]
  have h1 : (xs.take k ++ ([y] ++ xs.drop k)).Perm ([y] ++ (xs.take k ++ xs.drop k)) := by
    rw [← List.append_assoc, ← List.append_assoc]
    exact List.Perm.append_right _ List.perm_append_comm
  rw [List.take_append_drop] at h1
  exact h1
theorem set2_perm {xs : List Int} {p q : Nat} {a b : Int} (ha : xs[p]? = some a) (hb : xs[q]? = some b) : ((xs.set p b).set q a).Perm xs := by
  obtain ⟨h1, e1⟩ := List.getElem?_eq_some_iff.mp ha
  obtain ⟨h2, e2⟩ := List.getElem?_eq_some_iff.mp hb
  rw [← e1, ← e2]
  exact List.set_set_perm h1 h2
theorem set2_V (xs : List Int) (p q : Nat) (a b : Int) : ((xs.map V.int).set p (V.int b)).set q (V.int a) = ((xs.set p b).set q a).map V.int := by
  rw [List.map_set, List.map_set]
section
variable {P : Program} {w : World} {K : PySem.W.Frag} {mg : Str → Option Value} {base : Heap}
theorem scOrderN : FnScope ["deck", "n", "left", "thing"] ["deck", "n"] (defScope s_law_order) := ⟨rfl, rfl, rfl, by decide +kernel, rfl, by decide +kernel, by decide +kernel⟩
set_option maxHeartbeats 4000000 in
theorem ok_orderN {f fD : Addr} {fd fdD : FuncData} {k : Nat} (T : Df K mg "_law_order" s_law_order ["deck", "n"] f fd) (T__law_next : Df K mg "_law_next" s_law_next ["deck"] fD fdD) (G__law_next : FnOk P w K mg base CX0 k fD fdD ["deck"] spNext) (B : Bi mg) : FnOk P w K mg base CX0 (k + 1) f fd ["deck", "n"] spOrderN := by
  refine T.F.ok scOrderN (fun vs H Q E h => ?_) (fun cdv A outer s H vs Q E hr h => ?_)
  · obtain ⟨D, n, rfl, _⟩ := h
    rfl
  · obtain ⟨d, n, rfl, hD, hn2, q⟩ := h
    refine ⟨_, 
      (pss_cons (ps_set (i := 2) scOrderN.nd rfl (.inr rfl) (pe_listRg rfl (by rfl) B.list (prg_1 (by rfl) B.range (pv 1))))
      (pss_one (ps_ret (pe_lc (own := [("thing", 3)]) (g := (gName 3)) (tt := tYes) (te := (tBM K "list" rPopAt (tVar 2) (tCons (tOp (rI (fun _ j => 0 < j) fun i j => .int (i % j)) (tCall spNext [] E0 (tCons (tVar 0) tNil)) (tCB (rLenS K) (tCons (tVar 2) tNil))) tNil))) rfl scOrderN.nd (pi_range1 (by rfl) B.range (pa_cons (pv 1) pa_nil)) (blkOk_by (N := ["deck", "n", "left", "thing"]) (sc := defScope s_law_order) (by decide +kernel)) (fun _ _ _ _ _ => (pg_name (i := 3) scOrderN.nd rfl (.inl rfl))) (fun _ _ _ _ _ => pts_nil) (fun _ _ _ _ _ => (pe_bm PySem.F.plainAttrs_list PySem.F.slot_list_pop PySem.F.type_list_pop mt_popAt (pv 2) (pa_cons (pe_op op_mod (pe_call G__law_next hr (by rfl) T__law_next.g T__law_next.F.kp T__law_next.b .nil pass0 (pa_cons (pv 0) pa_nil)) (pe_callB call_len_seq (by rfl) B.len PySem.boot_len (pa_cons (pv 2) pa_nil))) pa_nil))))))), ?_⟩
    refine ⟨_, rfl, n, rfl, RgOk.of_le (by omega) (by omega) (by omega) (by omega), fun l nl => ?_⟩
    have hl0 : (upd H l (.lst (rgV 0 (n : Int)))) l = some (.lst ((rg n).map V.int)) := by rw [upd_same, rg_V]
    have D0 := hD.new (o := .lst (rgV 0 (n : Int))) nl
    have nf := hD.ne nl
    have k0 : KeepD d H (upd H l (.lst (rgV 0 (n : Int)))) := KeepD.new nl
    refine ⟨_, rfl, n, rfl, by omega, by omega, ?_⟩
    rw [Int.toNat_natCast]
    intro p np
    have npf := D0.ne np
    have lp : l ≠ p := ne_of_none hl0 np
    refine lc_range (lo := 0) (n := n) (fun i H3 => ∃ (rest acc : List Int), (acc ++ rest).Perm (rg n) ∧ acc.length = i ∧ H3 l = some (.lst (rest.map V.int)) ∧ H3 p = some (.lst (acc.map V.int)) ∧ DqAt H3 d ∧ ∀ b o, H b = some o → b ≠ d → H3 b = some o)
      ⟨rg n, [], List.Perm.refl _, rfl, by rw [upd_ne lp]; exact hl0, upd_same, D0.new np, fun b o e f => by rw [upd_ne (ne_of_none (k0 b o e f) np)]; exact k0 b o e f⟩ (fun i H3 hi hP => ?_) (fun H3 hP => ?_)
    · obtain ⟨rest, acc, hperm, el, hl3, hp3, D3, kp3⟩ := hP
      have hlen : rest.length = n - i := by
        have := List.Perm.length_eq hperm
        rw [List.length_append, rg_len] at this
        omega
      have hlm : (rest.map V.int).length = rest.length := List.length_map _
      refine ⟨rfl, ?_⟩
      refine ⟨_, rfl, .inl ⟨rfl, _, SqL.of hl3⟩, _, rfl, d, rfl, D3, fun v H4 v0 v1 D4 k4 => ?_⟩
      have hl4 := k4 l _ hl3 nf
      have hp4 := k4 p _ hp3 npf
      obtain ⟨j, ej, hj⟩ : ∃ j : Nat, v % (((rest.map V.int).length : Nat) : Int) = (j : Int) ∧ j < rest.length := by
        rw [hlm]
        have h1 := mod_b v (m := ((rest.length : Nat) : Int)) (by omega)
        exact ⟨(v % ((rest.length : Nat) : Int)).toNat, by omega, by omega⟩
      refine ⟨_, rfl, l, _, rfl, .inl (SqL.of hl4), v, _, rfl, rfl, by rw [hlm]; omega, ?_⟩
      obtain ⟨y, ey⟩ : ∃ y, rest[j]? = some y := ⟨rest[j]'(by omega), List.getElem?_eq_getElem (by omega)⟩
      refine ⟨l, _, _, j, _, rfl, rfl, hl4, by rw [ej]; omega, by rw [ej]; omega, seq_ix ej (by rw [hlm]; omega), int_at ey, ?_⟩
      refine ⟨acc.map V.int, by rw [upd_ne lp.symm]; exact hp4, line_lt (by rw [List.length_map]; omega), rest.eraseIdx j, acc ++ [y], ?_, by rw [List.length_append, el]; rfl, ?_, by rw [upd_same, List.map_append]; rfl, ?_, fun b o e f => ?_⟩
      · rw [List.append_assoc]
        exact (List.Perm.append_left acc (pop_perm ey)).trans hperm
      · rw [upd_ne lp, upd_same, map_erase]
      · exact (D4.upd nf).upd npf
      · have e4 := k4 b o (kp3 b o e f) f
        have nbl : b ≠ l := ne_of_none e nl
        have nbp : b ≠ p := ne_of_none (k0 b o e f) np
        rw [upd_ne nbp, upd_ne nbl]
        exact e4
    · obtain ⟨rest, acc, hperm, el, hl3, hp3, D3, kp3⟩ := hP
      have hr0 : rest = [] := by
        have := List.Perm.length_eq hperm
        rw [List.length_append, rg_len] at this
        exact List.eq_nil_of_length_eq_zero (by omega)
      subst hr0
      rw [List.append_nil] at hperm
      exact q acc p H3 hperm (k0.none np npf) hp3 npf D3 kp3
end
end Fo
namespace Fo
open PySem PySem.Spec PyProof.Rows L2
theorem lc_zipL {K : PySem.W.Frag} {a b : Addr} {xs ys : List V} {g : TG} {tt : TT} {te : TE} {vs : List Nat} {σ : L2.St} {H1 : Hp} {D : Addr} {Qd : Hp → Prop} (hlen : xs.length = ys.length) (Pv : Nat → Hp → Prop) (h0 : Pv 0 (upd H1 D (.lst []))) (hl : ∀ i H, i ≤ xs.length → Pv i H → SqL K H a xs ∧ SqL K H b ys)
    (hs : ∀ (i : Nat) (x y : V) (T : Addr) (H : Hp), xs[i]? = some x → ys[i]? = some y → Pv i H → H T = none → g (.ref T) (wipe σ vs) (upd H T (.tup [x, y])) fun σ2 H2 => wipe σ2 vs = wipe σ vs ∧ tt σ2 H2 fun b H3 =>
      if b = true then te σ2 H3 fun y H4 => ∃ acc, H4 D = some (.lst acc) ∧ acc.length < sizeLine ∧ Pv (i + 1) (upd H4 D (.lst (acc ++ [y]))) else Pv (i + 1) H3) (hd : ∀ H, Pv xs.length H → Qd H) :
    ∃ W : Nat → Nat → Hp → Prop, (∃ m, W 0 m (upd H1 D (.lst []))) ∧ ∀ i m H, W i m H →
      ((Itz K a b).stop i H ∧ Qd H) ∨ ((Itz K a b).go i H ∧ ∃ Nx : Hp → Prop, (∀ H', Nx H' → ∃ m', m' < m ∧ W (i + 1) m' H') ∧ ∀ x H', (Itz K a b).yld i H x H' → g x (wipe σ vs) H' fun σ2 H2 => wipe σ2 vs = wipe σ vs ∧ tt σ2 H2 fun b H3 =>
        if b = true then te σ2 H3 fun y H4 => ∃ acc, H4 D = some (.lst acc) ∧ acc.length < sizeLine ∧ Nx (upd H4 D (.lst (acc ++ [y]))) else Nx H3) := by
  refine ⟨fun i m H => m = xs.length - i ∧ i ≤ xs.length ∧ Pv i H, ⟨xs.length, by simp, Nat.zero_le _, h0⟩, ?_⟩
  rintro i m H ⟨rfl, hi, p⟩
  obtain ⟨q1, q2⟩ := hl i H hi p
  by_cases hlt : i < xs.length
  · refine .inr ⟨⟨xs, ys, xs[i], ys[i], q1, q2, by simp [hlt], List.getElem?_eq_getElem (by omega)⟩, Pv (i + 1), fun H' p' => ⟨xs.length - (i + 1), by omega, rfl, hlt, p'⟩, fun x H' y => ?_⟩
    obtain ⟨T, x', y', rfl, hT, rfl, f1, f2⟩ := y
    exact hs i x' y' T H (f1 xs q1) (f2 ys q2) p hT
  · have e : i = xs.length := by omega
    subst e
    exact .inl ⟨⟨xs, ys, q1, q2, .inl (Nat.le_refl _)⟩, hd H p⟩
end Fo
namespace Fo
open PySem PySem.Spec PyProof.Rows L2
/-- a dict that has for each thing of an order its place -/
def PlD (kvs : List (Key × V)) (xs : List Int) : Prop := ∀ x ∈ xs, valV kvs (Sum.inl x) = some (.int (pos xs x))
def spPlD : Sp := fun vs H Q _ => ∃ (a : Addr) (n : Nat) (xs : List Int), vs = [.ref a] ∧ H a = some (.lst (xs.map V.int)) ∧ IsOrd n xs ∧ n ≤ 12 ∧ ∀ (d : Addr) (kvs : List (Key × V)) (H' : Hp), H d = none → H' d = some (.dK kvs) → PlD kvs xs → Same H H' → Q (.ref d) H'
section
variable {P : Program} {w : World} {K : PySem.W.Frag} {mg : Str → Option Value} {base : Heap}
theorem scPlD : FnScope ["order", "found", "place", "thing"] ["order"] (defScope s_law_places) := ⟨rfl, rfl, rfl, by decide +kernel, rfl, by decide +kernel, by decide +kernel⟩
set_option maxHeartbeats 2000000 in
theorem ok_pld {f : Addr} {fd : FuncData} {k : Nat} (T : Df K mg "_law_places" s_law_places ["order"] f fd) (B : Bi mg) : FnOk P w K mg base CX0 (k + 1) f fd ["order"] spPlD := by
  refine T.F.ok scPlD (fun vs H Q E h => ?_) (fun cdv A outer s H vs Q E hr h => ?_)
  · obtain ⟨a, n, xs, rfl, _⟩ := h
    rfl
  · obtain ⟨a, n, xs, rfl, ha, ox, hn, q⟩ := h
    refine ⟨_, 
      (pss_cons (ps_set (i := 1) scPlD.nd rfl (.inl rfl) pe_dnewK)
      (pss_cons (ps_for PassesOwn.never rfl (pi_enum (by rfl) B.enumerate (pa_cons (pv 0) pa_nil)) (pg_tup (by rfl) (pgs_cons (pg_name (i := 2) scPlD.nd rfl (.inl rfl)) (pgs_cons (pg_name (i := 3) scPlD.nd rfl (.inl rfl)) pgs_nil)))
        (pss_one (ps_dput (hu_of hr) (pv 1) (pv 3) (pv 2) (by rfl))))
      (pss_one (ps_ret (pv 1))))), ?_⟩
    intro d nd
    have s0 := same_new (o := .dK []) nd
    refine ⟨_, rfl, a, _, rfl, SqL.of (s0 _ _ ha), ?_⟩
    refine for_enumL (xs := xs.map V.int) (fun i σ H3 => ∃ (y2 y3 : Option V) (kvs : List (Key × V)), σ = [some (.ref a), some (.ref d), y2, y3] ∧ H3 d = some (.dK kvs) ∧ kvs.length ≤ i ∧ (∀ x ∈ xs.take i, valV kvs (Sum.inl x) = some (.int (pos xs x))) ∧ Same H H3)
      ⟨none, none, [], rfl, upd_same, Nat.le_refl _, (fun x hx => absurd hx (by rw [List.take_zero]; exact List.not_mem_nil)), s0⟩ (fun i σ H3 hP => by obtain ⟨_, _, _, _, _, _, _, sm⟩ := hP; exact SqL.of (sm _ _ ha)) (fun i x t σ H3 hx hP nt => ?_) (fun σ H3 hP => ?_)
    · obtain ⟨y2, y3, kvs, rfl, hd, hl, hv, sm⟩ := hP
      obtain ⟨y, ey, rfl⟩ := int_at_inv hx
      have hi := (List.getElem?_eq_some_iff.mp ey).1
      rw [ox.len] at hi
      have s3 := same_new (o := .tup [.int (i : Nat), .int y]) nt
      have hd3 := s3 _ _ hd
      refine ⟨t, _, rfl, .inl (.inl upd_same), rfl, _, _, rfl, _, _, rfl, rfl, ?_⟩
      refine ⟨_, rfl, _, rfl, _, rfl, d, _, rfl, DPut.k (k := Sum.inl y) hd3 (line_lt (by omega)), ?_⟩
      refine ⟨_, _, putK kvs (Sum.inl y) (.int (i : Nat)), rfl, upd_same, Nat.le_trans (length_putK _ _ _) (by omega), fun x hx => ?_, fun b o e => ?_⟩
      · rw [valV_put]
        by_cases c : (Sum.inl x : Key) = Sum.inl y
        · rw [if_pos c]
          have e : x = y := Sum.inl.inj c
          subst e
          rw [pos_of ox ey]
        · rw [if_neg c]
          rw [take_more ey] at hx
          rcases List.mem_append.mp hx with h | h
          · exact hv x h
          · exact absurd (by rw [List.mem_singleton.mp h]) c
      · rw [upd_ne (ne_of_none e nd)]
        exact s3 _ _ (sm _ _ e)
    · obtain ⟨y2, y3, kvs, rfl, hd, hl, hv, sm⟩ := hP
      rw [List.length_map, List.take_length] at hv
      exact ⟨_, rfl, q d kvs H3 nd hd hv sm⟩
theorem scLFar : FnScope ["way", "one", "other", "there", "many", "place", "thing", "left", "right", "later"] ["way", "one", "other"] (defScope s_law_far) := ⟨rfl, rfl, rfl, by decide +kernel, rfl, by decide +kernel, by decide +kernel⟩
set_option maxHeartbeats 4000000 in
theorem ok_lfar {f f1 : Addr} {fd d1 : FuncData} {k : Nat} (T : Df K mg "_law_far" s_law_far ["way", "one", "other"] f fd) (T__law_places : Df K mg "_law_places" s_law_places ["order"] f1 d1) (G__law_places : FnOk P w K mg base CX0 k f1 d1 ["order"] spPlD) (B : Bi mg) : FnOk P w K mg base CX0 (k + 1) f fd ["way", "one", "other"] spFar := by
  refine T.F.ok scLFar (fun vs H Q E h => ?_) (fun cdv A outer s H vs Q E hr h => ?_)
  · obtain ⟨z, a, b, n, xs, ys, rfl, _⟩ := h
    rfl
  · obtain ⟨z, a, b, n, xs, ys, rfl, hz, ha0, hb0, ox, oy, hn1, hn2, q0⟩ := h
    have hxl : (xs.map V.int).length = n := by rw [List.length_map, ox.len]
    have hyl : (ys.map V.int).length = n := by rw [List.length_map, oy.len]
    refine ⟨_, 
      (pss_cons (ps_set (i := 3) scLFar.nd rfl (.inr rfl) (pe_call G__law_places hr (by rfl) T__law_places.g T__law_places.F.kp T__law_places.b .nil pass0 (pa_cons (pv 2) pa_nil)))
      (pss_cons (ps_if (pt_cmpR op_eq (pv 0) pe_str (nomark _))
        (pss_one (ps_ret (pe_callB call_len_seq (by rfl) B.len PySem.boot_len (pa_cons (pe_lc (own := [("left", 7), ("right", 8)]) (g := (gTup K 2 (gCons (gName 7) (gCons (gName 8) gNil)))) (tt := (tTest (tOp rNe (tVar 7) (tVar 8)))) (te := (tC (.int 1))) rfl scLFar.nd (pi_zip (by rfl) B.zip (pa_cons (pv 1) (pa_cons (pv 2) pa_nil))) (blkOk_by (N := ["way", "one", "other", "there", "many", "place", "thing", "left", "right", "later"]) (sc := defScope s_law_far) (by decide +kernel)) (fun _ _ _ _ _ => (pg_tup (by rfl) (pgs_cons (pg_name (i := 7) scLFar.nd rfl (.inl rfl)) (pgs_cons (pg_name (i := 8) scLFar.nd rfl (.inl rfl)) pgs_nil)))) (fun _ _ _ _ _ => (pts_one (pt_cmpR op_ne (pv 7) (pv 8) (nomark _)))) (fun _ _ _ _ _ => pe_int)) pa_nil))))
        pss_nil)
      (pss_cons (ps_if (pt_cmpR op_eq (pv 0) pe_str (nomark _))
        (pss_one (ps_ret (pe_callB (cr_max rfl) (by rfl) B.max (by decide +kernel) (pa_cons (pe_lc (own := [("place", 5), ("thing", 6)]) (g := (gTup K 2 (gCons (gName 5) (gCons (gName 6) gNil)))) (tt := tYes) (te := (tCB rAbs (tCons (tOp (rI0 fun i j => .int (i - j)) (tVar 5) (tDGet (tVar 3) (tVar 6))) tNil))) rfl scLFar.nd (pi_enum (by rfl) B.enumerate (pa_cons (pv 1) pa_nil)) (blkOk_by (N := ["way", "one", "other", "there", "many", "place", "thing", "left", "right", "later"]) (sc := defScope s_law_far) (by decide +kernel)) (fun _ _ _ _ _ => (pg_tup (by rfl) (pgs_cons (pg_name (i := 5) scLFar.nd rfl (.inl rfl)) (pgs_cons (pg_name (i := 6) scLFar.nd rfl (.inl rfl)) pgs_nil)))) (fun _ _ _ _ _ => pts_nil) (fun _ _ _ _ _ => (pe_callB call_abs (by rfl) B.abs (by decide +kernel) (pa_cons (pe_op op_sub (pv 5) (pe_dget (hu_of hr) (pv 3) (pv 6) (fun _ _ => rfl))) pa_nil)))) pa_nil))))
        pss_nil)
      (pss_cons (ps_set (i := 4) scLFar.nd rfl (.inl rfl) pe_int)
      (pss_cons (ps_for PassesOwn.never rfl (pi_enum (by rfl) B.enumerate (pa_cons (pv 1) pa_nil)) (pg_tup (by rfl) (pgs_cons (pg_name (i := 5) scLFar.nd rfl (.inl rfl)) (pgs_cons (pg_name (i := 6) scLFar.nd rfl (.inr rfl)) pgs_nil)))
        (pss_one (ps_set (i := 4) scLFar.nd rfl (.inl rfl) (pe_op op_add (pv 4) (pe_callB call_len_seq (by rfl) B.len PySem.boot_len (pa_cons (pe_lc (own := [("later", 9)]) (g := (gName 9)) (tt := (tTest (tOp (rI0 fun i j => .bl (decide (i < j))) (tDGet (tVar 3) (tVar 9)) (tDGet (tVar 3) (tVar 6))))) (te := (tC (.int 1))) rfl scLFar.nd (pi_list (pe_slice sl_list (pv 1) (po_some (pe_op op_add (pv 5) pe_int)) po_none)) (blkOk_by (N := ["way", "one", "other", "there", "many", "place", "thing", "left", "right", "later"]) (sc := defScope s_law_far) (by decide +kernel)) (fun _ _ _ _ _ => (pg_name (i := 9) scLFar.nd rfl (.inl rfl))) (fun _ _ _ _ _ => (pts_one (pt_cmpR op_lt (pe_dget (hu_of hr) (pv 3) (pv 9) (fun _ _ => rfl)) (pe_dget (hu_of hr) (pv 3) (pv 6) (fun _ _ => rfl)) (nomark _)))) (fun _ _ _ _ _ => pe_int)) pa_nil))))))
      (pss_one (ps_ret (pv 4)))))))), ?_⟩
    refine ⟨_, rfl, b, n, ys, rfl, hb0, oy, hn2, fun d kvs H1 nd hd hv s1 => ?_⟩
    have ha := s1 _ _ ha0
    have hb := s1 _ _ hb0
    have q : ∀ H', Same H1 H' → Q (.int (farW z xs ys)) H' := fun H' s => q0 H' (s1.trans s)
    have hvx : ∀ x ∈ xs, valV kvs (Sum.inl x) = some (.int (pos ys x)) := fun x hx => hv x ((List.Perm.mem_iff oy).mpr ((List.Perm.mem_iff ox).mp hx))
    have gt : ∀ {G : Hp} {x : Int}, Same H1 G → x ∈ xs → DGet G d (.int x) (some (.int (pos ys x))) := fun {G x} sm hx => by
      have := DGet.k (k := Sum.inl x) (sm _ _ hd)
      rw [hvx x hx] at this
      exact this
    clear q0 nd
    rcases hz with rfl | rfl | rfl
    · -- swap
      refine ⟨_, rfl, rfl, _, rfl, ite2 (fun c => absurd c (by decide +kernel)) (fun _ => ?_)⟩
      refine ⟨_, rfl, rfl, _, rfl, ite2 (fun c => absurd c (by decide +kernel)) (fun _ => ?_)⟩
      refine ⟨_, rfl, a, _, rfl, SqL.of ha, ?_⟩
      refine for_enumL (xs := xs.map V.int) (fun i σ H3 => ∃ (y5 y6 y9 : Option V), σ = [some (.str "swap"), some (.ref a), some (.ref b), some (.ref d), some (.int ((sumN (rg i) (fun p => cntL (seatsL xs ys) p.toNat) : Nat) : Int)), y5, y6, none, none, y9] ∧ Same H1 H3)
        ⟨_, _, _, rfl, Same.refl _⟩ (fun i σ H3 hP => by obtain ⟨_, _, _, _, sm⟩ := hP; exact SqL.of (sm _ _ ha)) (fun i x t σ H3 hx hP nt => ?_) (fun σ H3 hP => ?_)
      · obtain ⟨y5, y6, y9, rfl, sm⟩ := hP
        obtain ⟨y, ey, rfl⟩ := int_at_inv hx
        have hi := (List.getElem?_eq_some_iff.mp ey).1
        rw [ox.len] at hi
        have eg : g0 (seatsL xs ys) i = pos ys y := g0_at (seats_at ey)
        have s3 := same_new (o := .tup [.int (i : Nat), .int y]) nt
        refine ⟨t, _, rfl, .inl (.inl upd_same), rfl, _, _, rfl, _, _, rfl, rfl, ?_⟩
        refine ⟨_, rfl, _, rfl, _, rfl, (i : Int), 1, rfl, rfl, _, rfl, a, _, rfl, SqL.of (s3 _ _ (sm _ _ ha)), fun c nc => ?_⟩
        have ecut : cutV (xs.map V.int) (some ((i : Int) + 1)) none = ((xs.drop (i + 1)).map V.int) := by
          rw [cut_ints, show (i : Int) + 1 = ((i + 1 : Nat) : Int) by omega, cutI_tail]
        have s4 := s3.trans (same_new (o := .lst (cutV (xs.map V.int) (some ((i : Int) + 1)) none)) nc)
        have hc4 : (upd (upd H3 t (.tup [.int (i : Nat), .int y])) c (.lst (cutV (xs.map V.int) (some ((i : Int) + 1)) none))) c = some (.lst ((xs.drop (i + 1)).map V.int)) := by rw [upd_same, ecut]
        refine ⟨c, rfl, ⟨_, SqL.of hc4⟩, fun D nD => ?_⟩
        have ncD : c ≠ D := ne_of_none hc4 nD
        refine lc_list (K := K) (a := c) (xs := (xs.drop (i + 1)).map V.int) (fun m H5 => H5 D = some (.lst ((((xs.drop (i + 1)).take m).filter (fun z => decide (pos ys z < pos ys y))).map (fun _ => V.int 1))) ∧ H5 c = some (.lst ((xs.drop (i + 1)).map V.int)) ∧ Same H3 H5)
          ⟨upd_same, by rw [upd_ne ncD]; exact hc4, s4.trans (same_new nD)⟩ (fun m H5 _ hP => SqL.of hP.2.1) (fun m x H5 hx hP => ?_) (fun H5 hP => ?_)
        · obtain ⟨hD5, hc5, s5⟩ := hP
          obtain ⟨z, ez, rfl⟩ := int_at_inv hx
          have hzx : z ∈ xs := List.mem_of_mem_drop (List.mem_of_getElem? ez)
          refine ⟨rfl, _, rfl, _, rfl, d, _, rfl, gt (sm.trans s5) hzx, _, rfl, _, rfl, d, _, rfl, gt (sm.trans s5) (List.mem_of_getElem? ey), _, _, rfl, rfl, _, rfl, ite2 (fun c => ?_) (fun c => ?_)⟩
          · have hz : pos ys z < pos ys y := of_decide_eq_true c
            refine ⟨_, hD5, line_lt ?_, ?_, by rw [upd_ne ncD]; exact hc5, fun u o e => ?_⟩
            · rw [List.length_map]
              refine Nat.lt_of_le_of_lt (List.length_filter_le _ _) ?_
              rw [List.length_take, List.length_drop, ox.len]
              omega
            · rw [upd_same, filter_more _ ez, decide_eq_true hz, if_pos rfl, List.map_append]
              rfl
            · rw [upd_ne (ne_of_none (s4 _ _ e) nD)]
              exact s5 _ _ e
          · refine ⟨?_, hc5, s5⟩
            rw [filter_more _ ez, decide_eq_false (fun hz => c (decide_eq_true hz)), if_neg (by decide), List.append_nil]
            exact hD5
        · obtain ⟨hD5, hc5, s5⟩ := hP
          rw [List.length_map, List.take_length] at hD5
          refine ⟨D, _, rfl, .inl (SqL.of hD5), _, _, rfl, rfl, ?_⟩
          refine ⟨some (.int (i : Int)), some (.int y), y9, ?_, sm.trans s5⟩
          have ec : ((xs.drop (i + 1)).filter (fun z => decide (pos ys z < pos ys y))).length = cntL (seatsL xs ys) i := by
            unfold cntL
            rw [eg]
            unfold seatsL
            rw [← List.map_drop, List.filter_map, List.length_map]
            rfl
          rw [rg_succ, sumN_append, sumN_cons, sumN_nil, List.length_map, ec, Int.toNat_natCast, Int.natCast_add, Nat.add_zero]
          rfl
      · obtain ⟨y5, y6, y9, rfl, sm⟩ := hP
        refine ⟨_, rfl, ?_⟩
        have z := q H3 sm
        rw [farW_swap] at z
        unfold farSwap invN at z
        rw [seats_len] at z
        rw [List.length_map]
        exact z
    · -- spot
      refine ⟨_, rfl, rfl, _, rfl, ite2 (fun _ => ?_) (fun c => absurd (by decide +kernel) c)⟩
      refine ⟨_, rfl, _, rfl, a, b, _, _, rfl, SqL.of ha, SqL.of hb, fun D nD => ?_⟩
      refine lc_zipL (K := K) (a := a) (b := b) (xs := xs.map V.int) (ys := ys.map V.int) (by rw [hxl, hyl]) (fun m H3 => H3 D = some (.lst (((rg m).filter (fun p => !decide (g0 xs p = g0 ys p))).map (fun _ => V.int 1))) ∧ Same H1 H3) ⟨upd_same, same_new nD⟩ (fun m H3 _ hP => ⟨SqL.of (hP.2 _ _ ha), SqL.of (hP.2 _ _ hb)⟩) (fun m u v t H3 hu hv hP nt => ?_) (fun H3 hP => ?_)
      · obtain ⟨hD3, sm⟩ := hP
        obtain ⟨x, ex, rfl⟩ := int_at_inv hu
        obtain ⟨y, ey, rfl⟩ := int_at_inv hv
        have hm := (List.getElem?_eq_some_iff.mp ex).1
        rw [ox.len] at hm
        have gx : g0 xs (m : Int) = x := g0_at ex
        have gy : g0 ys (m : Int) = y := g0_at ey
        have s3 := same_new (o := .tup [.int x, .int y]) nt
        have fm : ((rg (m + 1)).filter fun p => !decide (g0 xs p = g0 ys p)) = ((rg m).filter fun p => !decide (g0 xs p = g0 ys p)) ++ (if x = y then [] else [(m : Int)]) := by
          rw [rg_succ, List.filter_append, List.filter_cons, gx, gy]
          congr 1
          by_cases c : x = y
          · simp [c]
          · simp [c]
        refine ⟨t, _, rfl, .inl (.inl upd_same), rfl, _, _, rfl, _, _, rfl, rfl, rfl, ?_⟩
        refine ⟨_, rfl, _, rfl, rfl, _, rfl, ?_⟩
        by_cases c : x = y
        · subst c
          refine iteNS rfl ⟨?_, sm.trans s3⟩
          rw [fm, if_pos rfl, List.append_nil]
          exact s3 _ _ hD3
        · rw [decide_eq_false (fun e => c (V.int.inj e))]
          refine iteT ⟨_, s3 _ _ hD3, line_lt ?_, ?_, fun u o e => ?_⟩
          · rw [List.length_map]
            refine Nat.lt_of_le_of_lt (List.length_filter_le _ _) ?_
            rw [rg_len]
            omega
          · rw [upd_same, fm, if_neg c, List.map_append]
            rfl
          · rw [upd_ne (ne_of_none e nD)]
            exact s3 _ _ (sm _ _ e)
      · obtain ⟨hD3, sm⟩ := hP
        refine ⟨D, _, rfl, .inl (SqL.of hD3), ?_⟩
        have z := q H3 sm
        rw [farW_spot] at z
        unfold farSpot spotL at z
        rw [List.length_map, List.length_map]
        exact z
    · -- shift
      refine ⟨_, rfl, rfl, _, rfl, ite2 (fun c => absurd c (by decide +kernel)) (fun _ => ?_)⟩
      refine ⟨_, rfl, rfl, _, rfl, ite2 (fun _ => ?_) (fun c => absurd (by decide +kernel) c)⟩
      refine ⟨_, rfl, a, _, rfl, SqL.of ha, fun D nD => ?_⟩
      refine lc_enumL (K := K) (a := a) (xs := xs.map V.int) (fun m H3 => H3 D = some (.lst (((gapsL xs ys).take m).map V.int)) ∧ Same H1 H3) ⟨upd_same, same_new nD⟩ (fun m H3 _ hP => SqL.of (hP.2 _ _ ha)) (fun m x t H3 hx hP nt => ?_) (fun H3 hP => ?_)
      · obtain ⟨hD3, sm⟩ := hP
        obtain ⟨y, ey, rfl⟩ := int_at_inv hx
        have hi := (List.getElem?_eq_some_iff.mp ey).1
        have hi2 := hi
        rw [ox.len] at hi
        have s3 := same_new (o := .tup [.int (m : Nat), .int y]) nt
        have eg : (gapsL xs ys)[m]? = some (absI ((m : Int) - pos ys y)) := by
          unfold gapsL rg
          rw [List.map_map, List.getElem?_map, List.getElem?_range hi2]
          show some (absI ((m : Int) - g0 (seatsL xs ys) (m : Int))) = _
          rw [g0_at (seats_at ey)]
        refine ⟨t, _, rfl, .inl (.inl upd_same), rfl, _, _, rfl, _, _, rfl, rfl, rfl, ?_⟩
        refine ⟨_, rfl, _, rfl, _, rfl, d, _, rfl, gt (sm.trans s3) (List.mem_of_getElem? ey), (m : Int), _, rfl, rfl, _, rfl, _, s3 _ _ hD3, line_lt (by rw [List.length_map, List.length_take, gaps_len, ox.len]; omega), ?_, fun u o e => ?_⟩
        · rw [upd_same, take_more eg, List.map_append]
          rfl
        · rw [upd_ne (ne_of_none e nD)]
          exact s3 _ _ (sm _ _ e)
      · obtain ⟨hD3, sm⟩ := hP
        rw [List.take_of_length_le (by rw [gaps_len, List.length_map]; exact Nat.le_refl _)] at hD3
        refine ⟨D, gapsL xs ys, rfl, SqL.of hD3, by rw [gaps_len, ox.len]; exact hn1, fun m hm hle => ?_⟩
        have e : farW "shift" xs ys = m := by
          rw [farW_shift]
          exact maxL_of (gaps_nonneg xs ys) hm hle
        rw [← e]
        exact q H3 sm
end
end Fo
namespace Fo
open PySem PySem.Spec PyProof.Rows L2
/-! xs.count(y), flat items -/
section
variable {X : Cx}
def rCntF (K : PySem.W.Frag) : V → List V → Hp → VK → Prop := fun x xs H Q => ∃ (a : Addr) (ys : List V) (y : V), x = V.ref a ∧ xs = [y] ∧ SqL K H a ys ∧ flatV y = true ∧ ys.all flatV = true ∧ Q (.int (ys.countP (fun z => eqV z y) : Nat)) H
theorem cnt_flat {y : V} : ∀ {ys : List V} {us : List Value}, Vals ys us → ys.all flatV = true → us.countP (eqU y) = ys.countP fun z => eqV z y
  | [], _, r, _ => by cases r; rfl
  | x :: ys, _, r, f => by
    cases r with
    | cons r1 r2 =>
      rw [List.all_cons, Bool.and_eq_true_iff] at f
      rw [List.countP_cons, List.countP_cons, cnt_flat r2 f.2, eqU_of r1 f.1]
theorem mt_cntF : MtR X "list.count" (rCntF X.K) := by
  intro pins s σ H x xs v us Q I rx rxs h
  obtain ⟨a, ys, y, rfl, rfl, hs, fy, fys, q⟩ := h
  cases rx
  cases rxs with
  | cons ry rt =>
    rename_i uy ut
    cases rt
    obtain ⟨its, rv, ⟨⟨cls, dd, data, sl⟩, n, ho, hc, hdn, hd⟩, hlen⟩ := I.list hs
    simp only at hc hd
    subst hc hd
    refine call_meets PySem.F.slot_list_count ⟨_, ho, rfl⟩ PySem.F.entry_list_count (PySem.F.args_list_count_2 _ _)
      (SeqAt.list_countAt a its.toArray n dd sl uy (eqU y)) ⟨ho, fun u' hu' => mem_eqAt ry fy rv fys u' (by simpa using hu'), ?_⟩
    have ec : its.toArray.toList.countP (eqU y) = ys.countP fun z => eqV z y := cnt_flat rv fys
    refine ⟨.int (ys.countP (fun z => eqV z y) : Nat), H, I.tok _, ⟨s.toks, ?_⟩, q⟩
    show Value.int ((its.toArray.toList.countP (eqU y) : Nat) : Int) s.toks = Value.int ((ys.countP (fun z => eqV z y) : Nat) : Int) s.toks
    rw [ec]
end
end Fo
namespace Fo
open PySem PySem.Spec PyProof.Rows L2
/-- C is the i-th of the nine error classes, and none of the others -/
structure KdY (K : PySem.W.Frag) (c : Nat → Addr) (C : Addr) (i : Nat) : Prop where
  ec : ExcC K C
  ks : ∀ j, j < 9 → PySem.W.kitOne K (.ref C) (.ref (c j)) = some (decide (j = i))
  ve : PySem.W.kitOne K (.ref C) (.type "ValueError") = some true
  lt : i < 9
def cls9 (a0 a1 a2 a3 a4 a5 a6 a7 a8 : Addr) : Nat → Addr
  | 0 => a0
  | 1 => a1
  | 2 => a2
  | 3 => a3
  | 4 => a4
  | 5 => a5
  | 6 => a6
  | 7 => a7
  | _ => a8
theorem kd_mk9 {K : PySem.W.Frag} {C a0 a1 a2 a3 a4 a5 a6 a7 a8 : Addr} {i : Nat} (ec : ExcC K C) (h0 : PySem.W.kitOne K (.ref C) (.ref a0) = some (decide (0 = i))) (h1 : PySem.W.kitOne K (.ref C) (.ref a1) = some (decide (1 = i))) (h2 : PySem.W.kitOne K (.ref C) (.ref a2) = some (decide (2 = i))) (h3 : PySem.W.kitOne K (.ref C) (.ref a3) = some (decide (3 = i))) (h4 : PySem.W.kitOne K (.ref C) (.ref a4) = some (decide (4 = i))) (h5 : PySem.W.kitOne K (.ref C) (.ref a5) = some (decide (5 = i))) (h6 : PySem.W.kitOne K (.ref C) (.ref a6) = some (decide (6 = i))) (h7 : PySem.W.kitOne K (.ref C) (.ref a7) = some (decide (7 = i))) (h8 : PySem.W.kitOne K (.ref C) (.ref a8) = some (decide (8 = i))) (ve : PySem.W.kitOne K (.ref C) (.type "ValueError") = some true) (lt : i < 9) : KdY K (cls9 a0 a1 a2 a3 a4 a5 a6 a7 a8) C i := by
  refine ⟨ec, fun j hj => ?_, ve, lt⟩
  rcases (show j = 0 ∨ j = 1 ∨ j = 2 ∨ j = 3 ∨ j = 4 ∨ j = 5 ∨ j = 6 ∨ j = 7 ∨ j = 8 by omega) with rfl | rfl | rfl | rfl | rfl | rfl | rfl | rfl | rfl
  · exact h0
  · exact h1
  · exact h2
  · exact h3
  · exact h4
  · exact h5
  · exact h6
  · exact h7
  · exact h8
def spKindsY (K : PySem.W.Frag) (c : Nat → Addr) : Sp := fun vs H Q _ => ∃ (a C : Addr) (i : Nat), vs = [.ref a, .int i] ∧ H a = some (ExV (.ref C) none a) ∧ KdY K c C i ∧ ∀ H', Same H H' → Q (.bl true) H'
abbrev dB (bs : List Bool) : PyData := .list (bs.map PyData.bool)
theorem dp_bools {K : PySem.W.Frag} {H : Hp} : ∀ bs : List Bool, DpAll K H (bs.map V.bl) (bs.map PyData.bool)
  | [] => .nil
  | b :: r => .cons (.bl b) (dp_bools r)
theorem dp_boolL {K : PySem.W.Frag} {H : Hp} {a : Addr} {bs : List Bool} (h : H a = some (.lst (bs.map V.bl))) : Dp K H (.ref a) (dB bs) := .lst (SqL.of h) (dp_bools bs)
theorem lay_bools : ∀ bs : List Bool, PyData.canLayAll0 (bs.map PyData.bool) = true
  | [] => rfl
  | b :: r => by
    show (PyData.canLay0 (.bool b) && PyData.canLayAll0 (r.map PyData.bool)) = true
    rw [lay_bools r]
    rfl
theorem depth_bools : ∀ bs : List Bool, PyData.depthAll (bs.map PyData.bool) = 0
  | [] => by simp [PyData.depthAll]
  | b :: r => by
    show PyData.depthAll (.bool b :: r.map PyData.bool) = 0
    rw [PyData.depthAll, depth_bools r]
    simp [PyData.depth]
theorem shaped_bools (bs : List Bool) : SeqAt.shaped (dB bs) = true := by
  unfold SeqAt.shaped
  rw [Bool.and_eq_true_iff]
  constructor
  · rw [PyData.canLay0]
    exact lay_bools bs
  · apply decide_eq_true
    rw [PyData.depth, depth_bools]
    decide
theorem eqv_bools (bs : List Bool) : PyData.eqv (dB bs) (dB bs) = true := SeqAt.eqv_refl _ (SeqAt.canLay_of_shaped (shaped_bools bs))
/-- bools and a new list of them -/
theorem nb (bs : List Bool) {H : Hp} {p : Addr} (np : H p = none) : Same H (upd H p (.lst (bs.map V.bl))) ∧ (upd H p (.lst (bs.map V.bl))) p = some (.lst (bs.map V.bl)) := ⟨same_new np, upd_same⟩
section
variable {P : Program} {w : World} {K : PySem.W.Frag} {mg : Str → Option Value} {base : Heap}
end
end Fo

namespace Fo
open PySem PySem.Spec PyProof.Rows L2
def wordY (i : Nat) : Str := match i with
  | 0 => "NoOrder"
  | 1 => "NoWay"
  | 2 => "NoFit"
  | 4 => "NoNumber"
  | _ => "TooMany"
def spWordY (K : PySem.W.Frag) (c : Nat → Addr) : Sp := fun vs H Q _ => ∃ (a C : Addr) (i : Nat), vs = [.ref a] ∧ H a = some (ExV (.ref C) none a) ∧ KdY K c C i ∧ (i = 0 ∨ i = 1 ∨ i = 2 ∨ i = 4 ∨ i = 5) ∧ ∀ H', Same H H' → Q (.str (wordY i)) H'
theorem first_true {bs : List Bool} {j : Nat} (h : ∀ m, m < j → bs[m]? = some false) : ∀ (m : Nat) (z : V), m < j → (bs.map V.bl)[m]? = some z → eqV z (.bl true) = false := fun m z hm hz => by
  rw [List.getElem?_map, h m hm] at hz
  cases hz
  rfl
theorem no_four {K : PySem.W.Frag} {c : Nat → Addr} {C : Addr} {i : Nat} (kd : KdY K c C i) (hi : i = 0 ∨ i = 1 ∨ i = 2 ∨ i = 4 ∨ i = 5) : PySem.W.kitAny K (.ref C) [.ref (c 7), .ref (c 3), .ref (c 8), .ref (c 6)] = some false := any_no fun u hu => by
  simp only [List.mem_cons, List.not_mem_nil, or_false] at hu
  rcases hu with rfl | rfl | rfl | rfl
  · rw [kd.ks 7 (by decide), decide_eq_false (by omega)]
  · rw [kd.ks 3 (by decide), decide_eq_false (by omega)]
  · rw [kd.ks 8 (by decide), decide_eq_false (by omega)]
  · rw [kd.ks 6 (by decide), decide_eq_false (by omega)]
def at4 (i : Nat) : Nat := match i with
  | 0 => 0
  | 1 => 1
  | 2 => 2
  | 4 => 3
  | _ => 4
section
variable {P : Program} {w : World} {K : PySem.W.Frag} {mg : Str → Option Value} {base : Heap}
theorem scWordY : FnScope ["caught", "kinds"] ["caught"] (defScope s_law_word) := ⟨rfl, rfl, rfl, by decide +kernel, rfl, by decide +kernel, by decide +kernel⟩
set_option maxHeartbeats 4000000 in
theorem ok_wordY {f : Addr} {fd : FuncData} {k : Nat} {c : Nat → Addr} (T : Df K mg "_law_word" s_law_word ["caught"] f fd) (g_NoOrder : mg "NoOrder" = some (.ref (c 0))) (g_NoWay : mg "NoWay" = some (.ref (c 1))) (g_NoFit : mg "NoFit" = some (.ref (c 2))) (g_NoPlace : mg "NoPlace" = some (.ref (c 3))) (g_NoNumber : mg "NoNumber" = some (.ref (c 4))) (g_TooMany : mg "TooMany" = some (.ref (c 5))) (g_NoText : mg "NoText" = some (.ref (c 6))) (g_NoName : mg "NoName" = some (.ref (c 7))) (g_NoRow : mg "NoRow" = some (.ref (c 8))) (B : Bi mg) : FnOk P w K mg base CX0 (k + 1) f fd ["caught"] (spWordY K c) := by
  refine T.F.ok scWordY (fun vs H Q E h => ?_) (fun cdv A outer s H vs Q E hr h => ?_)
  · obtain ⟨a, C, i, rfl, _⟩ := h
    rfl
  · obtain ⟨a, C, i, rfl, ha, kd, hi, q⟩ := h
    refine ⟨_, 
      (pss_cons (ps_set (i := 1) scWordY.nd rfl (.inl rfl) (pe_lst (pa_cons (pe_callB call_isZ (by rfl) B.isinstance (by decide +kernel) (pa_cons (pv 0) (pa_cons (pe_glob (v := .ref (c 0)) (by rfl) g_NoOrder rfl) pa_nil))) (pa_cons (pe_callB call_isZ (by rfl) B.isinstance (by decide +kernel) (pa_cons (pv 0) (pa_cons (pe_glob (v := .ref (c 1)) (by rfl) g_NoWay rfl) pa_nil))) (pa_cons (pe_callB call_isZ (by rfl) B.isinstance (by decide +kernel) (pa_cons (pv 0) (pa_cons (pe_glob (v := .ref (c 2)) (by rfl) g_NoFit rfl) pa_nil))) pa_nil)))))
      (pss_cons (ps_set (i := 1) scWordY.nd rfl (.inl rfl) (pe_op op_cat (pv 1) (pe_lst (pa_cons (pe_callB call_isZ (by rfl) B.isinstance (by decide +kernel) (pa_cons (pv 0) (pa_cons (pe_glob (v := .ref (c 4)) (by rfl) g_NoNumber rfl) pa_nil))) (pa_cons (pe_callB call_isZ (by rfl) B.isinstance (by decide +kernel) (pa_cons (pv 0) (pa_cons (pe_glob (v := .ref (c 5)) (by rfl) g_TooMany rfl) pa_nil))) pa_nil)))))
      (pss_cons (ps_if (PW.pt (pw_or (pt_val (pe_callB call_isZT (by rfl) B.isinstance (by decide +kernel) (pa_cons (pv 0) (pa_cons (pe_tup (pa_cons (pe_glob (v := .ref (c 7)) (by rfl) g_NoName rfl) (pa_cons (pe_glob (v := .ref (c 3)) (by rfl) g_NoPlace rfl) (pa_cons (pe_glob (v := .ref (c 8)) (by rfl) g_NoRow rfl) (pa_cons (pe_glob (v := .ref (c 6)) (by rfl) g_NoText rfl) pa_nil))))) pa_nil)))) (pw_or1 (pt_cmpR op_ne (pe_bm PySem.F.plainAttrs_list PySem.F.slot_list_count PySem.F.type_list_count mt_cntF (pv 1) (pa_cons pe_bl pa_nil)) pe_int (nomark _)))))
        (pss_one (ps_ret pe_str))
        pss_nil)
      (pss_cons (ps_if (pt_not (pt_val (pe_callB call_isZ (by rfl) B.isinstance (by decide +kernel) (pa_cons (pv 0) (pa_cons (pe_bltn (v := .ty "ValueError") (by rfl) B.ValueError (by decide +kernel) rfl) pa_nil)))))
        (pss_one (ps_ret pe_str))
        pss_nil)
      (pss_one (ps_ret (pe_ix ix_list (pe_lst (pa_cons pe_str (pa_cons pe_str (pa_cons pe_str (pa_cons pe_str (pa_cons pe_str pa_nil)))))) (pe_bm PySem.F.plainAttrs_list PySem.F.slot_list_index PySem.F.type_list_index mt_index (pv 1) (pa_cons pe_bl pa_nil)) (fun _ _ => rfl)))))))), ?_⟩
    refine ⟨_, rfl, _, _, _, _, _, rfl, .own _, .exc ha kd.ec, kd.ks 0 (by decide), ?_⟩
    refine ⟨_, rfl, _, _, _, _, _, rfl, .own _, .exc ha kd.ec, kd.ks 1 (by decide), ?_⟩
    refine ⟨_, rfl, _, _, _, _, _, rfl, .own _, .exc ha kd.ec, kd.ks 2 (by decide), ?_⟩
    refine ⟨line_small (by show 3 ≤ 16777216; decide), fun p1 np1 => ?_⟩
    obtain ⟨s1, h1⟩ := nb [decide (0 = i), decide (1 = i), decide (2 = i)] np1
    have ha1 := s1 _ _ ha
    refine ⟨_, rfl, _, rfl, _, _, _, _, _, rfl, .own _, .exc ha1 kd.ec, kd.ks 4 (by decide), ?_⟩
    refine ⟨_, rfl, _, _, _, _, _, rfl, .own _, .exc ha1 kd.ec, kd.ks 5 (by decide), ?_⟩
    refine ⟨line_small (by show 2 ≤ 16777216; decide), fun p2 np2 => ?_⟩
    obtain ⟨s2, h2⟩ := nb [decide (4 = i), decide (5 = i)] np2
    refine ⟨_, _, _, _, rfl, rfl, s2 _ _ h1, h2, line_small (by show 3 + 2 ≤ 16777216; decide), fun p3 np3 => ?_⟩
    obtain ⟨s3, h3⟩ := nb ([decide (0 = i), decide (1 = i), decide (2 = i)] ++ [decide (4 = i), decide (5 = i)]) np3
    have s13 := (s1.trans s2).trans s3
    have ha3 := s13 _ _ ha
    refine ⟨_, rfl, line_small (by show 4 ≤ 16777216; decide), fun tp ntp => ?_⟩
    have s4 := same_new (o := .tup [.ref (c 7), .ref (c 3), .ref (c 8), .ref (c 6)]) ntp
    refine ⟨_, tp, _, _, _, false, rfl, upd_same, .cons (.own _) (.cons (.own _) (.cons (.own _) (.cons (.own _) .nil))), .exc (s4 _ _ ha3) kd.ec, no_four kd hi, _, rfl, iteF ?_⟩
    have h34 := s4 _ _ h3
    have s14 := s13.trans s4
    have hb : ([decide (0 = i), decide (1 = i), decide (2 = i)] ++ [decide (4 = i), decide (5 = i)]).map V.bl = ([decide (0 = i), decide (1 = i), decide (2 = i), decide (4 = i), decide (5 = i)]).map V.bl := rfl
    rw [hb] at h34
    have c1 : ((([decide (0 = i), decide (1 = i), decide (2 = i), decide (4 = i), decide (5 = i)]).map V.bl).countP fun z => eqV z (.bl true)) = 1 := by
      rcases hi with rfl | rfl | rfl | rfl | rfl <;> decide
    have c2 : ∀ m, m < at4 i → ([decide (0 = i), decide (1 = i), decide (2 = i), decide (4 = i), decide (5 = i)])[m]? = some false := by
      rcases hi with rfl | rfl | rfl | rfl | rfl <;> decide
    have c3 : (([decide (0 = i), decide (1 = i), decide (2 = i), decide (4 = i), decide (5 = i)]).map V.bl)[at4 i]? = some (.bl true) := by
      rcases hi with rfl | rfl | rfl | rfl | rfl <;> rfl
    have c4 : atI ([V.str "NoOrder", V.str "NoWay", V.str "NoFit", V.str "NoNumber", V.str "TooMany"]) ((at4 i : Nat) : Int) = some (.str (wordY i)) := by
      rcases hi with rfl | rfl | rfl | rfl | rfl <;> rfl
    refine ⟨_, rfl, .inl ⟨rfl, _, SqL.of h34⟩, p3, _, .bl true, rfl, rfl, SqL.of h34, rfl, rfl, rfl, _, rfl, ?_⟩
    rw [c1]
    refine iteF ?_
    refine ⟨_, rfl, _, _, _, _, _, rfl, .ty _, .exc (s14 _ _ ha) kd.ec, kd.ve, _, rfl, iteF ?_⟩
    refine ⟨line_small (by show 5 ≤ 16777216; decide), fun l nl => ?_⟩
    have s5 := same_new (o := .lst [V.str "NoOrder", V.str "NoWay", V.str "NoFit", V.str "NoNumber", V.str "TooMany"]) nl
    refine ⟨_, rfl, .inl ⟨rfl, _, SqL.of (s5 _ _ h34)⟩, p3, _, .bl true, at4 i, .bl true, rfl, rfl, SqL.of (s5 _ _ h34), rfl, rfl, c3, rfl, first_true c2, ?_⟩
    refine ⟨l, _, _, _, rfl, rfl, SqL.of upd_same, c4, ?_⟩
    exact q _ (s14.trans s5)
end
end Fo
namespace Fo
open PySem PySem.Spec PyProof.Rows L2
abbrev dLLL (l : List (List (List Int))) : PyData := .list (l.map dLL)
theorem lay_lists3 : ∀ l : List (List (List Int)), PyData.canLayAll0 (l.map dLL) = true
  | [] => rfl
  | n :: r => by
    show (PyData.canLay0 (dLL n) && PyData.canLayAll0 (r.map dLL)) = true
    rw [lay_lists3 r, SeqAt.canLay_of_shaped (shaped_lists n)]
    rfl
theorem depth_lists3 : ∀ l : List (List (List Int)), PyData.depthAll (l.map dLL) ≤ 2
  | [] => by simp [PyData.depthAll]
  | n :: r => by
    show PyData.depthAll (dLL n :: r.map dLL) ≤ 2
    rw [PyData.depthAll, PyData.depth]
    have := depth_lists3 r
    have := depth_lists n
    omega
theorem shaped_lists3 (l : List (List (List Int))) : SeqAt.shaped (dLLL l) = true := by
  unfold SeqAt.shaped
  rw [Bool.and_eq_true_iff]
  constructor
  · rw [PyData.canLay0]
    exact lay_lists3 l
  · apply decide_eq_true
    rw [PyData.depth]
    have := depth_lists3 l
    omega
theorem eqv_isN (l : List PyData) : PyData.eqv (.list l) (.list []) = l.isEmpty := by
  cases l with
  | nil => exact eqv_lists []
  | cons d r => rfl
theorem rowsP_eq {a b : List (List Int)} (hp : a.Perm b) (ha : a.Pairwise (· ≤ ·)) (hb : b.Pairwise (· ≤ ·)) : a = b := List.Perm.eq_of_pairwise (fun x y _ _ h1 h2 => List.le_antisymm h1 h2) ha hb hp
def spTooNear : Sp := fun vs H Q _ => ∃ (h o : Addr) (w : Str) (n : Nat) (d : Int) (ps : List (Addr × List Int)) (xs : List Int), vs = [.str w, .int d, .ref h, .ref o] ∧ IsWay w ∧ RP H h ps ∧ (∀ r ∈ rws ps, IsOrd n r) ∧ ps.length ≤ 120 ∧ H o = some (.lst (xs.map V.int)) ∧ IsOrd n xs ∧ 1 ≤ n ∧ n ≤ 12 ∧
  ∀ (l : Addr) (qs : List (Addr × List Int)) (H' : Hp), (rws qs).Perm (nearR w xs d (rws ps)) → (rws qs).Pairwise (· ≤ ·) → NewRows H H' l qs → Same H H' → Q (.ref l) H'
def spFreeL : Sp := fun vs H Q _ => ∃ (D h : Addr) (w : Str) (n : Nat) (d : Int) (ps : List (Addr × List Int)), vs = [.ref D, .str w, .int n, .int d, .ref h] ∧ DqAt H D ∧ RP H h ps ∧ h ≠ D ∧ (∀ p ∈ ps, p.1 ≠ D) ∧ (∀ r ∈ rws ps, IsOrd n r) ∧ ps.length ≤ 120 ∧ 1 ≤ n ∧ n ≤ 12 ∧
  ∀ (ns : List Int) (l : Addr) (H' : Hp), IsOrd n ns → H l = none → H' l = some (.lst (ns.map V.int)) → l ≠ D → DqAt H' D → KeepD D H H' → Q (.ref l) H'
section
variable {P : Program} {w : World} {K : PySem.W.Frag} {mg : Str → Option Value} {base : Heap}
end
end Fo
namespace Fo
open PySem PySem.Spec PyProof.Rows L2
/-! k73: the law's own lists, beside a Lister -/
def srt (rs : List (List Int)) : List (List Int) := (rowsR (rs.map fun r => ((0 : Addr), r))).map (·.2)
theorem srt_perm (rs : List (List Int)) : (srt rs).Perm rs := by
  have h := (rowsR_perm (rs.map fun r => ((0 : Addr), r))).map (·.2)
  rw [List.map_map] at h
  have e : rs.map ((·.2) ∘ fun r => ((0 : Addr), r)) = rs := List.map_id _
  rw [e] at h
  exact h
theorem srt_nil : srt [] = [] := List.eq_nil_of_length_eq_zero (by rw [(srt_perm []).length_eq]; rfl)
theorem srt_sorted (rs : List (List Int)) : (srt rs).Pairwise (· ≤ ·) := rowsR_sorted _
theorem srt_eq {a rs : List (List Int)} (hp : a.Perm rs) (ha : a.Pairwise (· ≤ ·)) : a = srt rs := rowsP_eq (hp.trans (srt_perm rs).symm) ha (srt_sorted rs)
theorem srt_filter (f : List Int → Bool) (rs : List (List Int)) : (srt rs).filter f = srt (rs.filter f) := srt_eq ((srt_perm rs).filter f) ((srt_sorted rs).filter f)
theorem erase_filter {x : List Int} : ∀ {l : List (List Int)} {j : Nat}, l.Nodup → l[j]? = some x → l.eraseIdx j = l.filter fun r => !decide (r = x)
  | [], _, _, h => by simp at h
  | y :: l, 0, hn, h => by
    obtain rfl : y = x := Option.some.inj h
    obtain ⟨h1, h2⟩ := List.nodup_cons.mp hn
    rw [List.filter_cons, if_neg (by simp), List.eraseIdx_cons_zero]
    exact (List.filter_eq_self.mpr fun r hr => by
      have : r ≠ y := fun z => h1 (z ▸ hr)
      simp [this]).symm
  | y :: l, j + 1, hn, h => by
    obtain ⟨h1, h2⟩ := List.nodup_cons.mp hn
    have hx : l[j]? = some x := by simpa using h
    have ne : y ≠ x := fun z => h1 (z ▸ List.mem_of_getElem? hx)
    rw [List.filter_cons, if_pos (by simp [ne]), List.eraseIdx_cons_succ, erase_filter h2 hx]
theorem tops_ne {a e D h A : Addr} {l : List Addr} (nd : (a :: e :: D :: h :: A :: l).Nodup) : (a ≠ e ∧ a ≠ D ∧ a ≠ h ∧ a ≠ A ∧ e ≠ D ∧ e ≠ h ∧ e ≠ A ∧ D ≠ h ∧ D ≠ A ∧ h ≠ A) ∧ a ∉ l ∧ e ∉ l ∧ D ∉ l ∧ h ∉ l ∧ A ∉ l ∧ l.Nodup := by
  simp only [List.nodup_cons, List.mem_cons, not_or] at nd
  grind
theorem LsAt.out {C : Addr} {H H' : Hp} {a e y : Addr} {X : List Addr} {w : Str} {n : Nat} {d : Int} {rs : List (List Int)} {ss : List (List (List Int))} (L : LsAt C H a e X w n d rs ss) (k : ∀ b o, H b = some o → b ≠ y → H' b = some o) (hy : y ∈ X) (ha : a ≠ y) (he : e ≠ y) (ty : ∃ o, H' y = some o) : LsAt C H' a e X w n d rs ss := by
  obtain ⟨⟨dx, t, ps, st, e1, e2, e3, e4, e5, e6, eX, tX, pX, sX⟩, tr, r⟩ := L
  have rk : ∀ {t : Addr} {ps : List (Addr × List Int)}, RP H t ps → t ∉ X → (∀ p ∈ ps, p.1 ∉ X) → RP H' t ps := fun h h1 h2 => ⟨k _ _ h.1 fun z => h1 (z ▸ hy), fun p hp => k _ _ (h.2 p hp) fun z => h2 p hp (z ▸ hy)⟩
  refine ⟨⟨dx, t, ps, st, k _ _ e1 ha, k _ _ e2 he, rk e3 tX pX, e4, fun q hq => rk (e5 q hq) (sX q hq).1 (sX q hq).2, e6, eX, tX, pX, sX⟩, fun x hx => ?_, by assumption, by assumption, by assumption, by assumption, by assumption, by assumption⟩
  by_cases c : x = y
  · exact c ▸ ty
  · obtain ⟨o, ho⟩ := tr x hx
    exact ⟨o, k x o ho c⟩
theorem LsAt.sub {C : Addr} {H : Hp} {a e : Addr} {X X' : List Addr} {w : Str} {n : Nat} {d : Int} {rs : List (List Int)} {ss : List (List (List Int))} (L : LsAt C H a e X w n d rs ss) (h : ∀ x ∈ X', x ∈ X) (he : e ∈ X') : LsAt C H a e X' w n d rs ss := by
  obtain ⟨⟨dx, t, ps, st, e1, e2, e3, e4, e5, e6, eX, tX, pX, sX⟩, tr, r⟩ := L
  exact ⟨⟨dx, t, ps, st, e1, e2, e3, e4, e5, e6, he, fun z => tX (h _ z), fun p hp z => pX p hp (h _ z), fun q hq => ⟨fun z => (sX q hq).1 (h _ z), fun p hp z => (sX q hq).2 p hp (h _ z)⟩⟩, fun x hx => tr x (h x hx), by assumption, by assumption, by assumption, by assumption, by assumption, by assumption⟩
theorem LsAt.grow {C : Addr} {H H' : Hp} {a e y : Addr} {X : List Addr} {w : Str} {n : Nat} {d : Int} {rs : List (List Int)} {ss : List (List (List Int))} (L : LsAt C H a e X w n d rs ss) (s : Same H H') (ny : H y = none) (ty : ∃ o, H' y = some o) : LsAt C H' a e (y :: X) w n d rs ss := by
  obtain ⟨⟨dx, t, ps, st, e1, e2, e3, e4, e5, e6, eX, tX, pX, sX⟩, tr, r⟩ := L
  have ne : ∀ {b : Addr} {o : HO}, H b = some o → b ∉ X → b ∉ y :: X := fun {b o} h1 h2 z => by
    rcases List.mem_cons.mp z with z | z
    · rw [z, ny] at h1
      cases h1
    · exact h2 z
  refine ⟨⟨dx, t, ps, st, s _ _ e1, s _ _ e2, e3.same s, e4, fun q hq => (e5 q hq).same s, e6, List.mem_cons_of_mem _ eX, ne e3.1 tX, fun p hp => ne (e3.2 p hp) (pX p hp), fun q hq => ⟨ne (e5 q hq).1 (sX q hq).1, fun p hp => ne ((e5 q hq).2 p hp) ((sX q hq).2 p hp)⟩⟩, fun x hx => ?_, by assumption, by assumption, by assumption, by assumption, by assumption, by assumption⟩
  rcases List.mem_cons.mp hx with rfl | hx
  · exact ty
  · exact (tr x hx).imp fun o h => s _ _ h
theorem DqAt.keep {H H' : Hp} {d : Addr} (h : DqAt H d) (k : ∀ o, H d = some o → H' d = some o) : DqAt H' d := by
  obtain ⟨ms, e, r⟩ := h
  exact ⟨ms, k _ e, r⟩
theorem sub4 {e D h A x : Addr} (hx : x ∈ [e, D, h, A]) : x ∈ [A, h, e, D] := by
  simp only [List.mem_cons, List.not_mem_nil, or_false] at hx ⊢
  grind
abbrev tops (D a e h A : Addr) (st : List (Addr × List (Addr × List Int))) : List Addr := a :: e :: D :: h :: A :: st.map (·.1)
structure LwAt (C : Addr) (H : Hp) (D a e h A : Addr) (w : Str) (n : Nat) (d : Int) (rs : List (List Int)) (ss : List (List (List Int))) (ps : List (Addr × List Int)) (st : List (Addr × List (Addr × List Int))) (mp ms : Nat) : Prop where
  dq : DqAt H D
  ls : LsAt C H a e (e :: D :: h :: A :: st.map (·.1)) w n d rs ss
  hh : RP H h ps
  hA : H A = some (.lst (st.map fun q => V.ref q.1))
  hst : ∀ q ∈ st, RP H q.1 q.2
  nd : (tops D a e h A st).Nodup
  nr : ∀ p ∈ ps, p.1 ∉ tops D a e h A st
  nrs : ∀ q ∈ st, ∀ p ∈ q.2, p.1 ∉ tops D a e h A st
  l1 : ps.length ≤ mp
  l2 : st.length ≤ ms
  l3 : ∀ q ∈ st, q.2.length ≤ mp
  u1 : (rws ps).Nodup
  u2 : ∀ q ∈ st, (rws q.2).Nodup
  od : ∀ r ∈ rws ps, IsOrd n r
  ods : ∀ q ∈ st, ∀ r ∈ rws q.2, IsOrd n r
section
variable {C : Addr} {H H' : Hp} {D a e h A : Addr} {w : Str} {n : Nat} {d : Int} {rs rs' : List (List Int)} {ss ss' : List (List (List Int))} {ps : List (Addr × List Int)} {st : List (Addr × List (Addr × List Int))} {mp ms mp' ms' : Nat}
theorem LwAt.same (W : LwAt C H D a e h A w n d rs ss ps st mp ms) (s : Same H H') : LwAt C H' D a e h A w n d rs ss ps st mp ms :=
  { W with dq := W.dq.keep (fun o h => s _ _ h), ls := W.ls.same s, hh := W.hh.same s, hA := s _ _ W.hA, hst := fun q hq => (W.hst q hq).same s }
theorem LwAt.mono (W : LwAt C H D a e h A w n d rs ss ps st mp ms) (h1 : mp ≤ mp') (h2 : ms ≤ ms') : LwAt C H D a e h A w n d rs ss ps st mp' ms' :=
  { W with l1 := Nat.le_trans W.l1 h1, l2 := Nat.le_trans W.l2 h2, l3 := fun q hq => Nat.le_trans (W.l3 q hq) h1 }
theorem LwAt.draw (W : LwAt C H D a e h A w n d rs ss ps st mp ms) (k : KeepD D H H') (q : DqAt H' D) : LwAt C H' D a e h A w n d rs ss ps st mp ms := by
  obtain ⟨⟨n1, n2, n3, n4, n5, n6, n7, n8, n9, n10⟩, m1, m2, m3, m4, m5, m6⟩ := tops_ne W.nd
  have tq : ∃ o, H' D = some o := by obtain ⟨ms, e, _⟩ := q; exact ⟨_, e⟩
  have rD : ∀ {p : Addr}, p ∉ tops D a e h A st → p ≠ D := fun hp z => hp (by rw [z]; simp [tops])
  exact { W with dq := q, ls := W.ls.out k (by simp) n2 n5 tq, hh := ⟨k _ _ W.hh.1 n8.symm, fun p hp => k _ _ (W.hh.2 p hp) (rD (W.nr p hp))⟩, hA := k _ _ W.hA n9.symm, hst := fun q hq => ⟨k _ _ (W.hst q hq).1 fun z => m3 (z ▸ List.mem_map_of_mem hq), fun p hp => k _ _ ((W.hst q hq).2 p hp) (rD (W.nrs q hq p hp))⟩ }
theorem LwAt.lst (W : LwAt C H D a e h A w n d rs ss ps st mp ms) (k : KpL a e H H') (L : LsAt C H' a e (e :: D :: h :: A :: st.map (·.1)) w n d rs' ss') : LwAt C H' D a e h A w n d rs' ss' ps st mp ms := by
  obtain ⟨⟨n1, n2, n3, n4, n5, n6, n7, n8, n9, n10⟩, m1, m2, m3, m4, m5, m6⟩ := tops_ne W.nd
  have rA : ∀ {p : Addr}, p ∉ tops D a e h A st → p ≠ a ∧ p ≠ e := fun hp => ⟨fun z => hp (by rw [z]; simp [tops]), fun z => hp (by rw [z]; simp [tops])⟩
  exact { W with dq := W.dq.keep (fun o h => k _ _ h n2.symm n5.symm), ls := L, hh := ⟨k _ _ W.hh.1 n3.symm n6.symm, fun p hp => k _ _ (W.hh.2 p hp) (rA (W.nr p hp)).1 (rA (W.nr p hp)).2⟩, hA := k _ _ W.hA n4.symm n7.symm, hst := fun q hq => ⟨k _ _ (W.hst q hq).1 (fun z => m1 (z ▸ List.mem_map_of_mem hq)) (fun z => m2 (z ▸ List.mem_map_of_mem hq)), fun p hp => k _ _ ((W.hst q hq).2 p hp) (rA (W.nrs q hq p hp)).1 (rA (W.nrs q hq p hp)).2⟩ }
/-- held changed in place -/
theorem LwAt.held {qs : List (Addr × List Int)} (W : LwAt C H D a e h A w n d rs ss ps st mp ms) (hq : ∀ p ∈ qs, H p.1 = some (.lst (p.2.map V.int))) (nq : ∀ p ∈ qs, p.1 ∉ tops D a e h A st) (lq : qs.length ≤ mp') (hm : mp ≤ mp') (uq : (rws qs).Nodup) (oq : ∀ r ∈ rws qs, IsOrd n r) : LwAt C (upd H h (.lst (qs.map fun p => V.ref p.1))) D a e h A w n d rs ss qs st mp' ms := by
  obtain ⟨⟨n1, n2, n3, n4, n5, n6, n7, n8, n9, n10⟩, m1, m2, m3, m4, m5, m6⟩ := tops_ne W.nd
  have k : ∀ b o, H b = some o → b ≠ h → (upd H h (.lst (qs.map fun p => V.ref p.1))) b = some o := fun b o e z => by rw [upd_ne z]; exact e
  have rh : ∀ {p : Addr}, p ∉ tops D a e h A st → p ≠ h := fun hp z => hp (by rw [z]; simp [tops])
  exact { dq := W.dq.keep (fun o h => k _ _ h n8), ls := W.ls.out k (by simp) n3 n6 ⟨_, upd_same⟩, hh := ⟨upd_same, fun p hp => k _ _ (hq p hp) (rh (nq p hp))⟩, hA := k _ _ W.hA n10.symm, hst := fun q hq => ⟨k _ _ (W.hst q hq).1 fun z => m4 (z ▸ List.mem_map_of_mem hq), fun p hp => k _ _ ((W.hst q hq).2 p hp) (rh (W.nrs q hq p hp))⟩,
          nd := W.nd, nr := nq, nrs := W.nrs, l1 := lq, l2 := W.l2, l3 := fun q hq => Nat.le_trans (W.l3 q hq) hm, u1 := uq, u2 := W.u2, od := oq, ods := W.ods }
theorem LwAt.tr (W : LwAt C H D a e h A w n d rs ss ps st mp ms) : ∀ x ∈ tops D a e h A st, ∃ o, H x = some o := fun x hx => by
  rcases List.mem_cons.mp hx with rfl | hx
  · obtain ⟨dx, t, ps, st, e1, _⟩ := W.ls.ex
    exact ⟨_, e1⟩
  · exact W.ls.tr x hx
theorem LwAt.new (W : LwAt C H D a e h A w n d rs ss ps st mp ms) {x : Addr} (nx : H x = none) : x ∉ tops D a e h A st := fun hx => by
  obtain ⟨o, ho⟩ := W.tr x hx
  rw [nx] at ho
  cases ho
/-- a copy of held put ahead -/
theorem LwAt.ahead {c : Addr} (W : LwAt C H D a e h A w n d rs ss ps st mp ms) (nc : H c = none) (hc : H' c = some (.lst (ps.map fun p => V.ref p.1))) (s : Same H H') : LwAt C (upd H' A (.lst ((st ++ [(c, ps)]).map fun q => V.ref q.1))) D a e h A w n d rs ss ps (st ++ [(c, ps)]) mp (ms + 1) := by
  have nct := W.new nc
  have W' := W.same s
  obtain ⟨⟨n1, n2, n3, n4, n5, n6, n7, n8, n9, n10⟩, m1, m2, m3, m4, m5, m6⟩ := tops_ne W.nd
  have k : ∀ b o, H' b = some o → b ≠ A → (upd H' A (.lst ((st ++ [(c, ps)]).map fun q => V.ref q.1))) b = some o := fun b o e z => by rw [upd_ne z]; exact e
  have rA : ∀ {p : Addr}, p ∉ tops D a e h A st → p ≠ A := fun hp z => hp (by rw [z]; simp [tops])
  have et : ∀ x, x ∈ tops D a e h A (st ++ [(c, ps)]) ↔ x ∈ tops D a e h A st ∨ x = c := fun x => by
    simp only [tops, List.map_append, List.map_cons, List.map_nil, List.mem_cons, List.mem_append, List.not_mem_nil, or_false]
    grind
  have row : ∀ {p : Addr × List Int}, H p.1 = some (.lst (p.2.map V.int)) → p.1 ∉ tops D a e h A st → p.1 ∉ tops D a e h A (st ++ [(c, ps)]) := fun {p} hp h1 z => by
    rcases (et _).mp z with z | z
    · exact h1 z
    · rw [z, nc] at hp
      cases hp
  have L1 : LsAt C H' a e (c :: e :: D :: h :: A :: st.map (·.1)) w n d rs ss := W.ls.grow s nc ⟨_, hc⟩
  have L2 : LsAt C H' a e (e :: D :: h :: A :: (st ++ [(c, ps)]).map (·.1)) w n d rs ss := L1.sub (fun x hx => by
    simp only [List.map_append, List.map_cons, List.map_nil, List.mem_cons, List.mem_append, List.not_mem_nil, or_false] at hx ⊢
    grind) List.mem_cons_self
  have mem : ∀ {q : Addr × List (Addr × List Int)}, q ∈ st ++ [(c, ps)] → q ∈ st ∨ q = (c, ps) := fun hq => (List.mem_append.mp hq).imp id List.mem_singleton.mp
  refine { dq := W'.dq.keep (fun o h => k _ _ h n9), ls := L2.out k (by simp) n4 n7 ⟨_, upd_same⟩, hh := ⟨k _ _ W'.hh.1 n10, fun p hp => k _ _ (W'.hh.2 p hp) (rA (W.nr p hp))⟩, hA := upd_same, hst := fun q hq => ?_, nd := ?_, nr := fun p hp => row (W.hh.2 p hp) (W.nr p hp), nrs := fun q hq p hp => ?_, l1 := W.l1, l2 := by rw [List.length_append]; exact Nat.succ_le_succ W.l2, l3 := fun q hq => ?_, u1 := W.u1, u2 := fun q hq => ?_, od := W.od, ods := fun q hq => ?_ }
  · rcases mem hq with hq | rfl
    · exact ⟨k _ _ (W'.hst q hq).1 fun z => m5 (z ▸ List.mem_map_of_mem hq), fun p hp => k _ _ ((W'.hst q hq).2 p hp) (rA (W.nrs q hq p hp))⟩
    · exact ⟨k _ _ hc fun z => nct (by rw [show c = A from z]; simp [tops]), fun p hp => k _ _ (W'.hh.2 p hp) (rA (W.nr p hp))⟩
  · have e1 : tops D a e h A (st ++ [(c, ps)]) = tops D a e h A st ++ [c] := by simp [tops]
    rw [e1]
    exact List.nodup_append.mpr ⟨W.nd, by simp, fun x hx y hy z => by rw [List.mem_singleton.mp hy] at z; exact nct (z ▸ hx)⟩
  · rcases mem hq with hq | rfl
    · exact row ((W.hst q hq).2 p hp) (W.nrs q hq p hp)
    · exact row (W.hh.2 p hp) (W.nr p hp)
  · rcases mem hq with hq | rfl
    · exact W.l3 q hq
    · exact W.l1
  · rcases mem hq with hq | rfl
    · exact W.u2 q hq
    · exact W.u1
  · rcases mem hq with hq | rfl
    · exact W.ods q hq
    · exact W.od
/-- the last put ahead taken up -/
theorem LwAt.back {c : Addr} {qs : List (Addr × List Int)} (W : LwAt C H D a e h A w n d rs ss ps (st ++ [(c, qs)]) mp ms) : LwAt C (upd H A (.lst (st.map fun q => V.ref q.1))) D a e c A w n d rs ss qs st mp ms := by
  obtain ⟨⟨n1, n2, n3, n4, n5, n6, n7, n8, n9, n10⟩, m1, m2, m3, m4, m5, m6⟩ := tops_ne W.nd
  have k : ∀ b o, H b = some o → b ≠ A → (upd H A (.lst (st.map fun q => V.ref q.1))) b = some o := fun b o e z => by rw [upd_ne z]; exact e
  have rA : ∀ {p : Addr}, p ∉ tops D a e h A (st ++ [(c, qs)]) → p ≠ A := fun hp z => hp (by rw [z]; simp [tops])
  have et : ∀ x, x ∈ tops D a e c A st → x ∈ tops D a e h A (st ++ [(c, qs)]) := fun x hx => by
    simp only [tops, List.map_append, List.map_cons, List.map_nil, List.mem_cons, List.mem_append, List.not_mem_nil, or_false] at hx ⊢
    grind
  have mc : (c, qs) ∈ st ++ [(c, qs)] := List.mem_append_right _ List.mem_cons_self
  have ml : ∀ {q}, q ∈ st → q ∈ st ++ [(c, qs)] := fun hq => List.mem_append_left _ hq
  have L2 : LsAt C H a e (e :: D :: c :: A :: st.map (·.1)) w n d rs ss := W.ls.sub (fun x hx => by
    simp only [List.map_append, List.map_cons, List.map_nil, List.mem_cons, List.mem_append, List.not_mem_nil, or_false] at hx ⊢
    grind) List.mem_cons_self
  have rp : ∀ q ∈ st ++ [(c, qs)], RP (upd H A (.lst (st.map fun q => V.ref q.1))) q.1 q.2 := fun q hq => ⟨k _ _ (W.hst q hq).1 fun z => m5 (z ▸ List.mem_map_of_mem hq), fun p hp => k _ _ ((W.hst q hq).2 p hp) (rA (W.nrs q hq p hp))⟩
  refine { dq := W.dq.keep (fun o h => k _ _ h n9), ls := L2.out k (by simp) n4 n7 ⟨_, upd_same⟩, hh := rp _ mc, hA := upd_same, hst := fun q hq => rp q (ml hq), nd := ?_, nr := fun p hp z => W.nrs _ mc p hp (et _ z), nrs := fun q hq p hp z => W.nrs q (ml hq) p hp (et _ z), l1 := W.l3 _ mc, l2 := ?_, l3 := fun q hq => W.l3 q (ml hq), u1 := W.u2 _ mc, u2 := fun q hq => W.u2 q (ml hq), od := W.ods _ mc, ods := fun q hq => W.ods q (ml hq) }
  · have hn := W.nd
    simp only [tops, List.map_append, List.map_cons, List.map_nil, List.nodup_cons, List.nodup_append, List.mem_cons, List.mem_append, List.not_mem_nil, or_false, not_or] at hn ⊢
    grind
  · have := W.l2
    rw [List.length_append] at this
    exact Nat.le_of_succ_le this
theorem LsAt.obj {X : List Addr} (L : LsAt C H a e X w n d rs ss) (m : Str) (h1 : (m == "way") = false) (h2 : (m == "n") = false) (h3 : (m == "d") = false) (h4 : (m == "taken") = false) (h5 : (m == "earlier") = false) : ∃ dx fs, H a = some (.ins C dx fs) ∧ fs.lookup m = none := by
  obtain ⟨dx, t, ps, st, ha, _⟩ := L.ex
  exact ⟨dx, _, ha, fl_no h1 h2 h3 h4 h5⟩
theorem tst2 {K : PySem.W.Frag} {σ : L2.St} {Q : Bool → Hp → Prop} {i s : Nat} {x c0 : Int} {h : Addr} {ds : List PyData} (hi : ∀ Q' : VK, Q' (.int x) H → tVar i σ H Q') (hs : ∀ Q' : VK, Q' (.ref h) H → tVar s σ H Q') (hd : ∀ H1, Same H H1 → Dp K H1 (.ref h) (.list ds)) (sh : SeqAt.shaped (.list ds) = true)
    (qt : ∀ H1, Same H H1 → x = c0 → ds ≠ [] → Q true H1) (qf : ∀ H1, Same H H1 → Q false H1) : tAnd (tTest (tOp rEq (tVar i) (tC (.int c0)))) (tTest (tOp (rNeD K) (tVar s) (tLst tNil))) σ H Q := by
  apply hi
  refine ⟨rfl, _, rfl, ite2 (fun c => ?_) (fun _ => qf H (Same.refl _))⟩
  have c1 : x = c0 := V.int.inj (of_decide_eq_true c)
  apply hs
  refine ⟨by decide, fun u nu => ?_⟩
  have s1 := same_new (o := .lst []) nu
  refine ⟨_, _, hd _ s1, dp_list (ns := []) upd_same, sh, shaped_list _, _, rfl, ?_⟩
  cases ds with
  | nil => 
    rw [show PyData.eqv (.list []) (dL []) = true from eqv_list []]
    exact qf _ s1
  | cons z r => exact qt _ s1 c1 (by simp)
theorem rp_dp3 {K : PySem.W.Frag} : ∀ {st : List (Addr × List (Addr × List Int))}, (∀ q ∈ st, RP H q.1 q.2) → DpAll K H (st.map fun q => V.ref q.1) ((st.map fun q => rws q.2).map dLL)
  | [], _ => .nil
  | q :: st, h => .cons ((h q List.mem_cons_self).dp) (rp_dp3 fun r hr => h r (List.mem_cons_of_mem _ hr))
/-- at the bottom of all stands nothing -/
def HD (st : List (Addr × List (Addr × List Int))) (ps : List (Addr × List Int)) : Prop := ((st.map fun q => rws q.2) ++ [rws ps]).head? = some []
theorem HD.push {c : Addr} {qs : List (Addr × List Int)} (h : HD st ps) : HD (st ++ [(c, ps)]) qs := by
  unfold HD at *
  rw [List.map_append]
  cases st with
  | nil => exact h
  | cons q r => exact h
theorem HD.pop {c : Addr} {qs : List (Addr × List Int)} (h : HD (st ++ [(c, qs)]) ps) : HD st qs := by
  unfold HD at *
  rw [List.map_append] at h
  cases st with
  | nil => exact h
  | cons q r => exact h
theorem HD.nil (h : HD [] ps) : rws ps = [] := Option.some.inj h
theorem erase_map {α β : Type} (f : α → β) : ∀ (l : List α) (j : Nat), (l.map f).eraseIdx j = (l.eraseIdx j).map f
  | [], j => by simp
  | a :: r, 0 => by simp
  | a :: r, j + 1 => by
    have ih := erase_map f r j
    simp [ih]
theorem mod_ix (v : Int) {m : Nat} (h : 0 < m) : ∃ j : Nat, v % ((m : Nat) : Int) = (j : Int) ∧ j < m := by
  have h1 := mod_b v (m := ((m : Nat) : Int)) (by omega)
  exact ⟨(v % ((m : Nat) : Int)).toNat, by omega, by omega⟩
theorem tops_snoc {c x : Addr} {qs : List (Addr × List Int)} (hx : x ∈ tops D a e h A (st ++ [(c, qs)])) : x ∈ tops D a e h A st ∨ x = c := by
  simp only [tops, List.map_append, List.map_cons, List.map_nil, List.mem_cons, List.mem_append, List.not_mem_nil, or_false] at hx ⊢
  grind
theorem tops_back {c x : Addr} {qs : List (Addr × List Int)} (hx : x ∈ tops D a e c A st) : x ∈ tops D a e h A (st ++ [(c, qs)]) := by
  simp only [tops, List.map_append, List.map_cons, List.map_nil, List.mem_cons, List.mem_append, List.not_mem_nil, or_false] at hx ⊢
  grind
theorem last_of {α : Type} (l : List α) (f : α → V) (x : α) : ((l ++ [x]).map f)[((l ++ [x]).map f).length - 1]? = some (f x) := by
  rw [List.map_append, List.length_append]
  show (l.map f ++ [f x])[(l.map f).length + 1 - 1]? = _
  rw [Nat.add_sub_cancel, List.getElem?_append_right (Nat.le_refl _), Nat.sub_self]
  rfl
theorem last_drop {α : Type} (l : List α) (f : α → V) (x : α) : ((l ++ [x]).map f).dropLast = l.map f := by
  rw [List.map_append]
  exact List.dropLast_concat
theorem row_srt (ps : List (Addr × List Int)) : rws (rowsR ps) = srt (rws ps) := srt_eq ((rowsR_perm ps).map _) (rowsR_sorted ps)
theorem eqv_ne {l : List (List Int)} (h : l ≠ []) : PyData.eqv (dLL l) (dL []) = false := by
  cases l with
  | nil => exact absurd rfl h
  | cons => rfl
theorem srt_len (l : List (List Int)) : (srt l).length = l.length := (srt_perm l).length_eq
theorem LwAt.len (W : LwAt C H D a e h A w n d rs ss ps st mp ms) : (rws ps).length ≤ mp := by rw [List.length_map]; exact W.l1
end
end Fo
namespace Fo
open PySem PySem.Spec PyProof.Rows L2
def spAllO : Sp := fun vs H Q _ => ∃ n : Nat, vs = [.int n] ∧ 1 ≤ n ∧ n ≤ 6 ∧ ∀ (l : Addr) (as : List Addr) (H' : Hp), H l = none → H' l = some (.lst (as.map V.ref)) → LL H' as (allK n n) → (∀ a ∈ as, H a = none ∧ a ≠ l) → as.Nodup → Same H H' → Q (.ref l) H'
end Fo
namespace Fo
open PySem PySem.Spec PyProof.Rows L2
def nearL (w : Str) (n : Nat) (xs : List Int) (r : Int) : List (List Int) := (allK n n).filter fun o => decide (farW w xs o ≤ r)
theorem filter_moreL {l : List (List Int)} {m : Nat} {x : List Int} (p : List Int → Bool) (h : l[m]? = some x) : (l.take (m + 1)).filter p = (l.take m).filter p ++ (if p x then [x] else []) := by
  rw [List.take_add_one, h, List.filter_append]
  show _ ++ List.filter p [x] = _
  rw [List.filter_cons]
  rfl
theorem extend_LL {H : Hp} : ∀ {as bs : List Addr} {rs ss : List (List Int)}, LL H as rs → LL H bs ss → LL H (as ++ bs) (rs ++ ss)
  | [], _, [], _, _, h => h
  | [], _, _ :: _, _, h, _ => h.elim
  | _ :: _, _, [], _, h, _ => h.elim
  | _ :: _, _, _ :: _, _, h, h2 => ⟨h.1, extend_LL h.2 h2⟩
end Fo
namespace Fo
open PySem PySem.Spec PyProof.Rows L2
/-- an inner for over a list that stands still -/
theorem in_list {K : PySem.W.Frag} {a : Addr} {xs : List V} {g1 : TG} {tt1 : TT} {te : TE} {vs1 : List Nat} {σ2 : L2.St} {H4 : Hp} {D : Addr} {Nx : Hp → Prop} (Pw : Nat → Hp → Prop) (h0 : Pw 0 H4) (hl : ∀ i H, i ≤ xs.length → Pw i H → SqL K H a xs)
    (hs : ∀ j x H, xs[j]? = some x → Pw j H → g1 x (wipe σ2 vs1) H fun σ3 H5 => wipe σ3 vs1 = wipe σ2 vs1 ∧ tt1 σ3 H5 fun b H6 =>
      if b = true then te σ3 H6 fun y H7 => ∃ acc, H7 D = some (.lst acc) ∧ acc.length < sizeLine ∧ Pw (j + 1) (upd H7 D (.lst (acc ++ [y]))) else Pw (j + 1) H6) (hd : ∀ H, Pw xs.length H → Nx H) :
    ∃ W1 : Nat → Nat → Hp → Prop, (∃ m, W1 0 m H4) ∧ ∀ j k H, W1 j k H →
      ((Itl K a).stop j H ∧ Nx H) ∨ ((Itl K a).go j H ∧ ∃ Nx1 : Hp → Prop, (∀ H', Nx1 H' → ∃ k', k' < k ∧ W1 (j + 1) k' H') ∧ ∀ x H', (Itl K a).yld j H x H' → g1 x (wipe σ2 vs1) H' fun σ3 H5 => wipe σ3 vs1 = wipe σ2 vs1 ∧ tt1 σ3 H5 fun b H6 =>
        if b = true then te σ3 H6 fun y H7 => ∃ acc, H7 D = some (.lst acc) ∧ acc.length < sizeLine ∧ Nx1 (upd H7 D (.lst (acc ++ [y]))) else Nx1 H6) := by
  refine ⟨fun j m H => m = xs.length - j ∧ j ≤ xs.length ∧ Pw j H, ⟨xs.length, by simp, Nat.zero_le _, h0⟩, ?_⟩
  rintro j m H ⟨rfl, hi, p⟩
  have q := hl j H hi p
  by_cases hlt : j < xs.length
  · refine .inr ⟨⟨xs, xs[j], q, by simp [hlt]⟩, Pw (j + 1), fun H' p' => ⟨xs.length - (j + 1), by omega, rfl, hlt, p'⟩, fun x H' y => ?_⟩
    obtain ⟨e, y⟩ := y
    subst e
    exact hs j x _ (y _ q) p
  · have e : j = xs.length := by omega
    subst e
    exact .inl ⟨⟨xs, q, Nat.le_refl _⟩, hd H p⟩
/-! ### orders with choices -/
def extC (ch : List Int) (o : List Int) : List (List Int) := (ch.filter fun t => !decide (t ∈ o)).map fun t => o ++ [t]
def ordW (chs : List (List Int)) : List (List Int) := chs.foldl (fun b ch => b.flatMap (extC ch)) [[]]
theorem ordW_more {chs : List (List Int)} {i : Nat} {ch : List Int} (h : chs[i]? = some ch) : ordW (chs.take (i + 1)) = (ordW (chs.take i)).flatMap (extC ch) := by
  unfold ordW
  rw [List.take_add_one, h, List.foldl_append]
  rfl
theorem extC_more {ch : List Int} {o : List Int} {j : Nat} {t : Int} (h : ch[j]? = some t) : extC (ch.take (j + 1)) o = extC (ch.take j) o ++ (if t ∈ o then [] else [o ++ [t]]) := by
  unfold extC
  rw [List.take_add_one, h, List.filter_append, List.map_append]
  congr 1
  show List.map _ (List.filter _ [t]) = _
  rw [List.filter_cons]
  by_cases c : t ∈ o
  · rw [decide_eq_true c, if_pos c]
    rfl
  · rw [decide_eq_false c, if_neg c]
    rfl
theorem extC_len (ch o : List Int) : (extC ch o).length ≤ ch.length := by
  unfold extC
  rw [List.length_map]
  exact List.length_filter_le _ _
theorem flatC_len (ch : List Int) : ∀ l : List (List Int), (l.flatMap (extC ch)).length ≤ l.length * ch.length
  | [] => Nat.zero_le _
  | o :: l => by
    rw [List.flatMap_cons, List.length_append, List.length_cons, Nat.add_mul, Nat.one_mul]
    have := flatC_len ch l
    have := extC_len ch o
    omega
theorem ordW_all (n : Nat) : ∀ i, ordW (List.replicate i (rg n)) = allK n i
  | 0 => rfl
  | i + 1 => by
    have h := ordW_more (chs := List.replicate (i + 1) (rg n)) (i := i) (ch := rg n) (by rw [List.getElem?_replicate, if_pos (by omega)])
    rw [List.take_of_length_le (by rw [List.length_replicate]; omega), List.take_replicate, Nat.min_eq_left (by omega), ordW_all n i] at h
    exact h
theorem ordW_rows : ∀ (i : Nat) (chs : List (List Int)), ∀ r ∈ ordW (chs.take i), r.length ≤ i
  | 0, chs, r, h => by
    rw [List.take_zero] at h
    rw [List.mem_singleton.mp h]
    exact Nat.le_refl _
  | i + 1, chs, r, h => by
    cases e : chs[i]? with
    | none =>
      have : chs.take (i + 1) = chs.take i := by rw [List.take_add_one, e]; simp
      rw [this] at h
      exact Nat.le_succ_of_le (ordW_rows i chs r h)
    | some ch =>
      rw [ordW_more e] at h
      obtain ⟨o, ho, hr⟩ := List.mem_flatMap.mp h
      obtain ⟨t, _, rfl⟩ := List.mem_map.mp hr
      have := ordW_rows i chs o ho
      rw [List.length_append]
      show _ + 1 ≤ _
      omega
def spOrdW : Sp := fun vs H Q _ => ∃ (c : Addr) (cs : List Addr) (chs : List (List Int)), vs = [.ref c] ∧ H c = some (.lst (cs.map V.ref)) ∧ LL H cs chs ∧ chs.length ≤ 12 ∧ (∀ ch ∈ chs, ch.length ≤ 12) ∧ (∀ i, i ≤ chs.length → (ordW (chs.take i)).length ≤ 100000) ∧
  ∀ (l : Addr) (as : List Addr) (H' : Hp), H l = none → H' l = some (.lst (as.map V.ref)) → LL H' as (ordW chs) → (∀ a ∈ as, H a = none ∧ a ≠ l) → as.Nodup → Same H H' → Q (.ref l) H'
section
variable {P : Program} {w : World} {K : PySem.W.Frag} {mg : Str → Option Value} {base : Heap}
theorem scOrdW : FnScope ["choices", "begun", "things", "start", "thing"] ["choices"] (defScope s_orders_with) := ⟨rfl, rfl, rfl, by decide +kernel, rfl, by decide +kernel, by decide +kernel⟩
set_option maxHeartbeats 4000000 in
theorem ok_ordW {f : Addr} {fd : FuncData} {k : Nat} (T : Df K mg "orders_with" s_orders_with ["choices"] f fd) (B : Bi mg) : FnOk P w K mg base CX0 (k + 1) f fd ["choices"] spOrdW := by
  refine T.F.ok scOrdW (fun vs H Q E h => ?_) (fun cdv A outer s H vs Q E hr h => ?_)
  · obtain ⟨c, cs, chs, rfl, _⟩ := h
    rfl
  · obtain ⟨c0, ks, chs, rfl, hc, hLc, hcl, hch, hsz, q⟩ := h
    have hkl := hLc.len
    refine ⟨_, 
      (pss_cons (ps_set (i := 1) scOrdW.nd rfl (.inl rfl) (pe_lst (pa_cons (pe_lst pa_nil) pa_nil)))
      (pss_cons (ps_for PassesOwn.never rfl (pi_list (pv 0)) (pg_name (i := 2) scOrdW.nd rfl (.inr rfl))
        (pss_one (ps_setLc2 (i := 1) (own := [("start", 3), ("thing", 4)]) (vs1 := [4]) (wi1 := iList K (tVar 2)) (g := (gName 3)) (tt := tYes) (g1 := (gName 4)) (tt1 := (tTest (tOp (rIn K true) (tVar 4) (tVar 3)))) (te := (tOp rCat (tVar 3) (tLst (tCons (tVar 4) tNil)))) (by rfl) scOrdW.nd rfl rfl (sw_true rfl rfl rfl (by decide +kernel)) (pi_list (pv 1)) (blkOk_by (N := ["choices", "begun", "things", "start", "thing"]) (sc := defScope s_orders_with) (by decide +kernel)) (by decide) (fun _ _ _ _ _ => (pg_name (i := 3) scOrdW.nd rfl (.inl rfl))) (fun _ _ _ _ _ => pts_nil) (fun _ _ _ _ _ => (pi_list (pv 2))) (fun _ _ _ _ _ => (pg_name (i := 4) scOrdW.nd rfl (.inl rfl))) (fun _ _ _ _ _ => (pts_one (pt_cmpR op_notIn_seq (pv 4) (pv 3) (by rfl)))) (fun _ _ _ _ _ => (pe_op op_cat (pv 3) (pe_lst (pa_cons (pv 4) pa_nil)))))))
      (pss_one (ps_ret (pv 1))))), ?_⟩
    refine ⟨Nat.zero_le _, fun e0 ne0 => ⟨line_small (by show 1 ≤ 16777216; decide), fun bg nbg => ?_⟩⟩
    have s0 := same_new (o := .lst []) ne0
    have s1 := same_new (o := .lst [.ref e0]) nbg
    have nHbg : H bg = none := s0.free nbg
    have neb : e0 ≠ bg := ne_of_none upd_same nbg
    refine ⟨_, rfl, c0, rfl, ⟨_, SqL.of (s1 _ _ (s0 _ _ hc))⟩, ?_⟩
    refine for_list (xs := ks.map V.ref) (fun i σ H3 => ∃ (bg : Addr) (y2 y3 y4 : Option V) (as : List Addr), σ = [some (.ref c0), some (.ref bg), y2, y3, y4] ∧ H bg = none ∧ H3 bg = some (.lst (as.map V.ref)) ∧ LL H3 as (ordW (chs.take i)) ∧ (∀ c ∈ as, H c = none ∧ c ≠ bg) ∧ as.Nodup ∧ Same H H3)
      ⟨bg, _, _, _, [e0], rfl, nHbg, upd_same, ⟨s1 _ _ upd_same, trivial⟩, fun c hc => by rw [List.mem_singleton.mp hc]; exact ⟨ne0, neb⟩, List.nodup_cons.mpr ⟨List.not_mem_nil, List.nodup_nil⟩, s0.trans s1⟩ (fun i σ H3 _ hP => by obtain ⟨_, _, _, _, _, _, _, _, _, _, _, sm⟩ := hP; exact SqL.of (sm _ _ hc)) (fun i x σ H3 hx hP => ?_) (fun σ H3 hP => ?_)
    · obtain ⟨bg, y2, y3, y4, as, rfl, nbg, hb3, hLL, hfr, hnd, sm⟩ := hP
      obtain ⟨kc, ek, rfl⟩ := ref_at_inv hx
      obtain ⟨ch, ech, hkc⟩ := hLc.get ek
      have hi := (List.getElem?_eq_some_iff.mp ech).1
      have hchl := hch ch (List.mem_of_getElem? ech)
      have hlen := hLL.len
      have hal := hsz i (by omega)
      have hkc3 := sm _ _ hkc
      refine ⟨_, rfl, bg, rfl, ⟨_, SqL.of hb3⟩, fun D nD => ?_⟩
      have nHD : H D = none := sm.free nD
      refine lc2_list (K := K) (a := bg) (xs := as.map V.ref) (fun m H4 => ∃ cs : List Addr, H4 D = some (.lst (cs.map V.ref)) ∧ LL H4 cs (((ordW (chs.take i)).take m).flatMap (extC ch)) ∧ (∀ c ∈ cs, H3 c = none ∧ c ≠ D) ∧ cs.Nodup ∧ Same H3 H4)
        ⟨[], upd_same, trivial, fun c hc => absurd hc List.not_mem_nil, List.nodup_nil, same_new nD⟩ (fun m H4 _ hP => by obtain ⟨_, _, _, _, _, s4⟩ := hP; exact SqL.of (s4 _ _ hb3)) (fun m x H4 hx hP => ?_) (fun H4 hP => ?_)
      · obtain ⟨cs, hD4, hLc4, hfc, hndc, s4⟩ := hP
        obtain ⟨r, er, rfl⟩ := ref_at_inv hx
        obtain ⟨row, erow, hrow⟩ := hLL.get er
        have hrl := ordW_rows i chs row (List.mem_of_getElem? erow)
        refine ⟨rfl, ?_⟩
        refine ⟨_, rfl, kc, rfl, ⟨_, SqL.of (s4 _ _ hkc3)⟩, ?_⟩
        refine in_list (K := K) (a := kc) (xs := ch.map V.int) (fun j H5 => ∃ cs : List Addr, H5 D = some (.lst (cs.map V.ref)) ∧ LL H5 cs (((ordW (chs.take i)).take m).flatMap (extC ch) ++ extC (ch.take j) row) ∧ (∀ c ∈ cs, H3 c = none ∧ c ≠ D) ∧ cs.Nodup ∧ Same H3 H5)
          ⟨cs, hD4, by rw [show extC (ch.take 0) row = [] from rfl, List.append_nil]; exact hLc4, hfc, hndc, s4⟩ (fun j H5 _ hP => by obtain ⟨_, _, _, _, _, s5⟩ := hP; exact SqL.of (s5 _ _ hkc3)) (fun j x H5 hx hP => ?_) (fun H5 hP => ?_)
        · obtain ⟨cs5, hD5, hL5, hf5, hnd5, s5⟩ := hP
          obtain ⟨t, et, rfl⟩ := int_at_inv hx
          have hrow5 := s5 _ _ hrow
          refine ⟨rfl, _, rfl, _, rfl, r, _, rfl, .inl (SqL.of hrow5), rfl, flat_ints row, _, rfl, ?_⟩
          show if (!inV (.int t) (row.map V.int)) = true then _ else _
          rw [inV_int]
          have em := extC_more (o := row) et
          by_cases c : t ∈ row
          · rw [decide_eq_true c]
            refine iteF ⟨cs5, hD5, ?_, hf5, hnd5, s5⟩
            rw [em, if_pos c, List.append_nil]
            exact hL5
          · rw [decide_eq_false c]
            refine iteT ⟨_, rfl, _, rfl, line_small (by show 1 ≤ 16777216; decide), fun p np => ?_⟩
            have sp1 := same_new (o := .lst [.int t]) np
            refine ⟨r, p, _, _, rfl, rfl, sp1 _ _ hrow5, upd_same, line_small (by rw [List.length_map]; show _ + 1 ≤ _; omega), fun z nz => ?_⟩
            have sp2 := same_new (o := .lst (row.map V.int ++ [.int t])) nz
            have hD6 := sp2 _ _ (sp1 _ _ hD5)
            have nzD : z ≠ D := (ne_of_none (sp1 _ _ hD5) nz).symm
            have hl5 := hL5.len
            have hcount : cs5.length < 16777216 := by
              have h1 : (((ordW (chs.take i)).take m).flatMap (extC ch) ++ extC (ch.take j) row).length ≤ ((ordW (chs.take i)).take m).length * ch.length + ch.length := by
                rw [List.length_append]
                have a1 := flatC_len ch ((ordW (chs.take i)).take m)
                have a2 := extC_len (ch.take j) row
                rw [List.length_take] at a2
                omega
              have h2 : ((ordW (chs.take i)).take m).length * ch.length ≤ 100000 * 12 := Nat.mul_le_mul (by rw [List.length_take]; omega) hchl
              omega
            refine ⟨_, hD6, line_lt (by rw [List.length_map]; exact hcount), cs5 ++ [z], by rw [upd_same, List.map_append]; rfl, ?_, fun c hc => ?_, ?_, fun u ob e => ?_⟩
            · rw [em, if_neg c, ← List.append_assoc]
              refine LL.snoc (((hL5.same sp1).same sp2).keep fun u hu ob e => by rw [upd_ne (hf5 u hu).2]; exact e) ?_
              rw [upd_ne nzD, upd_same, List.map_append]
              rfl
            · rcases List.mem_append.mp hc with hc | hc
              · exact hf5 c hc
              · rw [List.mem_singleton.mp hc]
                exact ⟨(s5.trans sp1).free nz, nzD⟩
            · rw [List.nodup_append]
              refine ⟨hnd5, List.nodup_cons.mpr ⟨List.not_mem_nil, List.nodup_nil⟩, fun x hx y hy e => ?_⟩
              rw [List.mem_singleton.mp hy] at e
              obtain ⟨ob, eo⟩ := hL5.tracked hx
              rw [e] at eo
              have := sp1 _ _ eo
              rw [nz] at this
              cases this
            · rw [upd_ne (ne_of_none e nD)]
              exact sp2 _ _ (sp1 _ _ (s5 _ _ e))
        · obtain ⟨cs5, hD5, hL5, hf5, hnd5, s5⟩ := hP
          refine ⟨cs5, hD5, ?_, hf5, hnd5, s5⟩
          rw [List.length_map, List.take_length] at hL5
          rw [List.take_add_one, erow, List.flatMap_append]
          show LL H5 cs5 (_ ++ (extC ch row ++ []))
          rw [List.append_nil]
          exact hL5
      · obtain ⟨cs, hD4, hLc4, hfc, hndc, s4⟩ := hP
        rw [List.length_map, hlen, List.take_length] at hLc4
        refine ⟨D, _, _, _, cs, rfl, nHD, hD4, ?_, fun c hc => ⟨sm.free (hfc c hc).1, (hfc c hc).2⟩, hndc, sm.trans s4⟩
        rw [ordW_more ech]
        exact hLc4
    · obtain ⟨bg, y2, y3, y4, as, rfl, nbg, hb3, hLL, hfr, hnd, sm⟩ := hP
      rw [List.length_map, hkl, List.take_length] at hLL
      exact ⟨_, rfl, q bg as H3 nbg hb3 hLL hfr hnd sm⟩
theorem LL_rep {H : Hp} {a : Addr} {r : List Int} (h : H a = some (.lst (r.map V.int))) : ∀ m, LL H (List.replicate m a) (List.replicate m r)
  | 0 => trivial
  | m + 1 => ⟨h, LL_rep h m⟩
theorem rep_flat (v : V) : ∀ m : Nat, (List.replicate m [v]).flatten = List.replicate m v
  | 0 => rfl
  | m + 1 => by rw [List.replicate_succ, List.flatten_cons, rep_flat v m]; rfl
theorem scAllO : FnScope ["n"] ["n"] (defScope s_all_orders) := ⟨rfl, rfl, rfl, by decide +kernel, rfl, by decide +kernel, by decide +kernel⟩
theorem ok_all_orders {f f1 : Addr} {fd d1 : FuncData} {k : Nat} (T : Df K mg "all_orders" s_all_orders ["n"] f fd) (T_orders_with : Df K mg "orders_with" s_orders_with ["choices"] f1 d1) (B : Bi mg) : FnOk P w K mg base CX0 (k + 2) f fd ["n"] spAllO := by
  have G_orders_with : FnOk P w K mg base CX0 (k + 1) f1 d1 ["choices"] spOrdW := ok_ordW T_orders_with B
  refine T.F.ok scAllO (fun vs H Q E h => ?_) (fun cdv A outer s H vs Q E hr h => ?_)
  · obtain ⟨n, rfl, _⟩ := h
    rfl
  · obtain ⟨n, rfl, hn1, hn2, q⟩ := h
    refine ⟨_, 
      (pss_one (ps_ret (pe_call G_orders_with hr (by rfl) T_orders_with.g T_orders_with.F.kp T_orders_with.b .nil pass0 (pa_cons (pe_op op_rep (pe_lst (pa_cons (pe_listRg rfl (by rfl) B.list (prg_1 (by rfl) B.range (pv 0))) pa_nil)) (pv 0)) pa_nil)))), ?_⟩
    refine ⟨_, rfl, n, rfl, RgOk.of_le (by omega) (by omega) (by omega) (by omega), fun l nl => ?_⟩
    have t1 := same_new (o := .lst (rgV 0 (n : Int))) nl
    have hl : (upd H l (.lst (rgV 0 (n : Int)))) l = some (.lst ((rg n).map V.int)) := by rw [upd_same, rg_V]
    refine ⟨line_small (by show 1 ≤ 16777216; decide), fun l1 nl1 => ?_⟩
    have t2 := same_new (o := .lst [.ref l]) nl1
    refine ⟨_, rfl, l1, _, _, rfl, rfl, upd_same, by omega, by omega, line_small (by rw [Int.toNat_natCast]; show 1 * n ≤ _; omega), fun l2 nl2 => ?_⟩
    have t3 := same_new (o := .lst (List.replicate ((n : Nat) : Int).toNat [V.ref l]).flatten) nl2
    have tt := (t1.trans t2).trans t3
    refine ⟨l2, List.replicate n l, List.replicate n (rg n), rfl, by rw [upd_same, Int.toNat_natCast, rep_flat, List.map_replicate], LL_rep (t3 _ _ (t2 _ _ hl)) n, by rw [List.length_replicate]; omega, fun ch hc => ?_, fun i hi => ?_, fun r as H' nr hr hLL hfr hnd s' => ?_⟩
    · rw [(List.mem_replicate.mp hc).2, rg_len]
      omega
    · rw [List.length_replicate] at hi
      rw [List.take_replicate, Nat.min_eq_left hi, ordW_all]
      have h1 := allK_len hn2 i hi
      have h2 := pow6 (show i ≤ 6 by omega)
      omega
    · rw [ordW_all] at hLL
      exact q r as H' (tt.free nr) hr hLL (fun c hc => ⟨tt.free (hfr c hc).1, (hfr c hc).2⟩) hnd (tt.trans s')
end
end Fo
namespace Fo
open PySem PySem.Spec PyProof.Rows L2 GenW
/-! all(test for x in ..) where the test calls defs of the program -/
/-- around a generator's block that all() walks -/
abbrev gArd (A : Around) (ce : Env) : Around := A.in1.in1.deeper ce
theorem room_gen {k : Nat} {A : Around} {ce : Env} (r : Room (k + 1) A) : Room k (gArd A ce) := by
  obtain ⟨h1, h2, h3⟩ := r
  refine ⟨h1, ?_, ?_⟩
  · show A.depth + 1 + 3 * k + 5 < _
    omega
  · show A.units + 1 + 1 + 3 + 16 * k + 200 < _
    omega
theorem over_gl {A : Around} {el : Expr} {gs : List Comprehension} {sc : Scope} {p : Pos} {it ac : Value} {ce : Env} : A.over (.compLoop (.GeneratorExp el gs sc p) 0 it ac ce) [] = A.deeper ce := by
  first
    | rfl
    | (obtain ⟨a1, a2, a3, a4, a5⟩ := A; simp [Around.over, Around.deeper, marksOver, frameCount, unitsOf, envsOf, guardsOf, pushEnvs, pushGuards, Code.envs, Code.env?, Code.isFrame, Code.guards, Code.isGuard, Code.weight, Code.frames, Code.isCreation, Code.isCaller, Code.cUnits])
abbrev gCx (X : Cx) (s : Shared) (H : Hp) (ce : Env) (fp : List Addr) (pn : List (Addr × Obj)) : Cx := { X with A := gArd X.A ce, s_0 := s, H_0 := H, env := ce, outer := X.stack, stack := ce :: X.stack, ex := fp, fn := fun _ => false, pn := pn, xe := fun _ _ => False }
/-- the scope of a generator expression without cells of its own -/
structure GSc (sc : Scope) : Prop where
  co : sc.isCoroutine = false
  cell : ∀ y ∈ sc.names, y.2 ≠ .cell
  dot : sc.names.lookup (".0" : Str) = some NameKind.local
def gscB (sc : Scope) : Bool := !sc.isCoroutine && sc.names.all (fun y => y.2 != .cell) && sc.names.lookup (".0" : Str) == some NameKind.local
theorem gsc_by {sc : Scope} (h : gscB sc = true) : GSc sc := by
  unfold gscB at h
  simp only [Bool.and_eq_true, List.all_eq_true, bne_iff_ne, ne_eq, beq_iff_eq, Bool.not_eq_true'] at h
  exact ⟨h.1.1, h.1.2, h.2⟩
/-- what happens while a generator sleeps -/
def Aft (s s' : Shared) : Prop := s'.os = s.os ∧ AllBare s'.gens ∧ ∀ b o, s.heap.get? b = some o → s'.heap.get? b = some o

section
variable {X : Cx} {pins : List (Addr × Obj)} {σ : L2.St} {H : Hp} {s : Shared}
theorem gen_start {sc : Scope} {own : List (Str × Nat)} {fp : List Addr} {code : Value} {h2 : Heap} {g2 : Array GenState} {t2 : Nat} {m : Str → Option Value} {a : Addr} {go : Obj} (I : Inv X pins σ H s) (ok : BlkOk X.N X.env.scope sc own) (gs : GSc sc) (hN : X.N.Nodup) (hc : X.calm = true)
    (hfp : ∀ b ∈ fp, FpOk X pins H b ∧ b < s.heap.objs.size) (hn : h2.Ns s.heap.objs.size m) (kp : ∀ b o, s.heap.get? b = some o → h2.get? b = some o) (ha : s.heap.objs.size < a) (hgo : h2.get? a = some go) (hgd : ∀ v, go.data ≠ .cell v) (hbr : AllBare g2) :
    Inv (gCx X s H (genEnv sc (cloFrom X.env.cells sc.names []) s.heap.objs.size code builtinsNs X.env) fp [(a, go)]) [] (wipe σ (own.map (·.2))) H { s with heap := h2, gens := g2, toks := t2 } := by
  have fr : ∀ y ∈ sc.names, y.2 = .free → ∃ c, X.env.cells.lookup y.1 = some c := fun y hy e => by
    rcases ok.free y hy e with k | k
    · exact I.ok.has _ (.inl k)
    · exact I.ok.has _ (.inr k)
  have cm : ∀ {y c}, (cloFrom X.env.cells sc.names []).lookup y = some c → X.env.cells.lookup y = some c ∧ c < s.heap.objs.size := fun {y c} e => by
    rcases cloFrom_mem (PySem.mem_of_lookup e) with hm | ⟨h1, rfl⟩
    · cases hm
    · obtain ⟨c, hc⟩ := fr _ h1 rfl
      rw [hc]
      obtain ⟨w, z⟩ := I.cell _ _ hc
      exact ⟨rfl, z.lt⟩
  have look : ∀ {y}, sc.names.lookup y = some .free → ∃ c, (cloFrom X.env.cells sc.names []).lookup y = some c ∧ X.env.cells.lookup y = some c := fun {y} hl => by
    obtain ⟨c', e'⟩ := mem_lookup (cloFrom_has (cells := X.env.cells) (acc := []) (PySem.mem_of_lookup hl))
    exact ⟨c', e', (cm e').1⟩
  have nst : ∀ b, s.heap.objs.size ≤ b → b ∉ frs X.stack := fun b hb z => by
    rcases List.mem_cons.mp (I.stkSub b z) with q | q
    · rw [q] at hb
      exact absurd (Nat.lt_of_lt_of_le I.lt hb) (Nat.lt_irrefl _)
    · exact I.nofs hb q
  have okB : (gCx X s H (genEnv sc (cloFrom X.env.cells sc.names []) s.heap.objs.size code builtinsNs X.env) fp [(a, go)]).Ok := by
    refine ⟨I.ok.mod, ok.kind, I.ok.glob, rfl, Nat.le_refl _, fun y z c e1 e2 => I.ok.inj y z c (cm e1).1 (cm e2).1, fun y hy => ?_, fun y c z e => (by cases z), fun _ => I.ok.hd hc, Around.frames_deeper (A := X.A.in1.in1) I.ok.frames, .inr ⟨rfl, rfl⟩,
      fun b hb => ⟨Nat.ne_of_lt (hfp b hb).2, fun y c e z => (hfp b hb).1.2.2.2.2.1 y c (cm e).1 z⟩, I.bs, Nat.le_trans I.ok.bsz I.sz, fun b o e hb => ?_, fun b hb z => ?_, I.stack, I.stkFree⟩
    · have hy : sc.names.lookup y = some .cell ∨ sc.names.lookup y = some .free := hy
      rcases hy with hy | hy
      · exact absurd rfl (gs.cell _ (PySem.mem_of_lookup hy))
      · obtain ⟨c, h1, _⟩ := look hy
        exact ⟨c, h1⟩
    · rcases (hfp b hb).1.2.2.2.1 with z | z
      · exact I.ok.noex b o e z
      · exact absurd (Nat.lt_of_lt_of_le (Heap.lt_size e) (Nat.le_trans I.ok.bsz z)) (Nat.lt_irrefl _)
    · rcases List.mem_cons.mp (I.stkSub b z) with q | q
      · exact (hfp b hb).1.2.1 q
      · exact (hfp b hb).1.2.2.1 q
  refine ⟨okB, rfl, hbr, Un.kept kp, ⟨m, hn, fun i y av e1 e2 e3 => ?_⟩, fun y c e => ?_, I.hok.fresh (Nat.le_refl _), fun y c e => I.freeC y c (cm e).1, fun p hp => ?_, I.hok.kept kp, by rw [wipe_length]; exact I.len⟩
  · obtain ⟨e2, hne⟩ := wipe_some e2
    have no : ∀ k, sc.names.lookup y = some k → ¬ (k = .local ∨ k = .cell) := fun k hk hh => by
      rcases ok.own _ (PySem.mem_of_lookup hk) hh with e' | e'
      · obtain ⟨p, hp, hpy⟩ := List.mem_map.mp e'
        have e3 := ok.ix p hp
        have : p.1 = y := hpy
        rw [this] at e3
        exact hne (List.mem_map.mpr ⟨p, hp, nodup_ix hN e3 e1⟩)
      · exact e' (List.mem_of_getElem? e1)
    have hfr : sc.names.lookup y = some .free := by
      have e3 : sc.names.lookup y = some .local ∨ sc.names.lookup y = some .cell ∨ sc.names.lookup y = some .free := e3
      rcases e3 with e3 | e3 | e3
      · exact absurd (.inl rfl) (no _ e3)
      · exact absurd (.inr rfl) (no _ e3)
      · exact e3
    obtain ⟨m', _, hl⟩ := I.loc
    have hvis : Vis X.env.scope y := (ok.free _ (PySem.mem_of_lookup hfr) rfl).elim (fun k => .inr (.inl k)) (fun k => .inr (.inr k))
    obtain ⟨w, r, q⟩ := hl i y av e1 e2 hvis
    refine ⟨w, r, .inr ⟨.inr hfr, ?_⟩⟩
    obtain ⟨c, h1, h3⟩ := look hfr
    rcases q with ⟨k, _⟩ | ⟨_, c', e', z⟩
    · have k : X.env.scope.names.lookup y = some .local := k
      rcases ok.free _ (PySem.mem_of_lookup hfr) rfl with k' | k' <;> rw [show X.env.scope.names.lookup y = _ from k'] at k <;> cases k
    · rw [h3] at e'
      cases e'
      exact ⟨c, h1, z.keeps kp⟩
  · obtain ⟨w, z⟩ := I.cell y c (cm e).1
    exact ⟨w, z.keeps kp⟩
  · have e : p = (a, go) := by simpa using hp
    subst e
    exact ⟨hgo, I.hok.fresh (Nat.le_of_lt ha), Nat.ne_of_gt ha, nst _ (Nat.le_of_lt ha), hgd⟩
end

/-- an item is out: a truth; behind False nothing is asked any more -/
def gY (Y : Cx) (w : L2.St) (Qf : Hp → Prop) (a : Addr) (g : Nat) : Protocol := fun _ _ v s kap => ∃ b, v = .bool b ∧ s.heap.IsGen a g ∧ s.heap.NoLimit ∧ AllBare s.gens ∧
  if b = true then ∀ s'', Aft s s'' → kap (.send .none) s'' else ∃ H, Inv Y [] w H s ∧ Qf H
def gR (Y : Cx) (w : L2.St) (Qt : Hp → Prop) : Nat → Shared → Shared → Prop := fun _ _ s => ∃ H, Inv Y [] w H s ∧ Qt H

theorem gen_loop {Y : Cx} {A : Around} {el tg iter : Expr} {sc : Scope} {pos : Pos} {it : Addr} {fp : List Addr} {tn : Nat → Heap → Prop} {J : It} {gt : TG} {te : TE} {vs : List Nat} {σ0 : L2.St} {a : Addr} {g : Nat} {go : Obj} {Qt Qf : Hp → Prop} {W : Nat → Nat → Hp → Prop}
    (hA : Y.A = A.deeper Y.env) (hc : Y.calm = true) (hx : Y.xe = fun _ _ => False) (hex : Y.ex = fp) (hpn : Y.pn = [(a, go)]) (hgo : ∀ h : Heap, h.get? a = some go → h.IsGen a g) (haf : a ∉ fp) (hco : Y.env.scope.isCoroutine = false)
    (T : Turn Y.prog Y.w Y.K tg J fp it tn) (pg : PG Y tg gt) (pe : PE Y el te)
    (turn : ∀ i m H, W i m H → (J.stop i H ∧ Qt H) ∨ (J.go i H ∧ ∀ x H', J.yld i H x H' → gt x (wipe σ0 vs) H' fun σ2 H3 => wipe σ2 vs = wipe σ0 vs ∧ te σ2 H3 fun y H4 => ∃ b, y = .bl b ∧ if b = true then ∃ m', m' < m ∧ W (i + 1) m' H4 else Qf H4)) :
    ∀ (n i m : Nat) (H : Hp) (s₀ s : Shared), m < n → W i m H → Inv Y [] (wipe σ0 vs) H s → tn i s.heap → (∀ b ∈ fp, H b = none) →
      Seg (model Y.prog Y.w) A (fun n s₀ r s₁ => r = .ok .next ∧ gR Y (wipe σ0 vs) Qt n s₀ s₁) (gY Y (wipe σ0 vs) Qf a g) n s₀ (.compLoop (.GeneratorExp el [⟨tg, iter, [], 0⟩] sc pos) 0 (.ref it) .none Y.env)
        ((model Y.prog Y.w).den (.compLoop (.GeneratorExp el [⟨tg, iter, [], 0⟩] sc pos) 0 (.ref it) .none Y.env)) [] s := by
  have ov : A.over (.compLoop (.GeneratorExp el [⟨tg, iter, [], 0⟩] sc pos) 0 (.ref it) .none Y.env) [] = Y.A := over_gl.trans hA.symm
  have fpo : ∀ {H' : Hp} {s' : Shared} {σ' : L2.St}, Inv Y [] σ' H' s' → (∀ b ∈ fp, H' b = none) → ∀ b ∈ fp, FpOk Y [] H' b := fun {H' s' σ'} I' hn b hb => by
    have hb' : b ∈ Y.ex := by rw [hex]; exact hb
    refine ⟨hn b hb, (I'.ok.exf b hb').1, I'.ok.exfs b hb', .inl hb', fun x c e => (I'.ok.exf b hb').2 x c e, fun p hp z => ?_⟩
    rw [hpn] at hp
    have e : p = (a, go) := by simpa using hp
    rw [e] at z
    have z : a = b := z
    exact haf (by rw [z]; exact hb)
  intro n
  induction n with
  | zero =>
    intro i m H s₀ s hm
    omega
  | succ n ih =>
    intro i m H s₀ s hm w I st nf
    show Seg _ A _ _ _ s₀ _ ((compTurn (.GeneratorExp el [⟨tg, iter, [], 0⟩] sc pos) 0 (.ref it) .none Y.env).onRaise (leaving Y.env)) [] s
    rw [compTurn_gen, Sem.onRaise_eq_wrap]
    refine seg_bind_wrap (wpAny_standAt ?_)
    refine seg_bind_wrap ?_
    rw [ov]
    rcases turn i m H w with ⟨stop, q⟩ | ⟨go', step⟩
    · refine thnF (T.done Y rfl rfl rfl hc i [] s _ H (fun _ _ => False) I (fpo I nf) st stop) fun r s6 ⟨hr, I6⟩ => ?_
      subst hr
      exact seg_end (.ok .next) ⟨rfl, H, I6, q⟩
    · refine thnF (T.item Y rfl rfl rfl hc i [] s _ H (fun _ _ => False) I (fpo I nf) st go') fun r s6 ⟨u, hr, h6⟩ => ?_
      subst hr
      refine seg_bind_wrap ?_
      rw [ov]
      refine thnF h6 fun _ s7 ⟨x, H7, I7, r7, y7, st7, n7⟩ => ?_
      have I7' := I7.pinned (fpo I7 n7) (T.obj _ _ st7)
      refine seg_bind_wrap ?_
      rw [ov]
      have hs := pg.run _ s7 _ H7 x u _ I7' r7 (step x H7 y7)
      rw [hx] at hs
      refine thnF hs fun _ s8 ⟨σ8, H8, I8, hw8, q8⟩ => ?_
      refine seg_bind_wrap (wpAny_pure ?_)
      simp only [if_true]
      have hy : ∀ v, yieldOut Y.env v = yieldValue v := fun v => by simp only [yieldOut, hco, Bool.false_eq_true, if_false]
      simp only [hy]
      rw [Sem.bind_eq_wrap', Sem.bind_eq_wrap', Sem.wrap_wrap, Sem.wrap_wrap]
      refine seg_wrap ?_
      rw [ov]
      have hp := pe.run _ s8 σ8 H8 _ I8 q8
      rw [hx] at hp
      refine thnF hp fun v s9 ⟨yv, H9, I9, r9, b, eb, q9⟩ => ?_
      subst eb
      obtain rfl : v = Value.bool b := r9
      have pin9 : ∀ c ∈ fp, ∀ o, s7.heap.get? c = some o → s9.heap.get? c = some o ∧ H9 c = none := fun c hc' o e =>
        let z := I9.pin (c, o) (List.mem_append_right _ (List.mem_append_right _ (mem_pinsAt hc' e)))
        ⟨z.1, z.2.1⟩
      have I10 : Inv Y [] (wipe σ0 vs) H9 s9 := (I9.unpinned (pins := [])).weak (by rw [← hw8, wipe_length]) fun j v e => by
        rw [← hw8] at e
        exact (wipe_some e).1
      have st9 : tn (i + 1) s9.heap := T.keep _ _ _ st7 fun c hc' o e => (pin9 c hc' o e).1
      have nf9 : ∀ c ∈ fp, H9 c = none := fun c hc' => by
        obtain ⟨o, e, _⟩ := T.obj _ _ st7 c hc'
        exact (pin9 c hc' o e).2
      have hga : s9.heap.get? a = some go := (I10.pin (a, go) (by rw [hpn]; simp)).1
      refine seg_at (seg_yield rfl rfl rfl ⟨b, rfl, hgo _ hga, I10.nolimit, I10.bare, ?_⟩)
      cases b with
      | false =>
        rw [if_neg Bool.false_ne_true] at q9 ⊢
        exact ⟨H9, I10, q9⟩
      | true =>
        rw [if_pos rfl] at q9 ⊢
        obtain ⟨m', hm', w'⟩ := q9
        intro s'' ⟨ho, hb, hk⟩
        exact seg_again rfl (ih (i + 1) m' H9 s'' s'' (by omega) w' (I10.call' (ch := []) ho (Un.kept hk) (I10.hok.kept hk) hb fun b z => by simp at z) (T.keep _ _ _ st9 fun b _ o e => hk b o e) nf9)

theorem gen_begin {P : Program} {w : World} {A : Around} {R : GenEnd} {Yp : Protocol} {n : Nat} {s₀ s : Shared} {el tg iter : Expr} {sc : Scope} {pos : Pos} {it : Addr} {ce : Env}
    (lp : Seg (model P w) A R Yp n s₀ (.compLoop (.GeneratorExp el [⟨tg, iter, [], 0⟩] sc pos) 0 (.ref it) .none ce) ((model P w).den (.compLoop (.GeneratorExp el [⟨tg, iter, [], 0⟩] sc pos) 0 (.ref it) .none ce)) [] s)
    (self : ∀ (B : Around) (Q : Value → Shared → Prop) (E : Value → Shared → Prop), Q (.ref it) s → wpAny (model P w) B (pyIter (.ref it)) Q E s) :
    Seg (model P w) A R Yp n s₀ (.compStart (.GeneratorExp el [⟨tg, iter, [], 0⟩] sc pos) 0 (.ref it) .none ce) ((model P w).den (.compStart (.GeneratorExp el [⟨tg, iter, [], 0⟩] sc pos) 0 (.ref it) .none ce)) [] s := by
  show Seg _ A _ _ _ s₀ _ ((compStart (.GeneratorExp el [⟨tg, iter, [], 0⟩] sc pos) 0 (.ref it) .none ce).onRaise (leaving ce)) [] s
  unfold compStart
  rw [Sem.onRaise_eq_wrap]
  show Seg _ A _ _ _ s₀ _ ((ask >>= _).wrap _ _ _ _) [] s
  refine seg_bind_wrap (wpAny_askSetting ?_)
  split
  · exact seg_again rfl lp
  · first
      | exact seg_bind_wrap (wpAny_rule (seg_bind_wrap (wpAny_standAt (seg_bind_wrap (self _ _ _ (seg_again rfl lp))))))
      | (refine seg_bind_wrap (wpAny_rule ?_); show Seg _ A _ _ _ s₀ _ ((standAt iter.pos >>= _).wrap _ _ _ _) [] s; exact seg_bind_wrap (wpAny_standAt (seg_bind_wrap (self _ _ _ (seg_again rfl lp)))))

theorem all_loop {Y : Cx} {A : Around} {a : Addr} {g : Nat} {w : L2.St} {Qt Qf : Hp → Prop} {R : Result → Shared → Prop} (hh : A.handled = none) (hd : A.depth < recursionLimit)
    (ht : ∀ s H s', Inv Y [] w H s → Qt H → Aft s s' → R (.ok (.ret (.bool true))) s') (hf : ∀ s H s', Inv Y [] w H s → Qf H → Aft s s' → R (.ok (.ret (.bool false))) s') :
    ∀ (n : Nat) (s : Shared), s.heap.IsGen a g → s.heap.NoLimit →
      (∃ gs, s.gens[g]? = some gs ∧ gs.Goes (model Y.prog Y.w) A.in1.in1 (fun n s₀ r s₁ => r = .ok .next ∧ gR Y w Qt n s₀ s₁) (gY Y w Qf a g) n (.send .none) (s.setGen g .running)) →
      codeAny (model Y.prog Y.w) A (.builtin "all.loop" ⟨[.ref a], []⟩) R s := by
  intro n
  induction n with
  | zero =>
    intro s hg hl ⟨gs, hgs, hgo⟩
    refine codeAny_builtin F.entry_all_loop ?_
    rw [Around.under_plainId F.plain_all_loop _]
    show wpAny _ A.in1 (pyNext (.ref a) >>= _) _ _ s
    refine wpAny_bind (wpAny_pyNext_genexpQ (A := A.in1) (P := gR Y w Qt) hh hl hd hg hgs hgo (fun v s₁ gs' hb hv => ?_) (fun s₁ hp h' hk => ?_))
    · obtain ⟨b, rfl, hg1, hl1, hb1, q⟩ := hv
      refine wpAny_bind (wpAny_holding (wpAny_truthy_bool ?_))
      refine wpAny_bind (wpAny_letGo ?_)
      cases b with
      | true =>
        rw [if_pos rfl] at q
        exact (q s₁ ⟨rfl, hb1, fun _ _ e => e⟩).elim
      | false =>
        rw [if_neg Bool.false_ne_true] at q
        obtain ⟨H, I, qf⟩ := q
        simp only [Bool.false_eq_true, if_false]
        exact wpAny_bind (wpAny_rule (wpAny_pure (hf s₁ H _ I qf ⟨rfl, allBare_setGen hb1 hb, fun _ _ e => e⟩)))
    · obtain ⟨H, I, qt⟩ := hp
      exact wpAny_bind (wpAny_rule (wpAny_pure (ht s₁ H _ I qt ⟨rfl, allBare_setGen I.bare rfl, hk⟩)))
  | succ n ih =>
    intro s hg hl ⟨gs, hgs, hgo⟩
    have hgl : g + 1 ≤ s.gens.size := (Array.getElem?_eq_some_iff.mp hgs).1
    refine codeAny_builtin F.entry_all_loop ?_
    rw [Around.under_plainId F.plain_all_loop _]
    show wpAny _ A.in1 (pyNext (.ref a) >>= _) _ _ s
    refine wpAny_bind (wpAny_gsz (n := g + 1) hgl (wpAny_pyNext_genexpQ (A := A.in1) (P := gR Y w Qt) hh hl hd hg hgs hgo (fun v s₁ gs' hb hv => ?_) (fun s₁ hp h' hk => ?_)))
    · intro hsz
      obtain ⟨b, rfl, hg1, hl1, hb1, q⟩ := hv
      refine wpAny_bind (wpAny_holding (wpAny_truthy_bool ?_))
      refine wpAny_bind (wpAny_letGo ?_)
      cases b with
      | true =>
        rw [if_pos rfl] at q
        simp only [if_true]
        have hsz1 : g < s₁.gens.size := by
          rw [setGen_size] at hsz
          exact hsz
        refine wpAny_pure ⟨plainId_quiet F.plain_all_loop _, ih _ hg1 hl1 ⟨gs', setGen_at hsz1, ?_⟩⟩
        exact q _ ⟨rfl, allBare_setGen (allBare_setGen hb1 hb) rfl, fun _ _ e => e⟩
      | false =>
        rw [if_neg Bool.false_ne_true] at q
        obtain ⟨H, I, qf⟩ := q
        simp only [Bool.false_eq_true, if_false]
        exact wpAny_bind (wpAny_rule (wpAny_pure (hf s₁ H _ I qf ⟨rfl, allBare_setGen hb1 hb, fun _ _ e => e⟩)))
    · intro _
      obtain ⟨H, I, qt⟩ := hp
      exact wpAny_bind (wpAny_rule (wpAny_pure (ht s₁ H _ I qt ⟨rfl, allBare_setGen I.bare rfl, hk⟩)))
end Fo
namespace Fo
open PySem PySem.Spec PyProof.Rows L2 GenW
/-- all(test for target in iter): W by the turn and a measure -/
def tAllG (P : Addr) (wi : TI) (gt : TG) (te : TE) (vs : List Nat) : TE := fun σ H Q => wi σ H fun J H1 => GxR.TabG H1 P ∧ ∀ H2, GxR.Tabbed P H1 H2 → ∃ W : Nat → Nat → Hp → Prop, (∃ m, W 0 m H2) ∧ ∀ i m H, W i m H →
  (J.stop i H ∧ Q (.bl true) H) ∨ (J.go i H ∧ ∀ x H', J.yld i H x H' → gt x (wipe σ vs) H' fun σ2 H3 => wipe σ2 vs = wipe σ vs ∧ te σ2 H3 fun y H4 => ∃ b, y = .bl b ∧ if b = true then ∃ m', m' < m ∧ W (i + 1) m' H4 else Q (.bl false) H4)
section
variable {X : Cx}
set_option maxHeartbeats 4000000 in
theorem pe_allG {c P : Addr} {el tg iter : Expr} {sc : Scope} {own : List (Str × Nat)} {p pos gpos : Pos} {wi : TI} {gt : TG} {te : TE} {k : Nat} (hc : X.calm = true) (hN : X.N.Nodup) (hr : Room k X.A) (hg : Gl X "all") (hm : X.mg "all" = none) (hb : bootBuiltins "all" = some (.builtin "all"))
    (TB : LamX.TabB X.base X.mg c P) (hcode : X.env.code = .ref c) (hi : PI X tg iter wi) (ok : BlkOk X.N X.env.scope sc own) (gs : GSc sc)
    (hgt : ∀ (s : Shared) (H : Hp) (C : Addr) (cl : List (Str × Addr)) (cd : Value) (fp : List Addr) (pn : List (Addr × Obj)), PG (gCx X s H (genEnv sc cl C cd builtinsNs X.env) fp pn) tg gt)
    (he : ∀ (s : Shared) (H : Hp) (C : Addr) (cl : List (Str × Addr)) (cd : Value) (fp : List Addr) (pn : List (Addr × Obj)), PE (gCx X s H (genEnv sc cl C cd builtinsNs X.env) fp pn) el te)
    (hs : ∀ v, genFold iter X.env v = pure v := by intro _; rfl)
    (hst : starEach [.GeneratorExp el [⟨tg, iter, [], 0⟩] sc gpos] X.env = (false, eval (.GeneratorExp el [⟨tg, iter, [], 0⟩] sc gpos) X.env) :: starEach [] X.env := by rfl) :
    PE X (.Call (.Name "all" p) [.GeneratorExp el [⟨tg, iter, [], 0⟩] sc gpos] [] pos) (tAllG P wi gt te (own.map (·.2))) := by
  refine ⟨fun pins s σ H Q I hq => ?_⟩
  have fr : ∀ y ∈ sc.names, y.2 = .free → ∃ c, X.env.cells.lookup y.1 = some c := fun y hy e => by
    rcases ok.free y hy e with k | k
    · exact I.ok.has _ (.inl k)
    · exact I.ok.has _ (.inr k)
  refine wpAny_Call_Name_kw (ld_blt I hg hm hb ?_)
  refine PyProof.Rows.callWith_builtin1 ?_ hst (by rfl)
  rw [hst]
  show wpAny _ _ (spliced ((false, eval (.GeneratorExp el [⟨tg, iter, [], 0⟩] sc gpos) X.env) :: backTo pos (starEach [] X.env))) _ _ s
  refine Calls.spliced_cons ?_
  refine wpAny_GeneratorExp_make gs.co (closure_ok fr) gs.cell gs.dot ok.kind (by have := hr.dp; omega) ?_ hs
  refine thn (hi.run pins s σ H _ I hq) fun xv s1 hx => thn hx fun itv s2 h2 => ?_
  obtain ⟨it, fp, tn, J, H1, rfl, I2, T, st2, f2, ⟨ps, hP, htp⟩, q⟩ := h2
  refine ⟨I2.nolimit, ?_⟩
  have hPs : s2.heap.get? P = some { cls := .none, data := .fields ps } := I2.hok P _ hP
  have cd : PySem.W.CodeHd s2.heap c P := TB.code.keeps fun b u e => I2.bk b u e
  have szf : ∀ b ∈ fp, b < s2.heap.objs.size := fun b hb => by
    obtain ⟨o, e, _⟩ := T.obj _ _ st2 b hb
    exact Heap.lt_size e
  have nP : ∀ b ∈ fp, b ≠ P := fun b hb z => by
    have z2 := (f2 b hb).1
    rw [z, hP] at z2
    cases z2
  have cont : ∀ (code : Value) (h3 : Heap) (tk : Nat) (more : Array Value), (∀ b o, b ≠ P → s2.heap.get? b = some o → h3.get? b = some o) → s2.heap.objs.size ≤ h3.objs.size → h3.get? P = some { cls := .none, data := .fields (ps ++ more) } → TriplesOk (ps ++ more).toList →
      wpAny (model X.prog X.w) X.A (builtinsFor X.env.globals X.env.builtins) (fun bi s₄ =>
        ∀ h', h'.Ns s₄.heap.objs.size (fun y => if y = ".0" then some (Value.ref it) else none) → Heap.SameBut s₄.heap.objs.size (s₄.heap.push { cls := .type "frame", data := .dict #[] }) h' →
          wpAny (model X.prog X.w) X.A (spliced (backTo pos (starEach [] X.env))) (fun us s5 => wpAny (model X.prog X.w) X.A (call (.builtin "all") (Value.ref h'.objs.size :: us)) (EP X pins σ Q) X.xe s5) X.xe { s₄ with
            gens := s₄.gens.push (.fresh (.compStart (.GeneratorExp el [⟨tg, iter, [], 0⟩] sc gpos) 0 (.ref it) .none (genEnv sc (cloFrom X.env.cells sc.names []) s₄.heap.objs.size code bi X.env))),
            toks := s₄.toks + 1 + 1 + 1,
            heap := h'.push { cls := .type "generator", data := .fields #[.int s₄.gens.size 0, .str "<genexpr>" (s₄.toks + 1), .str (X.env.qual ++ "<genexpr>") (s₄.toks + 1 + 1)] } }) X.xe { s2 with heap := h3, toks := tk } := by
    intro code h3 tk more kp3 sz3 hP3 ht3
    obtain ⟨bm, ob, e1, e2, e3, e4, e5, e6, e7, e8⟩ := TB.bm
    have I3 : Inv X pins σ (upd H1 P (.tbl (ps ++ more))) { s2 with heap := h3, toks := tk } := GxR.inv_tab (h' := h3) (g' := s2.gens) (d' := s2.drawn) (t' := tk) I2 hP kp3 hP3 I2.bare
    have nsg : h3.Ns X.env.globals X.mg := by
      rw [I2.ok.glob]
      obtain ⟨og, es, ep, eg, r⟩ := I2.mod.glob.keeps I2.bk
      exact ⟨og, es, ep, kp3 _ og TB.gP eg, r⟩
    refine wpAny_builtinsFor (m := X.mg) nsg e1 e2 (kp3 _ _ e4 (I2.bk _ _ e5)) e6 e7 e8 ?_
    intro h' hn' hs'
    refine Calls.spliced_nil ?_
    have sz' : h'.objs.size = h3.objs.size + 1 := by rw [hs'.1, Heap.size_push]
    have kp' : ∀ b o, h3.get? b = some o → h'.get? b = some o := fun b o e => hs'.extBut b o (Nat.ne_of_lt (Heap.lt_size e)) (Heap.get?_push_of_some _ e)
    generalize hgo : ({ cls := .type "generator", data := .fields #[.int s2.gens.size 0, .str "<genexpr>" (tk + 1), .str (X.env.qual ++ "<genexpr>") (tk + 1 + 1)] } : Obj) = go
    have hget : (h'.push go).get? h'.objs.size = some go := by
      rw [← hgo]
      exact Heap.get?_push_size _ rfl
    have hgen : ∀ h : Heap, h.get? h'.objs.size = some go → h.IsGen h'.objs.size s2.gens.size := fun h e => by
      rw [← hgo] at e
      exact ⟨_, _, _, e, rfl, rfl, rfl⟩
    have hgd : ∀ v, go.data ≠ .cell v := fun v z => by
      rw [← hgo] at z
      cases z
    have tb : GxR.Tabbed P H1 (upd H1 P (.tbl (ps ++ more))) := ⟨⟨ps ++ more, upd_same, ht3⟩, fun b hb => upd_ne hb⟩
    obtain ⟨W, ⟨m0, w0⟩, turn⟩ := q _ tb
    have f3 : ∀ b ∈ fp, FpOk X pins (upd H1 P (.tbl (ps ++ more))) b ∧ b < h3.objs.size := fun b hb => by
      refine ⟨⟨?_, (f2 b hb).2⟩, Nat.lt_of_lt_of_le (szf b hb) sz3⟩
      rw [upd_ne (nP b hb)]
      exact (f2 b hb).1
    have kp5 : ∀ b o, h3.get? b = some o → (h'.push go).get? b = some o := fun b o e => Heap.get?_push_of_some _ (kp' b o e)
    have st5 : tn 0 (h'.push go) := T.keep _ _ _ st2 fun b hb o e => kp5 b o (kp3 b o (nP b hb) e)
    generalize hce : genEnv sc (cloFrom X.env.cells sc.names []) h3.objs.size code builtinsNs X.env = ce
    have hgl : s2.gens.size < (s2.gens.push (.fresh (.compStart (.GeneratorExp el [⟨tg, iter, [], 0⟩] sc gpos) 0 (.ref it) .none ce))).size := by
      rw [Array.size_push]
      exact Nat.lt_succ_self _
    have bare5 : AllBare (s2.gens.push (.fresh (.compStart (.GeneratorExp el [⟨tg, iter, [], 0⟩] sc gpos) 0 (.ref it) .none ce))) := I2.bare.push rfl
    have I6 := gen_start (h2 := h'.push go) (g2 := (({ s2 with heap := h'.push go, gens := s2.gens.push (.fresh (.compStart (.GeneratorExp el [⟨tg, iter, [], 0⟩] sc gpos) 0 (.ref it) .none ce)) } : Shared).setGen s2.gens.size .running).gens) (t2 := tk + 1 + 1 + 1) (code := code) (go := go) I3 ok gs hN hc f3 (hn'.push go) kp5 (by show h3.objs.size < h'.objs.size; omega) hget hgd (allBare_setGen bare5 rfl)
    have pg := hgt { s2 with heap := h3, toks := tk } (upd H1 P (.tbl (ps ++ more))) h3.objs.size (cloFrom X.env.cells sc.names []) code fp [(h'.objs.size, go)]
    have pe := he { s2 with heap := h3, toks := tk } (upd H1 P (.tbl (ps ++ more))) h3.objs.size (cloFrom X.env.cells sc.names []) code fp [(h'.objs.size, go)]
    have hsc : ce.scope = sc := by rw [← hce]; rfl
    change Inv (gCx X { s2 with heap := h3, toks := tk } (upd H1 P (.tbl (ps ++ more))) (genEnv sc (cloFrom X.env.cells sc.names []) h3.objs.size code builtinsNs X.env) fp [(h'.objs.size, go)]) [] _ _ _ at I6
    rw [hce] at I6 pg pe
    refine call_function_tree F.kind_all F.plain_all F.entry_all (F.args_all1 _) ?_
    unfold Builtin.«all»
    refine wpAny_bind (m := oneArg "all" _) (wpAny_pure ?_)
    refine wpAny_bind (wpAny_pyIter_gen (hgen _ hget) ?_)
    have back : ∀ {s7 s8 : Shared} {H7 : Hp}, Inv (gCx X { s2 with heap := h3, toks := tk } (upd H1 P (.tbl (ps ++ more))) ce fp [(h'.objs.size, go)]) [] (wipe σ (own.map (·.2))) H7 s7 → Aft s7 s8 → Inv X pins σ H7 s8 := fun {s7 s8 H7} I7 af => by
      obtain ⟨o1, o2, o3⟩ := af
      exact I3.call' (ch := fp) (o1.trans I7.os) (I7.base.trans (Un.kept o3)) (I7.hok.kept o3) o2 fun b hb => ⟨(f3 b hb).1.2.2.2.1, (f3 b hb).1.2.1, (f3 b hb).1.2.2.2.2.1, (f3 b hb).1.2.2.2.2.2⟩
    refine wpAny_pure ⟨plainId_quiet F.plain_all_loop _, all_loop (Y := gCx X { s2 with heap := h3, toks := tk } (upd H1 P (.tbl (ps ++ more))) ce fp [(h'.objs.size, go)]) (A := X.A) (a := h'.objs.size) (g := s2.gens.size) (w := wipe σ (own.map (·.2))) (Qt := fun H => Q (.bl true) H) (Qf := fun H => Q (.bl false) H) hr.hd (by have := hr.dp; omega) (fun s7 H7 s8 I7 q7 af => ?_) (fun s7 H7 s8 I7 q7 af => ?_) (m0 + 1) _ (hgen _ hget) (I3.nolimit.keeps kp5) ⟨_, Array.getElem?_push_size .., rfl, ?_⟩⟩
    · exact ⟨.bl true, H7, back I7 af, rfl, q7⟩
    · exact ⟨.bl false, H7, back I7 af, rfl, q7⟩
    · refine gen_begin ?_ (fun B Q' E' h => T.self B 0 _ Q' E' st5 h)
      have lp := gen_loop (A := X.A.in1.in1) (Y := gCx X { s2 with heap := h3, toks := tk } (upd H1 P (.tbl (ps ++ more))) ce fp [(h'.objs.size, go)]) (iter := iter) (sc := sc) (pos := gpos) (σ0 := σ) (vs := own.map (·.2)) (Qt := fun H => Q (.bl true) H) (Qf := fun H => Q (.bl false) H) (g := s2.gens.size) rfl hc rfl rfl rfl hgen (fun z => by
        have h9 : (h'.objs.size : Nat) < h3.objs.size := (f3 _ z).2
        omega) (by show ce.scope.isCoroutine = false; rw [hsc]; exact gs.co) T pg pe turn (m0 + 1) 0 m0 (upd H1 P (.tbl (ps ++ more)))
      exact lp _ _ (Nat.lt_succ_self _) w0 I6 st5 fun b hb => (f3 b hb).1.1
  cases hf : codeAmong gpos ps.toList with
  | none =>
    refine wpAny_genexprCodeX hcode (cd.code hPs htp) (cd.tab hPs) hf fun c' h' tk hx hge hlt hco' _ htab' _ => ?_
    obtain ⟨o1, vs, f1, tf, fl, tg', inF, tx, tt, op, _, _, _, _, _, _, _, _, _, htr, _⟩ := hco'
    exact cont _ h' tk _ hx (Nat.le_trans hge (Nat.le_of_lt hlt)) htab'.2 htr
  | some cv =>
    refine wpAny_genexprCode_hit hcode (cd.code hPs htp) hf ?_
    have e : ps ++ #[] = ps := by simp
    exact cont cv s2.heap s2.toks #[] (fun b o _ e => e) (Nat.le_refl _) (by rw [e]; exact hPs) (by rw [e]; exact htp)
end
end Fo
namespace Fo
open PySem PySem.Spec PyProof.Rows L2
/-! what stays where tables of code objects may grow -/
def KeepT (H H' : Hp) : Prop := (∀ b o, H b = some o → (∀ q, o ≠ .tbl q) → H' b = some o) ∧ ∀ b q, H b = some (.tbl q) → ∃ q', H' b = some (.tbl q') ∧ (TriplesOk q.toList → TriplesOk q'.toList)
theorem KeepT.refl (H : Hp) : KeepT H H := ⟨fun _ _ e _ => e, fun _ q e => ⟨q, e, id⟩⟩
theorem KeepT.of_same {H H' : Hp} (h : Same H H') : KeepT H H' := ⟨fun b o e _ => h b o e, fun b q e => ⟨q, h b _ e, id⟩⟩
theorem KeepT.trans {H H1 H2 : Hp} (a : KeepT H H1) (b : KeepT H1 H2) : KeepT H H2 := by
  refine ⟨fun c o e f => b.1 c o (a.1 c o e f) f, fun c q e => ?_⟩
  obtain ⟨q1, e1, t1⟩ := a.2 c q e
  obtain ⟨q2, e2, t2⟩ := b.2 c q1 e1
  exact ⟨q2, e2, fun z => t2 (t1 z)⟩
theorem KeepT.free {H H' : Hp} (a : KeepT H H') {p : Addr} (np : H' p = none) : H p = none := by
  cases e : H p with
  | none => rfl
  | some o =>
    cases o with
    | tbl q =>
      obtain ⟨q', e', _⟩ := a.2 p q e
      rw [np] at e'
      cases e'
    | _ =>
      have z := a.1 p _ e (fun q z => by cases z)
      rw [np] at z
      cases z
theorem KeepT.lst {H H' : Hp} (a : KeepT H H') {p : Addr} {xs : List V} (e : H p = some (.lst xs)) : H' p = some (.lst xs) := a.1 p _ e (fun q z => by cases z)
theorem KeepT.seq {K : PySem.W.Frag} {H H' : Hp} (a : KeepT H H') {p : Addr} {xs : List V} (e : SqL K H p xs) : SqL K H' p xs := by
  rcases e with (e | ⟨o, e⟩) | e
  · exact .inl (.inl (a.1 p _ e (fun q z => by cases z)))
  · exact .inl (.inr ⟨o, a.1 p _ e (fun q z => by cases z)⟩)
  · exact .inr e
theorem KeepT.tab {H H' : Hp} (a : KeepT H H') {P : Addr} (t : GxR.TabG H P) : GxR.TabG H' P := by
  obtain ⟨q, e, z⟩ := t
  obtain ⟨q', e', t'⟩ := a.2 P q e
  exact ⟨q', e', t' z⟩
theorem KeepT.of_tabbed {P : Addr} {H H' : Hp} (t : GxR.TabG H P) (h : GxR.Tabbed P H H') : KeepT H H' := by
  obtain ⟨q0, e0, z0⟩ := t
  obtain ⟨⟨q1, e1, z1⟩, k⟩ := h
  refine ⟨fun b o e f => ?_, fun b q e => ?_⟩
  · rw [k b (fun z => by rw [z, e0] at e; exact f q0 (Option.some.inj e).symm)]
    exact e
  · by_cases hb : b = P
    · rw [hb] at e ⊢
      exact ⟨q1, e1, fun _ => z1⟩
    · exact ⟨q, by rw [k b hb]; exact e, id⟩
/-- the same but for the object at d -/
def KeepTD (d : Addr) (H H' : Hp) : Prop := (∀ b o, H b = some o → b ≠ d → (∀ q, o ≠ .tbl q) → H' b = some o) ∧ ∀ b q, H b = some (.tbl q) → b ≠ d → ∃ q', H' b = some (.tbl q') ∧ (TriplesOk q.toList → TriplesOk q'.toList)
theorem LL.keepT {H H' : Hp} {as : List Addr} {rs : List (List Int)} (h : LL H as rs) (s : KeepT H H') : LL H' as rs := by
  induction as generalizing rs with
  | nil => cases rs with
    | nil => trivial
    | cons _ _ => exact h.elim
  | cons a as ih => cases rs with
    | nil => exact h.elim
    | cons r rs => exact ⟨s.lst h.1, ih h.2⟩
/-- a def with the code object that it runs by -/
structure DfC (K : PySem.W.Frag) (mg : Str → Option Value) (x : Str) (st : Stmt) (ps : List Str) (f : Addr) (fd : FuncData) (c : Addr) : Prop where
  F : Fun K x x st f fd
  b : Binds K fd ps []
  g : mg x = some (.ref f)
  c : fd.code = .ref c
theorem fun_okC {P : Program} {w : World} {K : PySem.W.Frag} {mg : Str → Option Value} {base : Heap} {x qual : Str} {st : Stmt} {f c : Addr} {fd : FuncData} {N ps : List Str} {k : Nat} {sp : Sp} (F : Fun K x qual st f fd) (hc : fd.code = .ref c) (S : FnScope N ps (defScope st))
    (len : ∀ vs H Q E, sp vs H Q E → vs.length = ps.length)
    (body : ∀ (A : Around) (outer : List Env) (s : Shared) (H : Hp) (vs : List V) (Q : VK) (E : XK), Room k (A.deeper (envOfC qual (defScope st) s.heap.objs.size f (.ref c))) → sp vs H Q E →
      ∃ t, PSs (cxOf CX0 P w K mg base N qual (defScope st) f (.ref c) A outer s H E).nox (defBody st) t ∧ t { nx := fun _ H' => Q .non H', rt := Q } (start N vs) H) : FnOk P w K mg base CX0 (k + 1) f fd ps sp := by
  obtain ⟨oc, od, kV, doc, pm, an, cdv, ct, osl, rfl, lk, hcd⟩ := F.ex
  obtain rfl : cdv = .ref c := hc
  refine fn_of lk hcd S len fun A outer s H vs Q E hr hsp => ?_
  obtain ⟨t, h1, h2⟩ := body A outer s H vs Q E hr hsp
  exact ⟨t, h1.nox, h2⟩
/-- over a list that stands still -/
theorem all_list {K : PySem.W.Frag} {a : Addr} {xs : List V} {gt : TG} {te : TE} {vs : List Nat} {σ : L2.St} {H : Hp} {Q : VK} (Pv : Nat → Hp → Prop) (h0 : Pv 0 H) (hl : ∀ i H, i ≤ xs.length → Pv i H → SqL K H a xs)
    (hs : ∀ i x H, xs[i]? = some x → Pv i H → gt x (wipe σ vs) H fun σ2 H3 => wipe σ2 vs = wipe σ vs ∧ te σ2 H3 fun y H4 => ∃ b, y = .bl b ∧ if b = true then Pv (i + 1) H4 else Q (.bl false) H4) (hd : ∀ H, Pv xs.length H → Q (.bl true) H)
    (mono : ∀ (x : V) (H : Hp) (p q : V → Hp → Prop), (∀ y H, p y H → q y H) → (gt x (wipe σ vs) H fun σ2 H3 => wipe σ2 vs = wipe σ vs ∧ te σ2 H3 p) → (gt x (wipe σ vs) H fun σ2 H3 => wipe σ2 vs = wipe σ vs ∧ te σ2 H3 q)) :
    ∃ W : Nat → Nat → Hp → Prop, (∃ m, W 0 m H) ∧ ∀ i m H, W i m H →
      ((Itl K a).stop i H ∧ Q (.bl true) H) ∨ ((Itl K a).go i H ∧ ∀ x H', (Itl K a).yld i H x H' → gt x (wipe σ vs) H' fun σ2 H3 => wipe σ2 vs = wipe σ vs ∧ te σ2 H3 fun y H4 => ∃ b, y = .bl b ∧ if b = true then ∃ m', m' < m ∧ W (i + 1) m' H4 else Q (.bl false) H4) := by
  refine ⟨fun j m H => m = xs.length - j ∧ j ≤ xs.length ∧ Pv j H, ⟨xs.length, by simp, Nat.zero_le _, h0⟩, ?_⟩
  rintro j m H ⟨rfl, hi, p⟩
  have q := hl j H hi p
  by_cases hlt : j < xs.length
  · refine .inr ⟨⟨xs, xs[j], q, by simp [hlt]⟩, fun x H' y => ?_⟩
    obtain ⟨e, y⟩ := y
    subst e
    refine mono x _ _ _ (fun z H4 hz => ?_) (hs j x _ (y _ q) p)
    obtain ⟨b, eb, r⟩ := hz
    refine ⟨b, eb, ?_⟩
    cases b with
    | true => exact ⟨xs.length - (j + 1), by omega, rfl, hlt, r⟩
    | false => exact r
  · have e : j = xs.length := by omega
    subst e
    exact .inl ⟨⟨xs, q, Nat.le_refl _⟩, hd H p⟩
end Fo
namespace Fo
open PySem PySem.Spec PyProof.Rows L2
def farAll (w : Str) (d : Int) (xs : List Int) (rs : List (List Int)) : Bool := rs.all fun o => decide (d ≤ farW w xs o)
theorem farAll_nil {w : Str} {d : Int} {xs : List Int} : farAll w d xs [] = true := rfl
theorem farAll_more {w : Str} {d : Int} {xs : List Int} {rs : List (List Int)} {i : Nat} {r : List Int} (h : rs[i]? = some r) : farAll w d xs (rs.take (i + 1)) = (farAll w d xs (rs.take i) && decide (d ≤ farW w xs r)) := by
  unfold farAll
  rw [List.take_add_one, h, List.all_append]
  show (_ && (decide (d ≤ farW w xs r) && true)) = _
  rw [Bool.and_true]
theorem farAll_false {w : Str} {d : Int} {xs : List Int} {rs : List (List Int)} {i : Nat} {r : List Int} (h : rs[i]? = some r) (hf : decide (d ≤ farW w xs r) = false) : farAll w d xs rs = false := by
  unfold farAll
  rw [List.all_eq_false]
  exact ⟨r, List.mem_of_getElem? h, by rw [hf]; decide⟩
/-- a list of orders, told whether all of them are so far -/
def spIsFar (Pt : Addr) : Sp := fun vs H Q _ => ∃ (w : Str) (d : Int) (a l : Addr) (n : Nat) (xs : List Int) (bs : List Addr) (rs : List (List Int)), vs = [.str w, .int d, .ref a, .ref l] ∧ IsWay w ∧ H a = some (.lst (xs.map V.int)) ∧ IsOrd n xs ∧ 1 ≤ n ∧ n ≤ 12 ∧
  H l = some (.lst (bs.map V.ref)) ∧ LL H bs rs ∧ (∀ r ∈ rs, IsOrd n r) ∧ GxR.TabG H Pt ∧ ∀ H', KeepT H H' → Q (.bl (farAll w d xs rs)) H'
section
variable {P : Program} {w : World} {K : PySem.W.Frag} {mg : Str → Option Value} {base : Heap}
theorem scIsFar : FnScope ["way", "d", "order", "others", "other"] ["way", "d", "order", "others"] (defScope s_is_far) := ⟨rfl, rfl, rfl, by decide +kernel, rfl, by decide +kernel, by decide +kernel⟩
set_option maxHeartbeats 2000000 in
theorem ok_isFar {f f1 c Pt : Addr} {fd d1 : FuncData} {k : Nat} (T : DfC K mg "is_far" s_is_far ["way", "d", "order", "others"] f fd c) (TB : LamX.TabB base mg c Pt) (T_known_far : Df K mg "known_far" s_known_far ["way", "one", "other"] f1 d1) (G_known_far : FnOk P w K mg base CX0 k f1 d1 ["way", "one", "other"] spFar) (B : Bi mg) :
    FnOk P w K mg base CX0 (k + 2) f fd ["way", "d", "order", "others"] (spIsFar Pt) := by
  refine fun_okC T.F T.c scIsFar (fun vs H Q E h => ?_) (fun A outer s H vs Q E hr h => ?_)
  · obtain ⟨z, d, a, l, n, xs, bs, rs, rfl, _⟩ := h
    rfl
  · obtain ⟨z, d, a, l, n, xs, bs, rs, rfl, hz, ha, ox, hn1, hn2, hl, hL, ho, ht, q⟩ := h
    refine ⟨_, 
      (pss_one (ps_ret (pe_allG (own := [("other", 4)]) (gt := (gName 4)) (te := (tOp (rI0 fun i j => .bl (decide (j ≤ i))) (tCall spFar [] E0 (tCons (tVar 0) (tCons (tVar 2) (tCons (tVar 4) tNil)))) (tVar 1))) rfl scIsFar.nd hr (by rfl) B.all (by decide +kernel) TB rfl (pi_list (pv 3)) (blkOk_by (N := ["way", "d", "order", "others", "other"]) (sc := defScope s_is_far) (by decide +kernel)) (gsc_by (by decide +kernel)) (fun _ _ _ _ _ _ _ => (pg_name (i := 4) scIsFar.nd rfl (.inl rfl))) (fun _ _ _ _ _ _ _ => (pe_cmpR op_ge (pe_call G_known_far (room_gen hr) (by rfl) T_known_far.g T_known_far.F.kp T_known_far.b .nil pass0 (pa_cons (pv 0) (pa_cons (pv 2) (pa_cons (pv 4) pa_nil)))) (pv 1) (nomark _)))))), ?_⟩
    refine ⟨_, rfl, l, rfl, ⟨_, SqL.of hl⟩, ht, fun H2 tb => ?_⟩
    have k2 := KeepT.of_tabbed ht tb
    refine all_list (K := K) (a := l) (xs := bs.map V.ref) (fun i H3 => KeepT H H3 ∧ farAll z d xs (rs.take i) = true) ⟨k2, rfl⟩ (fun i H3 _ hP => SqL.of (hP.1.lst hl)) (fun i x H3 hx hP => ?_) (fun H3 hP => ?_) (fun x H3 p p' hpq h => ?_)
    · obtain ⟨k3, hall⟩ := hP
      obtain ⟨r, er, rfl⟩ := ref_at_inv hx
      obtain ⟨row, erow, hrow⟩ := hL.get er
      refine ⟨rfl, _, rfl, _, rfl, _, rfl, z, a, r, n, xs, row, rfl, hz, k3.lst ha, k3.lst hrow, ox, ho _ (List.mem_of_getElem? erow), hn1, hn2, fun H4 s4 => ?_⟩
      have k4 := k3.trans (KeepT.of_same s4)
      refine ⟨_, rfl, _, _, rfl, rfl, _, rfl, ?_⟩
      cases hb : decide (d ≤ farW z xs row) with
      | true => exact ⟨k4, by rw [farAll_more erow, hall, hb]; rfl⟩
      | false =>
        have z2 := q H4 k4
        rw [farAll_false erow hb] at z2
        exact z2
    · obtain ⟨k3, hall⟩ := hP
      rw [List.length_map, hL.len, List.take_length] at hall
      have z2 := q H3 k3
      rw [hall] at z2
      exact z2
    · obtain ⟨e1, i1, e2, i3, e3, i4, e4, zz, a', b', n', xs', ys', e5, r1, r2, r3, r4, r5, r6, r7, r8⟩ := h
      exact ⟨e1, i1, e2, i3, e3, i4, e4, zz, a', b', n', xs', ys', e5, r1, r2, r3, r4, r5, r6, r7, fun H4 s4 => by
        obtain ⟨j, ej, u1, u2, e6, e7, e8⟩ := r8 H4 s4
        exact ⟨j, ej, u1, u2, e6, e7, hpq _ _ e8⟩⟩
end
end Fo
namespace Fo
open PySem PySem.Spec PyProof.Rows L2
/-! what a Lister could take besides -/
def freeL (w : Str) (n : Nat) (d : Int) (rs : List (List Int)) : List (List Int) := (allK n n).filter fun o => farAll w d o rs
theorem KeepT.rp {H H' : Hp} {t : Addr} {ps : List (Addr × List Int)} (k : KeepT H H') (h : RP H t ps) : RP H' t ps := ⟨k.lst h.1, fun p hp => k.lst (h.2 p hp)⟩
theorem LsAt.keepT {C : Addr} {H H' : Hp} {a e : Addr} {X : List Addr} {w : Str} {n : Nat} {d : Int} {rs : List (List Int)} {ss : List (List (List Int))} (h : LsAt C H a e X w n d rs ss) (k : KeepT H H') : LsAt C H' a e X w n d rs ss := by
  obtain ⟨⟨dx, t, ps, st, e1, e2, e3, e4, e5, e6, e7⟩, tr, r⟩ := h
  refine ⟨⟨dx, t, ps, st, k.1 _ _ e1 (fun q z => by cases z), k.lst e2, k.rp e3, e4, fun q hq => k.rp (e5 q hq), e6, e7⟩, fun x hx => ?_, by assumption, by assumption, by assumption, by assumption, by assumption, by assumption⟩
  obtain ⟨o, ho⟩ := tr x hx
  cases hn : H' x with
  | some o' => exact ⟨o', rfl⟩
  | none => rw [k.free hn] at ho; cases ho
theorem rws_LL {H : Hp} : ∀ {ps : List (Addr × List Int)}, (∀ p ∈ ps, H p.1 = some (.lst (p.2.map V.int))) → LL H (ps.map (·.1)) (rws ps)
  | [], _ => trivial
  | p :: ps, h => ⟨h p List.mem_cons_self, rws_LL fun q hq => h q (List.mem_cons_of_mem _ hq)⟩
theorem RP.two {H : Hp} {t : Addr} {ps : List (Addr × List Int)} (h : RP H t ps) : H t = some (.lst ((ps.map (·.1)).map V.ref)) ∧ LL H (ps.map (·.1)) (rws ps) := ⟨by rw [List.map_map]; exact h.1, rws_LL h.2⟩
def spMoreL (C Pt : Addr) : Sp := fun vs H Q _ => ∃ (a e : Addr) (X : List Addr) (w : Str) (n : Nat) (d : Int) (rs : List (List Int)) (ss : List (List (List Int))), vs = [.ref a] ∧ LsAt C H a e X w n d rs ss ∧ n ≤ 6 ∧ GxR.TabG H Pt ∧ ∀ H', KeepT H H' → Q (.int ((freeL w n d rs).length : Nat)) H'
def spFirstL (C Pt : Addr) : Sp := fun vs H Q _ => ∃ (a e : Addr) (X : List Addr) (w : Str) (n : Nat) (d : Int) (rs : List (List Int)) (ss : List (List (List Int))), vs = [.ref a] ∧ LsAt C H a e X w n d rs ss ∧ n ≤ 6 ∧ GxR.TabG H Pt ∧
  (freeL w n d rs = [] → ∀ H', KeepT H H' → Q .non H') ∧ ∀ (x : List Int) (xs : List (List Int)) (l : Addr) (H' : Hp), freeL w n d rs = x :: xs → H l = none → H' l = some (.lst (x.map V.int)) → KeepT H H' → Q (.ref l) H'
section
variable {P : Program} {w : World} {K : PySem.W.Frag} {mg : Str → Option Value} {base : Heap}
theorem scMoreL : FnScope ["self", "order"] ["self"] (defScope s_Lister_how_many_more) := ⟨rfl, rfl, rfl, by decide +kernel, rfl, by decide +kernel, by decide +kernel⟩
set_option maxHeartbeats 2000000 in
theorem ok_moreL {C_Lister fI f f1 f2 f3 Pt : Addr} {fd d1 d2 d3 : FuncData} {k c0 : Nat} {tk : Tok} (T : Dm K C_Lister "how_many_more" "Lister.how_many_more" s_Lister_how_many_more ["self"] f fd) (T_Lister : TxL K mg C_Lister fI) (T_check_few : Df K mg "check_few" s_check_few ["n", "most"] f1 d1) (G_check_few : FnOk P w K mg base CX0 k f1 d1 ["n", "most"] spFew) (T_all_orders : Df K mg "all_orders" s_all_orders ["n"] f2 d2) (G_all_orders : FnOk P w K mg base CX0 k f2 d2 ["n"] spAllO)
    (T_is_far : DfC K mg "is_far" s_is_far ["way", "d", "order", "others"] f3 d3 c0) (G_is_far : FnOk P w K mg base CX0 k f3 d3 ["way", "d", "order", "others"] (spIsFar Pt)) (B : Bi mg) (mL : mg "MOST_LISTED" = some (.int 6 tk)) : FnOk P w K mg base CX0 (k + 1) f fd ["self"] (spMoreL C_Lister Pt) := by
  refine T.F.ok scMoreL (fun vs H Q E h => ?_) (fun cdv A outer s H vs Q E hr h => ?_)
  · obtain ⟨a, e, X, w, n, d, rs, ss, rfl, _⟩ := h
    rfl
  · obtain ⟨a, e, X, w, n, d, rs, ss, rfl, L, hn6, ht, q⟩ := h
    refine ⟨_, 
      (pss_cons (ps_expr (pe_call G_check_few hr (by rfl) T_check_few.g T_check_few.F.kp T_check_few.b .nil pass0 (pa_cons (pe_fld (pv 0) rfl) (pa_cons (pe_glob (v := .int 6) (by rfl) mL ⟨_, rfl⟩) pa_nil))))
      (pss_one (ps_ret (pe_callB call_len_seq (by rfl) B.len PySem.boot_len (pa_cons (pe_lc (own := [("order", 1)]) (g := (gName 1)) (tt := (tB (tCall (spIsFar Pt) [] E0 (tCons (tFld K (tVar 0) "way") (tCons (tFld K (tVar 0) "d") (tCons (tVar 1) (tCons (tFld K (tVar 0) "taken") tNil))))))) (te := (tVar 1)) rfl scMoreL.nd (pi_list (pe_call G_all_orders hr (by rfl) T_all_orders.g T_all_orders.F.kp T_all_orders.b .nil pass0 (pa_cons (pe_fld (pv 0) rfl) pa_nil))) (blkOk_by (N := ["self", "order"]) (sc := defScope s_Lister_how_many_more) (by decide +kernel)) (fun _ _ _ _ _ => (pg_name (i := 1) scMoreL.nd rfl (.inl rfl))) (fun _ _ _ _ _ => (pts_one (pt_val (pe_call G_is_far hr (by rfl) T_is_far.g T_is_far.F.kp T_is_far.b .nil pass0 (pa_cons (pe_fld (pv 0) rfl) (pa_cons (pe_fld (pv 0) rfl) (pa_cons (pv 1) (pa_cons (pe_fld (pv 0) rfl) pa_nil)))))))) (fun _ _ _ _ _ => (pv 1))) pa_nil))))), ?_⟩
    obtain ⟨dx, t, ps, st, ha, he, htk, ert, _⟩ := L.ex
    refine ⟨_, rfl, a, _, dx, _, _, rfl, ha, T_Lister.cl, T_Lister.nN, fl_n, (n : Int), 6, rfl, by omega, ?_⟩
    refine ⟨_, rfl, a, _, dx, _, _, rfl, ha, T_Lister.cl, T_Lister.nN, fl_n, n, rfl, L.n1, hn6, fun r as H2 nr hr2 hLL hfr hnd s2 => ?_⟩
    refine ⟨r, rfl, ⟨_, SqL.of hr2⟩, fun D nD => ?_⟩
    have hlen := hLL.len
    have hal := allK_len (Nat.le_trans hn6 (by decide)) n (Nat.le_refl _)
    have L2 := L.same s2
    have ht2 := (KeepT.of_same s2).tab ht
    have hp6 := pow6 hn6
    refine lc_list (K := K) (a := r) (xs := as.map V.ref) (fun i H3 => ∃ ys : List V, H3 D = some (.lst ys) ∧ ys.length = (((allK n n).take i).filter fun o => farAll w d o rs).length ∧ KeepT H2 H3) ⟨[], upd_same, rfl, KeepT.of_same (same_new nD)⟩ (fun i H3 _ hP => by obtain ⟨_, _, _, k3⟩ := hP; exact SqL.of (k3.lst hr2)) (fun i x H3 hx hP => ?_) (fun H3 hP => ?_)
    · obtain ⟨ys, hD3, el, k3⟩ := hP
      obtain ⟨c, ec, rfl⟩ := ref_at_inv hx
      obtain ⟨row, erow, hrow⟩ := hLL.get ec
      have L3 := L2.keepT k3
      obtain ⟨dx3, t3, ps3, st3, ha3, he3, ht3, ert3, _⟩ := L3.ex
      refine ⟨rfl, _, rfl, a, _, dx3, _, _, rfl, ha3, T_Lister.cl, T_Lister.nW, fl_w, ?_⟩
      refine ⟨_, rfl, a, _, dx3, _, _, rfl, ha3, T_Lister.cl, T_Lister.nD, fl_d, _, rfl, ?_⟩
      refine ⟨_, rfl, a, _, dx3, _, _, rfl, ha3, T_Lister.cl, T_Lister.nT, fl_t, ?_⟩
      have hn8 := L.n2
      refine ⟨w, d, c, t3, n, row, ps3.map (·.1), rs, rfl, L.wy, k3.lst hrow, all_ord (List.mem_of_getElem? erow), L.n1, by omega, ht3.two.1, by rw [← ert3]; exact ht3.two.2, L.ord, k3.tab ht2, fun H4 k4 => ?_⟩
      have k34 := k3.trans k4
      refine ⟨_, rfl, ?_⟩
      cases hb : farAll w d row rs with
      | true =>
        refine iteT ⟨_, rfl, _, k4.lst hD3, ?_, _, upd_same, ?_, ?_⟩
        · have h1 := List.length_filter_le (fun o => farAll w d o rs) ((allK n n).take i)
          rw [List.length_take] at h1
          exact line_lt (by omega)
        · rw [filter_p _ erow, if_pos hb, List.length_append, List.length_append, el]
          rfl
        · exact ⟨fun b o e f => by rw [upd_ne (ne_of_none e nD)]; exact k34.1 b o e f, fun b qq e => by rw [upd_ne (ne_of_none e nD)]; exact k34.2 b qq e⟩
      | false =>
        refine iteF ⟨ys, k4.lst hD3, ?_, k34⟩
        rw [filter_p _ erow, if_neg (by rw [hb]; decide), List.append_nil]
        exact el
    · obtain ⟨ys, hD3, el, k3⟩ := hP
      rw [List.length_map, hlen, List.take_length] at el
      refine ⟨D, _, rfl, .inl (SqL.of hD3), ?_⟩
      rw [el]
      exact q H3 ((KeepT.of_same s2).trans k3)
theorem scFirstL : FnScope ["self", "order"] ["self"] (defScope s_Lister_first_more) := ⟨rfl, rfl, rfl, by decide +kernel, rfl, by decide +kernel, by decide +kernel⟩
set_option maxHeartbeats 2000000 in
theorem ok_firstL {C_Lister fI f f1 f2 f3 Pt : Addr} {fd d1 d2 d3 : FuncData} {k c0 : Nat} {tk : Tok} (T : Dm K C_Lister "first_more" "Lister.first_more" s_Lister_first_more ["self"] f fd) (T_Lister : TxL K mg C_Lister fI) (T_check_few : Df K mg "check_few" s_check_few ["n", "most"] f1 d1) (G_check_few : FnOk P w K mg base CX0 k f1 d1 ["n", "most"] spFew) (T_all_orders : Df K mg "all_orders" s_all_orders ["n"] f2 d2) (G_all_orders : FnOk P w K mg base CX0 k f2 d2 ["n"] spAllO)
    (T_is_far : DfC K mg "is_far" s_is_far ["way", "d", "order", "others"] f3 d3 c0) (G_is_far : FnOk P w K mg base CX0 k f3 d3 ["way", "d", "order", "others"] (spIsFar Pt)) (B : Bi mg) (mL : mg "MOST_LISTED" = some (.int 6 tk)) : FnOk P w K mg base CX0 (k + 1) f fd ["self"] (spFirstL C_Lister Pt) := by
  refine T.F.ok scFirstL (fun vs H Q E h => ?_) (fun cdv A outer s H vs Q E hr h => ?_)
  · obtain ⟨a, e, X, w, n, d, rs, ss, rfl, _⟩ := h
    rfl
  · obtain ⟨a, e, X, w, n, d, rs, ss, rfl, L, hn6, ht, q1, q2⟩ := h
    refine ⟨_, 
      (pss_cons (ps_expr (pe_call G_check_few hr (by rfl) T_check_few.g T_check_few.F.kp T_check_few.b .nil pass0 (pa_cons (pe_fld (pv 0) rfl) (pa_cons (pe_glob (v := .int 6) (by rfl) mL ⟨_, rfl⟩) pa_nil))))
      (pss_cons (ps_for PassesOwn.never rfl (pi_list (pe_call G_all_orders hr (by rfl) T_all_orders.g T_all_orders.F.kp T_all_orders.b .nil pass0 (pa_cons (pe_fld (pv 0) rfl) pa_nil))) (pg_name (i := 1) scFirstL.nd rfl (.inl rfl))
        (pss_one (ps_if (pt_val (pe_call G_is_far hr (by rfl) T_is_far.g T_is_far.F.kp T_is_far.b .nil pass0 (pa_cons (pe_fld (pv 0) rfl) (pa_cons (pe_fld (pv 0) rfl) (pa_cons (pv 1) (pa_cons (pe_fld (pv 0) rfl) pa_nil))))))
          (pss_one (ps_ret (pv 1)))
          pss_nil)))
      (pss_one (ps_ret pe_non)))), ?_⟩
    obtain ⟨dx, t, ps, st, ha, he, htk, ert, _⟩ := L.ex
    refine ⟨_, rfl, a, _, dx, _, _, rfl, ha, T_Lister.cl, T_Lister.nN, fl_n, (n : Int), 6, rfl, by omega, ?_⟩
    refine ⟨_, rfl, a, _, dx, _, _, rfl, ha, T_Lister.cl, T_Lister.nN, fl_n, n, rfl, L.n1, hn6, fun r as H2 nr hr2 hLL hfr hnd s2 => ?_⟩
    have hlen := hLL.len
    have L2 := L.same s2
    have ht2 := (KeepT.of_same s2).tab ht
    refine ⟨r, rfl, ⟨_, SqL.of hr2⟩, ?_⟩
    refine for_list (xs := as.map V.ref) (fun i σ H3 => ∃ (y1 : Option V), σ = [some (.ref a), y1] ∧ (((allK n n).take i).filter fun o => farAll w d o rs) = [] ∧ KeepT H2 H3) ⟨_, rfl, rfl, KeepT.refl _⟩ (fun i σ H3 _ hP => by obtain ⟨_, _, _, k3⟩ := hP; exact SqL.of (k3.lst hr2)) (fun i x σ H3 hx hP => ?_) (fun σ H3 hP => ?_)
    · obtain ⟨y1, rfl, el, k3⟩ := hP
      obtain ⟨c, ec, rfl⟩ := ref_at_inv hx
      obtain ⟨row, erow, hrow⟩ := hLL.get ec
      have hca : c ∈ as := List.mem_of_getElem? ec
      have L3 := L2.keepT k3
      obtain ⟨dx3, t3, ps3, st3, ha3, he3, ht3, ert3, _⟩ := L3.ex
      refine ⟨_, rfl, a, _, dx3, _, _, rfl, ha3, T_Lister.cl, T_Lister.nW, fl_w, ?_⟩
      refine ⟨_, rfl, a, _, dx3, _, _, rfl, ha3, T_Lister.cl, T_Lister.nD, fl_d, _, rfl, ?_⟩
      refine ⟨_, rfl, a, _, dx3, _, _, rfl, ha3, T_Lister.cl, T_Lister.nT, fl_t, ?_⟩
      have hn8 := L.n2
      refine ⟨w, d, c, t3, n, row, ps3.map (·.1), rs, rfl, L.wy, k3.lst hrow, all_ord (List.mem_of_getElem? erow), L.n1, by omega, ht3.two.1, by rw [← ert3]; exact ht3.two.2, L.ord, k3.tab ht2, fun H4 k4 => ?_⟩
      have k34 := k3.trans k4
      refine ⟨_, rfl, ?_⟩
      cases hb : farAll w d row rs with
      | true =>
        refine iteT ⟨_, rfl, ?_⟩
        obtain ⟨zs, ez⟩ : ∃ zs, freeL w n d rs = row :: zs := by
          refine ⟨((allK n n).drop (i + 1)).filter fun o => farAll w d o rs, ?_⟩
          unfold freeL
          have e1 := filter_p (fun o => farAll w d o rs) erow
          rw [if_pos hb, el] at e1
          rw [show (allK n n).filter (fun o => farAll w d o rs) = ((allK n n).take (i + 1) ++ (allK n n).drop (i + 1)).filter fun o => farAll w d o rs by rw [List.take_append_drop], List.filter_append, e1]
          rfl
        exact q2 row zs c H4 ez (hfr c hca).1 (k34.lst hrow) ((KeepT.of_same s2).trans k34)
      | false =>
        refine iteF ⟨_, rfl, ?_, k34⟩
        rw [filter_p _ erow, if_neg (by rw [hb]; decide), List.append_nil]
        exact el
    · obtain ⟨y1, rfl, el, k3⟩ := hP
      rw [List.length_map, hlen, List.take_length] at el
      exact q1 el H3 ((KeepT.of_same s2).trans k3)
end
end Fo
namespace Fo
open PySem PySem.Spec PyProof.Rows L2
/-! what is no order is refused -/
def lenD : PyData → Nat
  | .list ds => ds.length
  | _ => 0
theorem good_at {H : Hp} {v : V} {d : PyData} (h : Dq H v d) (g : GoodD d) : ∃ (a : Addr) (ns : List Int), v = .ref a ∧ H a = some (.lst (ns.map V.int)) ∧ IsOrd ns.length ns ∧ 1 ≤ ns.length ∧ ns.length ≤ 12 ∧ lenD d = ns.length := by
  obtain ⟨ns, rfl, h1, h2, h3⟩ := g
  cases h with
  | @lst a xs _ e al =>
    have := dq_intsV al
    subst this
    exact ⟨a, ns, rfl, e, h1, h2, h3, List.length_map _⟩
def spChk (cO : Addr) : Sp := fun vs H Q E => ∃ (v : V) (d : PyData), vs = [v] ∧ Dq H v d ∧ (GoodD d → ∀ H', Same H H' → Q .non H') ∧ (¬ GoodD d → ∀ H', Same H H' → E (.ref cO) none H')
section
variable {P : Program} {w : World} {K : PySem.W.Frag} {mg : Str → Option Value} {base : Heap}
theorem scChk : FnScope ["thing"] ["thing"] (defScope s_check_order) := ⟨rfl, rfl, rfl, by decide +kernel, rfl, by decide +kernel, by decide +kernel⟩
theorem ok_chk {f f1 cO : Addr} {fd d1 : FuncData} {k : Nat} (T : Df K mg "check_order" s_check_order ["thing"] f fd) (T_is_order : Df K mg "is_order" s_is_order ["thing"] f1 d1) (G_is_order : FnOk P w K mg base CX0 k f1 d1 ["thing"] spIsOrdD) (X_NoOrder : ExK K mg "NoOrder" cO) : FnOk P w K mg base (L2.CX P w) (k + 1) f fd ["thing"] (spChk cO) := by
  refine T.F.okX scChk (fun vs H Q E h => ?_) (fun cdv A outer s H vs Q E hr h => ?_)
  · obtain ⟨v, d, rfl, _⟩ := h
    rfl
  · obtain ⟨v, d, rfl, hd, q1, q2⟩ := h
    refine ⟨_, 
      (pss_one (ps_if (pt_not (pt_val (pe_call G_is_order hr (by rfl) T_is_order.g T_is_order.F.kp T_is_order.b .nil pass0 (pa_cons (pv 0) pa_nil))))
        (pss_one (ps_raiseK rfl (takes_of rfl rfl rfl rfl) X_NoOrder (by rfl)))
        pss_nil)), ?_⟩
    refine ⟨_, rfl, v, d, rfl, hd, fun b H1 hb s1 => ?_⟩
    refine ⟨_, rfl, ?_⟩
    cases b with
    | true => exact iteF (q1 (hb.mp rfl) _ s1)
    | false => exact iteT (q2 (fun z => absurd (hb.mpr z) Bool.false_ne_true) _ s1)
end
end Fo
namespace Fo
open PySem PySem.Spec PyProof.Rows L2
/-! what a Lister refuses -/
def spManyX (cT : Addr) : Sp := fun vs H Q E => ∃ m : Int, vs = [.int m] ∧ (m ≤ 120 → Q .non H) ∧ (120 < m → E (.ref cT) none H)
def spComeR (C cO cF cT : Addr) : Sp := fun vs H _ E => ∃ (a e : Addr) (X : List Addr) (w : Str) (n : Nat) (d : Int) (rs : List (List Int)) (ss : List (List (List Int))) (v : V) (dat : PyData), vs = [.ref a, v] ∧ LsAt C H a e X w n d rs ss ∧ Dq H v dat ∧
  ((¬ GoodD dat ∧ ∀ H', Same H H' → E (.ref cO) none H') ∨ (GoodD dat ∧ lenD dat ≠ n ∧ ∀ H', Same H H' → E (.ref cF) none H') ∨ (GoodD dat ∧ lenD dat = n ∧ 120 ≤ rs.length ∧ ∀ H', Same H H' → E (.ref cT) none H'))
def spDropR (C cO cF : Addr) : Sp := fun vs H _ E => ∃ (a e : Addr) (X : List Addr) (w : Str) (n : Nat) (d : Int) (rs : List (List Int)) (ss : List (List (List Int))) (v : V) (dat : PyData), vs = [.ref a, v] ∧ LsAt C H a e X w n d rs ss ∧ Dq H v dat ∧
  ((¬ GoodD dat ∧ ∀ H', Same H H' → E (.ref cO) none H') ∨ (GoodD dat ∧ (∀ xs ∈ rs, dat ≠ dL xs) ∧ ∀ H', Same H H' → E (.ref cF) none H'))
section
variable {P : Program} {w : World} {K : PySem.W.Frag} {mg : Str → Option Value} {base : Heap}
theorem scManyX : FnScope ["many"] ["many"] (defScope s_check_many) := ⟨rfl, rfl, rfl, by decide +kernel, rfl, by decide +kernel, by decide +kernel⟩
theorem ok_manyX {f cT : Addr} {fd : FuncData} {k : Nat} {tO : Tok} (T : Df K mg "check_many" s_check_many ["many"] f fd) (mO : mg "MOST_ORDERS" = some (.int 120 tO)) (X_TooMany : ExK K mg "TooMany" cT) : FnOk P w K mg base (L2.CX P w) (k + 1) f fd ["many"] (spManyX cT) := by
  refine T.F.okX scManyX (fun vs H Q E h => ?_) (fun cdv A outer s H vs Q E hr h => ?_)
  · obtain ⟨m, rfl, _⟩ := h
    rfl
  · obtain ⟨m, rfl, q1, q2⟩ := h
    refine ⟨_, 
      (pss_one (ps_if (pt_cmpR op_gt (pv 0) (pe_glob (v := .int 120) (by rfl) mO ⟨_, rfl⟩) (nomark _))
        (pss_one (ps_raiseK rfl (takes_of rfl rfl rfl rfl) X_TooMany (by rfl)))
        pss_nil)), ?_⟩
    refine ⟨_, rfl, m, 120, rfl, rfl, _, rfl, ite2 (fun z => q2 (of_decide_eq_true z)) (fun z => q1 (Int.not_lt.mp fun h => z (decide_eq_true h)))⟩
theorem scComeR : FnScope ["self", "order", "near", "other"] ["self", "order"] (defScope s_Lister_come) := ⟨rfl, rfl, rfl, by decide +kernel, rfl, by decide +kernel, by decide +kernel⟩
set_option maxHeartbeats 2000000 in
theorem ok_comeR {C_Lister fI f f1 f2 f3 f4 cO cF cT : Addr} {fd d1 d2 d3 d4 : FuncData} {k : Nat} (T : Dm K C_Lister "come" "Lister.come" s_Lister_come ["self", "order"] f fd) (T_Lister : TxL K mg C_Lister fI) (T_check_order : Df K mg "check_order" s_check_order ["thing"] f1 d1) (G_check_order : FnOk P w K mg base (L2.CX P w) k f1 d1 ["thing"] (spChk cO))
    (T_check_many : Df K mg "check_many" s_check_many ["many"] f3 d3) (G_check_many : FnOk P w K mg base (L2.CX P w) k f3 d3 ["many"] (spManyX cT)) (T_known_far : Df K mg "known_far" s_known_far ["way", "one", "other"] f4 d4) (G_known_far : FnOk P w K mg base CX0 k f4 d4 ["way", "one", "other"] spFar)
    (T_Lister_change_to : Dm K C_Lister "change_to" "Lister.change_to" s_Lister_change_to ["self", "orders"] f2 d2) (G_Lister_change_to : FnOk P w K mg base CX0 k f2 d2 ["self", "orders"] (spChangeL C_Lister)) (X_NoFit : ExK K mg "NoFit" cF) (B : Bi mg) : FnOk P w K mg base (L2.CX P w) (k + 1) f fd ["self", "order"] (spComeR C_Lister cO cF cT) := by
  refine T.F.okX scComeR (fun vs H Q E h => ?_) (fun cdv A outer s H vs Q E hr h => ?_)
  · obtain ⟨a, e, X, w, n, d, rs, ss, v, dat, rfl, _⟩ := h
    rfl
  · obtain ⟨a, e, X, w, n, d, rs, ss, v, dat, rfl, L, hv, q⟩ := h
    refine ⟨_, 
      (pss_cons (ps_expr (pe_callS G_check_order hr (by rfl) T_check_order.g T_check_order.F.kp T_check_order.b (fun σ => passAt (takes_of rfl rfl rfl rfl) σ) (pa_cons (pv 1) pa_nil)))
      (pss_cons (ps_if (pt_cmpR op_ne (pe_callB call_len_seq (by rfl) B.len PySem.boot_len (pa_cons (pv 1) pa_nil)) (pe_fld (pv 0) rfl) (nomark _))
        (pss_one (ps_raiseK rfl (takes_of rfl rfl rfl rfl) X_NoFit (by rfl)))
        pss_nil)
      (pss_cons (ps_expr (pe_callS G_check_many hr (by rfl) T_check_many.g T_check_many.F.kp T_check_many.b (fun σ => passAt (takes_of rfl rfl rfl rfl) σ) (pa_cons (pe_op op_add (pe_callB call_len_seq (by rfl) B.len PySem.boot_len (pa_cons (pe_fld (pv 0) rfl) pa_nil)) pe_int) pa_nil)))
      (pss_cons (ps_setLc (i := 2) (own := [("other", 3)]) (g := (gName 3)) (tt := (tTest (tOp (rI0 fun i j => .bl (decide (i < j))) (tCall spFar [] E0 (tCons (tFld K (tVar 0) "way") (tCons (tVar 1) (tCons (tVar 3) tNil)))) (tFld K (tVar 0) "d")))) (te := (tCB (rListOf K) (tCons (tVar 3) tNil))) (by rfl) scComeR.nd rfl rfl (sw_true rfl rfl rfl (by decide +kernel)) (pi_list (pe_fld (pv 0) rfl)) (blkOk_by (N := ["self", "order", "near", "other"]) (sc := defScope s_Lister_come) (by decide +kernel)) (fun _ _ _ _ _ => (pg_name (i := 3) scComeR.nd rfl (.inl rfl))) (fun _ _ _ _ _ => (pts_one (pt_cmpR op_lt (pe_call G_known_far hr (by rfl) T_known_far.g T_known_far.F.kp T_known_far.b .nil pass0 (pa_cons (pe_fld (pv 0) rfl) (pa_cons (pv 1) (pa_cons (pv 3) pa_nil)))) (pe_fld (pv 0) rfl) (nomark _)))) (fun _ _ _ _ _ => (pe_callTy call_list_of (by rfl) B.list (by decide +kernel) (pa_cons (pv 3) pa_nil))))
      (Evl.pss_cut (ps_if (pt_cmpR op_eq (pe_callB call_len_seq (by rfl) B.len PySem.boot_len (pa_cons (pv 2) pa_nil)) pe_int (nomark _))
        (pss_one (ps_expr (pe_meth (pv 0) T_Lister.cl T_Lister_change_to.me G_Lister_change_to hr T_Lister_change_to.b .nil pass0 (pa_cons (pe_callB (cr_sortedR hr.units) (by rfl) B.sorted (by decide +kernel) (pa_cons (pe_op op_cat (pe_fld (pv 0) rfl) (pe_lst (pa_cons (pe_callTy call_list_of (by rfl) B.list (by decide +kernel) (pa_cons (pv 1) pa_nil)) pa_nil))) pa_nil)) pa_nil))))
        pss_nil)
      (pss_one (ps_ret (pv 2)))))))), ?_⟩
    refine ⟨_, rfl, v, dat, rfl, hv, fun g H1 s1 => ?_, fun ng H1 s1 => ?_⟩
    · rcases q with ⟨ng, _⟩ | q
      · exact absurd g ng
      have L1 := L.same s1
      obtain ⟨dx, t, ps, st, ha, he, ht, ert, _⟩ := L1.ex
      obtain ⟨o, ns, rfl, ho, i1, i2, i3, el⟩ := good_at (hv.same s1) g
      refine ⟨_, rfl, o, _, rfl, .inl (SqL.of ho), _, rfl, a, _, dx, _, _, rfl, ha, T_Lister.cl, T_Lister.nN, fl_n, rfl, _, rfl, ?_⟩
      rw [List.length_map, ← el]
      rcases q with ⟨_, nl, q⟩ | ⟨_, nl, hl, q⟩
      · rw [decide_eq_false (show ¬ (V.int (lenD dat : Int) = V.int (n : Int)) from fun z => nl (by have := V.int.inj z; omega))]
        exact iteT (q _ s1)
      · rw [decide_eq_true (show V.int (lenD dat : Int) = V.int (n : Int) by rw [nl])]
        refine iteF ?_
        refine ⟨_, rfl, a, _, dx, _, _, rfl, ha, T_Lister.cl, T_Lister.nT, fl_t, t, _, rfl, .inl (SqL.of ht.1), _, _, rfl, rfl, _, rfl, fun z => ?_, fun _ => q _ s1⟩
        rw [List.length_map] at z
        rw [← ert, List.length_map] at hl
        omega
    · rcases q with ⟨_, q⟩ | ⟨g, _⟩ | ⟨g, _⟩
      · exact q _ s1
      · exact absurd g ng
      · exact absurd g ng
theorem scDropR : FnScope ["self", "order", "other"] ["self", "order"] (defScope s_Lister_drop) := ⟨rfl, rfl, rfl, by decide +kernel, rfl, by decide +kernel, by decide +kernel⟩
set_option maxHeartbeats 2000000 in
theorem ok_dropR {C_Lister fI f f1 f2 cO cF : Addr} {fd d1 d2 : FuncData} {k : Nat} (T : Dm K C_Lister "drop" "Lister.drop" s_Lister_drop ["self", "order"] f fd) (T_Lister : TxL K mg C_Lister fI) (T_check_order : Df K mg "check_order" s_check_order ["thing"] f1 d1) (G_check_order : FnOk P w K mg base (L2.CX P w) k f1 d1 ["thing"] (spChk cO))
    (T_Lister_change_to : Dm K C_Lister "change_to" "Lister.change_to" s_Lister_change_to ["self", "orders"] f2 d2) (G_Lister_change_to : FnOk P w K mg base CX0 k f2 d2 ["self", "orders"] (spChangeL C_Lister)) (X_NoFit : ExK K mg "NoFit" cF) (B : Bi mg) : FnOk P w K mg base (L2.CX P w) (k + 1) f fd ["self", "order"] (spDropR C_Lister cO cF) := by
  refine T.F.okX scDropR (fun vs H Q E h => ?_) (fun cdv A outer s H vs Q E hr h => ?_)
  · obtain ⟨a, e, X, w, n, d, rs, ss, v, dat, rfl, _⟩ := h
    rfl
  · obtain ⟨a, e, X, w, n, d, rs, ss, v, dat, rfl, L, hv, q⟩ := h
    refine ⟨_, 
      (pss_cons (ps_expr (pe_callS G_check_order hr (by rfl) T_check_order.g T_check_order.F.kp T_check_order.b (fun σ => passAt (takes_of rfl rfl rfl rfl) σ) (pa_cons (pv 1) pa_nil)))
      (pss_cons (ps_if (pt_cmpR (op_notInD (units65 hr)) (pv 1) (pe_fld (pv 0) rfl) (by rfl))
        (pss_one (ps_raiseK rfl (takes_of rfl rfl rfl rfl) X_NoFit (by rfl)))
        pss_nil)
      (pss_one (ps_expr (pe_meth (pv 0) T_Lister.cl T_Lister_change_to.me G_Lister_change_to hr T_Lister_change_to.b .nil pass0 (pa_cons (pe_lc (own := [("other", 2)]) (g := (gName 2)) (tt := (tTest (tOp (rNeD K) (tVar 2) (tVar 1)))) (te := (tVar 2)) rfl scDropR.nd (pi_list (pe_fld (pv 0) rfl)) (blkOk_by (N := ["self", "order", "other"]) (sc := defScope s_Lister_drop) (by decide +kernel)) (fun _ _ _ _ _ => (pg_name (i := 2) scDropR.nd rfl (.inl rfl))) (fun _ _ _ _ _ => (pts_one (pt_cmpR (op_neD hr.units) (pv 2) (pv 1) (nomark _)))) (fun _ _ _ _ _ => (pv 2))) pa_nil)))))), ?_⟩
    refine ⟨_, rfl, v, dat, rfl, hv, fun g H1 s1 => ?_, fun ng H1 s1 => ?_⟩
    · rcases q with ⟨ng, _⟩ | ⟨_, nm, q⟩
      · exact absurd g ng
      have L1 := L.same s1
      obtain ⟨dx, t, ps, st, ha, he, ht, ert, _⟩ := L1.ex
      obtain ⟨ns, rfl, i1, i2, i3⟩ := g
      have hv1 := hv.same s1
      cases hv1 with
      | @lst o xs0 _ ho al =>
        have ex0 := dq_intsV al
        subst ex0
        refine ⟨_, rfl, _, rfl, a, _, dx, _, _, rfl, ha, T_Lister.cl, T_Lister.nT, fl_t, _, _, dp_list ho, ht.dp, shaped_list _, shaped_lists _, _, rfl, ?_⟩
        rw [any_row, ert, decide_eq_false (fun hm => nm ns hm rfl)]
        exact iteT (q _ s1)
    · rcases q with ⟨_, q⟩ | ⟨g, _⟩
      · exact q _ s1
      · exact absurd g ng
end
end Fo
namespace Fo
open PySem PySem.Spec PyProof.Rows L2
/-! how far apart the nearest two are, of any orders -/
def prs (w : Str) (rs : List (List Int)) : Nat → List Int
  | 0 => []
  | i + 1 => prs w rs i ++ (match rs[i]? with
    | some x => (rs.take i).map (farW w x)
    | none => [])
theorem prs_at {w : Str} {rs : List (List Int)} {i : Nat} {x : List Int} (h : rs[i]? = some x) : prs w rs (i + 1) = prs w rs i ++ (rs.take i).map (farW w x) := by
  show _ ++ (match rs[i]? with | some x => (rs.take i).map (farW w x) | none => []) = _
  rw [h]
theorem prs_len {w : Str} {rs : List (List Int)} : ∀ i, (prs w rs i).length ≤ i * i
  | 0 => Nat.le_refl _
  | i + 1 => by
    have ih := prs_len (w := w) (rs := rs) i
    cases h : rs[i]? with
    | none =>
      show (prs w rs i ++ (match rs[i]? with | some x => (rs.take i).map (farW w x) | none => [])).length ≤ _
      rw [h, List.append_nil]
      exact Nat.le_trans ih (Nat.mul_le_mul (Nat.le_succ _) (Nat.le_succ _))
    | some x =>
      rw [prs_at h, List.length_append, List.length_map, List.length_take]
      have : (i + 1) * (i + 1) = i * i + 2 * i + 1 := by rw [Nat.add_mul, Nat.mul_add]; omega
      omega
theorem cut_take (xs : List V) (i : Nat) : cutV xs none (some (i : Int)) = xs.take i := by
  unfold cutV
  rw [HT.sIx_none, HT.sIx_nat]
  by_cases h : i ≤ xs.length
  · rw [Nat.min_eq_left h]
    simp
  · rw [Nat.min_eq_right (by omega)]
    simp
    rw [List.take_of_length_le (by omega)]
def spLeastL (C : Addr) : Sp := fun vs H Q _ => ∃ (a e : Addr) (X : List Addr) (w : Str) (n : Nat) (d : Int) (rs : List (List Int)) (ss : List (List (List Int))), vs = [.ref a] ∧ LsAt C H a e X w n d rs ss ∧ rs.length ≤ 120 ∧
  (prs w rs rs.length = [] → ∀ H', Same H H' → Q .non H') ∧ ∀ m H', Same H H' → m ∈ prs w rs rs.length → (∀ y ∈ prs w rs rs.length, m ≤ y) → Q (.int m) H'
section
variable {P : Program} {w : World} {K : PySem.W.Frag} {mg : Str → Option Value} {base : Heap}
theorem scLeastL : FnScope ["self", "place", "order", "other"] ["self"] (defScope s_Lister_least_apart) := ⟨rfl, rfl, rfl, by decide +kernel, rfl, by decide +kernel, by decide +kernel⟩
set_option maxHeartbeats 2000000 in
theorem ok_leastL {C_Lister fI f f1 : Addr} {fd d1 : FuncData} {k : Nat} (T : Dm K C_Lister "least_apart" "Lister.least_apart" s_Lister_least_apart ["self"] f fd) (T_Lister : TxL K mg C_Lister fI) (T_known_far : Df K mg "known_far" s_known_far ["way", "one", "other"] f1 d1) (G_known_far : FnOk P w K mg base CX0 k f1 d1 ["way", "one", "other"] spFar) (B : Bi mg) : FnOk P w K mg base CX0 (k + 1) f fd ["self"] (spLeastL C_Lister) := by
  refine T.F.ok scLeastL (fun vs H Q E h => ?_) (fun cdv A outer s H vs Q E hr h => ?_)
  · obtain ⟨a, e, X, w, n, d, rs, ss, rfl, _⟩ := h
    rfl
  · obtain ⟨a, e, X, w, n, d, rs, ss, rfl, L, hrl, q1, q2⟩ := h
    obtain ⟨dx, t, ps, st, ha, he, ht, ert, _⟩ := L.ex
    have hn8 := L.n2
    have hpl : ps.length = rs.length := by rw [← ert, List.length_map]
    refine ⟨_, 
      (pss_one (ps_ret (pe_minDef hr.units rfl (by rfl) B.min (pe_lc2 (own := [("place", 1), ("order", 2), ("other", 3)]) (vs1 := [3]) (wi1 := iList K (tSl (rSlL K) (tFld K (tVar 0) "taken") tNoPart (tPart (tVar 1)))) (g := (gTup K 2 (gCons (gName 1) (gCons (gName 2) gNil)))) (tt := tYes) (g1 := (gName 3)) (tt1 := tYes) (te := (tCall spFar [] E0 (tCons (tFld K (tVar 0) "way") (tCons (tVar 2) (tCons (tVar 3) tNil))))) rfl scLeastL.nd (pi_enum (by rfl) B.enumerate (pa_cons (pe_fld (pv 0) rfl) pa_nil)) (blkOk_by (N := ["self", "place", "order", "other"]) (sc := defScope s_Lister_least_apart) (by decide +kernel)) (by decide) (fun _ _ _ _ _ => (pg_tup (by rfl) (pgs_cons (pg_name (i := 1) scLeastL.nd rfl (.inl rfl)) (pgs_cons (pg_name (i := 2) scLeastL.nd rfl (.inl rfl)) pgs_nil)))) (fun _ _ _ _ _ => pts_nil) (fun _ _ _ _ _ => (pi_list (pe_slice sl_list (pe_fld (pv 0) rfl) po_none (po_some (pv 1))))) (fun _ _ _ _ _ => (pg_name (i := 3) scLeastL.nd rfl (.inl rfl))) (fun _ _ _ _ _ => pts_nil) (fun _ _ _ _ _ => (pe_call G_known_far hr (by rfl) T_known_far.g T_known_far.F.kp T_known_far.b .nil pass0 (pa_cons (pe_fld (pv 0) rfl) (pa_cons (pv 2) (pa_cons (pv 3) pa_nil)))))) pe_non))), ?_⟩
    refine ⟨_, rfl, a, _, dx, _, _, rfl, ha, T_Lister.cl, T_Lister.nT, fl_t, t, _, rfl, SqL.of ht.1, fun D nD => ?_⟩
    refine ⟨fun i m G => m = rs.length - i ∧ i ≤ rs.length ∧ G D = some (.lst ((prs w rs i).map V.int)) ∧ Same H G, ⟨_, rfl, Nat.zero_le _, upd_same, same_new nD⟩, fun i m G hM => ?_⟩
    obtain ⟨rfl, hi, hD, sm⟩ := hM
    by_cases hlt : i < rs.length
    · have hps : i < ps.length := by omega
      refine .inr ⟨⟨_, (ps.map fun p => V.ref p.1)[i]'(by rw [List.length_map]; exact hps), SqL.of (sm _ _ ht.1), by simp [hps]⟩, fun G => G D = some (.lst ((prs w rs (i + 1)).map V.int)) ∧ Same H G, fun G p => ⟨rs.length - (i + 1), by omega, rfl, hlt, p.1, p.2⟩, fun x G' y => ?_⟩
      obtain ⟨T0, x', rfl, nT, rfl, f1⟩ := y
      obtain ⟨p, ep, rfl, hp⟩ := (ht.same sm).at (f1 _ (SqL.of (sm _ _ ht.1)))
      have er : rs[i]? = some p.2 := by rw [← ert]; exact rws_at ep
      have s1 := same_new (o := .tup [.int (i : Nat), .ref p.1]) nT
      have sm1 := sm.trans s1
      refine ⟨T0, _, rfl, .inl (.inl upd_same), rfl, _, _, rfl, _, _, rfl, rfl, rfl, ?_⟩
      refine ⟨_, rfl, a, _, dx, _, _, rfl, sm1 _ _ ha, T_Lister.cl, T_Lister.nT, fl_t, _, rfl, _, rfl, t, _, rfl, SqL.of (sm1 _ _ ht.1), fun c nc => ?_⟩
      rw [cut_take]
      have s2 := same_new (o := .lst ((ps.map fun p => V.ref p.1).take i)) nc
      have sm2 := sm1.trans s2
      have ncD : c ≠ D := fun z => by rw [z, s1 _ _ hD] at nc; cases nc
      refine ⟨c, rfl, ⟨_, SqL.of upd_same⟩, ?_⟩
      refine ⟨fun j k G => k = i - j ∧ j ≤ i ∧ G D = some (.lst ((prs w rs i ++ (rs.take j).map (farW w p.2)).map V.int)) ∧ G c = some (.lst ((ps.map fun p => V.ref p.1).take i)) ∧ Same H G, ⟨_, rfl, Nat.zero_le _, by rw [List.take_zero, List.map_nil, List.append_nil]; exact s2 _ _ (s1 _ _ hD), upd_same, sm2⟩, fun j k G hM => ?_⟩
      obtain ⟨rfl, hj, hD3, hc3, sm3⟩ := hM
      by_cases hlj : j < i
      · have hpj : j < ps.length := by omega
        refine .inr ⟨⟨_, ((ps.map fun p => V.ref p.1).take i)[j]'(by rw [List.length_take, List.length_map]; omega), SqL.of hc3, List.getElem?_eq_getElem _⟩, fun G => G D = some (.lst ((prs w rs i ++ (rs.take (j + 1)).map (farW w p.2)).map V.int)) ∧ G c = some (.lst ((ps.map fun p => V.ref p.1).take i)) ∧ Same H G, fun G p => ⟨i - (j + 1), by omega, rfl, hlj, p⟩, fun x G' y => ?_⟩
        obtain ⟨e0, y⟩ := y
        subst e0
        have hx := y _ (SqL.of hc3)
        rw [List.getElem?_take_of_lt hlj] at hx
        obtain ⟨r, eqr, rfl, hr3⟩ := (ht.same sm3).at hx
        have er2 : rs[j]? = some r.2 := by rw [← ert]; exact rws_at eqr
        refine ⟨rfl, _, rfl, a, _, dx, _, _, rfl, sm3 _ _ ha, T_Lister.cl, T_Lister.nW, fl_w, _, rfl, _, rfl, w, p.1, r.1, n, p.2, r.2, rfl, L.wy, sm3 _ _ (ht.2 p (List.mem_of_getElem? ep)), hr3, L.ord _ (List.mem_of_getElem? er), L.ord _ (List.mem_of_getElem? er2), L.n1, by omega, fun G4 s4 => ?_⟩
        have hl1 := prs_len (w := w) (rs := rs) i
        have hsq : i * i ≤ 120 * 120 := Nat.mul_le_mul (by omega) (by omega)
        refine ⟨_, s4 _ _ hD3, line_lt ?_, by rw [upd_same, take_p er2]; simp [List.map_append, List.append_assoc], by rw [upd_ne ncD]; exact s4 _ _ hc3, fun b o hb => ?_⟩
        · rw [List.length_map, List.length_append, List.length_map, List.length_take]
          omega
        · rw [upd_ne (ne_of_none hb nD)]
          exact s4 _ _ (sm3 _ _ hb)
      · obtain rfl : j = i := by omega
        refine .inl ⟨⟨_, SqL.of hc3, by rw [List.length_take]; exact Nat.min_le_left _ _⟩, ?_, sm3⟩
        rw [prs_at er]
        exact hD3
    · obtain rfl : i = rs.length := by omega
      refine .inl ⟨⟨_, SqL.of (sm _ _ ht.1), by rw [List.length_map]; omega⟩, D, _, rfl, rfl, SqL.of hD, fun z => q1 z _ sm, fun m hm hle => q2 m _ sm hm hle⟩
end
end Fo
namespace Fo
open PySem PySem.Spec PyProof.Rows L2
/-! whatever is said to a Lister -/
def spSaidL (K : PySem.W.Frag) (C : Addr) (c : Nat → Addr) : Sp := fun vs H Q _ => ∃ (a e : Addr) (X : List Addr) (w : Str) (n : Nat) (d : Int) (rs : List (List Int)) (ss : List (List (List Int))) (word : Str) (v : V), vs = [.ref a, .str word, v] ∧ LsAt C H a e X w n d rs ss ∧
  ((word = "come" ∧ ∃ o xs, v = .ref o ∧ H o = some (.lst (xs.map V.int)) ∧ IsOrd n xs ∧ rs.length < 120 ∧ ss.length < 1000 ∧ ∀ (l : Addr) (qs : List (Addr × List Int)) (rs' : List (List Int)) (ss' : List (List (List Int))) (H' : Hp), rws qs = nearR w xs d rs → (qs = [] → rs'.Perm (rs ++ [xs]) ∧ rs'.Pairwise (· ≤ ·) ∧ ss' = ss ++ [rs]) → (qs ≠ [] → rs' = rs ∧ ss' = ss) → NewRows H H' l qs → LsAt C H' a e (l :: (qs.map (·.1) ++ X)) w n d rs' ss' → KpL a e H H' → Q (.ref l) H')
  ∨ (word = "come" ∧ ∃ dat i, Dq H v dat ∧ ((¬ GoodD dat ∧ i = 0) ∨ (GoodD dat ∧ lenD dat ≠ n ∧ i = 2) ∨ (GoodD dat ∧ lenD dat = n ∧ 120 ≤ rs.length ∧ i = 5)) ∧ ∀ H', Same H H' → Q (.str (wordY i)) H')
  ∨ (word = "drop" ∧ ∃ o xs, v = .ref o ∧ H o = some (.lst (xs.map V.int)) ∧ xs ∈ rs ∧ IsOrd n xs ∧ ss.length < 1000 ∧ rs.length ≤ 120 ∧ ∀ H', LsAt C H' a e X w n d (rs.filter fun r => !decide (r = xs)) (ss ++ [rs]) → KpL a e H H' → Q .non H')
  ∨ (word = "drop" ∧ ∃ dat i, Dq H v dat ∧ ((¬ GoodD dat ∧ i = 0) ∨ (GoodD dat ∧ (∀ xs ∈ rs, dat ≠ dL xs) ∧ i = 2)) ∧ ∀ H', Same H H' → Q (.str (wordY i)) H')
  ∨ (word = "undo" ∧ (∀ r0 ss0, ss = ss0 ++ [r0] → ∀ H', LsAt C H' a e X w n d r0 ss0 → KpL a e H H' → Q .non H') ∧ (ss = [] → ∀ H', Same H H' → Q (.str (wordY 4)) H')))
theorem NewRows.same {H H' H2 : Hp} {l : Addr} {qs : List (Addr × List Int)} (h : NewRows H H' l qs) (s : Same H' H2) : NewRows H H2 l qs := ⟨h.1.same s, h.2.1, h.2.2⟩
theorem KpL.same {a e : Addr} {H H' H2 : Hp} (k : KpL a e H H') (s : Same H' H2) : KpL a e H H2 := fun b o h n1 n2 => s _ _ (k b o h n1 n2)
section
variable {P : Program} {w : World} {K : PySem.W.Frag} {mg : Str → Option Value} {base : Heap}
theorem scSaidL : FnScope ["lister", "word", "order", "found", "caught", "e"] ["lister", "word", "order"] (defScope s_law_said) := ⟨rfl, rfl, rfl, by decide +kernel, rfl, by decide +kernel, by decide +kernel⟩
set_option maxHeartbeats 4000000 in
theorem ok_saidL {f f1 f2 f3 f4 fI cE C_Lister : Addr} {c : Nat → Addr} {fd d1 d2 d3 d4 : FuncData} {k : Nat} (T : Df K mg "_law_said" s_law_said ["lister", "word", "order"] f fd) (T_Lister : TxL K mg C_Lister fI) (T_Lister_come : Dm K C_Lister "come" "Lister.come" s_Lister_come ["self", "order"] f1 d1) (T_Lister_drop : Dm K C_Lister "drop" "Lister.drop" s_Lister_drop ["self", "order"] f2 d2) (T_Lister_undo : Dm K C_Lister "undo" "Lister.undo" s_Lister_undo ["self"] f3 d3) (T__law_word : Df K mg "_law_word" s_law_word ["caught"] f4 d4)
    (G_Lister_come : FnOk P w K mg base (L2.CX P w) k f1 d1 ["self", "order"] (fun vs H Q E => spComeL C_Lister vs H Q E ∨ spComeR C_Lister (c 0) (c 2) (c 5) vs H Q E)) (G_Lister_drop : FnOk P w K mg base (L2.CX P w) k f2 d2 ["self", "order"] (fun vs H Q E => spDropL C_Lister vs H Q E ∨ spDropR C_Lister (c 0) (c 2) vs H Q E)) (G_Lister_undo : FnOk P w K mg base (L2.CX P w) k f3 d3 ["self"] (spUndoL C_Lister (c 4))) (G__law_word : FnOk P w K mg base CX0 k f4 d4 ["caught"] (spWordY K c))
    (kd : ∀ i, i = 0 ∨ i = 2 ∨ i = 4 ∨ i = 5 → KdY K c (c i) i) (g_OrderError : mg "OrderError" = some (.ref cE)) (xm : ∀ i, i = 0 ∨ i = 2 ∨ i = 4 ∨ i = 5 → PySem.W.exmOne K (.ref (c i)) (.ref cE) = some true) (B : Bi mg) : FnOk P w K mg base CX0 (k + 1) f fd ["lister", "word", "order"] (spSaidL K C_Lister c) := by
  refine T.F.ok scSaidL (fun vs H Q E h => ?_) (fun cdv A outer s H vs Q E hr h => ?_)
  · obtain ⟨a, e, X, w, n, d, rs, ss, word, v, rfl, _⟩ := h
    rfl
  · obtain ⟨a, e, X, w, n, d, rs, ss, word, v, rfl, L, q⟩ := h
    refine ⟨_, 
      (pss_cons (ps_set (i := 3) scSaidL.nd rfl (.inl rfl) pe_non)
      (pss_cons (ps_set (i := 4) scSaidL.nd rfl (.inl rfl) pe_non)
      (Evl.pss_cut (ps_try_k (i := 5) rfl rfl rfl scSaidL.nd rfl rfl ⟨by rfl, by decide, .inl g_OrderError⟩ takes0 (fun W pn xe tk po =>
        (pss_one (ps_if (pt_cmpR op_eq (pv 1) pe_str (nomark _))
          (pss_one (ps_set (i := 3) scSaidL.nd rfl (.inl rfl) (pe_methS (pv 0) T_Lister.cl T_Lister_come.me G_Lister_come hr T_Lister_come.b (fun σ => passAt tk σ) (pa_cons (pv 2) pa_nil))))
          (pss_one (ps_if (pt_cmpR op_eq (pv 1) pe_str (nomark _))
            (pss_one (ps_set (i := 3) scSaidL.nd rfl (.inl rfl) (pe_methS (pv 0) T_Lister.cl T_Lister_drop.me G_Lister_drop hr T_Lister_drop.b (fun σ => passAt tk σ) (pa_cons (pv 2) pa_nil))))
            (pss_one (ps_set (i := 3) scSaidL.nd rfl (.inl rfl) (pe_meth0S (pv 0) T_Lister.cl T_Lister_undo.me G_Lister_undo hr T_Lister_undo.b (fun σ => passAt tk σ))))))))) (fun a oe cls d pn hz hf =>
        (pss_one (ps_set (i := 4) scSaidL.nd rfl (.inl rfl) (pv 5)))))
      (pss_cons (ps_if (pt_cmpR op_isN (pv 4) pe_non (nomark _))
        (pss_one (ps_ret (pe_ix ix_list (pe_lst (pa_cons pe_str (pa_cons (pv 3) pa_nil))) (pe_callTy call_int1 (by rfl) B.int (by decide +kernel) (pa_cons (pe_not (pe_callB call_isi (by rfl) B.isinstance (by decide +kernel) (pa_cons (pv 3) (pa_cons (pe_bltn (v := .ty "str") (by rfl) B.str (by decide +kernel) rfl) pa_nil)))) pa_nil)) (fun _ _ => rfl))))
        pss_nil)
      (pss_one (ps_ret (pe_call G__law_word hr (by rfl) T__law_word.g T__law_word.F.kp T__law_word.b .nil pass0 (pa_cons (pv 4) pa_nil)))))))), ?_⟩
    refine ⟨fun σ' H' => (∃ (v' : V) (z : Option V), σ' = [some (.ref a), some (.str word), some v, some v', some .non, z] ∧ (v' = .non ∨ ∃ l ys, v' = .ref l ∧ H' l = some (.lst ys)) ∧ ∀ H2, Same H' H2 → Q v' H2) ∨
      (∃ (b : Addr) (i : Nat) (z : Option V), σ' = [some (.ref a), some (.str word), some v, some .non, some (.ref b), z] ∧ H' b = some (ExV (.ref (c i)) none b) ∧ KdY K c (c i) i ∧ (i = 0 ∨ i = 1 ∨ i = 2 ∨ i = 4 ∨ i = 5) ∧ ∀ H2, Same H' H2 → Q (.str (wordY i)) H2), ?_, fun σ' H' hM => ?_⟩
    · have bad : ∀ {i : Nat} {H1 : Hp}, (i = 0 ∨ i = 2 ∨ i = 4 ∨ i = 5) → Same H H1 → (∀ H', Same H H' → Q (.str (wordY i)) H') → True := fun _ _ _ => trivial
      obtain ⟨dx, fs, ha, hno1⟩ := L.obj "come" (by decide +kernel) (by decide +kernel) (by decide +kernel) (by decide +kernel) (by decide +kernel)
      rcases q with ⟨rfl, o, xs, rfl, ho, ox, h1, h2, q⟩ | ⟨rfl, dat, i, hv, hi, q⟩ | ⟨rfl, o, xs, rfl, ho, hx, ox, h1, h2, q⟩ | ⟨rfl, dat, i, hv, hi, q⟩ | ⟨rfl, q1, q2⟩
      · refine ⟨_, rfl, rfl, _, rfl, iteT ⟨_, rfl, a, dx, fs, rfl, ha, hno1, _, rfl, .inl ⟨a, e, o, X, w, n, d, rs, ss, xs, rfl, L, ho, ox, h1, h2, fun l qs rs' ss' H' e1 c1 c2 nr L' k' => ?_⟩⟩⟩
        exact .inl ⟨.ref l, _, rfl, .inr ⟨l, _, rfl, nr.1.1⟩, fun H2 s => q l qs rs' ss' H2 e1 c1 c2 (nr.same s) (L'.same s) (k'.same s)⟩
      · refine ⟨_, rfl, rfl, _, rfl, iteT ⟨_, rfl, a, dx, fs, rfl, ha, hno1, _, rfl, .inr ⟨a, e, X, w, n, d, rs, ss, v, dat, rfl, L, hv, ?_⟩⟩⟩
        rcases hi with ⟨h1, rfl⟩ | ⟨h1, h2, rfl⟩ | ⟨h1, h2, h3, rfl⟩
        · exact .inl ⟨h1, fun H1 s1 => ⟨true, xm 0 (by decide), fun _ b nb => ⟨_, rfl, .inr ⟨b, 0, _, rfl, upd_same, kd 0 (by decide), by decide, fun H2 s => q H2 ((s1.trans (same_new nb)).trans s)⟩⟩, fun z => absurd z.symm Bool.false_ne_true⟩⟩
        · exact .inr (.inl ⟨h1, h2, fun H1 s1 => ⟨true, xm 2 (by decide), fun _ b nb => ⟨_, rfl, .inr ⟨b, 2, _, rfl, upd_same, kd 2 (by decide), by decide, fun H2 s => q H2 ((s1.trans (same_new nb)).trans s)⟩⟩, fun z => absurd z.symm Bool.false_ne_true⟩⟩)
        · exact .inr (.inr ⟨h1, h2, h3, fun H1 s1 => ⟨true, xm 5 (by decide), fun _ b nb => ⟨_, rfl, .inr ⟨b, 5, _, rfl, upd_same, kd 5 (by decide), by decide, fun H2 s => q H2 ((s1.trans (same_new nb)).trans s)⟩⟩, fun z => absurd z.symm Bool.false_ne_true⟩⟩)
      · obtain ⟨dx2, fs2, ha2, hno2⟩ := L.obj "drop" (by decide +kernel) (by decide +kernel) (by decide +kernel) (by decide +kernel) (by decide +kernel)
        refine ⟨_, rfl, rfl, _, rfl, iteF ⟨_, rfl, rfl, _, rfl, iteT ⟨_, rfl, a, dx2, fs2, rfl, ha2, hno2, _, rfl, .inl ⟨a, e, o, X, w, n, d, rs, ss, xs, rfl, L, ho, hx, ox, h1, h2, fun H' L' k' => ?_⟩⟩⟩⟩
        exact .inl ⟨.non, _, rfl, .inl rfl, fun H2 s => q H2 (L'.same s) (k'.same s)⟩
      · obtain ⟨dx2, fs2, ha2, hno2⟩ := L.obj "drop" (by decide +kernel) (by decide +kernel) (by decide +kernel) (by decide +kernel) (by decide +kernel)
        refine ⟨_, rfl, rfl, _, rfl, iteF ⟨_, rfl, rfl, _, rfl, iteT ⟨_, rfl, a, dx2, fs2, rfl, ha2, hno2, _, rfl, .inr ⟨a, e, X, w, n, d, rs, ss, v, dat, rfl, L, hv, ?_⟩⟩⟩⟩
        rcases hi with ⟨h1, rfl⟩ | ⟨h1, h2, rfl⟩
        · exact .inl ⟨h1, fun H1 s1 => ⟨true, xm 0 (by decide), fun _ b nb => ⟨_, rfl, .inr ⟨b, 0, _, rfl, upd_same, kd 0 (by decide), by decide, fun H2 s => q H2 ((s1.trans (same_new nb)).trans s)⟩⟩, fun z => absurd z.symm Bool.false_ne_true⟩⟩
        · exact .inr ⟨h1, h2, fun H1 s1 => ⟨true, xm 2 (by decide), fun _ b nb => ⟨_, rfl, .inr ⟨b, 2, _, rfl, upd_same, kd 2 (by decide), by decide, fun H2 s => q H2 ((s1.trans (same_new nb)).trans s)⟩⟩, fun z => absurd z.symm Bool.false_ne_true⟩⟩
      · obtain ⟨dx2, fs2, ha2, hno2⟩ := L.obj "undo" (by decide +kernel) (by decide +kernel) (by decide +kernel) (by decide +kernel) (by decide +kernel)
        refine ⟨_, rfl, rfl, _, rfl, iteF ⟨_, rfl, rfl, _, rfl, iteF ⟨_, rfl, a, dx2, fs2, rfl, ha2, hno2, a, e, X, w, n, d, rs, ss, rfl, L, fun r0 ss0 z H' L' k' => ?_, fun z => ?_⟩⟩⟩
        · exact .inl ⟨.non, _, rfl, .inl rfl, fun H2 s => q1 r0 ss0 z H2 (L'.same s) (k'.same s)⟩
        · exact ⟨true, xm 4 (by decide), fun _ b nb => ⟨_, rfl, .inr ⟨b, 4, _, rfl, upd_same, kd 4 (by decide), by decide, fun H2 s => q2 z H2 ((same_new nb).trans s)⟩⟩, fun z => absurd z.symm Bool.false_ne_true⟩
    · rcases hM with ⟨v', z, rfl, ty, q⟩ | ⟨b, i, z, rfl, hb, kd, hi, q⟩
      · refine ⟨_, rfl, rfl, _, rfl, iteT ?_⟩
        refine ⟨_, rfl, by show 2 ≤ sizeLine; decide, fun p np => ?_⟩
        have s1 := same_new (o := .lst [.str "odd", v']) np
        obtain ⟨t, ty2, kt⟩ : ∃ t, TyX K (upd H' p (.lst [.str "odd", v'])) v' t ∧ PySem.W.kitOne K t (.type "str") = some false := by
          rcases ty with rfl | ⟨l, ys, rfl, hl⟩
          · exact ⟨_, .base .non, kit_ty (by decide +kernel)⟩
          · exact ⟨_, .base (.lst (s1 _ _ hl)), kit_ty (by decide +kernel)⟩
        refine ⟨_, rfl, _, _, _, _, false, rfl, .ty _, ty2, kt, false, rfl, .inr ⟨true, rfl, ?_⟩⟩
        exact ⟨p, _, 1, v', rfl, rfl, SqL.of upd_same, atI_nat (j := 1) rfl, q _ s1⟩
      · refine ⟨_, rfl, rfl, _, rfl, iteF ?_⟩
        exact ⟨_, rfl, b, _, i, rfl, hb, kd, hi, fun H2 s => q H2 s⟩
end
end Fo
namespace Fo
open PySem PySem.Spec PyProof.Rows L2 SeqAt
theorem dict_eq_declines_int (l : Addr) (items : Array DictEntry) (n : Nat) (dd : Option Addr) (sl : Array (Option Value)) (b : Int) (u : Tok) :
    Meets (Builtin.«dict.__eq__» ⟨[.ref l, .int b u], []⟩) (fun _ R s => s.heap.get? l = some { cls := .type "dict", dict := dd, data := .dict items n, slots := sl } ∧ R (.ok (.ret .notImplemented)) s) :=
  .of_wp fun prog w A R s h => by obtain ⟨hp, g, d, tk, os⟩ := s; obtain ⟨hl, h⟩ := h; have f1 := F.sub_int_dict; wp_walk using wpAny_loadPart' hl; exact ⟨_, rfl, h⟩
theorem int_eq_declines_dict (b : Int) (u : Tok) (l : Addr) (c : Value) (items : Array DictEntry) (n : Nat) (dd : Option Addr) (sl : Array (Option Value)) :
    Meets (Builtin.«int.__eq__» ⟨[.int b u, .ref l], []⟩) (fun _ R s => s.heap.get? l = some { cls := c, dict := dd, data := .dict items n, slots := sl } ∧ R (.ok (.ret .notImplemented)) s) :=
  .of_wp fun prog w A R s h => by obtain ⟨hp, g, d, tk, os⟩ := s; obtain ⟨hl, h⟩ := h; wp_walk using wpAny_loadPart' hl, wpAny_load hl; exact ⟨_, rfl, h⟩
theorem RcAt.dict_int5 {A : Around} {s : Shared} {l : Addr} {oc : Obj} {items : Array DictEntry} {n : Nat} (b : Int) (u : Tok) (ho : s.heap.get? l = some oc) (hc : oc.cls = .type "dict") (hd : oc.data = .dict items n) (hu : A.units < cLine) : RcAt A s (.ref l) (.int b u) false := fun prog w E Q h => by
  obtain ⟨cls, dd, data, sl⟩ := oc
  simp only at hc hd
  subst hc hd
  exact rc_eq_decline_or (k := false) ⟨_, ho, rfl⟩ (typeIs_int s b u) (by decide) F.sub_int_dict F.slot_dict_eq F.slot_int_eq_refl
    (fun _ hq => call_meets F.slot_dict_eq ⟨_, ho, rfl⟩ F.entry_dict_eq (F.args_dict_eq_2 _ _) (dict_eq_declines_int l items n dd sl b u) ⟨ho, hq⟩)
    (fun _ hq => call_meets F.slot_int_eq_refl (typeIs_int s b u) F.entry_int_eq (F.args_int_eq_2 _ _) (int_eq_declines_dict b u l (.type "dict") items n dd sl) ⟨ho, hq⟩)
    (fun _ hq => wpAny_of_eq (rfl : isSame (.ref l) (.int b u) = pure false) hq) (.inr hu) h
/-- anything against an int: data without dicts, or a dict -/
abbrev rEqZ (K : PySem.W.Frag) : R2 := fun x y H Q => rEqD K x y H Q ∨ ∃ a kvs i, x = .ref a ∧ H a = some (.dK kvs) ∧ y = .int i ∧ Q (.bl false) H
theorem op_eqZ {X : Cx} (hu : X.A.units + 64 < cLine) : OpR X (compareOp .Eq) (rEqZ X.K) := by
  intro pins s σ H x y v u Q I rx ry h
  rcases h with h | ⟨a, kvs, i, rfl, e, rfl, q⟩
  · exact op_eqD hu pins s σ H x y v u Q I rx ry h
  · cases (show v = Value.ref a from rx)
    obtain ⟨t, rfl⟩ := ry
    obtain ⟨_, _, vs, _, hD⟩ := dk_of I.hok e
    obtain ⟨o, es, ep, h1, h2, h3, _⟩ := hD
    exact RcAt.dict_int5 i t h1 h2.1 h3 (by omega) X.prog X.w _ _ ⟨.bl false, H, I, rfl, q⟩
/-- is True, is False, of a thing of any kind -/
def FlB : V → Prop
  | .non => True
  | .bl _ => True
  | .int _ => True
  | .str _ => True
  | .ref _ => True
  | _ => False
abbrev rIsT : R2 := fun x y H Q => ∃ b : Bool, y = .bl b ∧ FlB x ∧ Q (.bl (decide (x = .bl b))) H
theorem op_isT {X : Cx} : OpR X (compareOp .Is) rIsT := by
  intro pins s σ H x y v u Q I rx ry h
  obtain ⟨b, rfl, fx, q⟩ := h
  cases (show u = Value.bool b from ry)
  cases x with
  | non =>
    cases (show v = Value.none from rx)
    exact wpAny_is_other rfl nofun ⟨.bl false, H, I, rfl, by simpa using q⟩
  | bl a =>
    cases (show v = Value.bool a from rx)
    by_cases e : a = b
    · subst e
      exact wpAny_is_self rfl ⟨.bl true, H, I, rfl, by simpa using q⟩
    · exact wpAny_is_other rfl (fun z => e (Value.bool.inj z)) ⟨.bl false, H, I, rfl, by simpa [e] using q⟩
  | int i =>
    obtain ⟨t, rfl⟩ := (show ∃ t, v = Value.int i t from rx)
    exact wpAny_is_other rfl nofun ⟨.bl false, H, I, rfl, by simpa using q⟩
  | str i =>
    obtain ⟨t, rfl⟩ := (show ∃ t, v = Value.str i t from rx)
    exact wpAny_is_other rfl nofun ⟨.bl false, H, I, rfl, by simpa using q⟩
  | ref a =>
    cases (show v = Value.ref a from rx)
    exact wpAny_is_other rfl nofun ⟨.bl false, H, I, rfl, by simpa using q⟩
  | _ => exact fx.elim
end Fo
namespace Fo
open PySem PySem.Spec PyProof.Rows L2
/-! how long a thing is, shown: added up -/
mutual
def wt : PyData → Nat
  | .none => 4
  | .bool _ => 5
  | .int i => (Str.ofString (toString i)).length
  | .str x => (reprText x).length
  | .list xs => wtL xs + 2
  | .tuple xs => wtL xs + 3
  | .dict kvs => wtK kvs + 2
def wtL : List PyData → Nat
  | [] => 0
  | x :: xs => wt x + 2 + wtL xs
def wtK : List (PyData × PyData) → Nat
  | [] => 0
  | (k, v) :: r => wt k + wt v + 4 + wtK r
end
theorem kvLen {k v : Str} : (k ++ Str.ofString ": " ++ v).length = k.length + v.length + 2 := by
  rw [strLen_append, strLen_append, show (Str.ofString ": ").length = 2 from rfl]
  omega
mutual
theorem shown_le : ∀ d : PyData, d.shown.length ≤ wt d
  | .none => by rw [PyData.shown, wt]; decide
  | .bool b => by rw [PyData.shown, wt]; cases b <;> decide
  | .int i => by rw [PyData.shown, wt]; exact Nat.le_refl _
  | .str x => by rw [PyData.shown, wt]; exact Nat.le_refl _
  | .list xs => by
    rw [PyData.shown, wt]
    have h1 := listText_le (PyData.shownAll xs)
    have h2 := piled_shown xs
    omega
  | .tuple xs => by
    rw [PyData.shown, wt]
    unfold tupleText
    rw [strLen_append, strLen_append]
    have h1 := join_le (PyData.shownAll xs)
    have h2 := piled_shown xs
    have e1 : (Str.ofString "(").length = 1 := rfl
    have e2 : (Str.ofString (if ((PyData.shownAll xs).length == 1) = true then ",)" else ")")).length ≤ 2 := by split <;> decide
    omega
  | .dict kvs => by
    rw [PyData.shown, wt]
    unfold dictText
    rw [strLen_append, strLen_append]
    have h1 := join_le (PyData.shownKv kvs)
    have h2 := piled_kv kvs
    have e1 : (Str.ofString "{").length = 1 := rfl
    have e2 : (Str.ofString "}").length = 1 := rfl
    omega
theorem piled_shown : ∀ xs : List PyData, piled (PyData.shownAll xs) ≤ wtL xs
  | [] => by rw [PyData.shownAll, piled_nil]; exact Nat.zero_le _
  | x :: xs => by
    rw [PyData.shownAll, piled_cons, wtL]
    have h1 := shown_le x
    have h2 := piled_shown xs
    omega
theorem piled_kv : ∀ ks : List (PyData × PyData), piled (PyData.shownKv ks) ≤ wtK ks
  | [] => by rw [PyData.shownKv, piled_nil]; exact Nat.zero_le _
  | (a, b) :: ks => by
    rw [PyData.shownKv, piled_cons, wtK]
    have h1 := shown_le a
    have h2 := shown_le b
    have h3 := piled_kv ks
    have e : (PyData.shown a ++ ": " ++ PyData.shown b).length = (PyData.shown a).length + (PyData.shown b).length + 2 := kvLen
    omega
end
/-- fit to be shown, in m signs, k deep -/
structure Rw (m k : Nat) (d : PyData) : Prop where
  s : d.showable = true
  l : wt d ≤ m
  d : d.depth ≤ k
structure Rws (m k : Nat) (ds : List PyData) : Prop where
  s : PyData.showableAll ds = true
  l : wtL ds ≤ m
  d : PyData.depthAll ds ≤ k
theorem Rw.rp {m k : Nat} {d : PyData} (h : Rw m k d) (hk : k ≤ 20) : Rp m d := ⟨h.s, Nat.le_trans (shown_le d) h.l, Nat.le_trans h.d hk⟩
theorem Rw.mono {m k m' k' : Nat} {d : PyData} (h : Rw m k d) (hm : m ≤ m') (hk : k ≤ k') : Rw m' k' d := ⟨h.s, Nat.le_trans h.l hm, Nat.le_trans h.d hk⟩
theorem Rws.mono {m k m' k' : Nat} {d : List PyData} (h : Rws m k d) (hm : m ≤ m') (hk : k ≤ k') : Rws m' k' d := ⟨h.s, Nat.le_trans h.l hm, Nat.le_trans h.d hk⟩
theorem rw_none : Rw 4 0 .none := ⟨by rw [PyData.showable], by rw [wt]; exact Nat.le_refl _, by rw [PyData.depth]; exact Nat.le_refl _⟩
theorem rw_bool (b : Bool) : Rw 5 0 (.bool b) := ⟨by rw [PyData.showable], by rw [wt]; exact Nat.le_refl _, by rw [PyData.depth]; exact Nat.le_refl _⟩
theorem log2_100 {i : Int} (h1 : -100000000000000000000000000 ≤ i) (h2 : i ≤ 100000000000000000000000000) : i.natAbs.log2 < 100 := by
  by_cases z : i.natAbs = 0
  · rw [z]
    decide
  · rw [Nat.log2_lt z]
    have : (2 : Nat) ^ 100 = 1267650600228229401496703205376 := by decide
    omega
theorem rw_int {i : Int} (h1 : -100000000000000000000000000 ≤ i) (h2 : i ≤ 100000000000000000000000000) : Rw 110 0 (.int i) := by
  have h := log2_100 h1 h2
  refine ⟨by rw [PyData.showable]; exact decide_eq_true (by omega), ?_, by rw [PyData.depth]; exact Nat.le_refl _⟩
  rw [wt]
  have := int_text_length_le (k := 100) (by decide) h
  rw [PySem.ofString_length]
  omega
theorem rw_str {x : Str} {n : Nat} (h : (reprText x).length ≤ n) : Rw n 0 (.str x) := ⟨by rw [PyData.showable], by rw [wt]; exact h, by rw [PyData.depth]; exact Nat.le_refl _⟩
theorem rws_nil {k : Nat} : Rws 0 k [] := ⟨by rw [PyData.showableAll], by rw [wtL]; exact Nat.le_refl _, by rw [PyData.depthAll]; exact Nat.zero_le _⟩
theorem rws_cons {a b k : Nat} {d : PyData} {ds : List PyData} (h : Rw a k d) (g : Rws b k ds) : Rws (a + 2 + b) k (d :: ds) :=
  ⟨by rw [PyData.showableAll, h.s, g.s]; rfl, by rw [wtL]; have := h.l; have := g.l; omega, by rw [PyData.depthAll]; exact Nat.max_le.mpr ⟨h.d, g.d⟩⟩
theorem rws_ints {b : Nat} : ∀ {ns : List Int}, (∀ x ∈ ns, -100000000000000000000000000 ≤ x ∧ x ≤ 100000000000000000000000000) → Rws (ns.length * 112) b (ns.map PyData.int)
  | [], _ => by rw [List.map_nil, List.length_nil, Nat.zero_mul]; exact rws_nil
  | x :: r, h => by
    have h1 := h x List.mem_cons_self
    have h2 := rws_cons ((rw_int h1.1 h1.2).mono (Nat.le_refl _) (Nat.zero_le b)) (rws_ints (b := b) (ns := r) fun y hy => h y (List.mem_cons_of_mem _ hy))
    exact h2.mono (by rw [List.length_cons, Nat.succ_mul]; omega) (Nat.le_refl _)
theorem rw_list {m k : Nat} {ds : List PyData} (h : Rws m k ds) : Rw (m + 2) (k + 1) (.list ds) := ⟨by rw [PyData.showable]; exact h.s, by rw [wt]; have := h.l; omega, by rw [PyData.depth]; exact Nat.succ_le_succ h.d⟩
theorem rw_tup {m k : Nat} {ds : List PyData} (h : Rws m k ds) : Rw (m + 3) (k + 1) (.tuple ds) := ⟨by rw [PyData.showable]; exact h.s, by rw [wt]; have := h.l; omega, by rw [PyData.depth]; exact Nat.succ_le_succ h.d⟩
theorem wtL_app : ∀ a b : List PyData, wtL (a ++ b) = wtL a + wtL b
  | [], b => by rw [List.nil_append, wtL, Nat.zero_add]
  | x :: a, b => by
    rw [List.cons_append, wtL, wtL, wtL_app a b]
    omega
theorem showAll_app : ∀ a b : List PyData, PyData.showableAll (a ++ b) = (PyData.showableAll a && PyData.showableAll b)
  | [], b => by rw [List.nil_append, PyData.showableAll, Bool.true_and]
  | x :: a, b => by rw [List.cons_append, PyData.showableAll, PyData.showableAll, showAll_app a b, Bool.and_assoc]
theorem depAll_app : ∀ a b : List PyData, PyData.depthAll (a ++ b) = max (PyData.depthAll a) (PyData.depthAll b)
  | [], b => by rw [List.nil_append, PyData.depthAll, Nat.zero_max]
  | x :: a, b => by
    rw [List.cons_append, PyData.depthAll, PyData.depthAll, depAll_app a b]
    omega
theorem Rws.app {m n k : Nat} {a b : List PyData} (h : Rws m k a) (g : Rws n k b) : Rws (m + n) k (a ++ b) :=
  ⟨by rw [showAll_app, h.s, g.s]; rfl, by rw [wtL_app]; have := h.l; have := g.l; omega, by rw [depAll_app]; exact Nat.max_le.mpr ⟨h.d, g.d⟩⟩
theorem Rws.left {m k : Nat} {a b : List PyData} (h : Rws m k (a ++ b)) : Rws m k a := by
  have h1 := h.s
  have h2 := h.l
  have h3 := h.d
  rw [showAll_app, Bool.and_eq_true] at h1
  rw [wtL_app] at h2
  rw [depAll_app] at h3
  exact ⟨h1.1, by omega, by omega⟩
theorem Rws.right {m k : Nat} {a b : List PyData} (h : Rws m k (a ++ b)) : Rws m k b := by
  have h1 := h.s
  have h2 := h.l
  have h3 := h.d
  rw [showAll_app, Bool.and_eq_true] at h1
  rw [wtL_app] at h2
  rw [depAll_app] at h3
  exact ⟨h1.2, by omega, by omega⟩
theorem Rws.take {m k : Nat} {a : List PyData} (h : Rws m k a) (n : Nat) : Rws m k (a.take n) := Rws.left (b := a.drop n) (by rw [List.take_append_drop]; exact h)
theorem Rws.drop {m k : Nat} {a : List PyData} (h : Rws m k a) (n : Nat) : Rws m k (a.drop n) := Rws.right (a := a.take n) (by rw [List.take_append_drop]; exact h)
theorem Rws.mem {m k : Nat} {x : PyData} : ∀ {a : List PyData}, Rws m k a → x ∈ a → Rw m k x
  | [], _, h => absurd h List.not_mem_nil
  | y :: a, h, hx => by
    have h1 := h.s
    have h2 := h.l
    have h3 := h.d
    rw [PyData.showableAll, Bool.and_eq_true] at h1
    rw [wtL] at h2
    rw [PyData.depthAll] at h3
    rcases List.mem_cons.mp hx with rfl | hx
    · exact ⟨h1.1, by omega, by omega⟩
    · exact Rws.mem (a := a) ⟨h1.2, by omega, by omega⟩ hx
theorem Rw.lst {m k : Nat} {ds : List PyData} (h : Rw m k (.list ds)) : ∃ j, j + 1 = k ∧ Rws m j ds := by
  have h1 := h.s
  have h2 := h.l
  have h3 := h.d
  rw [PyData.showable] at h1
  rw [wt] at h2
  rw [PyData.depth] at h3
  exact ⟨k - 1, by omega, h1, by omega, by omega⟩
theorem Rw.lsts {m k : Nat} {ds : List PyData} (h : Rw m k (.list ds)) : Rws m k ds := by
  obtain ⟨j, e, h⟩ := h.lst
  exact h.mono (Nat.le_refl _) (by omega)
theorem rw_cat {m n k : Nat} {a b : List PyData} (h : Rw m k (.list a)) (g : Rw n k (.list b)) : Rw (m + n) k (.list (a ++ b)) := by
  have h1 := h.s
  have h2 := h.l
  have h3 := h.d
  have g1 := g.s
  have g2 := g.l
  have g3 := g.d
  rw [PyData.showable] at h1 g1
  rw [wt] at h2 g2
  rw [PyData.depth] at h3 g3
  exact ⟨by rw [PyData.showable, showAll_app, h1, g1]; rfl, by rw [wt, wtL_app]; omega, by rw [PyData.depth, depAll_app]; omega⟩
theorem rw_take {m k : Nat} {a : List PyData} (h : Rw m k (.list a)) (n : Nat) : Rw m k (.list (a.take n)) := by
  have h1 := h.s
  have h2 := h.l
  have h3 := h.d
  rw [PyData.showable] at h1
  rw [wt] at h2
  rw [PyData.depth] at h3
  obtain ⟨g1, g2, g3⟩ := Rws.take ⟨h1, Nat.le_refl _, Nat.le_refl _⟩ n
  exact ⟨by rw [PyData.showable]; exact g1, by rw [wt]; omega, by rw [PyData.depth]; omega⟩
theorem rw_drop {m k : Nat} {a : List PyData} (h : Rw m k (.list a)) (n : Nat) : Rw m k (.list (a.drop n)) := by
  have h1 := h.s
  have h2 := h.l
  have h3 := h.d
  rw [PyData.showable] at h1
  rw [wt] at h2
  rw [PyData.depth] at h3
  obtain ⟨g1, g2, g3⟩ := Rws.drop ⟨h1, Nat.le_refl _, Nat.le_refl _⟩ n
  exact ⟨by rw [PyData.showable]; exact g1, by rw [wt]; omega, by rw [PyData.depth]; omega⟩
theorem rw_mem {m k : Nat} {a : List PyData} {x : PyData} (h : Rw m k (.list a)) (hx : x ∈ a) : Rw m k x := h.lsts.mem hx
theorem rw_totup {m k : Nat} {a : List PyData} (h : Rw m k (.list a)) : Rw (m + 1) k (.tuple a) := by
  have h1 := h.s
  have h2 := h.l
  have h3 := h.d
  rw [PyData.showable] at h1
  rw [wt] at h2
  rw [PyData.depth] at h3
  exact ⟨by rw [PyData.showable]; exact h1, by rw [wt]; omega, by rw [PyData.depth]; omega⟩
theorem rw_repl {m k : Nat} {x : PyData} (h : Rw m k x) : ∀ n : Nat, Rws (n * (m + 2)) k (List.replicate n x)
  | 0 => rws_nil.mono (Nat.zero_le _) (Nat.le_refl _)
  | n + 1 => by
    rw [List.replicate_succ]
    exact (rws_cons h (rw_repl h n)).mono (by rw [Nat.succ_mul]; omega) (Nat.le_refl _)
theorem rw_dict1 {m n : Nat} {k v : PyData} (h : Rw m 0 k) (g : Rw n 0 v) : Rw (m + n + 6) 1 (.dict [(k, v)]) :=
  ⟨by rw [PyData.showable, PyData.showableKv, h.s, g.s, PyData.showableKv]; rfl, by rw [wt, wtK, wtK]; have := h.l; have := g.l; omega, by
    rw [PyData.depth, PyData.depthKv, PyData.depthKv]
    have := h.d
    have := g.d
    omega⟩
theorem rw_dict0 : Rw 2 1 (.dict []) := ⟨by rw [PyData.showable, PyData.showableKv], by rw [wt, wtK]; decide, by rw [PyData.depth, PyData.depthKv]; decide⟩
end Fo
namespace Fo
open PySem PySem.Spec PyProof.Rows L2
/-! expressions that make things of any kind: what they are, and how long they are shown -/
/-- what draws numbers, and what stays while it draws -/
structure Src where
  At : Hp → Prop
  Kp : Hp → Hp → Prop
  cut : Hp → Hp
  refl : ∀ H, Kp H H
  trans : ∀ {a b c}, Kp a b → Kp b c → Kp a c
  kp : ∀ {H H'}, Kp H H' → Same (cut H) (cut H')
  le : ∀ H, Same (cut H) H
  same : ∀ {H H'}, At H → Same H H' → At H' ∧ Kp H H'
  put : ∀ {H H1 p} (o : HO), At H → Kp H H1 → At H1 → H p = none → At (upd H1 p o) ∧ Kp H (upd H1 p o) ∧ (cut (upd H1 p o)) p = some o ∧ ∀ b, b ≠ p → cut (upd H1 p o) b = cut H1 b
theorem Src.new (S : Src) {H : Hp} {p : Addr} (o : HO) (h : S.At H) (np : H p = none) : (S.cut (upd H p o)) p = some o := (S.put o h (S.refl H) h np).2.2.1
def Od (S : Src) (m k : Nat) (B : PyData → Prop) (H : Hp) (v : V) : Prop := ∃ d, Dq (S.cut H) v d ∧ Rw m k d ∧ B d
theorem Od.kp {S : Src} {m k : Nat} {B : PyData → Prop} {H H' : Hp} {v : V} (h : Od S m k B H v) (e : S.Kp H H') : Od S m k B H' v := by
  obtain ⟨d, h1, h2, h3⟩ := h
  exact ⟨d, h1.same (S.kp e), h2, h3⟩
theorem Od.mono {S : Src} {m k m' k' : Nat} {B C : PyData → Prop} {H : Hp} {v : V} (h : Od S m k B H v) (hm : m ≤ m') (hk : k ≤ k') (i : ∀ d, B d → C d) : Od S m' k' C H v := by
  obtain ⟨d, h1, h2, h3⟩ := h
  exact ⟨d, h1, h2.mono hm hk, i d h3⟩
abbrev bT : PyData → Prop := fun _ => True
abbrev oL (A : List PyData → Prop) : PyData → Prop := fun d => ∃ ds, d = .list ds ∧ A ds
abbrev oT (A : List PyData → Prop) : PyData → Prop := fun d => ∃ ds, d = .tuple ds ∧ A ds
abbrev oI (A : Int → Prop) : PyData → Prop := fun d => ∃ i, d = .int i ∧ A i
abbrev oS (A : Str → Prop) : PyData → Prop := fun d => ∃ x, d = .str x ∧ A x
def OE (S : Src) (t : TE) (σ : L2.St) (H : Hp) (m k : Nat) (B : PyData → Prop) : Prop := ∀ H1 Q, S.Kp H H1 → S.At H1 → (∀ v H2, S.Kp H1 H2 → S.At H2 → Od S m k B H2 v → Q v H2) → t σ H1 Q
def OA (S : Src) (t : TA) (σ : L2.St) (H : Hp) (m k : Nat) (A : List PyData → Prop) : Prop := ∀ H1 Q, S.Kp H H1 → S.At H1 → (∀ vs H2, S.Kp H1 H2 → S.At H2 → (∃ ds, DqAll (S.cut H2) vs ds ∧ Rws m k ds ∧ A ds) → Q vs H2) → t σ H1 Q
def OO (S : Src) (t : TO) (σ : L2.St) (H : Hp) (P : Option Int → Prop) : Prop := ∀ H1 Q, S.Kp H H1 → S.At H1 → (∀ o H2, S.Kp H1 H2 → S.At H2 → P o → Q o H2) → t σ H1 Q
section
variable {S : Src} {σ : L2.St} {H : Hp} {m k a b : Nat} {B C : PyData → Prop} {t u : TE}
theorem OE.kp (h : OE S t σ H m k B) {H' : Hp} (e : S.Kp H H') : OE S t σ H' m k B := fun H1 Q e1 at1 q => h H1 Q (S.trans e e1) at1 q
theorem OE.mono (h : OE S t σ H m k B) {m' k' : Nat} (hm : m ≤ m') (hk : k ≤ k') (i : ∀ d, B d → C d) : OE S t σ H m' k' C := fun H1 Q e1 at1 q => h H1 Q e1 at1 fun v H2 e2 at2 o => q v H2 e2 at2 (o.mono hm hk i)
theorem OE.imp (h : OE S t σ H m k B) (i : ∀ d, B d → C d) : OE S t σ H m k C := h.mono (Nat.le_refl _) (Nat.le_refl _) i
theorem oe_var {i : Nat} {v : V} (e : σ[i]? = some (some v)) (o : Od S m a B H v) (hk : a ≤ k) : OE S (tVar i) σ H m k B := fun H1 _ e1 at1 q => ⟨v, e, q v H1 (S.refl _) at1 ((o.kp e1).mono (Nat.le_refl _) hk fun _ h => h)⟩
theorem oe_v {i : Nat} {v : V} (e : σ[i]? = some (some v)) (o : Od S m k B H v) : OE S (tVar i) σ H m k B := fun H1 _ e1 at1 q => ⟨v, e, q v H1 (S.refl _) at1 (o.kp e1)⟩
theorem oe_c {v : V} {d : PyData} (h : ∀ G, Dq G v d) (r : Rw m 0 d) : OE S (tC v) σ H m 0 (fun x => x = d) := fun H1 _ _ at1 q => q v H1 (S.refl _) at1 ⟨d, h _, r, rfl⟩
theorem oe_non : OE S (tC .non) σ H 4 0 (fun x => x = .none) := oe_c (fun _ => .non) rw_none
theorem oe_bl (x : Bool) : OE S (tC (.bl x)) σ H 5 0 (fun d => d = .bool x) := oe_c (fun _ => .bl x) (rw_bool x)
theorem oe_int {i : Int} (h : -100000000000000000000000000 ≤ i ∧ i ≤ 100000000000000000000000000) : OE S (tC (.int i)) σ H 110 0 (fun d => d = .int i) := oe_c (fun _ => .int i) (rw_int h.1 h.2)
theorem oe_intI {i : Int} (h : -100000000000000000000000000 ≤ i ∧ i ≤ 100000000000000000000000000) : OE S (tC (.int i)) σ H 110 0 (oI fun j => j = i) := (oe_int h).imp fun _ e => ⟨i, e, rfl⟩
theorem oe_str {x : Str} (n : Nat) (h : (reprText x).length ≤ n) : OE S (tC (.str x)) σ H n 0 (fun d => d = .str x) := oe_c (fun _ => .str x) (rw_str h)
theorem oa_nil : OA S tNil σ H 0 0 (fun ds => ds = []) := fun H1 _ _ at1 q => q [] H1 (S.refl _) at1 ⟨[], .nil, rws_nil, rfl⟩
theorem oa_nilN (C : PyData → Prop) : OA S tNil σ H 0 0 (fun ds => ds.length = 0 ∧ ∀ x ∈ ds, C x) := fun H1 _ _ at1 q => q [] H1 (S.refl _) at1 ⟨[], .nil, rws_nil, rfl, fun _ h => absurd h List.not_mem_nil⟩
theorem oa_cons {r : TA} {k2 : Nat} {A : List PyData → Prop} (h : OE S t σ H a k B) (g : OA S r σ H b k2 A) : OA S (tCons t r) σ H (a + 2 + b) (max k k2) (fun ds => ∃ x y, ds = x :: y ∧ B x ∧ A y) := fun H1 Q e1 at1 q =>
  h H1 _ e1 at1 fun v H2 e2 at2 o => g H2 _ (S.trans e1 e2) at2 fun vs H3 e3 at3 p => by
    obtain ⟨x, h1, h2, h3⟩ := o.kp e3
    obtain ⟨y, g1, g2, g3⟩ := p
    exact q (v :: vs) H3 (S.trans e2 e3) at3 ⟨x :: y, .cons h1 g1, rws_cons (h2.mono (Nat.le_refl _) (Nat.le_max_left _ _)) (g2.mono (Nat.le_refl _) (Nat.le_max_right _ _)), x, y, rfl, h3, g3⟩
theorem oa_consN {r : TA} {n k2 : Nat} {C : PyData → Prop} (h : OE S t σ H a k B) (i : ∀ d, B d → C d) (g : OA S r σ H b k2 (fun ds => ds.length = n ∧ ∀ x ∈ ds, C x)) : OA S (tCons t r) σ H (a + 2 + b) (max k k2) (fun ds => ds.length = n + 1 ∧ ∀ x ∈ ds, C x) := fun H1 Q e1 at1 q =>
  oa_cons h g H1 Q e1 at1 fun vs H2 e2 at2 o => by
    obtain ⟨_, h1, h2, x, y, rfl, h3, h4, h5⟩ := o
    refine q vs H2 e2 at2 ⟨x :: y, h1, h2, by rw [List.length_cons, h4], fun z hz => ?_⟩
    rcases List.mem_cons.mp hz with rfl | hz
    · exact i _ h3
    · exact h5 z hz
theorem wtL_len : ∀ ds : List PyData, ds.length ≤ wtL ds
  | [] => Nat.zero_le _
  | d :: ds => by
    rw [wtL, List.length_cons]
    have := wtL_len ds
    omega
theorem oe_lst {r : TA} {A : List PyData → Prop} (h : OA S r σ H m k A) (hm : m ≤ 16777216) : OE S (tLst r) σ H (m + 2) (k + 1) (oL A) := fun H1 Q e1 at1 q =>
  h H1 _ e1 at1 fun vs H2 e2 at2 o => by
    obtain ⟨ds, h1, h2, h3⟩ := o
    have hl := wtL_len ds
    have := h2.l
    refine ⟨line_small (by rw [h1.len]; omega), fun p np => ?_⟩
    obtain ⟨at3, e3⟩ := S.same at2 (same_new (o := .lst vs) np)
    exact q _ _ (S.trans e2 e3) at3 ⟨.list ds, .lst (S.new _ at2 np) (h1.same (S.kp e3)), rw_list h2, ds, rfl, h3⟩
theorem oe_tup {r : TA} {A : List PyData → Prop} (h : OA S r σ H m k A) (hm : m ≤ 16777216) : OE S (tTup r) σ H (m + 3) (k + 1) (oT A) := fun H1 Q e1 at1 q =>
  h H1 _ e1 at1 fun vs H2 e2 at2 o => by
    obtain ⟨ds, h1, h2, h3⟩ := o
    have hl := wtL_len ds
    have := h2.l
    refine ⟨line_small (by rw [h1.len]; omega), fun p np => ?_⟩
    obtain ⟨at3, e3⟩ := S.same at2 (same_new (o := .tup vs) np)
    exact q _ _ (S.trans e2 e3) at3 ⟨.tuple ds, .tup (S.new _ at2 np) (h1.same (S.kp e3)), rw_tup h2, ds, rfl, h3⟩
theorem dq_lst {G : Hp} {v : V} {ds : List PyData} (h : Dq G v (.list ds)) : ∃ p xs, v = .ref p ∧ G p = some (.lst xs) ∧ DqAll G xs ds := by
  cases h with
  | @lst p xs _ e al => exact ⟨p, xs, rfl, e, al⟩
theorem dq_tupI {G : Hp} {v : V} {ds : List PyData} (h : Dq G v (.tuple ds)) : ∃ p xs, v = .ref p ∧ G p = some (.tup xs) ∧ DqAll G xs ds := by
  cases h with
  | @tup p xs _ e al => exact ⟨p, xs, rfl, e, al⟩
theorem dq_intI {G : Hp} {v : V} {i : Int} (h : Dq G v (.int i)) : v = .int i := by
  cases h with
  | int => rfl
theorem dq_strI {G : Hp} {v : V} {x : Str} (h : Dq G v (.str x)) : v = .str x := by
  cases h with
  | str => rfl
theorem rw_len {ds : List PyData} (h : Rw m k (.list ds)) : ds.length ≤ m := by
  have h2 := h.l
  rw [wt] at h2
  have := wtL_len ds
  omega
theorem oe_cat {k2 : Nat} {A A' : List PyData → Prop} (h : OE S t σ H a k (oL A)) (g : OE S u σ H b k2 (oL A')) (hm : a + b ≤ 16777216) : OE S (tOp rCat t u) σ H (a + b) (max k k2) (oL fun ds => ∃ x y, ds = x ++ y ∧ A x ∧ A' y) := fun H1 Q e1 at1 q =>
  h H1 _ e1 at1 fun v H2 e2 at2 o => g H2 _ (S.trans e1 e2) at2 fun w H3 e3 at3 o' => by
    obtain ⟨_, h1, h2, x, rfl, h3⟩ := o.kp e3
    obtain ⟨_, g1, g2, y, rfl, g3⟩ := o'
    obtain ⟨p, xs, rfl, hp, ax⟩ := dq_lst h1
    obtain ⟨r, ys, rfl, hr, ay⟩ := dq_lst g1
    have l1 := rw_len h2
    have l2 := rw_len g2
    refine ⟨p, r, xs, ys, rfl, rfl, S.le _ _ _ hp, S.le _ _ _ hr, line_small (by rw [ax.len, ay.len]; omega), fun c nc => ?_⟩
    obtain ⟨at4, e4⟩ := S.same at3 (same_new (o := .lst (xs ++ ys)) nc)
    exact q _ _ (S.trans (S.trans e2 e3) e4) at4 ⟨.list (x ++ y), .lst (S.new _ at3 nc) ((ax.app ay).same (S.kp e4)), rw_cat (h2.mono (Nat.le_refl _) (Nat.le_max_left _ _)) (g2.mono (Nat.le_refl _) (Nat.le_max_right _ _)), x ++ y, rfl, x, y, rfl, h3, g3⟩
theorem oe_catN {n1 n2 k2 : Nat} (h : OE S t σ H a k (oL fun ds => ds.length = n1 ∧ ∀ x ∈ ds, C x)) (g : OE S u σ H b k2 (oL fun ds => ds.length = n2 ∧ ∀ x ∈ ds, C x)) (hm : a + b ≤ 16777216) : OE S (tOp rCat t u) σ H (a + b) (max k k2) (oL fun ds => ds.length = n1 + n2 ∧ ∀ x ∈ ds, C x) :=
  (oe_cat h g hm).imp fun d hd => by
    obtain ⟨_, rfl, x, y, rfl, ⟨h1, h2⟩, g1, g2⟩ := hd
    refine ⟨_, rfl, by rw [List.length_append, h1, g1], fun z hz => ?_⟩
    rcases List.mem_append.mp hz with hz | hz
    · exact h2 z hz
    · exact g2 z hz
/-- a slice of anything -/
def cutG {α : Type} (xs : List α) (lo hi : Option Int) : List α := (xs.drop (HT.sIx xs.length 0 lo)).take (HT.sIx xs.length xs.length hi - HT.sIx xs.length 0 lo)
theorem DqAll.cut {G : Hp} {vs : List V} {ds : List PyData} (h : DqAll G vs ds) (lo hi : Option Int) : DqAll G (cutV vs lo hi) (cutG ds lo hi) := by
  unfold cutV cutG
  rw [h.len]
  exact (h.drop _).take _
theorem oo_none : OO S tNoPart σ H (fun o => o = none) := fun H1 _ _ at1 q => q none H1 (S.refl _) at1 rfl
theorem oo_some {A : Int → Prop} (h : OE S t σ H m k (oI A)) : OO S (tPart t) σ H (fun o => ∃ i, o = some i ∧ A i) := fun H1 _ e1 at1 q => h H1 _ e1 at1 fun v H2 e2 at2 o => by
  obtain ⟨_, h1, _, i, rfl, h3⟩ := o
  exact ⟨i, dq_intI h1, q _ _ e2 at2 ⟨i, rfl, h3⟩⟩
theorem oe_sl {K : PySem.W.Frag} {A : List PyData → Prop} {tl th : TO} {P R : Option Int → Prop} (h : OE S t σ H m k (oL A)) (hl : OO S tl σ H P) (hh : OO S th σ H R) : OE S (tSl (rSlL K) t tl th) σ H m k (oL fun ds => ∃ x l u, ds = cutG x l u ∧ A x ∧ P l ∧ R u) := fun H1 Q e1 at1 q =>
  h H1 _ e1 at1 fun v H2 e2 at2 o => hl H2 _ (S.trans e1 e2) at2 fun l H3 e3 at3 pl => hh H3 _ (S.trans e1 (S.trans e2 e3)) at3 fun u H4 e4 at4 pu => by
    obtain ⟨_, h1, h2, x, rfl, h3⟩ := o.kp (S.trans e3 e4)
    obtain ⟨p, xs, rfl, hp, ax⟩ := dq_lst h1
    refine ⟨p, xs, rfl, SqL.of (S.le _ _ _ hp), fun c nc => ?_⟩
    obtain ⟨at5, e5⟩ := S.same at4 (same_new (o := .lst (cutV xs l u)) nc)
    exact q _ _ (S.trans (S.trans (S.trans e2 e3) e4) e5) at5 ⟨.list (cutG x l u), .lst (S.new _ at4 nc) ((ax.cut l u).same (S.kp e5)), rw_take (rw_drop h2 _) _, _, rfl, x, l, u, rfl, h3, pl, pu⟩
theorem oe_add {A A' : Int → Prop} (h : OE S t σ H m a (oI A)) (g : OE S u σ H m b (oI A')) (hb : ∀ i j, A i → A' j → -100000000000000000000000000 ≤ i + j ∧ i + j ≤ 100000000000000000000000000) : OE S (tOp (rI0 fun i j => .int (i + j)) t u) σ H 110 0 (oI fun z => ∃ i j, z = i + j ∧ A i ∧ A' j) := fun H1 Q e1 at1 q =>
  h H1 _ e1 at1 fun v H2 e2 at2 o => g H2 _ (S.trans e1 e2) at2 fun w H3 e3 at3 o' => by
    obtain ⟨_, h1, _, i, rfl, h3⟩ := o.kp e3
    obtain ⟨_, g1, _, j, rfl, g3⟩ := o'
    have hz := hb i j h3 g3
    exact ⟨i, j, dq_intI h1, dq_intI g1, q _ _ (S.trans e2 e3) at3 ⟨.int (i + j), .int _, rw_int hz.1 hz.2, _, rfl, i, j, rfl, h3, g3⟩⟩
theorem oe_sub {A A' : Int → Prop} (h : OE S t σ H m a (oI A)) (g : OE S u σ H m b (oI A')) (hb : ∀ i j, A i → A' j → -100000000000000000000000000 ≤ i - j ∧ i - j ≤ 100000000000000000000000000) : OE S (tOp (rI0 fun i j => .int (i - j)) t u) σ H 110 0 (oI fun z => ∃ i j, z = i - j ∧ A i ∧ A' j) := fun H1 Q e1 at1 q =>
  h H1 _ e1 at1 fun v H2 e2 at2 o => g H2 _ (S.trans e1 e2) at2 fun w H3 e3 at3 o' => by
    obtain ⟨_, h1, _, i, rfl, h3⟩ := o.kp e3
    obtain ⟨_, g1, _, j, rfl, g3⟩ := o'
    have hz := hb i j h3 g3
    exact ⟨i, j, dq_intI h1, dq_intI g1, q _ _ (S.trans e2 e3) at3 ⟨.int (i - j), .int _, rw_int hz.1 hz.2, _, rfl, i, j, rfl, h3, g3⟩⟩
theorem oe_neg {A : Int → Prop} (h : OE S t σ H m a (oI A)) (hb : ∀ i, A i → -100000000000000000000000000 ≤ -i ∧ -i ≤ 100000000000000000000000000) : OE S (tUn (rU fun i => .int (-i)) t) σ H 110 0 (oI fun z => ∃ i, z = -i ∧ A i) := fun H1 Q e1 at1 q =>
  h H1 _ e1 at1 fun v H2 e2 at2 o => by
    obtain ⟨_, h1, _, i, rfl, h3⟩ := o
    have hz := hb i h3
    exact ⟨i, dq_intI h1, q _ _ e2 at2 ⟨.int (-i), .int _, rw_int hz.1 hz.2, _, rfl, i, rfl, h3⟩⟩
theorem oe_pow {i j : Int} (hc : CPow i j) (hb : -100000000000000000000000000 ≤ i ^ j.toNat ∧ i ^ j.toNat ≤ 100000000000000000000000000) : OE S (tOp (rI CPow fun i j => .int (i ^ j.toNat)) (tC (.int i)) (tC (.int j))) σ H 110 0 (oI fun z => z = i ^ j.toNat) := fun H1 Q e1 at1 q =>
  ⟨i, j, rfl, rfl, hc, q _ _ (S.refl _) at1 ⟨.int (i ^ j.toNat), .int _, rw_int hb.1 hb.2, _, rfl, rfl⟩⟩
theorem oe_ix {K : PySem.W.Frag} {n : Nat} {A : Int → Prop} (h : OE S t σ H m k (oL fun ds => ds.length = n ∧ ∀ x ∈ ds, B x)) (g : OE S u σ H a b (oI A)) (hi : ∀ i, A i → 0 ≤ i ∧ i < (n : Int)) : OE S (tOp (rIxL K) t u) σ H m k B := fun H1 Q e1 at1 q =>
  h H1 _ e1 at1 fun v H2 e2 at2 o => g H2 _ (S.trans e1 e2) at2 fun w H3 e3 at3 o' => by
    obtain ⟨_, h1, h2, x, rfl, h3, h4⟩ := o.kp e3
    obtain ⟨_, g1, _, i, rfl, gi⟩ := o'
    obtain ⟨i0, i1⟩ := hi i gi
    obtain ⟨p, xs, rfl, hp, ax⟩ := dq_lst h1
    have hl := ax.len
    have hi : i.toNat < xs.length := by omega
    have ev : xs[i.toNat]? = some xs[i.toNat] := List.getElem?_eq_getElem hi
    obtain ⟨d, ed, hd⟩ := ax.get ev
    have md := List.mem_of_getElem? ed
    refine ⟨p, xs, i, xs[i.toNat], rfl, dq_intI g1, SqL.of (S.le _ _ _ hp), at_of (j := i.toNat) (Int.toNat_of_nonneg i0).symm ev, ?_⟩
    exact q _ _ (S.trans e2 e3) at3 ⟨d, hd, rw_mem h2 md, h4 d md⟩
theorem oe_ixI {K : PySem.W.Frag} {ns : List Int} {A : Int → Prop} (h : OE S t σ H m k (oL fun ds => ds = ns.map PyData.int)) (g : OE S u σ H a b (oI A)) (hi : ∀ i, A i → 0 ≤ i ∧ i < (ns.length : Int)) : OE S (tOp (rIxL K) t u) σ H m k (oI fun z => z ∈ ns) :=
  oe_ix (n := ns.length) (h.imp fun d hd => by obtain ⟨ds, rfl, rfl⟩ := hd; exact ⟨_, rfl, List.length_map _, fun x hx => by obtain ⟨y, hy, rfl⟩ := List.mem_map.mp hx; exact ⟨y, rfl, hy⟩⟩) g hi
theorem oe_lenI {K : PySem.W.Frag} {ns : List Int} (h : OE S t σ H m a (oL fun ds => ds = ns.map PyData.int)) (hn : ns.length ≤ 10000) : OE S (tCB (rLenS K) (tCons t tNil)) σ H 110 0 (oI fun z => z = (ns.length : Int)) := fun H1 Q e1 at1 q =>
  h H1 _ e1 at1 fun v H2 e2 at2 o => by
    obtain ⟨_, h1, h2, x, rfl, rfl⟩ := o
    obtain ⟨p, xs, rfl, hp, ax⟩ := dq_lst h1
    refine ⟨p, xs, rfl, .inl (SqL.of (S.le _ _ _ hp)), ?_⟩
    rw [ax.len, List.length_map]
    exact q _ _ e2 at2 ⟨.int (ns.length : Int), .int _, rw_int (by omega) (by omega), _, rfl, rfl⟩
theorem od_isI {i : Int} (h : Od S m k B H (.int i)) : Od S m k (oI fun j => j = i) H (.int i) := by
  obtain ⟨d, h1, h2, _⟩ := h
  cases h1 with
  | int => exact ⟨_, .int i, h2, i, rfl, rfl⟩
theorem oe_len {K : PySem.W.Frag} {A : List PyData → Prop} (h : OE S t σ H m a (oL A)) (hm : m ≤ 16777216) : OE S (tCB (rLenS K) (tCons t tNil)) σ H 110 0 (oI fun z => ∃ ds : List PyData, z = ds.length ∧ A ds ∧ ds.length ≤ m) := fun H1 Q e1 at1 q =>
  h H1 _ e1 at1 fun v H2 e2 at2 o => by
    obtain ⟨_, h1, h2, x, rfl, h3⟩ := o
    obtain ⟨p, xs, rfl, hp, ax⟩ := dq_lst h1
    have hl := rw_len h2
    refine ⟨p, xs, rfl, .inl (SqL.of (S.le _ _ _ hp)), ?_⟩
    rw [ax.len]
    exact q _ _ e2 at2 ⟨.int (x.length : Int), .int _, rw_int (by omega) (by omega), _, rfl, x, rfl, h3, hl⟩
theorem oe_tupOf {K : PySem.W.Frag} {A : List PyData → Prop} (h : OE S t σ H m k (oL A)) : OE S (tCB (fun xs H Q => ∃ p ys, xs = [.ref p] ∧ ((SqL K H p ys ∧ ∀ l, H l = none → Q (.ref l) (upd H l (.tup ys))) ∨ (SqT K H p ys ∧ Q (.ref p) H))) (tCons t tNil)) σ H (m + 1) k (oT A) := fun H1 Q e1 at1 q =>
  h H1 _ e1 at1 fun v H2 e2 at2 o => by
    obtain ⟨_, h1, h2, x, rfl, h3⟩ := o
    obtain ⟨p, xs, rfl, hp, ax⟩ := dq_lst h1
    refine ⟨p, xs, rfl, .inl ⟨SqL.of (S.le _ _ _ hp), fun c nc => ?_⟩⟩
    obtain ⟨at3, e3⟩ := S.same at2 (same_new (o := .tup xs) nc)
    exact q _ _ (S.trans e2 e3) at3 ⟨.tuple x, .tup (S.new _ at2 nc) (ax.same (S.kp e3)), rw_totup h2, x, rfl, h3⟩
theorem oe_listOf {K : PySem.W.Frag} {A : List PyData → Prop} (h : OE S t σ H m k (oL A)) : OE S (tCB (fun xs H Q => ∃ p ys, xs = [.ref p] ∧ (SqL K H p ys ∨ SqT K H p ys) ∧ ∀ l, H l = none → Q (.ref l) (upd H l (.lst ys))) (tCons t tNil)) σ H m k (oL A) := fun H1 Q e1 at1 q =>
  h H1 _ e1 at1 fun v H2 e2 at2 o => by
    obtain ⟨_, h1, h2, x, rfl, h3⟩ := o
    obtain ⟨p, xs, rfl, hp, ax⟩ := dq_lst h1
    refine ⟨p, xs, rfl, .inl (SqL.of (S.le _ _ _ hp)), fun c nc => ?_⟩
    obtain ⟨at3, e3⟩ := S.same at2 (same_new (o := .lst xs) nc)
    exact q _ _ (S.trans e2 e3) at3 ⟨.list x, .lst (S.new _ at2 nc) (ax.same (S.kp e3)), h2, x, rfl, h3⟩
theorem flat_rep {α : Type} (x : α) : ∀ n : Nat, (List.replicate n [x]).flatten = List.replicate n x
  | 0 => rfl
  | n + 1 => by
    rw [List.replicate_succ, List.flatten_cons, flat_rep x n]
    rfl
theorem DqAll.repl {G : Hp} {v : V} {d : PyData} (h : Dq G v d) : ∀ n : Nat, DqAll G (List.replicate n v) (List.replicate n d)
  | 0 => .nil
  | n + 1 => by
    rw [List.replicate_succ, List.replicate_succ]
    exact .cons h (DqAll.repl h n)
/-- [x] * n -/
theorem oe_rep1 {n : Nat} (h : OE S t σ H m k B) (hn : n ≤ 1000) (hm : m ≤ 10000) : OE S (tOp rRep (tLst (tCons t tNil)) (tC (.int (n : Int)))) σ H (n * (m + 2) + 2) (k + 1) (oL fun ds => ∃ x, ds = List.replicate n x ∧ B x) := fun H1 Q e1 at1 q =>
  oe_lst (oa_cons h oa_nil) (by omega) H1 _ e1 at1 fun v H2 e2 at2 o => by
    rw [Nat.max_eq_left (Nat.zero_le k)] at o
    obtain ⟨_, h1, h2, _, rfl, x, _, rfl, h3, rfl⟩ := o
    obtain ⟨p, xs, rfl, hp, ax⟩ := dq_lst h1
    cases ax with
    | @cons v _ _ _ hv an =>
      cases an
      refine ⟨p, (n : Int), [v], rfl, rfl, S.le _ _ _ hp, by omega, by omega, line_small (by rw [Int.toNat_natCast]; show 1 * n ≤ _; omega), fun c nc => ?_⟩
      rw [Int.toNat_natCast, flat_rep]
      obtain ⟨at3, e3⟩ := S.same at2 (same_new (o := .lst (List.replicate n v)) nc)
      obtain ⟨j, ej, h4⟩ := h2.lst
      have h5 := rw_repl (h4.mem List.mem_cons_self) n
      refine q _ _ (S.trans e2 e3) at3 ⟨.list (List.replicate n x), .lst (S.new _ at2 nc) ((DqAll.repl hv n).same (S.kp e3)), ?_, _, rfl, x, rfl, h3⟩
      have h6 : Rw m k x := by
        have s1 := h4.s
        have s2 := h4.l
        have s3 := h4.d
        have t2 := h2.l
        have t3 := h2.d
        rw [PyData.showableAll, Bool.and_eq_true] at s1
        rw [wt, wtL, wtL] at t2
        rw [PyData.depth, PyData.depthAll] at t3
        exact ⟨s1.1, by omega, by omega⟩
      exact rw_list (rw_repl h6 n)
theorem oe_d0 : OE S (fun _ H1 Q => ∀ d, H1 d = none → Q (.ref d) (upd H1 d (.dK []))) σ H 2 1 (fun d => d = .dict []) := fun H1 Q e1 at1 q => fun c nc => by
  obtain ⟨at3, e3⟩ := S.same at1 (same_new (o := .dK []) nc)
  exact q _ _ e3 at3 ⟨.dict [], .dic (S.new _ at1 nc) .nil, rw_dict0, rfl⟩
/-! statements -/
theorem os_set {i : Nat} {v : TS} {D : Ends} (at1 : S.At H) (h : OE S t σ H m k B) (q : ∀ x H', S.Kp H H' → S.At H' → Od S m k B H' x → v D (σ.set i (some x)) H') : tSeq (tAsg t (gName i)) v D σ H := h H _ (S.refl _) at1 q
theorem os_ret {D : Ends} (at1 : S.At H) (h : OE S t σ H m k B) (q : ∀ x H', S.Kp H H' → S.At H' → Od S m k B H' x → D.rt x H') : tRet t D σ H := h H _ (S.refl _) at1 q
end
end Fo
namespace Fo
open PySem PySem.Spec PyProof.Rows L2
/-! comprehensions whose values are flat; ranges; the store as a source -/
def flatD : PyData → Bool
  | .none => true
  | .bool _ => true
  | .int _ => true
  | .str _ => true
  | _ => false
theorem dq_flat {G G' : Hp} {v : V} {d : PyData} (h : Dq G v d) (f : flatD d = true) : Dq G' v d := by
  cases h with
  | non => exact .non
  | bl b => exact .bl b
  | int i => exact .int i
  | str x => exact .str x
  | _ => cases f
theorem dqAll_flat {G G' : Hp} : ∀ {vs : List V} {ds : List PyData}, DqAll G vs ds → (∀ d ∈ ds, flatD d = true) → DqAll G' vs ds
  | _, [], h, _ => by cases h; exact .nil
  | _, d :: ds, h, f => by
    cases h with
    | cons h1 h2 => exact .cons (dq_flat h1 (f d List.mem_cons_self)) (dqAll_flat h2 fun x hx => f x (List.mem_cons_of_mem _ hx))
/-- two lists, one by one -/
inductive Two2 {α β : Type} (R : α → β → Prop) : List α → List β → Prop
  | nil : Two2 R [] []
  | snoc {xs : List α} {ys : List β} {x : α} {y : β} : Two2 R xs ys → R x y → Two2 R (xs ++ [x]) (ys ++ [y])
theorem Two2.len {α β : Type} {R : α → β → Prop} {xs : List α} {ys : List β} (h : Two2 R xs ys) : xs.length = ys.length := by
  induction h with
  | nil => rfl
  | snoc _ _ ih => rw [List.length_append, List.length_append, ih]; rfl
theorem Two2.memR {α β : Type} {R : α → β → Prop} {xs : List α} {ys : List β} (h : Two2 R xs ys) : ∀ y ∈ ys, ∃ x ∈ xs, R x y := by
  induction h with
  | nil => exact fun _ h => absurd h List.not_mem_nil
  | snoc h r ih =>
    intro y hy
    rcases List.mem_append.mp hy with hy | hy
    · obtain ⟨x, hx, hr⟩ := ih y hy
      exact ⟨x, List.mem_append_left _ hx, hr⟩
    · rw [List.mem_singleton.mp hy]
      exact ⟨_, List.mem_append_right _ List.mem_cons_self, r⟩
theorem Two2.memL {α β : Type} {R : α → β → Prop} {xs : List α} {ys : List β} (h : Two2 R xs ys) : ∀ x ∈ xs, ∃ y ∈ ys, R x y := by
  induction h with
  | nil => exact fun _ h => absurd h List.not_mem_nil
  | snoc h r ih =>
    intro x hx
    rcases List.mem_append.mp hx with hx | hx
    · obtain ⟨y, hy, hr⟩ := ih x hx
      exact ⟨y, List.mem_append_left _ hy, hr⟩
    · rw [List.mem_singleton.mp hx]
      exact ⟨_, List.mem_append_right _ List.mem_cons_self, r⟩
theorem rws_snoc {a b k : Nat} {d : PyData} {ds : List PyData} (g : Rws b k ds) (h : Rw a k d) : Rws (b + (a + 2)) k (ds ++ [d]) := (g.app (rws_cons h rws_nil)).mono (by omega) (Nat.le_refl _)
theorem DqAll.snoc {G : Hp} {vs : List V} {ds : List PyData} {v : V} {d : PyData} (h : DqAll G vs ds) (g : Dq G v d) : DqAll G (vs ++ [v]) (ds ++ [d]) := h.app (.cons g .nil)
section
variable {S : Src} {σ : L2.St} {H : Hp} {m k a b : Nat} {B C : PyData → Prop} {t u : TE}
theorem oe_lcF {K : PySem.W.Frag} {j : Nat} {vs : List Nat} {A : List PyData → Prop} {R : PyData → PyData → Prop} {me ke n : Nat} {te : TE} (h : OE S t σ H m a (oL A)) (hn : ∀ ds, A ds → ds.length ≤ n) (hz : n * (me + 2) ≤ 16777216)
    (hw : ∀ x : V, wipe ((wipe σ vs).set j (some x)) vs = wipe σ vs) (he : ∀ ds x v H', A ds → x ∈ ds → S.Kp H H' → S.At H' → Dq (S.cut H') v x → OE S te ((wipe σ vs).set j (some v)) H' me ke (R x)) (hf : ∀ x y, R x y → flatD y = true) :
    OE S (tLc (iList K t) (gName j) tYes te vs) σ H (n * (me + 2) + 2) (ke + 1) (oL fun ys => ∃ xs, A xs ∧ Two2 R xs ys) := fun H1 Q e1 at1 q =>
  h H1 _ e1 at1 fun v H2 e2 at2 o => by
    obtain ⟨_, h1, h2, ds, rfl, h3⟩ := o
    obtain ⟨p, xs, rfl, hp, ax⟩ := dq_lst h1
    refine ⟨p, rfl, ⟨xs, SqL.of (S.le _ _ _ hp)⟩, fun D nD => ?_⟩
    have hD0 := S.put (.lst []) at2 (S.refl _) at2 nD
    have hpD : p ≠ D := fun z => by rw [z] at hp; have := S.le _ _ _ hp; rw [nD] at this; cases this
    refine lc_list (K := K) (a := p) (xs := xs) (fun i H3 => ∃ acc ys, H3 D = some (.lst acc) ∧ S.cut H3 D = some (.lst acc) ∧ acc.length = i ∧ DqAll H3 acc ys ∧ (∀ d ∈ ys, flatD d = true) ∧ Rws (i * (me + 2)) ke ys ∧ Two2 R (ds.take i) ys ∧ S.Kp H2 H3 ∧ S.At H3)
      ⟨[], [], upd_same, hD0.2.2.1, rfl, .nil, fun _ h => absurd h List.not_mem_nil, rws_nil.mono (Nat.zero_le _) (Nat.le_refl _), by rw [List.take_zero]; exact .nil, hD0.2.1, hD0.1⟩
      (fun i H3 _ hP => by obtain ⟨_, _, _, _, _, _, _, _, _, k3, _⟩ := hP; exact SqL.of (S.le _ _ _ (S.kp k3 _ _ hp))) (fun i x H3 hx hP => ?_) (fun H3 hP => ?_)
    · obtain ⟨acc, ys, hD, hcD, la, ay, fy, ry, ty, k3, at3⟩ := hP
      obtain ⟨d, ed, hd⟩ := (ax.same (S.kp k3)).get hx
      have hi := (List.getElem?_eq_some_iff.mp ed).1
      have hin := hn ds h3
      refine ⟨hw x, ?_⟩
      refine (he ds d x H3 h3 (List.mem_of_getElem? ed) (S.trans e1 (S.trans e2 k3)) at3 hd) H3 _ (S.refl _) at3 fun y H4 k4 at4 o4 => ?_
      obtain ⟨z, hz4, rz, bz⟩ := o4
      have hD4 : H4 D = some (.lst acc) := S.le _ _ _ (S.kp k4 _ _ hcD)
      have pD := S.put (.lst (acc ++ [y])) at2 (S.trans k3 k4) at4 nD
      refine ⟨acc, hD4, line_small (by
        have : i * 2 ≤ 16777216 := by
          have a1 : i * (me + 2) ≤ n * (me + 2) := Nat.mul_le_mul_right _ (by omega)
          have a2 : i * 2 ≤ i * (me + 2) := Nat.mul_le_mul_left _ (by omega)
          omega
        omega), acc ++ [y], ys ++ [z], upd_same, pD.2.2.1, by rw [List.length_append, la]; rfl, (dqAll_flat ay fy).snoc (dq_flat hz4 (hf _ _ bz)), fun w hw => ?_, ?_, ?_, pD.2.1, pD.1⟩
      · rcases List.mem_append.mp hw with hw | hw
        · exact fy w hw
        · rw [List.mem_singleton.mp hw]
          exact hf _ _ bz
      · rw [Nat.succ_mul]
        exact rws_snoc ry rz
      · rw [List.take_add_one, ed]
        exact ty.snoc bz
    · obtain ⟨acc, ys, hD, hcD, la, ay, fy, ry, ty, k3, at3⟩ := hP
      rw [ax.len, List.take_length] at ty
      have hin := hn ds h3
      exact q _ _ (S.trans e2 k3) at3 ⟨.list ys, .lst hcD (dqAll_flat ay fy), rw_list (ry.mono (Nat.mul_le_mul_right _ (by rw [ax.len]; exact hin)) (Nat.le_refl _)), ys, rfl, ds, h3, ty⟩
theorem od_int {A : Int → Prop} {v : V} (h : Od S m k (oI A) H v) : ∃ i, v = .int i ∧ A i := by
  obtain ⟨_, h1, _, i, rfl, h3⟩ := h
  exact ⟨i, dq_intI h1, h3⟩
theorem od_of_int {i : Int} {A : Int → Prop} (h : -100000000000000000000000000 ≤ i ∧ i ≤ 100000000000000000000000000) (g : A i) : Od S 110 0 (oI A) H (.int i) := ⟨.int i, .int i, rw_int h.1 h.2, i, rfl, g⟩
theorem dqAll_intsG {G : Hp} : ∀ {ns : List Int}, DqAll G (ns.map V.int) (ns.map PyData.int)
  | [] => .nil
  | n :: r => .cons (.int n) dqAll_intsG
theorem od_ints {a : Addr} {ns : List Int} {n : Nat} (h : S.cut H a = some (.lst (ns.map V.int))) (hb : ∀ x ∈ ns, -100000000000000000000000000 ≤ x ∧ x ≤ 100000000000000000000000000) (hn : ns.length ≤ n) : Od S (n * 112 + 2) 1 (oL fun ds => ds = ns.map PyData.int) H (.ref a) :=
  ⟨.list (ns.map PyData.int), .lst h dqAll_intsG, rw_list ((rws_ints hb).mono (Nat.mul_le_mul_right _ hn) (Nat.le_refl 0)), _, rfl, rfl⟩
theorem od_str {x : Str} {A : Str → Prop} {n : Nat} (h : (reprText x).length ≤ n) (g : A x) : Od S n 0 (oS A) H (.str x) := ⟨.str x, .str x, rw_str h, x, rfl, g⟩
end
end Fo
namespace Fo
open PySem PySem.Spec PyProof.Rows L2
/-! short texts -/
structure TxOk (m : Nat) (x : Str) : Prop where
  l : x.length ≤ m
  c : ∀ c ∈ x.cps.toList, c < 16 ^ 8
theorem TxOk.app {m n : Nat} {x y : Str} (a : TxOk m x) (b : TxOk n y) : TxOk (m + n) (x ++ y) := by
  refine ⟨?_, fun c hc => ?_⟩
  · rw [strLen_append]
    have := a.l
    have := b.l
    omega
  · have e : (x ++ y).cps.toList = x.cps.toList ++ y.cps.toList := by
      show (x.cps ++ y.cps).toList = _
      simp
    rw [e] at hc
    rcases List.mem_append.mp hc with h | h
    · exact a.c c h
    · exact b.c c h
theorem TxOk.cut {m : Nat} {x : Str} (a : TxOk m x) (lo hi : Option Int) : TxOk m (cutS x lo hi) := by
  refine ⟨?_, fun c hc => ?_⟩
  · have := a.l
    show (((x.cps.toList.drop _).take _).toArray).size ≤ m
    rw [List.size_toArray, List.length_take, List.length_drop, Array.length_toList]
    have e : x.length = x.cps.size := rfl
    omega
  · have hc : c ∈ (x.cps.toList.drop _).take _ := hc
    exact a.c c (List.mem_of_mem_drop (List.mem_of_mem_take hc))
theorem TxOk.mono {m n : Nat} {x : Str} (a : TxOk m x) (h : m ≤ n) : TxOk n x := ⟨Nat.le_trans a.l h, a.c⟩
theorem TxOk.rw {m : Nat} {x : Str} (a : TxOk m x) : Rw (10 * m + 2) 0 (.str x) := rw_str (by
  have h1 := StrLaws.reprText_len x a.c
  have h2 := a.l
  omega)
theorem tx_one {c : Nat} (h : c < 16 ^ 8) : TxOk 1 ⟨#[c]⟩ := ⟨Nat.le_refl _, fun d hd => by
  have : d = c := List.mem_singleton.mp hd
  rw [this]
  exact h⟩
theorem at_memG {α : Type} {xs : List α} {i : Int} (h0 : 0 ≤ i) (h1 : i < (xs.length : Int)) : ∃ v, atI xs i = some v ∧ v ∈ xs := by
  have hl : i.toNat < xs.length := by omega
  refine ⟨xs[i.toNat], ?_, List.getElem_mem hl⟩
  unfold atI ixN
  rw [if_pos h0, if_pos h1]
  exact List.getElem?_eq_getElem hl
abbrev oX (m : Nat) (A : Str → Prop) : PyData → Prop := oS fun x => TxOk m x ∧ A x
section
variable {S : Src} {σ : L2.St} {H : Hp} {m n k a b : Nat} {t u : TE} {A A' : Str → Prop}
theorem oe_tx {x : Str} (n : Nat) (h : TxOk n x) : OE S (tC (.str x)) σ H (10 * n + 2) 0 (oX n fun y => y = x) := (oe_c (fun _ => .str x) h.rw).imp fun _ e => ⟨x, e, h, rfl⟩
theorem od_tx {v : V} (h : Od S a k (oX m A) H v) : ∃ x, v = .str x ∧ TxOk m x ∧ A x := by
  obtain ⟨_, h1, _, x, rfl, h3⟩ := h
  exact ⟨x, dq_strI h1, h3⟩
theorem od_of_tx {x : Str} (h : TxOk m x) (g : A x) : Od S (10 * m + 2) 0 (oX m A) H (.str x) := ⟨.str x, .str x, h.rw, x, rfl, h, g⟩
theorem oe_catS (h : OE S t σ H a k (oX m A)) (g : OE S u σ H b k (oX n A')) (hm : m + n ≤ 16777216) : OE S (tOp (fun x y H Q => ∃ i j, x = .str i ∧ y = .str j ∧ i.length + j.length ≤ sizeLine ∧ Q (.str (i ++ j)) H) t u) σ H (10 * (m + n) + 2) 0 (oX (m + n) fun z => ∃ x y, z = x ++ y ∧ A x ∧ A' y) := fun H1 Q e1 at1 q =>
  h H1 _ e1 at1 fun v H2 e2 at2 o => g H2 _ (S.trans e1 e2) at2 fun w H3 e3 at3 o' => by
    obtain ⟨x, rfl, x1, x2⟩ := od_tx o
    obtain ⟨y, rfl, y1, y2⟩ := od_tx o'
    have l1 := x1.l
    have l2 := y1.l
    exact ⟨x, y, rfl, rfl, line_small (by omega), q _ _ (S.trans e2 e3) at3 (od_of_tx (x1.app y1) ⟨x, y, rfl, x2, y2⟩)⟩
theorem oe_slS {tl th : TO} {P R : Option Int → Prop} (h : OE S t σ H a k (oX m A)) (hl : OO S tl σ H P) (hh : OO S th σ H R) (hm : m ≤ 16777216) : OE S (tSl rSlS t tl th) σ H (10 * m + 2) 0 (oX m fun z => ∃ x l u, z = cutS x l u ∧ A x ∧ P l ∧ R u) := fun H1 Q e1 at1 q =>
  h H1 _ e1 at1 fun v H2 e2 at2 o => hl H2 _ (S.trans e1 e2) at2 fun l H3 e3 at3 pl => hh H3 _ (S.trans e1 (S.trans e2 e3)) at3 fun u H4 e4 at4 pu => by
    obtain ⟨x, rfl, x1, x2⟩ := od_tx o
    have l1 := x1.l
    exact ⟨x, rfl, line_small (by omega), q _ _ (S.trans (S.trans e2 e3) e4) at4 (od_of_tx (x1.cut l u) ⟨x, l, u, rfl, x2, pl, pu⟩)⟩
theorem oe_ixS {z : Str} {B : Int → Prop} (hl : z.length = n) (hz : n ≤ 16777216) (hc : ∀ c ∈ z.cps.toList, c < 16 ^ 8) (g : OE S u σ H a b (oI B)) (hi : ∀ i, B i → 0 ≤ i ∧ i < (n : Int)) : OE S (tOp rIxS (tC (.str z)) u) σ H 12 0 (oX 1 fun y => ∃ c ∈ z.cps.toList, y = ⟨#[c]⟩) := fun H1 Q e1 at1 q =>
  g H1 _ e1 at1 fun w H3 e3 at3 o' => by
    obtain ⟨i, rfl, gi⟩ := od_int o'
    obtain ⟨i0, i1⟩ := hi i gi
    obtain ⟨c, ec, mc⟩ := at_memG (xs := z.cps.toList) i0 (by rw [Array.length_toList]; show i < ((z.length : Nat) : Int); rw [hl]; exact i1)
    exact ⟨z, i, c, rfl, rfl, line_small (by rw [hl]; exact hz), ec, q _ _ e3 at3 ((od_of_tx (tx_one (hc c mc)) ⟨c, mc, rfl⟩))⟩
theorem oe_upper (h : OE S t σ H a b (oX m A)) (hm : m ≤ 5592405) (hu : ∀ x, A x → TxOk n (Txt.upper x)) : OE S (tM0 (fun x xs H Q => ∃ a, x = .str a ∧ xs = [] ∧ a.length ≤ 5592405 ∧ Q (.str (Txt.upper a)) H) t) σ H (10 * n + 2) 0 (oX n fun z => ∃ x, z = Txt.upper x ∧ A x) := fun H1 Q e1 at1 q =>
  h H1 _ e1 at1 fun v H2 e2 at2 o => by
    obtain ⟨x, rfl, x1, x2⟩ := od_tx o
    have l1 := x1.l
    exact ⟨⟨x, rfl⟩, x, rfl, rfl, by omega, q _ _ e2 at2 (od_of_tx (hu x x2) ⟨x, rfl, x2⟩)⟩
theorem oe_lenS (h : OE S t σ H a b (oX m A)) (hm : m ≤ 16777216) : OE S (tCB (fun xs H Q => ∃ z, xs = [.str z] ∧ z.length ≤ sizeLine ∧ Q (.int z.length) H) (tCons t tNil)) σ H 110 0 (oI fun i => ∃ x : Str, i = (x.length : Int) ∧ A x) := fun H1 Q e1 at1 q =>
  h H1 _ e1 at1 fun v H2 e2 at2 o => by
    obtain ⟨x, rfl, x1, x2⟩ := od_tx o
    have l1 := x1.l
    exact ⟨x, rfl, line_small (by omega), q _ _ e2 at2 (od_of_int ⟨by omega, by omega⟩ ⟨x, rfl, x2⟩)⟩
/-- {text: number} -/
theorem oe_d1 {i : Nat} {z : Str} {y : Int} (e : σ[i]? = some (some (.str z))) (h : TxOk m z) (hy : -100 ≤ y ∧ y ≤ 100) : OE S (tDisp [(tVar i, tC (.int y))]) σ H (10 * m + 2 + 110 + 6) 1 (fun d => d = .dict [(.str z, .int y)]) := fun H1 Q e1 at1 q => fun p np => by
  refine ⟨_, e, upd_same, [(.inr z, .int y)], rfl, (by show 1 ≤ 15; decide), ?_⟩
  have p1 := S.put (.dK []) at1 (S.refl _) at1 np
  have p2 := S.put (.dK (mergeK [] [(.inr z, .int y)])) at1 p1.2.1 p1.1 np
  exact q _ _ p2.2.1 p2.1 ⟨.dict [(.str z, .int y)], .dic p2.2.2.1 (.cons .nil), rw_dict1 (m := 10 * m + 2) (n := 110) h.rw (rw_int (i := y) (by omega) (by omega)), rfl⟩
/-- list(range(n)) -/
theorem oe_lrg {n : Nat} (hn : n ≤ 1000) (h : OE S t σ H a b (oI fun i => i = (n : Int))) : OE S (tLstRg (tRg1 t)) σ H (n * 112 + 2) 1 (oL fun ds => ds = (rg n).map PyData.int) := fun H1 Q e1 at1 q =>
  h H1 _ e1 at1 fun v H2 e2 at2 o => by
    obtain ⟨i, rfl, rfl⟩ := od_int o
    refine ⟨_, rfl, ⟨by omega, by omega, by omega, by omega, by omega⟩, fun p np => ?_⟩
    obtain ⟨at3, e3⟩ := S.same at2 (same_new (o := .lst (rgV 0 (n : Int))) np)
    have hb : ∀ x ∈ rg n, -100000000000000000000000000 ≤ x ∧ x ≤ 100000000000000000000000000 := fun x hx => by
      have := rg_mem.mp hx
      omega
    refine q _ _ (S.trans e2 e3) at3 ⟨.list ((rg n).map PyData.int), .lst (by rw [S.new _ at2 np, rg_V]) dqAll_intsG, ?_, _, rfl, rfl⟩
    exact (rw_list (rws_ints (b := 0) hb)).mono (by rw [rg_len]; exact Nat.le_refl _) (Nat.le_refl _)
end
end Fo
namespace Fo
open PySem PySem.Spec PyProof.Rows L2
theorem oe_strI {S : Src} {σ : L2.St} {H : Hp} {m a : Nat} {t : TE} {A : Int → Prop} (h : OE S t σ H m a (oI A)) (hb : ∀ i, A i → -100000000000000000000000000 ≤ i ∧ i ≤ 100000000000000000000000000) : OE S (tCB (fun xs H Q => ∃ i, xs = [.int i] ∧ i.natAbs.log2 < 1920 ∧ Q (.str (toString i)) H) (tCons t tNil)) σ H 1102 0 (oX 110 fun x => ∃ i : Int, x = toString i ∧ A i) := fun H1 Q e1 at1 q =>
  h H1 _ e1 at1 fun v H2 e2 at2 o => by
    obtain ⟨i, rfl, hi⟩ := od_int o
    obtain ⟨b1, b2⟩ := hb i hi
    have hl := log2_100 b1 b2
    have ht : TxOk 110 (Str.ofString (toString i)) := ⟨by
      have := int_text_length_le (k := 100) (by decide) hl
      rw [PySem.ofString_length]
      omega, fun c hc => by
      rw [PyProof.Rows.signs_ofString] at hc
      obtain ⟨ch, _, rfl⟩ := List.mem_map.mp hc
      exact ch.val.toNat_lt⟩
    exact ⟨i, rfl, by omega, q _ _ e2 at2 (od_of_tx ht ⟨i, rfl, hi⟩)⟩
end Fo
namespace Fo
open PySem PySem.Spec PyProof.Rows L2
/-! loops over lists of anything -/
section
variable {S : Src} {σ : L2.St} {H : Hp} {m k a b : Nat} {B C : PyData → Prop} {t u : TE}
theorem of_list {K : PySem.W.Frag} {A : List PyData → Prop} {g : TG} {tb : TS} {D : Ends} (at1 : S.At H) (h : OE S t σ H m k (oL A)) (Pv : L2.St → Hp → Prop) (h0 : ∀ H', S.Kp H H' → S.At H' → Pv σ H')
    (hs : ∀ σ' H' x d (N : L2.St → Hp → Prop), Pv σ' H' → S.Kp H H' → S.At H' → Dq (S.cut H') x d → Rw m k d → (∃ ds, A ds ∧ d ∈ ds) → (∀ s h, Pv s h → S.Kp H' h → S.At h → N s h) → g x σ' H' fun σ2 H2 => tb { D with nx := N, ct := N, bk := D.nx } σ2 H2) (hd : ∀ σ' H', Pv σ' H' → S.Kp H H' → S.At H' → D.nx σ' H') : tFor (iList K t) g tb D σ H :=
  h H _ (S.refl H) at1 fun v H2 e2 at2 o => by
    obtain ⟨_, h1, h2, ds, rfl, h3⟩ := o
    obtain ⟨p, xs, rfl, hp, ax⟩ := dq_lst h1
    refine ⟨p, rfl, ⟨xs, SqL.of (S.le _ _ _ hp)⟩, ?_⟩
    refine for_list (xs := xs) (fun _ s h => (Pv s h ∧ S.Kp H h ∧ S.At h) ∧ S.Kp H2 h) ⟨⟨h0 H2 e2 at2, e2, at2⟩, S.refl _⟩ (fun i s h _ w => SqL.of (S.le _ _ _ (S.kp w.2 _ _ hp))) (fun i x s h hx w => ?_) (fun s h w => hd s h w.1.1 w.1.2.1 w.1.2.2)
    obtain ⟨d, ed, hdq⟩ := (ax.same (S.kp w.2)).get hx
    have md := List.mem_of_getElem? ed
    exact hs s h x d _ w.1.1 w.1.2.1 w.1.2.2 hdq (rw_mem h2 md) ⟨ds, h3, md⟩ fun s' h' p k at' => ⟨⟨p, S.trans w.1.2.1 k, at'⟩, S.trans w.2 k⟩
theorem og_pair {K : PySem.W.Frag} {x : V} {p q : PyData} {i j : Nat} {Q : L2.St → Hp → Prop} (h : Dq (S.cut H) x (.tuple [p, q])) (c : ∀ v w, Dq (S.cut H) v p → Dq (S.cut H) w q → Q ((σ.set i (some v)).set j (some w)) H) : gTup K 2 (gCons (gName i) (gCons (gName j) gNil)) x σ H Q := by
  obtain ⟨a, xs, rfl, e, al⟩ := dq_tupI h
  cases al with
  | cons h1 al =>
    cases al with
    | cons h2 al =>
      cases al
      exact ⟨a, _, rfl, SqT.of (S.le _ _ _ e), rfl, _, _, rfl, _, _, rfl, rfl, c _ _ h1 h2⟩
end
end Fo
namespace Fo
open PySem PySem.Spec PyProof.Rows L2
section
variable {S : Src} {σ : L2.St} {H : Hp} {m k : Nat} {B : PyData → Prop} {t : TE}
theorem of_run {K : PySem.W.Frag} {A : List PyData → Prop} {g : TG} {tb : TS} {D : Ends} (at1 : S.At H) (h : OE S t σ H m k (oL A)) (q : ∀ p xs H', S.Kp H H' → S.At H' → S.cut H' p = some (.lst xs) → (∃ ds, DqAll (S.cut H') xs ds ∧ Rw m k (.list ds) ∧ A ds) → ∃ W : Nat → Nat → L2.St → Hp → Prop, (∃ m, W 0 m σ H') ∧ ∀ i m σ H, W i m σ H →
      ((Itl K p).stop i H ∧ D.nx σ H) ∨ ((Itl K p).go i H ∧ ∃ N : L2.St → Hp → Prop, (∀ σ' H', N σ' H' → ∃ m', m' < m ∧ W (i + 1) m' σ' H') ∧ ∀ x H', (Itl K p).yld i H x H' → g x σ H' fun σ2 H2 => tb { D with nx := N, ct := N, bk := D.nx } σ2 H2)) : tFor (iList K t) g tb D σ H :=
  h H _ (S.refl H) at1 fun v H2 e2 at2 o => by
    obtain ⟨_, h1, h2, ds, rfl, h3⟩ := o
    obtain ⟨p, xs, rfl, hp, ax⟩ := dq_lst h1
    exact ⟨p, rfl, ⟨xs, SqL.of (S.le _ _ _ hp)⟩, q p xs H2 e2 at2 hp ⟨ds, ax, h2, h3⟩⟩
theorem oa_one {Q : List V → Hp → Prop} (at1 : S.At H) (h : OE S t σ H m k B) (q : ∀ v H', S.Kp H H' → S.At H' → Od S m k B H' v → Q [v] H') : tCons t tNil σ H Q := h H _ (S.refl H) at1 q
end
end Fo
namespace Fo
open PySem PySem.Spec PyProof.Rows L2
/-! sources: none, and one that stands at one address -/
def src0 : Src where
  At := fun _ => True
  Kp := Same
  cut := fun H => H
  refl := Same.refl
  trans := Same.trans
  kp := fun k => k
  le := Same.refl
  same := fun _ s => ⟨trivial, s⟩
  put := fun {H H1 p} o _ k _ np => ⟨trivial, fun b x e => by rw [upd_ne (ne_of_none e np)]; exact k b x e, upd_same, fun b hb => upd_ne hb⟩
open Classical in
noncomputable def cut1 (d : Addr) (H : Hp) : Hp := fun b => if b = d then none else H b
theorem cut1_ne {d : Addr} {H : Hp} {b : Addr} (h : b ≠ d) : cut1 d H b = H b := by
  unfold cut1
  rw [if_neg h]
theorem cut1_of {d : Addr} {H : Hp} {b : Addr} {o : HO} (h : cut1 d H b = some o) : H b = some o ∧ b ≠ d := by
  unfold cut1 at h
  split at h
  · cases h
  · exact ⟨h, by assumption⟩
noncomputable def src1 (d : Addr) (X : HO → Prop) : Src where
  At := fun H => ∃ o, H d = some o ∧ X o
  Kp := fun H H' => ∀ b o, H b = some o → b ≠ d → H' b = some o
  cut := cut1 d
  refl := fun _ _ _ e _ => e
  trans := fun k l b o e n => l b o (k b o e n) n
  kp := fun k b o e => by
    obtain ⟨e1, e2⟩ := cut1_of e
    rw [cut1_ne e2]
    exact k b o e1 e2
  le := fun _ _ _ e => (cut1_of e).1
  same := fun h s => ⟨by obtain ⟨o, e, x⟩ := h; exact ⟨o, s _ _ e, x⟩, fun b o e _ => s b o e⟩
  put := fun {H H1 p} o h k h1 np => by
    obtain ⟨q, e, x⟩ := h
    have n1 : p ≠ d := fun z => by rw [z, e] at np; cases np
    refine ⟨by obtain ⟨q1, e1, x1⟩ := h1; exact ⟨q1, by rw [upd_ne n1.symm]; exact e1, x1⟩, fun b x e f => ?_, by rw [cut1_ne n1]; exact upd_same, fun b hb => ?_⟩
    · rw [upd_ne (ne_of_none e np)]
      exact k b x e f
    · unfold cut1
      split
      · rfl
      · exact upd_ne hb
theorem os_put1 {d : Addr} {X : HO → Prop} {H : Hp} {o : HO} (x : X o) : (src1 d X).At (upd H d o) ∧ (src1 d X).Kp H (upd H d o) := ⟨⟨o, upd_same, x⟩, fun b q e n => by rw [upd_ne n]; exact e⟩
/-- the whole list made a source: it is added to -/
theorem od_1 {d : Addr} {X : HO → Prop} {m k : Nat} {B : PyData → Prop} {H H' : Hp} {v : V} (h : Od src0 m k B H v) (e : ∀ b o, H b = some o → (src1 d X).cut H' b = some o) : Od (src1 d X) m k B H' v := by
  obtain ⟨x, h1, h2, h3⟩ := h
  exact ⟨x, h1.same e, h2, h3⟩
end Fo
namespace Fo
open PySem PySem.Spec PyProof.Rows L2
noncomputable def srcN (d : Addr) : Src where
  At := fun H => DqAt H d
  Kp := KeepD d
  cut := cut1 d
  refl := fun _ _ _ e _ => e
  trans := KeepD.trans
  kp := fun k b o e => by
    obtain ⟨e1, e2⟩ := cut1_of e
    rw [cut1_ne e2]
    exact k b o e1 e2
  le := fun _ _ _ e => (cut1_of e).1
  same := fun h s => ⟨h.same s, KeepD.of_same s⟩
  put := fun {H H1 p} o h k h1 np => by
    have n1 := h.ne np
    refine ⟨h1.upd n1, fun b x e f => ?_, by rw [cut1_ne n1]; exact upd_same, fun b hb => ?_⟩
    · rw [upd_ne (ne_of_none e np)]
      exact k b x e f
    · unfold cut1
      split
      · rfl
      · exact upd_ne hb
theorem oe_next {d : Addr} {σ : L2.St} {H : Hp} {i : Nat} (e : σ[i]? = some (some (.ref d))) : OE (srcN d) (tCall spNext [] E0 (tCons (tVar i) tNil)) σ H 110 0 (oI fun z => 0 ≤ z ∧ z < 2147483648) := fun H1 Q e1 at1 q =>
  ⟨_, e, d, rfl, at1, fun z H3 z0 z1 at3 k3 => q _ _ k3 at3 ⟨.int z, .int z, rw_int (by omega) (by omega), z, rfl, z0, z1⟩⟩
theorem oe_mod72 {S : Src} {σ : L2.St} {H : Hp} {t u : TE} {a b a' b' n : Nat} {A : Int → Prop} (h : OE S t σ H a b (oI A)) (g : OE S u σ H a' b' (oI fun i => i = (n : Int))) (hn : 0 < n ∧ n ≤ 1000) : OE S (tOp (rI (fun _ j => 0 < j) fun i j => .int (i % j)) t u) σ H 110 0 (oI fun z => 0 ≤ z ∧ z < (n : Int)) := fun H1 Q e1 at1 q =>
  h H1 _ e1 at1 fun v H2 e2 at2 o => g H2 _ (S.trans e1 e2) at2 fun y H3 e3 at3 o' => by
    obtain ⟨i, rfl, hi⟩ := od_int o
    obtain ⟨j, rfl, rfl⟩ := od_int o'
    have h0 := Int.emod_nonneg i (show (n : Int) ≠ 0 by omega)
    have h1 := Int.emod_lt_of_pos i (show (0 : Int) < (n : Int) by omega)
    exact ⟨i, (n : Int), rfl, rfl, by omega, q _ H3 (S.trans e2 e3) at3 ⟨.int _, .int _, rw_int (by omega) (by omega), _, rfl, h0, h1⟩⟩
theorem oe_modC {S : Src} {σ : L2.St} {H : Hp} {t : TE} {a b : Nat} {A : Int → Prop} (n : Nat) (h : OE S t σ H a b (oI A)) (hn : 0 < n ∧ n ≤ 1000) : OE S (tOp (rI (fun _ j => 0 < j) fun i j => .int (i % j)) t (tC (.int (n : Int)))) σ H 110 0 (oI fun z => 0 ≤ z ∧ z < (n : Int)) :=
  oe_mod72 h (oe_intI ⟨by omega, by omega⟩) hn
def BadE7 (n : Nat) (x : PyData) : Prop := ∀ i, x = .int i → ¬ (0 ≤ i ∧ i < (n : Int))
def FlO (x : PyData) : Prop := (flatD x = true ∧ ∀ z, x = .str z → PyData.strOk z = true) ∨ x = .list [.int 0] ∨ x = .tuple [.int 0] ∨ x = .dict []
def OddC (n : Nat) (oi : Int) (x : PyData) : Prop := (x = .int oi ∨ BadE7 n x) ∧ FlO x
section
variable {n : Nat} {oi : Int}
theorem odc_i {i : Int} (h : i = oi ∨ BadE7 n (.int i)) : OddC n oi (.int i) := ⟨h.imp (fun e => by rw [e]) id, .inl ⟨rfl, fun _ e => nomatch e⟩⟩
theorem odc_b {b : Bool} : OddC n oi (.bool b) := ⟨.inr (fun _ e => nomatch e), .inl ⟨rfl, fun _ e => nomatch e⟩⟩
theorem odc_n : OddC n oi .none := ⟨.inr (fun _ e => nomatch e), .inl ⟨rfl, fun _ e => nomatch e⟩⟩
theorem odc_s {z : Str} (h : PyData.strOk z = true) : OddC n oi (.str z) := ⟨.inr (fun _ e => nomatch e), .inl ⟨rfl, fun y e => by injection e with e; rw [← e]; exact h⟩⟩
theorem odc_l : OddC n oi (.list [.int 0]) := ⟨.inr (fun _ e => nomatch e), .inr (.inl rfl)⟩
theorem odc_t : OddC n oi (.tuple [.int 0]) := ⟨.inr (fun _ e => nomatch e), .inr (.inr (.inl rfl))⟩
theorem odc_d : OddC n oi (.dict []) := ⟨.inr (fun _ e => nomatch e), .inr (.inr (.inr rfl))⟩
end
theorem bad7_mem {n : Nat} {ds : List PyData} {x : PyData} (hx : x ∈ ds) (hl : ds.length = n) (hb : BadE7 n x) : ¬ GoodD (.list ds) := fun g => by
  obtain ⟨ms, e, o, _⟩ := g
  injection e with e
  subst e
  obtain ⟨y, hy, rfl⟩ := List.mem_map.mp hx
  rw [List.length_map] at hl
  have := o.mem hy
  exact hb y rfl ⟨this.1, by omega⟩
theorem bad7_bool {ds : List PyData} {b : Bool} (hx : PyData.bool b ∈ ds) : ¬ GoodD (.list ds) := fun g => by
  obtain ⟨ms, e, o, _⟩ := g
  injection e with e
  subst e
  obtain ⟨y, hy, e⟩ := List.mem_map.mp hx
  cases e
theorem bad7_dup {ns : List Int} (h : ¬ ns.Nodup) : ¬ GoodD (.list (ns.map PyData.int)) := fun g => by
  obtain ⟨ms, e, o, _⟩ := g
  injection e with e
  rw [intD_inj e] at h
  exact h o.nodup
theorem bad7_nl {d : PyData} (h : isListD d = false) : ¬ GoodD d := fun g => by
  obtain ⟨ms, rfl, _⟩ := g
  cases h
theorem bad7_long {ds : List PyData} (h : ds.length < 1 ∨ 12 < ds.length) : ¬ GoodD (.list ds) := fun g => by
  obtain ⟨ms, e, _, h1, h2⟩ := g
  injection e with e
  subst e
  rw [List.length_map] at h
  omega
theorem dq_flB {H : Hp} {v : V} {x : PyData} (h : Dq H v x) : FlB v := by
  cases h <;> trivial
theorem eqz_of {K : PySem.W.Frag} {H : Hp} {v : V} {x : PyData} (hx : Dq H v x) (hf : FlO x) : ∃ b : Bool, (x = .int 0 → b = true) ∧ ∀ Q : VK, Q (.bl b) H → rEqZ K v (.int 0) H Q := by
  have sh0 : SeqAt.shaped (.int 0) = true := by decide +kernel
  rcases hf with ⟨hf, hs⟩ | rfl | rfl | rfl
  · cases hx with
    | non => exact ⟨_, fun e => (nomatch e), fun Q q => .inl ⟨_, _, .non, .int 0, by decide +kernel, sh0, q⟩⟩
    | bl b => exact ⟨_, fun e => (nomatch e), fun Q q => .inl ⟨_, _, .bl b, .int 0, by cases b <;> decide +kernel, sh0, q⟩⟩
    | int i => exact ⟨_, fun e => by injection e with e; subst e; decide +kernel, fun Q q => .inl ⟨_, _, .int i, .int 0, by simp [SeqAt.shaped, PyData.canLay0, PyData.depth], sh0, q⟩⟩
    | str z => exact ⟨_, fun e => (nomatch e), fun Q q => .inl ⟨_, _, .str z, .int 0, by simp [SeqAt.shaped, PyData.canLay0, PyData.depth]; exact hs z rfl, sh0, q⟩⟩
    | lst _ _ => cases hf
    | tup _ _ => cases hf
    | dic _ _ => cases hf
  · obtain ⟨p, xs, rfl, hp, ax⟩ := dq_lst hx
    cases ax with
    | cons h1 h2 =>
      cases h1
      cases h2
      exact ⟨_, fun e => (nomatch e), fun Q q => .inl ⟨_, _, .lst (SqL.of hp) (.cons (.int 0) .nil), .int 0, by decide +kernel, sh0, q⟩⟩
  · obtain ⟨p, xs, rfl, hp, ax⟩ := dq_tupI hx
    cases ax with
    | cons h1 h2 =>
      cases h1
      cases h2
      exact ⟨_, fun e => (nomatch e), fun Q q => .inl ⟨_, _, .tup (SqT.of hp) (.cons (.int 0) .nil), .int 0, by decide +kernel, sh0, q⟩⟩
  · cases hx with
    | dic e _ => exact ⟨false, fun e => (nomatch e), fun Q q => .inr ⟨_, _, _, rfl, e, rfl, q⟩⟩
theorem cutG7_head {α : Type} (ws : List α) (k : Nat) : cutG ws none (some (k : Int)) = ws.take k := by
  unfold cutG
  rw [HT.sIx_none, HT.sIx_nat, List.drop_zero, Nat.sub_zero]
  by_cases h : k ≤ ws.length
  · rw [Nat.min_eq_left h]
  · rw [Nat.min_eq_right (by omega), List.take_length, List.take_of_length_le (by omega)]
theorem cutG7_tail {α : Type} (ws : List α) (k : Nat) : cutG ws (some (k : Int)) none = ws.drop k := by
  unfold cutG
  rw [HT.sIx_none, HT.sIx_nat]
  by_cases h : k ≤ ws.length
  · rw [Nat.min_eq_left h, List.take_of_length_le (by rw [List.length_drop]; exact Nat.le_refl _)]
  · rw [Nat.min_eq_right (by omega), List.drop_of_length_le (Nat.le_refl _), List.drop_of_length_le (by omega), List.take_nil]
theorem rw_sm7 : Rw 1000 2 (.int 1) := (rw_int (by decide) (by decide)).mono (by decide) (by decide)
def OddQ (n : Nat) (oi : Int) (x : PyData) : Prop := BadE7 n x ∨ 2 ≤ n ∧ x = .int oi
theorem spoilt_bad {n ai jn : Nat} {ns : List Int} {oi : Int} {x : PyData} (ho : IsOrd n ns) (ha : ai < n) (hj : ns[jn]? = some oi) (hja : 2 ≤ n → jn ≠ ai) (hx : OddQ n oi x) : ¬ GoodD (.list (cutG (ns.map PyData.int) none (some (ai : Int)) ++ [x] ++ cutG (ns.map PyData.int) (some ((ai : Int) + 1)) none)) := by
  have e1 : ((ai : Int) + 1) = ((ai + 1 : Nat) : Int) := by omega
  rw [e1, cutG7_head, cutG7_tail]
  have hl := ho.len
  rcases hx with hx | ⟨h2, rfl⟩
  · refine bad7_mem (x := x) (n := n) (by simp) ?_ hx
    simp only [List.length_append, List.length_take, List.length_drop, List.length_map, List.length_cons, List.length_nil]
    omega
  · have e2 : (ns.map PyData.int).take ai ++ [PyData.int oi] ++ (ns.map PyData.int).drop (ai + 1) = (ns.take ai ++ [oi] ++ ns.drop (ai + 1)).map PyData.int := by
      rw [List.map_append, List.map_append, List.map_take, List.map_drop]
      rfl
    rw [e2]
    refine bad7_dup fun hn => ?_
    have hj2 := (List.getElem?_eq_some_iff.mp hj).1
    have ne := hja h2
    rw [List.append_assoc] at hn
    rw [List.nodup_append] at hn
    obtain ⟨_, h3, h4⟩ := hn
    rcases Nat.lt_or_ge jn ai with c | c
    · have m : oi ∈ ns.take ai := List.mem_of_getElem? (i := jn) (by rw [List.getElem?_take_of_lt c]; exact hj)
      exact h4 oi m oi (by simp) rfl
    · have m : oi ∈ ns.drop (ai + 1) := List.mem_of_getElem? (i := jn - (ai + 1)) (by rw [List.getElem?_drop, show ai + 1 + (jn - (ai + 1)) = jn by omega]; exact hj)
      exact (List.nodup_cons.mp h3).1 m
theorem bad7_ne {ds : List PyData} {x : PyData} (hx : x ∈ ds) (h : ∀ i, x ≠ .int i) : ¬ GoodD (.list ds) := bad7_mem hx rfl fun i e => absurd e (h i)
theorem os_asg7 {S : Src} {σ : L2.St} {H : Hp} {t : TE} {m k i : Nat} {B : PyData → Prop} {D : Ends} (at1 : S.At H) (h : OE S t σ H m k B) (q : ∀ x H', S.Kp H H' → S.At H' → Od S m k B H' x → D.nx (σ.set i (some x)) H') : tAsg t (gName i) D σ H := h H _ (S.refl _) at1 q
theorem os_lst7 {S : Src} {σ : L2.St} {H : Hp} {j n m k : Nat} {C : PyData → Prop} {r : TA} {v : TS} {D : Ends} (at1 : S.At H) (h : OA S r σ H m k (fun ds => ds.length = n ∧ ∀ x ∈ ds, C x)) (hm : n ≤ 16777216)
    (q : ∀ vs H' p, S.Kp H H' → S.At H' → (∃ ds, DqAll (S.cut H') vs ds ∧ Rws m k ds ∧ ds.length = n ∧ ∀ x ∈ ds, C x) → H' p = none → v D (σ.set j (some (.ref p))) (upd H' p (.lst vs))) : tSeq (tAsg (tLst r) (gName j)) v D σ H := by
  refine h H _ (S.refl _) at1 fun vs H2 e2 at2 o => ?_
  obtain ⟨ds, g1, g2, g3, g4⟩ := o
  have l := g1.len
  exact ⟨line_small (by omega), fun p np => q vs H2 p e2 at2 ⟨ds, g1, g2, g3, g4⟩ np⟩
theorem oe_eqI {S : Src} {σ : L2.St} {H : Hp} {t u : TE} {a b a' b' : Nat} {A A' : Int → Prop} (h : OE S t σ H a b (oI A)) (g : OE S u σ H a' b' (oI A')) : OE S (tOp rEq t u) σ H 5 0 (fun d => ∃ b, d = .bool b) := fun H1 Q e1 at1 q =>
  h H1 _ e1 at1 fun v H2 e2 at2 o => g H2 _ (S.trans e1 e2) at2 fun y H3 e3 at3 o' => by
    obtain ⟨i, rfl, _⟩ := od_int o
    obtain ⟨j, rfl, _⟩ := od_int o'
    exact ⟨rfl, q _ H3 (S.trans e2 e3) at3 ⟨.bool _, .bl _, rw_bool _, _, rfl⟩⟩
theorem oe_if {S : Src} {σ : L2.St} {H : Hp} {tA : TT} {ta tb : TE} {m k : Nat} {B : PyData → Prop} (b0 : Bool) (ht : ∀ H1 Q, S.Kp H H1 → S.At H1 → Q b0 H1 → tA σ H1 Q) (h : b0 = true → OE S ta σ H m k B) (g : b0 = false → OE S tb σ H m k B) : OE S (tIf tA ta tb) σ H m k B := fun H1 Q e1 at1 q => by
  refine ht H1 _ e1 at1 ?_
  cases b0 with
  | true => exact iteT (h rfl H1 Q e1 at1 q)
  | false => exact iteF (g rfl H1 Q e1 at1 q)
theorem oe_int1 {S : Src} {σ : L2.St} {H : Hp} {t : TE} {a b : Nat} (h : OE S t σ H a b (fun d => ∃ b, d = .bool b)) : OE S (tCB rInt1 (tCons t tNil)) σ H 110 0 (oI fun z => 0 ≤ z ∧ z < 2) := fun H1 Q e1 at1 q =>
  h H1 _ e1 at1 fun v H2 e2 at2 o => by
    obtain ⟨_, hv, _, b, rfl⟩ := o
    cases hv
    refine .inr ⟨b, rfl, q _ H2 e2 at2 ?_⟩
    cases b
    · exact od_of_int ⟨by decide, by decide⟩ ⟨by decide, by decide⟩
    · exact od_of_int ⟨by decide, by decide⟩ ⟨by decide, by decide⟩
theorem head_bad {n : Nat} {ns : List Int} {x0 y : Int} (ho : IsOrd n ns) (h0 : ns[0]? = some x0) (hy : y ≠ x0) (hy0 : 0 ≤ y) : ¬ GoodD (.list ([PyData.int y] ++ cutG (ns.map PyData.int) (some ((1 : Nat) : Int)) none)) := by
  rw [cutG7_tail]
  have hl := ho.len
  have hn : 0 < ns.length := (List.getElem?_eq_some_iff.mp h0).1
  by_cases c : y < (n : Int)
  · have e2 : [PyData.int y] ++ (ns.map PyData.int).drop 1 = (y :: ns.drop 1).map PyData.int := by
      rw [List.map_cons, List.map_drop]
      rfl
    rw [e2]
    refine bad7_dup fun hnd => ?_
    have m : y ∈ ns := ho.symm.subset (by unfold rg; exact List.mem_map.mpr ⟨y.toNat, List.mem_range.mpr (by omega), Int.toNat_of_nonneg hy0⟩)
    cases ns with
    | nil => cases h0
    | cons x r =>
      have := Option.some.inj (show some x = some x0 from h0)
      rcases List.mem_cons.mp m with e | m
      · exact hy (by rw [e, this])
      · exact (List.nodup_cons.mp hnd).1 m
  · refine bad7_mem (x := .int y) (n := n) (by simp) ?_ fun i e => by injection e with e; omega
    simp only [List.length_append, List.length_drop, List.length_map, List.length_cons, List.length_nil]
    omega
noncomputable def srcNF (d p : Addr) (vs : List V) : Src where
  At := fun H => DqAt H d ∧ H p = some (.lst vs) ∧ p ≠ d
  Kp := fun H H' => ∀ b o, H b = some o → b ≠ d → b ≠ p → H' b = some o
  cut := fun H => cut1 p (cut1 d H)
  refl := fun _ _ _ e _ _ => e
  trans := fun k l b o e n1 n2 => l b o (k b o e n1 n2) n1 n2
  kp := fun k b o e => by
    obtain ⟨e1, e2⟩ := cut1_of e
    obtain ⟨e3, e4⟩ := cut1_of e1
    rw [cut1_ne e2, cut1_ne e4]
    exact k b o e3 e4 e2
  le := fun _ _ _ e => (cut1_of (cut1_of e).1).1
  same := fun h s => ⟨⟨h.1.same s, s _ _ h.2.1, h.2.2⟩, fun b o e _ _ => s b o e⟩
  put := fun {H H1 q} o h k h1 nq => by
    have n1 : q ≠ d := h.1.ne nq
    have n2 : q ≠ p := fun z => by rw [z, h.2.1] at nq; cases nq
    refine ⟨⟨h1.1.upd n1, by rw [upd_ne n2.symm]; exact h1.2.1, h1.2.2⟩, fun b x e f g => ?_, by rw [cut1_ne n2, cut1_ne n1]; exact upd_same, fun b hb => ?_⟩
    · rw [upd_ne (ne_of_none e nq)]
      exact k b x e f g
    · unfold cut1
      split
      · rfl
      · split
        · rfl
        · exact upd_ne hb
def spNoOrd72 : Sp := fun vs H Q _ => ∃ (d : Addr) (n : Nat), vs = [.ref d, .int n] ∧ DqAt H d ∧ 1 ≤ n ∧ n ≤ 12 ∧ ∀ (v : V) (H' : Hp), Od (srcN d) 100000 8 (fun x => ¬ GoodD x) H' v → DqAt H' d → KeepD d H H' → Q v H'
section
variable {P : Program} {w : World} {K : PySem.W.Frag} {mg : Str → Option Value} {base : Heap}
theorem scNo72 : FnScope ["deck", "n", "order", "at", "other", "odd", "spoilt", "some"] ["deck", "n"] (defScope s_law_no_order) := ⟨rfl, rfl, rfl, by decide +kernel, rfl, by decide +kernel, by decide +kernel⟩
set_option maxHeartbeats 8000000 in
theorem ok_noord72 {f f1 f2 : Addr} {fd d1 d2 : FuncData} {k : Nat} (T : Df K mg "_law_no_order" s_law_no_order ["deck", "n"] f fd) (T__law_order : Df K mg "_law_order" s_law_order ["deck", "n"] f1 d1) (T__law_next : Df K mg "_law_next" s_law_next ["deck"] f2 d2) (G__law_order : FnOk P w K mg base CX0 k f1 d1 ["deck", "n"] spOrderN) (G__law_next : FnOk P w K mg base CX0 k f2 d2 ["deck"] spNext) (B : Bi mg) : FnOk P w K mg base CX0 (k + 1) f fd ["deck", "n"] spNoOrd72 := by
  refine T.F.ok scNo72 (fun vs H Q E h => ?_) (fun cdv A outer s H vs Q E hr h => ?_)
  · obtain ⟨d, n, rfl, _⟩ := h
    rfl
  · obtain ⟨d, n, rfl, D0, hn1, hn2, q⟩ := h
    refine ⟨_, 
      (pss_cons (ps_set (i := 2) scNo72.nd rfl (.inl rfl) (pe_call G__law_order hr (by rfl) T__law_order.g T__law_order.F.kp T__law_order.b .nil pass0 (pa_cons (pv 0) (pa_cons (pv 1) pa_nil))))
      (pss_cons (ps_set (i := 3) scNo72.nd rfl (.inl rfl) (pe_op op_mod (pe_call G__law_next hr (by rfl) T__law_next.g T__law_next.F.kp T__law_next.b .nil pass0 (pa_cons (pv 0) pa_nil)) (pv 1)))
      (pss_cons (ps_set (i := 4) scNo72.nd rfl (.inl rfl) (pe_ix ix_list (pv 2) (pe_op op_mod (pe_op op_add (pv 3) pe_int) (pv 1)) (fun _ _ => rfl)))
      (pss_cons (ps_set (i := 5) scNo72.nd rfl (.inl rfl) (pe_ix ix_list (pe_lst (pa_cons (pv 1) (pa_cons (pe_un un_neg pe_int) (pa_cons pe_bl (pa_cons pe_bl (pa_cons pe_non (pa_cons pe_str (pa_cons (pe_lst (pa_cons pe_int pa_nil)) (pa_cons (pv 4) (pa_cons (pe_op op_pow pe_int pe_int) (pa_cons (pe_op op_add (pv 1) pe_int) (pa_cons (pe_tup (pa_cons pe_int pa_nil)) (pa_cons pe_dnewK pa_nil))))))))))))) (pe_op op_mod (pe_call G__law_next hr (by rfl) T__law_next.g T__law_next.F.kp T__law_next.b .nil pass0 (pa_cons (pv 0) pa_nil)) pe_int) (fun _ _ => rfl)))
      (Evl.pss_cut (ps_if (PW.pt (pw_and (pt_cmpR op_eq (pv 1) pe_int (nomark _)) (pw_and1 (pt_cmpR (op_eqZ hr.units) (pv 5) pe_int (nomark _)))))
        (pss_one (ps_set (i := 5) scNo72.nd rfl (.inl rfl) pe_int))
        pss_nil)
      (pss_cons (ps_set (i := 6) scNo72.nd rfl (.inl rfl) (pe_op op_cat (pe_op op_cat (pe_slice sl_list (pv 2) po_none (po_some (pv 3))) (pe_lst (pa_cons (pv 5) pa_nil))) (pe_slice sl_list (pv 2) (po_some (pe_op op_add (pv 3) pe_int)) po_none)))
      (Evl.pss_cut (ps_if (PW.pt (pw_or (pt_cmpR op_isT (pv 5) pe_bl (nomark _)) (pw_or1 (pt_cmpR op_isT (pv 5) pe_bl (nomark _)))))
        (pss_one (ps_set (i := 6) scNo72.nd rfl (.inl rfl) (pe_op op_cat (pe_op op_cat (pe_slice sl_list (pv 2) po_none (po_some (pv 3))) (pe_lst (pa_cons (pe_cmpR op_eq (pe_ix ix_list (pv 2) (pv 3) (fun _ _ => rfl)) pe_int (nomark _)) pa_nil))) (pe_slice sl_list (pv 2) (po_some (pe_op op_add (pv 3) pe_int)) po_none))))
        pss_nil)
      (pss_cons (ps_set (i := 7) scNo72.nd rfl (.inl rfl) (pe_lst (pa_cons pe_non (pa_cons pe_int (pa_cons pe_bl (pa_cons pe_str (pa_cons pe_str (pa_cons (pe_tup pa_nil) (pa_cons pe_dnewK (pa_cons (pe_lst pa_nil) (pa_cons (pe_callTy call_tuple_of (by rfl) B.tuple (by decide +kernel) (pa_cons (pv 2) pa_nil)) (pa_cons (pe_lst (pa_cons (pv 2) pa_nil)) (pa_cons (pe_op op_cat (pv 2) (pv 2)) (pa_cons (pe_listRg rfl (by rfl) B.list (prg_1 (by rfl) B.range pe_int)) pa_nil))))))))))))))
      (pss_cons (ps_expr (pe_bm PySem.F.plainAttrs_list PySem.F.slot_list_append PySem.F.type_list_append mt_append (pv 7) (pa_cons (pe_op op_cat (pv 2) (pe_lst (pa_cons (pe_op op_add (pv 1) pe_int) pa_nil))) pa_nil)))
      (pss_cons (ps_set (i := 7) scNo72.nd rfl (.inl rfl) (pe_op op_cat (pv 7) (pe_lst (pa_cons (pe_ifExp (pt_cmpR op_ne (pe_ix ix_list (pv 2) pe_int (fun _ _ => rfl)) pe_int (nomark _)) (pe_op op_cat (pe_lst (pa_cons pe_int pa_nil)) (pe_slice sl_list (pv 2) (po_some pe_int) po_none)) (pe_ifExp (pt_cmpR op_gt (pv 1) pe_int (nomark _)) (pe_op op_cat (pe_lst (pa_cons pe_int pa_nil)) (pe_slice sl_list (pv 2) (po_some pe_int) po_none)) (pe_lst (pa_cons pe_int pa_nil)))) pa_nil))))
      (pss_one (ps_ret (pe_ix ix_list (pe_lst (pa_cons (pv 6) (pa_cons (pe_ix ix_list (pv 7) (pe_op op_mod (pe_call G__law_next hr (by rfl) T__law_next.g T__law_next.F.kp T__law_next.b .nil pass0 (pa_cons (pv 0) pa_nil)) pe_int) (fun _ _ => rfl)) pa_nil))) (pe_callTy call_int1 (by rfl) B.int (by decide +kernel) (pa_cons (pe_cmpR op_eq (pe_op op_mod (pe_call G__law_next hr (by rfl) T__law_next.g T__law_next.F.kp T__law_next.b .nil pass0 (pa_cons (pv 0) pa_nil)) pe_int) pe_int (nomark _)) pa_nil)) (fun _ _ => rfl)))))))))))))), ?_⟩
    refine ⟨_, rfl, _, rfl, d, n, rfl, D0, hn2, fun ns o H1 hon no ho nod D1 k1 => ?_⟩
    have hnl := hon.len
    have o_n : Od (srcN d) 110 0 (oI fun i => i = (n : Int)) H1 (.int n) := od_of_int ⟨by omega, by omega⟩ rfl
    have kk : (srcN d).Kp H1 H1 := (srcN d).refl H1
    refine os_set (S := srcN d) D1 (oe_mod72 (oe_next rfl) (oe_v rfl o_n) ⟨by omega, by omega⟩) fun x2 H2 k2 D2 o_at => ?_
    replace o_n := o_n.kp k2
    replace kk := (srcN d).trans kk k2
    obtain ⟨at', rfl, ⟨a0, a1⟩⟩ := od_int o_at
    replace o_at := od_isI o_at
    obtain ⟨ai, rfl⟩ : ∃ ai : Nat, at' = (ai : Int) := ⟨at'.toNat, by omega⟩
    have ho2 := kk _ _ ho nod
    obtain ⟨jn, hjn, hjl, hja⟩ : ∃ jn : Nat, ((ai : Int) + 1) % (n : Int) = (jn : Int) ∧ jn < n ∧ (2 ≤ n → jn ≠ ai) := by
      have h0 := Int.emod_nonneg ((ai : Int) + 1) (show (n : Int) ≠ 0 by omega)
      have h1 := Int.emod_lt_of_pos ((ai : Int) + 1) (show (0 : Int) < (n : Int) by omega)
      refine ⟨(((ai : Int) + 1) % (n : Int)).toNat, by omega, by omega, fun h2 e => ?_⟩
      rcases Nat.lt_or_ge (ai + 1) n with c | c
      · rw [Int.emod_eq_of_lt (by omega) (by omega)] at e
        omega
      · have : ((ai : Int) + 1) = (n : Int) := by omega
        rw [this, Int.emod_self] at e
        omega
    obtain ⟨oi, eoi⟩ : ∃ x, ns[jn]? = some x := ⟨_, List.getElem?_eq_getElem (by omega)⟩
    have moi := hon.mem (List.mem_of_getElem? eoi)
    -- other
    refine ⟨_, rfl, _, rfl, _, _, rfl, rfl, _, rfl, _, _, rfl, rfl, (show (0 : Int) < (n : Int) by omega), o, _, _, _, rfl, rfl, SqL.of ho2, at_of (j := jn) hjn (by rw [List.getElem?_map, eoi]; rfl), ?_⟩
    have o_other : Od (srcN d) 110 0 (oI fun i => i = oi) H2 (.int oi) := od_of_int ⟨by omega, by omega⟩ rfl
    have D3 : DqAt H2 d := D2
    refine os_set (S := srcN d) D3 (oe_ix (oe_lst (oa_consN (oe_v rfl o_n) (by intro x h; first | (obtain ⟨i, rfl, hi⟩ := h; refine odc_i ?_; first | (exact .inl (by grind)) | (refine .inr fun j e => ?_; injection e with e; subst e; first | omega | (obtain ⟨_, rfl, rfl⟩ := hi; omega) | (obtain ⟨_, _, rfl, rfl, rfl⟩ := hi; omega) | (have h25 : (10 : Int) ^ Int.toNat 25 = 10000000000000000000000000 := (by decide +kernel); rw [h25] at hi; omega))) | (obtain rfl := h; first | exact odc_b | exact odc_n | exact odc_d) | (obtain ⟨_, rfl, _, _, rfl, ⟨_, rfl, rfl⟩, rfl⟩ := h; first | exact odc_l | exact odc_t) | (obtain ⟨_, rfl, _, rfl⟩ := h; exact odc_s (by decide +kernel))) (oa_consN (oe_neg (oe_intI (by decide)) (by grind)) (by intro x h; first | (obtain ⟨i, rfl, hi⟩ := h; refine odc_i ?_; first | (exact .inl (by grind)) | (refine .inr fun j e => ?_; injection e with e; subst e; first | omega | (obtain ⟨_, rfl, rfl⟩ := hi; omega) | (obtain ⟨_, _, rfl, rfl, rfl⟩ := hi; omega) | (have h25 : (10 : Int) ^ Int.toNat 25 = 10000000000000000000000000 := (by decide +kernel); rw [h25] at hi; omega))) | (obtain rfl := h; first | exact odc_b | exact odc_n | exact odc_d) | (obtain ⟨_, rfl, _, _, rfl, ⟨_, rfl, rfl⟩, rfl⟩ := h; first | exact odc_l | exact odc_t) | (obtain ⟨_, rfl, _, rfl⟩ := h; exact odc_s (by decide +kernel))) (oa_consN (oe_bl true) (by intro x h; first | (obtain ⟨i, rfl, hi⟩ := h; refine odc_i ?_; first | (exact .inl (by grind)) | (refine .inr fun j e => ?_; injection e with e; subst e; first | omega | (obtain ⟨_, rfl, rfl⟩ := hi; omega) | (obtain ⟨_, _, rfl, rfl, rfl⟩ := hi; omega) | (have h25 : (10 : Int) ^ Int.toNat 25 = 10000000000000000000000000 := (by decide +kernel); rw [h25] at hi; omega))) | (obtain rfl := h; first | exact odc_b | exact odc_n | exact odc_d) | (obtain ⟨_, rfl, _, _, rfl, ⟨_, rfl, rfl⟩, rfl⟩ := h; first | exact odc_l | exact odc_t) | (obtain ⟨_, rfl, _, rfl⟩ := h; exact odc_s (by decide +kernel))) (oa_consN (oe_bl false) (by intro x h; first | (obtain ⟨i, rfl, hi⟩ := h; refine odc_i ?_; first | (exact .inl (by grind)) | (refine .inr fun j e => ?_; injection e with e; subst e; first | omega | (obtain ⟨_, rfl, rfl⟩ := hi; omega) | (obtain ⟨_, _, rfl, rfl, rfl⟩ := hi; omega) | (have h25 : (10 : Int) ^ Int.toNat 25 = 10000000000000000000000000 := (by decide +kernel); rw [h25] at hi; omega))) | (obtain rfl := h; first | exact odc_b | exact odc_n | exact odc_d) | (obtain ⟨_, rfl, _, _, rfl, ⟨_, rfl, rfl⟩, rfl⟩ := h; first | exact odc_l | exact odc_t) | (obtain ⟨_, rfl, _, rfl⟩ := h; exact odc_s (by decide +kernel))) (oa_consN oe_non (by intro x h; first | (obtain ⟨i, rfl, hi⟩ := h; refine odc_i ?_; first | (exact .inl (by grind)) | (refine .inr fun j e => ?_; injection e with e; subst e; first | omega | (obtain ⟨_, rfl, rfl⟩ := hi; omega) | (obtain ⟨_, _, rfl, rfl, rfl⟩ := hi; omega) | (have h25 : (10 : Int) ^ Int.toNat 25 = 10000000000000000000000000 := (by decide +kernel); rw [h25] at hi; omega))) | (obtain rfl := h; first | exact odc_b | exact odc_n | exact odc_d) | (obtain ⟨_, rfl, _, _, rfl, ⟨_, rfl, rfl⟩, rfl⟩ := h; first | exact odc_l | exact odc_t) | (obtain ⟨_, rfl, _, rfl⟩ := h; exact odc_s (by decide +kernel))) (oa_consN (oe_tx 1 ⟨by decide +kernel, by decide +kernel⟩) (by intro x h; first | (obtain ⟨i, rfl, hi⟩ := h; refine odc_i ?_; first | (exact .inl (by grind)) | (refine .inr fun j e => ?_; injection e with e; subst e; first | omega | (obtain ⟨_, rfl, rfl⟩ := hi; omega) | (obtain ⟨_, _, rfl, rfl, rfl⟩ := hi; omega) | (have h25 : (10 : Int) ^ Int.toNat 25 = 10000000000000000000000000 := (by decide +kernel); rw [h25] at hi; omega))) | (obtain rfl := h; first | exact odc_b | exact odc_n | exact odc_d) | (obtain ⟨_, rfl, _, _, rfl, ⟨_, rfl, rfl⟩, rfl⟩ := h; first | exact odc_l | exact odc_t) | (obtain ⟨_, rfl, _, rfl⟩ := h; exact odc_s (by decide +kernel))) (oa_consN (oe_lst (oa_cons (oe_intI (by decide)) oa_nil) (by decide)) (by intro x h; first | (obtain ⟨i, rfl, hi⟩ := h; refine odc_i ?_; first | (exact .inl (by grind)) | (refine .inr fun j e => ?_; injection e with e; subst e; first | omega | (obtain ⟨_, rfl, rfl⟩ := hi; omega) | (obtain ⟨_, _, rfl, rfl, rfl⟩ := hi; omega) | (have h25 : (10 : Int) ^ Int.toNat 25 = 10000000000000000000000000 := (by decide +kernel); rw [h25] at hi; omega))) | (obtain rfl := h; first | exact odc_b | exact odc_n | exact odc_d) | (obtain ⟨_, rfl, _, _, rfl, ⟨_, rfl, rfl⟩, rfl⟩ := h; first | exact odc_l | exact odc_t) | (obtain ⟨_, rfl, _, rfl⟩ := h; exact odc_s (by decide +kernel))) (oa_consN (oe_v rfl o_other) (by intro x h; first | (obtain ⟨i, rfl, hi⟩ := h; refine odc_i ?_; first | (exact .inl (by grind)) | (refine .inr fun j e => ?_; injection e with e; subst e; first | omega | (obtain ⟨_, rfl, rfl⟩ := hi; omega) | (obtain ⟨_, _, rfl, rfl, rfl⟩ := hi; omega) | (have h25 : (10 : Int) ^ Int.toNat 25 = 10000000000000000000000000 := (by decide +kernel); rw [h25] at hi; omega))) | (obtain rfl := h; first | exact odc_b | exact odc_n | exact odc_d) | (obtain ⟨_, rfl, _, _, rfl, ⟨_, rfl, rfl⟩, rfl⟩ := h; first | exact odc_l | exact odc_t) | (obtain ⟨_, rfl, _, rfl⟩ := h; exact odc_s (by decide +kernel))) (oa_consN (oe_pow ⟨by decide, by decide, by decide⟩ ⟨by decide, by decide⟩) (by intro x h; first | (obtain ⟨i, rfl, hi⟩ := h; refine odc_i ?_; first | (exact .inl (by grind)) | (refine .inr fun j e => ?_; injection e with e; subst e; first | omega | (obtain ⟨_, rfl, rfl⟩ := hi; omega) | (obtain ⟨_, _, rfl, rfl, rfl⟩ := hi; omega) | (have h25 : (10 : Int) ^ Int.toNat 25 = 10000000000000000000000000 := (by decide +kernel); rw [h25] at hi; omega))) | (obtain rfl := h; first | exact odc_b | exact odc_n | exact odc_d) | (obtain ⟨_, rfl, _, _, rfl, ⟨_, rfl, rfl⟩, rfl⟩ := h; first | exact odc_l | exact odc_t) | (obtain ⟨_, rfl, _, rfl⟩ := h; exact odc_s (by decide +kernel))) (oa_consN (oe_add (oe_v rfl o_n) (oe_intI (by decide)) (by grind)) (by intro x h; first | (obtain ⟨i, rfl, hi⟩ := h; refine odc_i ?_; first | (exact .inl (by grind)) | (refine .inr fun j e => ?_; injection e with e; subst e; first | omega | (obtain ⟨_, rfl, rfl⟩ := hi; omega) | (obtain ⟨_, _, rfl, rfl, rfl⟩ := hi; omega) | (have h25 : (10 : Int) ^ Int.toNat 25 = 10000000000000000000000000 := (by decide +kernel); rw [h25] at hi; omega))) | (obtain rfl := h; first | exact odc_b | exact odc_n | exact odc_d) | (obtain ⟨_, rfl, _, _, rfl, ⟨_, rfl, rfl⟩, rfl⟩ := h; first | exact odc_l | exact odc_t) | (obtain ⟨_, rfl, _, rfl⟩ := h; exact odc_s (by decide +kernel))) (oa_consN (oe_tup (oa_cons (oe_intI (by decide)) oa_nil) (by decide)) (by intro x h; first | (obtain ⟨i, rfl, hi⟩ := h; refine odc_i ?_; first | (exact .inl (by grind)) | (refine .inr fun j e => ?_; injection e with e; subst e; first | omega | (obtain ⟨_, rfl, rfl⟩ := hi; omega) | (obtain ⟨_, _, rfl, rfl, rfl⟩ := hi; omega) | (have h25 : (10 : Int) ^ Int.toNat 25 = 10000000000000000000000000 := (by decide +kernel); rw [h25] at hi; omega))) | (obtain rfl := h; first | exact odc_b | exact odc_n | exact odc_d) | (obtain ⟨_, rfl, _, _, rfl, ⟨_, rfl, rfl⟩, rfl⟩ := h; first | exact odc_l | exact odc_t) | (obtain ⟨_, rfl, _, rfl⟩ := h; exact odc_s (by decide +kernel))) (oa_consN oe_d0 (by intro x h; first | (obtain ⟨i, rfl, hi⟩ := h; refine odc_i ?_; first | (exact .inl (by grind)) | (refine .inr fun j e => ?_; injection e with e; subst e; first | omega | (obtain ⟨_, rfl, rfl⟩ := hi; omega) | (obtain ⟨_, _, rfl, rfl, rfl⟩ := hi; omega) | (have h25 : (10 : Int) ^ Int.toNat 25 = 10000000000000000000000000 := (by decide +kernel); rw [h25] at hi; omega))) | (obtain rfl := h; first | exact odc_b | exact odc_n | exact odc_d) | (obtain ⟨_, rfl, _, _, rfl, ⟨_, rfl, rfl⟩, rfl⟩ := h; first | exact odc_l | exact odc_t) | (obtain ⟨_, rfl, _, rfl⟩ := h; exact odc_s (by decide +kernel))) (oa_nilN (OddC n oi)))))))))))))) (by decide)) (oe_modC 12 (oe_next rfl) (by decide)) (by grind)) fun x4 H4 k4 D4 o_odd => ?_
    replace o_n := o_n.kp k4
    replace o_at := o_at.kp k4
    replace o_other := o_other.kp k4
    replace kk := (srcN d).trans kk k4
    obtain ⟨x, hx, rx, hc, hf⟩ := o_odd
    have sq : Same (cut1 d H4) H4 := fun b o e => (cut1_of e).1
    -- n == 1 and odd == 0
    refine ⟨fun τ G => ∃ v x, τ = [some (.ref d), some (.int n), some (.ref o), some (.int ai), some (.int oi), some v, none, none] ∧ G = H4 ∧ Dq (cut1 d H4) v x ∧ Rw 1000 2 x ∧ OddQ n oi x, ?_, fun τ G hM => ?_⟩
    · refine ⟨_, rfl, rfl, _, rfl, ite2 (fun h1 => ?_) (fun h1 => iteF ?_)⟩
      · have h1 : (n : Int) = 1 := by simpa using h1
        obtain ⟨b, hb, hq⟩ := eqz_of (K := K) (hx.same sq) hf
        refine ⟨_, rfl, hq _ ⟨_, rfl, ?_⟩⟩
        cases b with
        | true => exact iteT ⟨_, _, rfl, rfl, .int 1, rw_sm7, .inl fun i e => by injection e with e; omega⟩
        | false =>
          refine iteF ⟨_, x, rfl, rfl, hx, rx.mono (by decide) (by decide), .inl ?_⟩
          rcases hc with rfl | hc
          · exact absurd (hb (by rw [show oi = 0 by omega])) Bool.false_ne_true
          · exact hc
      · have h1 : ¬ (n : Int) = 1 := by simpa using h1
        exact ⟨_, x, rfl, rfl, hx, rx.mono (by decide) (by decide), hc.elim (fun e => .inr ⟨by omega, e⟩) .inl⟩
    clear hx hc hf rx
    obtain ⟨v, x, rfl, rfl, hx, rx, hc⟩ := hM
    have hai : ai < n := by omega
    have hns : ∀ x ∈ ns, -100000000000000000000000000 ≤ x ∧ x ≤ 100000000000000000000000000 := fun x hx => by have := hon.mem hx; omega
    have o_order : Od (srcN d) (12 * 112 + 2) 1 (oL fun ds => ds = ns.map PyData.int) G (.ref o) := od_ints (by show cut1 d G o = _; rw [cut1_ne nod]; exact kk _ _ ho nod) hns (by omega)
    have o_odd : Od (srcN d) 1000 2 (OddQ n oi) G v := ⟨x, hx, rx, hc⟩
    have D5 := D4
    refine os_set (S := srcN d) D5 (oe_cat (oe_cat (oe_sl (oe_v rfl o_order) oo_none (oo_some (oe_v rfl o_at))) (oe_lst (oa_cons (oe_v rfl o_odd) oa_nil) (by decide)) (by decide)) (oe_sl (oe_v rfl o_order) (oo_some (oe_add (oe_v rfl o_at) (oe_intI (by decide)) (by grind))) oo_none) (by decide)) fun x6 H6 k6 D6 o_spoilt => ?_
    replace o_order := o_order.kp k6
    replace o_n := o_n.kp k6
    replace o_at := o_at.kp k6
    replace o_other := o_other.kp k6
    replace o_odd := o_odd.kp k6
    replace kk := (srcN d).trans kk k6
    replace o_spoilt := o_spoilt.mono (m' := 5000) (k' := 5) (C := fun x => ¬ GoodD x) (by decide) (by decide) (by
      rintro _ ⟨_, rfl, a, b, rfl, ⟨c, e, rfl, ⟨_, _, _, rfl, rfl, rfl, ⟨_, rfl, rfl⟩⟩, ⟨y, _, rfl, hy, rfl⟩⟩, ⟨_, _, _, rfl, rfl, ⟨_, rfl, ⟨_, _, rfl, rfl, rfl⟩⟩, rfl⟩⟩
      exact spoilt_bad hon hai eoi hja hy)
    have hxv := hx.same (fun b o e => (cut1_of e).1 : Same (cut1 d G) G)
    have fb := dq_flB hxv
    have dbl : ¬ GoodD (.list (ns.map PyData.int ++ ns.map PyData.int)) := by
      rw [← List.map_append]
      refine bad7_dup fun hn => ?_
      obtain ⟨_, _, h4⟩ := List.nodup_append.mp hn
      cases ns with
      | nil => rw [← hnl] at hn1; exact absurd hn1 (by decide)
      | cons x r => exact h4 x List.mem_cons_self x List.mem_cons_self rfl
    refine ⟨fun τ C => ∃ w, τ = [some (.ref d), some (.int n), some (.ref o), some (.int ai), some (.int oi), some v, some w, none] ∧ DqAt C d ∧ KeepD d H6 C ∧ Od (srcN d) 5000 5 (fun x => ¬ GoodD x) C w, ?_, fun τ C hM => ?_⟩
    · refine ⟨_, rfl, true, rfl, fb, _, rfl, ite2 (fun _ => iteT ?_) (fun _ => ⟨_, rfl, false, rfl, fb, _, rfl, ite2 (fun _ => ?_) (fun _ => ⟨_, rfl, D6, KeepD.refl d H6, o_spoilt⟩)⟩)⟩
      · refine os_asg7 (S := srcN d) D6 (oe_cat (oe_cat (oe_sl (oe_v rfl o_order) oo_none (oo_some (oe_v rfl o_at))) (oe_lst (oa_cons (oe_eqI (oe_ixI (oe_v rfl o_order) (oe_v rfl o_at) (by grind)) (oe_intI (by decide))) oa_nil) (by decide)) (by decide)) (oe_sl (oe_v rfl o_order) (oo_some (oe_add (oe_v rfl o_at) (oe_intI (by decide)) (by grind))) oo_none) (by decide)) fun u C2 k2 D2 ou => ⟨u, rfl, D2, k2, ou.mono (by decide) (by decide) ?_⟩
        rintro _ ⟨_, rfl, a, b, rfl, ⟨c, e, rfl, _, ⟨y, _, rfl, ⟨bb, rfl⟩, rfl⟩⟩, _⟩
        exact bad7_bool (b := bb) (by simp)
      · refine os_asg7 (S := srcN d) D6 (oe_cat (oe_cat (oe_sl (oe_v rfl o_order) oo_none (oo_some (oe_v rfl o_at))) (oe_lst (oa_cons (oe_eqI (oe_ixI (oe_v rfl o_order) (oe_v rfl o_at) (by grind)) (oe_intI (by decide))) oa_nil) (by decide)) (by decide)) (oe_sl (oe_v rfl o_order) (oo_some (oe_add (oe_v rfl o_at) (oe_intI (by decide)) (by grind))) oo_none) (by decide)) fun u C2 k2 D2 ou => ⟨u, rfl, D2, k2, ou.mono (by decide) (by decide) ?_⟩
        rintro _ ⟨_, rfl, a, b, rfl, ⟨c, e, rfl, _, ⟨y, _, rfl, ⟨bb, rfl⟩, rfl⟩⟩, _⟩
        exact bad7_bool (b := bb) (by simp)
    clear o_spoilt
    obtain ⟨w, rfl, DC, kC, o_spoilt⟩ := hM
    replace o_order := o_order.kp kC
    replace o_n := o_n.kp kC
    replace kk := KeepD.trans kk kC
    clear D2 D3 D4 D5 D6 k2 k4 k6 hx hxv
    refine os_lst7 (S := srcN d) DC (oa_consN oe_non (by intro x h; first | (refine bad7_nl ?_; first | (obtain ⟨_, rfl, _⟩ := h; rfl) | (obtain rfl := h; rfl)) | (obtain ⟨_, rfl, rfl⟩ := h; exact bad7_long (.inl (by decide))) | (obtain ⟨_, rfl, rfl⟩ := h; exact bad7_long (.inr (by decide +kernel))) | (obtain ⟨_, rfl, _, _, rfl, ⟨_, rfl, _⟩, _⟩ := h; exact bad7_ne List.mem_cons_self (fun _ e => nomatch e)) | (obtain ⟨_, rfl, _, _, rfl, rfl, rfl⟩ := h; exact dbl)) (oa_consN (oe_intI (by decide)) (by intro x h; first | (refine bad7_nl ?_; first | (obtain ⟨_, rfl, _⟩ := h; rfl) | (obtain rfl := h; rfl)) | (obtain ⟨_, rfl, rfl⟩ := h; exact bad7_long (.inl (by decide))) | (obtain ⟨_, rfl, rfl⟩ := h; exact bad7_long (.inr (by decide +kernel))) | (obtain ⟨_, rfl, _, _, rfl, ⟨_, rfl, _⟩, _⟩ := h; exact bad7_ne List.mem_cons_self (fun _ e => nomatch e)) | (obtain ⟨_, rfl, _, _, rfl, rfl, rfl⟩ := h; exact dbl)) (oa_consN (oe_bl true) (by intro x h; first | (refine bad7_nl ?_; first | (obtain ⟨_, rfl, _⟩ := h; rfl) | (obtain rfl := h; rfl)) | (obtain ⟨_, rfl, rfl⟩ := h; exact bad7_long (.inl (by decide))) | (obtain ⟨_, rfl, rfl⟩ := h; exact bad7_long (.inr (by decide +kernel))) | (obtain ⟨_, rfl, _, _, rfl, ⟨_, rfl, _⟩, _⟩ := h; exact bad7_ne List.mem_cons_self (fun _ e => nomatch e)) | (obtain ⟨_, rfl, _, _, rfl, rfl, rfl⟩ := h; exact dbl)) (oa_consN (oe_tx 0 ⟨by decide +kernel, by decide +kernel⟩) (by intro x h; first | (refine bad7_nl ?_; first | (obtain ⟨_, rfl, _⟩ := h; rfl) | (obtain rfl := h; rfl)) | (obtain ⟨_, rfl, rfl⟩ := h; exact bad7_long (.inl (by decide))) | (obtain ⟨_, rfl, rfl⟩ := h; exact bad7_long (.inr (by decide +kernel))) | (obtain ⟨_, rfl, _, _, rfl, ⟨_, rfl, _⟩, _⟩ := h; exact bad7_ne List.mem_cons_self (fun _ e => nomatch e)) | (obtain ⟨_, rfl, _, _, rfl, rfl, rfl⟩ := h; exact dbl)) (oa_consN (oe_tx 3 ⟨by decide +kernel, by decide +kernel⟩) (by intro x h; first | (refine bad7_nl ?_; first | (obtain ⟨_, rfl, _⟩ := h; rfl) | (obtain rfl := h; rfl)) | (obtain ⟨_, rfl, rfl⟩ := h; exact bad7_long (.inl (by decide))) | (obtain ⟨_, rfl, rfl⟩ := h; exact bad7_long (.inr (by decide +kernel))) | (obtain ⟨_, rfl, _, _, rfl, ⟨_, rfl, _⟩, _⟩ := h; exact bad7_ne List.mem_cons_self (fun _ e => nomatch e)) | (obtain ⟨_, rfl, _, _, rfl, rfl, rfl⟩ := h; exact dbl)) (oa_consN (oe_tup oa_nil (by decide)) (by intro x h; first | (refine bad7_nl ?_; first | (obtain ⟨_, rfl, _⟩ := h; rfl) | (obtain rfl := h; rfl)) | (obtain ⟨_, rfl, rfl⟩ := h; exact bad7_long (.inl (by decide))) | (obtain ⟨_, rfl, rfl⟩ := h; exact bad7_long (.inr (by decide +kernel))) | (obtain ⟨_, rfl, _, _, rfl, ⟨_, rfl, _⟩, _⟩ := h; exact bad7_ne List.mem_cons_self (fun _ e => nomatch e)) | (obtain ⟨_, rfl, _, _, rfl, rfl, rfl⟩ := h; exact dbl)) (oa_consN oe_d0 (by intro x h; first | (refine bad7_nl ?_; first | (obtain ⟨_, rfl, _⟩ := h; rfl) | (obtain rfl := h; rfl)) | (obtain ⟨_, rfl, rfl⟩ := h; exact bad7_long (.inl (by decide))) | (obtain ⟨_, rfl, rfl⟩ := h; exact bad7_long (.inr (by decide +kernel))) | (obtain ⟨_, rfl, _, _, rfl, ⟨_, rfl, _⟩, _⟩ := h; exact bad7_ne List.mem_cons_self (fun _ e => nomatch e)) | (obtain ⟨_, rfl, _, _, rfl, rfl, rfl⟩ := h; exact dbl)) (oa_consN (oe_lst oa_nil (by decide)) (by intro x h; first | (refine bad7_nl ?_; first | (obtain ⟨_, rfl, _⟩ := h; rfl) | (obtain rfl := h; rfl)) | (obtain ⟨_, rfl, rfl⟩ := h; exact bad7_long (.inl (by decide))) | (obtain ⟨_, rfl, rfl⟩ := h; exact bad7_long (.inr (by decide +kernel))) | (obtain ⟨_, rfl, _, _, rfl, ⟨_, rfl, _⟩, _⟩ := h; exact bad7_ne List.mem_cons_self (fun _ e => nomatch e)) | (obtain ⟨_, rfl, _, _, rfl, rfl, rfl⟩ := h; exact dbl)) (oa_consN (oe_tupOf (oe_v rfl o_order)) (by intro x h; first | (refine bad7_nl ?_; first | (obtain ⟨_, rfl, _⟩ := h; rfl) | (obtain rfl := h; rfl)) | (obtain ⟨_, rfl, rfl⟩ := h; exact bad7_long (.inl (by decide))) | (obtain ⟨_, rfl, rfl⟩ := h; exact bad7_long (.inr (by decide +kernel))) | (obtain ⟨_, rfl, _, _, rfl, ⟨_, rfl, _⟩, _⟩ := h; exact bad7_ne List.mem_cons_self (fun _ e => nomatch e)) | (obtain ⟨_, rfl, _, _, rfl, rfl, rfl⟩ := h; exact dbl)) (oa_consN (oe_lst (oa_cons (oe_v rfl o_order) oa_nil) (by decide)) (by intro x h; first | (refine bad7_nl ?_; first | (obtain ⟨_, rfl, _⟩ := h; rfl) | (obtain rfl := h; rfl)) | (obtain ⟨_, rfl, rfl⟩ := h; exact bad7_long (.inl (by decide))) | (obtain ⟨_, rfl, rfl⟩ := h; exact bad7_long (.inr (by decide +kernel))) | (obtain ⟨_, rfl, _, _, rfl, ⟨_, rfl, _⟩, _⟩ := h; exact bad7_ne List.mem_cons_self (fun _ e => nomatch e)) | (obtain ⟨_, rfl, _, _, rfl, rfl, rfl⟩ := h; exact dbl)) (oa_consN (oe_cat (oe_v rfl o_order) (oe_v rfl o_order) (by decide)) (by intro x h; first | (refine bad7_nl ?_; first | (obtain ⟨_, rfl, _⟩ := h; rfl) | (obtain rfl := h; rfl)) | (obtain ⟨_, rfl, rfl⟩ := h; exact bad7_long (.inl (by decide))) | (obtain ⟨_, rfl, rfl⟩ := h; exact bad7_long (.inr (by decide +kernel))) | (obtain ⟨_, rfl, _, _, rfl, ⟨_, rfl, _⟩, _⟩ := h; exact bad7_ne List.mem_cons_self (fun _ e => nomatch e)) | (obtain ⟨_, rfl, _, _, rfl, rfl, rfl⟩ := h; exact dbl)) (oa_consN (oe_lrg (n := 13) (by first | decide | omega) (oe_intI (by decide))) (by intro x h; first | (refine bad7_nl ?_; first | (obtain ⟨_, rfl, _⟩ := h; rfl) | (obtain rfl := h; rfl)) | (obtain ⟨_, rfl, rfl⟩ := h; exact bad7_long (.inl (by decide))) | (obtain ⟨_, rfl, rfl⟩ := h; exact bad7_long (.inr (by decide +kernel))) | (obtain ⟨_, rfl, _, _, rfl, ⟨_, rfl, _⟩, _⟩ := h; exact bad7_ne List.mem_cons_self (fun _ e => nomatch e)) | (obtain ⟨_, rfl, _, _, rfl, rfl, rfl⟩ := h; exact dbl)) (oa_nilN (fun x => ¬ GoodD x)))))))))))))) (by decide) fun vs H10 p e10 D10 oo np => ?_
    obtain ⟨es, g1, g2, g3, g4⟩ := oo
    have npd : p ≠ d := DqAt.ne (H := H10) D10 np
    have s11 := same_new (o := .lst vs) np
    have hp11 : (upd H10 p (.lst vs)) p = some (.lst vs) := upd_same
    have D11 : (srcNF d p vs).At (upd H10 p (.lst vs)) := ⟨DqAt.same (H := H10) D10 s11, hp11, npd⟩
    replace o_order := o_order.kp e10
    replace o_n := o_n.kp e10
    replace o_spoilt := o_spoilt.kp e10
    replace kk := KeepD.trans kk e10
    have hvl := g1.len
    generalize upd H10 p (.lst vs) = H11 at s11 D11 hp11 ⊢
    refine ⟨_, rfl, .inl ⟨rfl, _, SqL.of hp11⟩, ?_⟩
    have z_order := o_order
    have z_n := o_n
    have of_ : ∀ {m k : Nat} {B : PyData → Prop} {v : V}, Od (srcN d) m k B H10 v → Od (srcNF d p vs) m k B H11 v := fun ⟨x, h1, h2, h3⟩ => ⟨x, h1.same fun b o e => by
      obtain ⟨e1, e2⟩ := cut1_of e
      show cut1 p (cut1 d H11) b = _
      rw [cut1_ne (ne_of_none e1 np), cut1_ne e2]
      exact s11 _ _ e1, h2, h3⟩
    replace o_order := of_ z_order
    replace o_n := of_ z_n
    refine oa_one (S := srcNF d p vs) D11 (oe_cat (oe_v rfl o_order) (oe_lst (oa_cons (oe_add (oe_v rfl o_n) (oe_intI (by decide)) (by grind)) oa_nil) (by decide)) (by decide)) fun v1 H12 e12 D12 o1 => ?_
    refine ⟨p, _, _, rfl, rfl, D12.2.1, line_lt (by omega), ?_⟩
    have kA : KeepD d H10 (upd H12 p (.lst (vs ++ [v1]))) := fun b o e nb => by
      have nbp := ne_of_none e np
      rw [upd_ne nbp]
      exact e12 b o (s11 _ _ e) nb nbp
    have D13 : DqAt (upd H12 p (.lst (vs ++ [v1]))) d := D12.1.upd npd
    have o_some : Od (srcN d) 60000 6 (oL fun ds => ds.length = 13 ∧ ∀ x ∈ ds, ¬ GoodD x) (upd H12 p (.lst (vs ++ [v1]))) (.ref p) := by
      obtain ⟨y1, h1, h2, h3⟩ := o1
      refine ⟨.list (es ++ [y1]), .lst (by show cut1 d _ p = _; rw [cut1_ne npd]; exact upd_same) ((g1.same ((srcN d).kp kA)).app (.cons (h1.same fun b o e => ?_) .nil)), ?_, _, rfl, by rw [List.length_append, g3]; rfl, fun x m => ?_⟩
      · obtain ⟨e1, e2⟩ := cut1_of e
        obtain ⟨e3, e4⟩ := cut1_of e1
        show cut1 d _ b = _
        rw [cut1_ne e4, upd_ne e2]
        exact e3
      · exact (rw_list (rws_snoc (g2.mono (Nat.le_refl _) (show _ ≤ 5 by decide)) (h2.mono (Nat.le_refl _) (show _ ≤ 5 by decide)))).mono (by decide) (by decide)
      · rcases List.mem_append.mp m with m | m
        · exact g4 x m
        · rw [List.mem_singleton.mp m]
          obtain ⟨_, rfl, _, _, rfl, rfl, ⟨y, _, rfl, ⟨_, rfl, _, _, rfl, rfl, rfl⟩, rfl⟩⟩ := h3
          exact bad7_mem (x := .int ((n : Int) + 1)) (n := n + 1) (by simp) (by simp [hnl]) fun i e => by injection e with e; omega
    replace o_order := z_order.kp kA
    replace o_n := z_n.kp kA
    replace o_spoilt := o_spoilt.kp kA
    replace kk := KeepD.trans kk kA
    generalize upd H12 p (.lst (vs ++ [v1])) = H13 at D13 o_some o_order o_n o_spoilt kk ⊢
    clear z_order z_n kA o1 D12 e12 of_ D11 s11 hp11 g1 g2 np e10 D10 kC
    have ho13 := kk _ _ ho nod
    obtain ⟨x0, hx0⟩ : ∃ x, ns[0]? = some x := ⟨_, List.getElem?_eq_getElem (by omega)⟩
    have m0 := hon.mem (List.mem_of_getElem? hx0)
    refine os_set (S := srcN d) (m := 80000) (k := 7) (B := oL fun ds => ds.length = 14 ∧ ∀ x ∈ ds, ¬ GoodD x) D13 ((oe_catN (n2 := 1) (C := fun x => ¬ GoodD x) (oe_v rfl o_some) (oe_lst (oa_consN (B := fun x => ¬ GoodD x) (a := 2000) (k := 3) (oe_if (!decide (V.int x0 = V.int 1)) (fun H1 Q e1 at1 q => ?_) (fun hb => ?_) (fun hb => oe_if (decide (1 < (n : Int))) (fun H1 Q e1 at1 q => ?_) (fun hb2 => ?_) (fun hb2 => ?_))) (fun _ h => h) (oa_nilN _)) (by decide)) (by decide)).mono (by decide) (by decide) fun _ h => h) fun x14 H14 k14 D14 o_some2 => ?_
    · exact ⟨_, rfl, o, _, _, _, rfl, rfl, SqL.of (e1 _ _ ho13 nod), at_of (j := 0) rfl (by rw [List.getElem?_map, hx0]; rfl), rfl, _, rfl, q⟩
    · refine ((oe_cat (oe_lst (oa_cons (oe_intI (by decide)) oa_nil) (by decide)) (oe_sl (oe_v rfl o_order) (oo_some (oe_intI (by decide))) oo_none) (by decide))).mono (by decide) (by decide) ?_
      rintro _ ⟨_, rfl, _, _, rfl, ⟨_, _, rfl, ⟨_, rfl, rfl⟩, rfl⟩, ⟨_, _, _, rfl, rfl, ⟨_, rfl, rfl⟩, rfl⟩⟩
      exact head_bad hon hx0 (fun e => by rw [← e] at hb; exact absurd hb (by decide)) (by decide)
    · exact ⟨_, rfl, _, _, rfl, rfl, _, rfl, q⟩
    · have e0 : x0 = 1 := by simpa using hb
      refine ((oe_cat (oe_lst (oa_cons (oe_intI (by decide)) oa_nil) (by decide)) (oe_sl (oe_v rfl o_order) (oo_some (oe_intI (by decide))) oo_none) (by decide))).mono (by decide) (by decide) ?_
      rintro _ ⟨_, rfl, _, _, rfl, ⟨_, _, rfl, ⟨_, rfl, rfl⟩, rfl⟩, ⟨_, _, _, rfl, rfl, ⟨_, rfl, rfl⟩, rfl⟩⟩
      exact head_bad hon hx0 (by omega) (by decide)
    · have e0 : x0 = 1 := by simpa using hb
      have e1 : ¬ 1 < (n : Int) := by simpa using hb2
      exact absurd m0.2 (by omega)
    have D14' := D14
    replace o_spoilt := o_spoilt.kp k14
    have o_some := o_some2
    replace kk := KeepD.trans kk k14
    refine os_ret (S := srcN d) D14 (oe_ix (oe_lst (oa_consN (oe_v rfl o_spoilt) (by exact fun _ h => h) (oa_consN (oe_ix (oe_v rfl o_some) (oe_modC 14 (oe_next rfl) (by decide)) (by grind)) (by exact fun _ h => h) (oa_nilN (fun x => ¬ GoodD x)))) (by decide)) (oe_int1 (oe_eqI (oe_modC 3 (oe_next rfl) (by decide)) (oe_intI (by decide)))) (by grind)) fun u H' k' D' o' => q u H' (o'.mono (by decide) (by decide) fun _ h => h) D' (KeepD.trans k1 (KeepD.trans kk k'))
end
end Fo
namespace Fo
open PySem PySem.Spec PyProof.Rows L2
/-! a list of anything held against the empty one -/
abbrev rNilEq (K : PySem.W.Frag) : R2 := fun x y H Q => ∃ a b xs, x = .ref a ∧ y = .ref b ∧ SqL K H a xs ∧ SqL K H b [] ∧ Q (.bl xs.isEmpty) H
abbrev rNilNe (K : PySem.W.Frag) : R2 := fun x y H Q => ∃ a b xs, x = .ref a ∧ y = .ref b ∧ SqL K H a xs ∧ SqL K H b [] ∧ Q (.bl (!xs.isEmpty)) H
section
variable {X : Cx}
theorem op_eqNilL (hu : X.A.units + 64 < cLine) : OpR X (compareOp .Eq) (rNilEq X.K) := by
  intro pins s σ H x y v u Q I rx ry h
  obtain ⟨a, b, xs, rfl, rfl, ha, hb, q⟩ := h
  cases (show v = Value.ref a from rx)
  cases (show u = Value.ref b from ry)
  obtain ⟨us, r1, p1, _⟩ := I.list ha
  obtain ⟨ws, r2, p2, _⟩ := I.list hb
  have e2 : ws.length = 0 := r2.length.symm
  have e1 : us.length = xs.length := r1.length.symm
  cases xs with
  | nil =>
    refine SeqAt.eq_listAt (e := fun _ => true) p1.isList p2.isList ?_ (by omega) (fun j h1 h2 => ?_) ?_
    · rw [List.size_toArray, List.size_toArray, e1, e2]
      rfl
    · rw [List.size_toArray, e2] at h2
      omega
    · rw [show ((List.range us.toArray.size).all fun _ => true) = true from List.all_eq_true.mpr fun _ _ => rfl]
      exact ⟨.bl true, H, I, rfl, q⟩
  | cons x r =>
    refine SeqAt.eq_list_lengthsAt p1.isList p2.isList ?_ (by omega) ⟨.bl false, H, I, rfl, q⟩
    rw [List.size_toArray, List.size_toArray, e1, e2]
    rfl
theorem op_neNilL (hu : X.A.units + 64 < cLine) : OpR X (compareOp .NotEq) (rNilNe X.K) := by
  intro pins s σ H x y v u Q I rx ry h
  obtain ⟨a, b, xs, rfl, rfl, ha, hb, q⟩ := h
  cases (show v = Value.ref a from rx)
  cases (show u = Value.ref b from ry)
  obtain ⟨us, r1, p1, _⟩ := I.list ha
  obtain ⟨ws, r2, p2, _⟩ := I.list hb
  have e2 : ws.length = 0 := r2.length.symm
  have e1 : us.length = xs.length := r1.length.symm
  cases xs with
  | nil =>
    refine SeqAt.RcNeAt.lists (e := fun _ => true) p1.isList p2.isList ?_ (by omega) (fun j h1 h2 => ?_) _ _ _ _ ?_
    · rw [List.size_toArray, List.size_toArray, e1, e2]
      rfl
    · rw [List.size_toArray, e2] at h2
      omega
    · rw [show ((List.range us.toArray.size).all fun _ => true) = true from List.all_eq_true.mpr fun _ _ => rfl]
      exact ⟨.bl false, H, I, rfl, q⟩
  | cons x r =>
    refine SeqAt.RcNeAt.lists_lengths p1.isList p2.isList ?_ (by omega) _ _ _ _ ⟨.bl true, H, I, rfl, q⟩
    rw [List.size_toArray, List.size_toArray, e1, e2]
    rfl
end
end Fo
namespace Fo
open PySem PySem.Spec PyProof.Rows L2
def K3 (a e D : Addr) (H H' : Hp) : Prop := ∀ b o, H b = some o → b ≠ a → b ≠ e → b ≠ D → H' b = some o
theorem K3.trans {a e D : Addr} {H H1 H2 : Hp} (k : K3 a e D H H1) (l : K3 a e D H1 H2) : K3 a e D H H2 := fun b o h n1 n2 n3 => l b o (k b o h n1 n2 n3) n1 n2 n3
theorem K3.kd {a e D : Addr} {H H' : Hp} (k : KeepD D H H') : K3 a e D H H' := fun b o h _ _ n3 => k b o h n3
theorem K3.kl {a e D : Addr} {H H' : Hp} (k : KpL a e H H') : K3 a e D H H' := fun b o h n1 n2 _ => k b o h n1 n2
theorem K3.sm {a e D : Addr} {H H' : Hp} (k : Same H H') : K3 a e D H H' := fun b o h _ _ _ => k b o h
theorem DqAt.k3 {a e D : Addr} {H H' : Hp} (h : DqAt H D) (k : KpL a e H H') (na : D ≠ a) (ne : D ≠ e) : DqAt H' D := by
  obtain ⟨ms, e1, r⟩ := h
  exact ⟨ms, k _ _ e1 na ne, r⟩
/-- a Lister filled, what is held of it, and the stack's bottom -/
structure Fi72 (C : Addr) (H : Hp) (a e D h : Addr) (X : List Addr) (w : Str) (n : Nat) (d : Int) (m q : Nat) (G : Hp) (ps : List (Addr × List Int)) (rs : List (List Int)) (ss : List (List (List Int))) : Prop where
  rp : RP G h ps
  hn : h ≠ D ∧ h ≠ a ∧ h ≠ e
  pn : ∀ p ∈ ps, p.1 ≠ D ∧ p.1 ≠ a ∧ p.1 ≠ e ∧ p.1 ≠ h
  L : LsAt C G a e (h :: X) w n d rs ss
  perm : (rws ps).Perm rs
  nd : (rws ps).Nodup
  bot : (ss ++ [rs])[0]? = some []
  lp : ps.length ≤ m
  ls : ss.length ≤ q
  dq : DqAt G D
  kp : K3 a e D H G
  nh : H h = none
  fr : ∀ p ∈ ps, H p.1 = none
def spFilled72 (C : Addr) : Sp := fun vs H Q _ => ∃ (D a e : Addr) (X : List Addr) (w : Str) (n : Nat) (d : Int), vs = [.ref D, .ref a, .str w, .int n, .int d] ∧ DqAt H D ∧ LsAt C H a e X w n d [] [] ∧ e ∈ X ∧ D ∈ X ∧ a ≠ D ∧ e ≠ D ∧ (∃ o, H a = some o) ∧
  ∀ (t h : Addr) (ps : List (Addr × List Int)) (rs : List (List Int)) (ss : List (List (List Int))) (H' : Hp), H' t = some (.tup [.ref h, .int (ss.length : Nat)]) → Fi72 C H a e D h X w n d 9 18 H' ps rs ss → Q (.ref t) H'
theorem erase_mapG {α β : Type} (f : α → β) : ∀ (l : List α) (j : Nat), (l.map f).eraseIdx j = (l.eraseIdx j).map f
  | [], _ => rfl
  | _ :: _, 0 => rfl
  | a :: l, j + 1 => by
    show f a :: (l.map f).eraseIdx j = f a :: (l.eraseIdx j).map f
    rw [erase_mapG f l j]
theorem bot_snoc {rs rs' : List (List Int)} {ss : List (List (List Int))} (h : (ss ++ [rs])[0]? = some []) : (ss ++ [rs] ++ [rs'])[0]? = some [] := by
  rw [List.getElem?_append_left (by rw [List.length_append]; show 0 < _ + 1; omega)]
  exact h
theorem not_taken {w : Str} {n : Nat} {d : Int} {xs : List Int} {rs : List (List Int)} (ox : IsOrd n xs) (hn : 1 ≤ n) (hd : 1 ≤ d) (h : nearR w xs d rs = []) : xs ∉ rs := fun m => by
  have := List.filter_eq_nil_iff.mp h xs m
  exact this (decide_eq_true (by rw [farW_self ox hn]; omega))
section
variable {P : Program} {w : World} {K : PySem.W.Frag} {mg : Str → Option Value} {base : Heap}
end
end Fo
namespace Fo
open PySem PySem.Spec PyProof.Rows L2
/-! ### how far, by things -/
theorem sumN_le {l : List Int} {f g : Int → Nat} (h : ∀ x ∈ l, f x ≤ g x) : sumN l f ≤ sumN l g := by
  induction l with
  | nil => exact Nat.le_refl _
  | cons a l ih =>
    rw [sumN_cons, sumN_cons]
    have h1 := h a List.mem_cons_self
    have h2 := ih fun x hx => h x (List.mem_cons_of_mem _ hx)
    omega
theorem sumN_one {l : List Int} {f : Int → Nat} {x : Int} (h : x ∈ l) : f x ≤ sumN l f := by
  induction l with
  | nil => exact absurd h List.not_mem_nil
  | cons a l ih =>
    rw [sumN_cons]
    rcases List.mem_cons.mp h with rfl | h
    · omega
    · have := ih h
      omega
theorem ind_le {a : Bool} {n : Nat} (h : a = true → 1 ≤ n) : ind a ≤ n := by
  unfold ind
  cases a
  · exact Nat.zero_le _
  · exact h rfl
theorem ind_true {a : Bool} (h : a = true) : ind a = 1 := by rw [h]; rfl
theorem g0_seats {n : Nat} {xs ys : List Int} (o : IsOrd n xs) {p : Int} (h : p ∈ rg n) : g0 (seatsL xs ys) p = pos ys (g0 xs p) := by
  have h1 := rg_mem.mp h
  obtain ⟨x, hx, _⟩ := ord_ix o (j := p.toNat) (by omega)
  have e := g0_at hx
  have e2 := g0_at (seats_at (ys := ys) hx)
  rw [Int.toNat_of_nonneg h1.1] at e e2
  rw [e, e2]
def dT (xs ys : List Int) (t u : Int) : Nat := ind (decide (pos xs t < pos xs u) && decide (pos ys u < pos ys t))
def swT (n : Nat) (xs ys : List Int) : Nat := sumN (rg n) fun t => sumN (rg n) fun u => dT xs ys t u
def spT (n : Nat) (xs ys : List Int) : Nat := sumN (rg n) fun t => ind (!decide (pos xs t = pos ys t))
def shL (n : Nat) (xs ys : List Int) : List Int := (rg n).map fun t => absI (pos xs t - pos ys t)
theorem swap_T {n : Nat} {xs ys : List Int} (ox : IsOrd n xs) (oy : IsOrd n ys) : farSwap xs ys = ((swT n xs ys : Nat) : Int) := by
  unfold farSwap
  rw [inv_eq, seats_len, ox.len]
  unfold invF swT
  congr 1
  rw [sum_pos ox]
  apply sumN_congr
  intro t ht
  rw [sum_pos ox]
  apply sumN_congr
  intro u hu
  unfold dT
  rw [g0_seats ox (pos_in ox ht), g0_seats ox (pos_in ox hu), g0_pos ox ht, g0_pos ox hu]
theorem spot_T {n : Nat} {xs ys : List Int} (ox : IsOrd n xs) (oy : IsOrd n ys) : farSpot xs ys = ((spT n xs ys : Nat) : Int) := by
  unfold farSpot spotL spT
  rw [filter_len, ox.len]
  congr 1
  rw [sum_g0 ox (fun t => ind (!decide (pos xs t = pos ys t)))]
  apply sumN_congr
  intro p hp
  rw [pos_g0 ox hp]
  by_cases c : g0 xs p = g0 ys p
  · rw [decide_eq_true c, c, pos_g0 oy hp, decide_eq_true rfl]
  · have d : ¬ (p = pos ys (g0 xs p)) := fun e => c (by
      have := g0_pos oy (g0_in ox hp)
      rw [← e] at this
      exact this.symm)
    rw [decide_eq_false c, decide_eq_false d]
theorem shift_mem {n : Nat} {xs ys : List Int} (ox : IsOrd n xs) : ∀ g, g ∈ gapsL xs ys ↔ g ∈ shL n xs ys := by
  intro g
  unfold gapsL shL
  rw [ox.len, List.mem_map, List.mem_map]
  constructor
  · rintro ⟨p, hp, rfl⟩
    exact ⟨g0 xs p, g0_in ox hp, by rw [pos_g0 ox hp, g0_seats ox hp]⟩
  · rintro ⟨t, ht, rfl⟩
    exact ⟨pos xs t, pos_in ox ht, by rw [g0_seats ox (pos_in ox ht), g0_pos ox ht]⟩
theorem shift_T {n : Nat} {xs ys : List Int} (ox : IsOrd n xs) (hn : 1 ≤ n) : (∃ t ∈ rg n, farShift xs ys = absI (pos xs t - pos ys t)) ∧ ∀ t ∈ rg n, absI (pos xs t - pos ys t) ≤ farShift xs ys := by
  obtain ⟨h1, h2⟩ := maxL_mem (gaps_nonneg xs ys) (by rw [gaps_len, ox.len]; exact hn)
  constructor
  · obtain ⟨t, ht, e⟩ := List.mem_map.mp ((shift_mem ox _).mp h1)
    exact ⟨t, ht, e.symm⟩
  · intro t ht
    exact h2 _ ((shift_mem ox _).mpr (List.mem_map.mpr ⟨t, ht, rfl⟩))
theorem shift_of {n : Nat} {xs ys : List Int} {m : Int} (ox : IsOrd n xs) (h : ∃ t ∈ rg n, m = absI (pos xs t - pos ys t)) (hle : ∀ t ∈ rg n, absI (pos xs t - pos ys t) ≤ m) : farShift xs ys = m := by
  obtain ⟨t, ht, e⟩ := h
  refine maxL_of (gaps_nonneg xs ys) ((shift_mem ox _).mpr (List.mem_map.mpr ⟨t, ht, e.symm⟩)) fun x hx => ?_
  obtain ⟨u, hu, rfl⟩ := List.mem_map.mp ((shift_mem ox _).mp hx)
  exact hle u hu
/-! ### alike just where 0 -/
theorem invR_zero : ∀ {s : List Int}, invR s = 0 → s.Pairwise (· ≤ ·)
  | [], _ => List.Pairwise.nil
  | x :: r, h => by
    have h' : (r.filter (fun z => decide (z < x))).length + invR r = 0 := h
    refine List.Pairwise.cons (fun z hz => ?_) (invR_zero (by omega))
    have e : r.filter (fun z => decide (z < x)) = [] := List.eq_nil_of_length_eq_zero (by omega)
    have := List.filter_eq_nil_iff.mp e z hz
    simp at this
    exact this
theorem same_of_pos {n : Nat} {xs ys : List Int} (ox : IsOrd n xs) (oy : IsOrd n ys) (h : ∀ p ∈ rg n, pos ys (g0 xs p) = p) : xs = ys := by
  rw [g0_ord ox, g0_ord oy]
  apply List.map_congr_left
  intro p hp
  have e := g0_pos oy (g0_in ox hp)
  rw [h p hp] at e
  exact e.symm
theorem farW_zero {w : Str} {n : Nat} {xs ys : List Int} (hw : IsWay w) (ox : IsOrd n xs) (oy : IsOrd n ys) (hn : 1 ≤ n) (h : farW w xs ys = 0) : xs = ys := by
  rcases hw with rfl | rfl | rfl
  · rw [farW_swap] at h
    unfold farSwap at h
    rw [inv_NR] at h
    have hs := invR_zero (s := seatsL xs ys) (by omega)
    have e := sorted_eq (seats_ord ox oy) hs (rg_sorted n)
    refine same_of_pos ox oy fun p hp => ?_
    rw [← g0_seats ox hp, e]
    have h1 := rg_mem.mp hp
    have z : (rg n)[p.toNat]? = some p := by
      unfold rg
      rw [List.getElem?_map, List.getElem?_range (by omega)]
      show some ((p.toNat : Nat) : Int) = some p
      rw [Int.toNat_of_nonneg h1.1]
    have z2 := g0_at z
    rw [Int.toNat_of_nonneg h1.1] at z2
    exact z2
  · rw [farW_spot] at h
    unfold farSpot spotL at h
    have e : ((rg xs.length).filter fun p => !decide (g0 xs p = g0 ys p)) = [] := List.eq_nil_of_length_eq_zero (by omega)
    rw [g0_ord ox, g0_ord oy]
    apply List.map_congr_left
    intro p hp
    have := List.filter_eq_nil_iff.mp e p (by rw [ox.len]; exact hp)
    simpa using this
  · rw [farW_shift] at h
    have h2 := (shift_T (ys := ys) ox hn).2
    rw [h] at h2
    refine same_of_pos ox oy fun p hp => ?_
    have := h2 _ (g0_in ox hp)
    rw [pos_g0 ox hp] at this
    unfold absI at this
    split at this <;> omega
/-! ### by a third one never shorter -/
theorem farW_third {w : Str} {n : Nat} {xs ys zs : List Int} (hw : IsWay w) (ox : IsOrd n xs) (oy : IsOrd n ys) (oz : IsOrd n zs) (hn : 1 ≤ n) : farW w xs ys ≤ farW w xs zs + farW w zs ys := by
  rcases hw with rfl | rfl | rfl
  · rw [farW_swap, farW_swap, farW_swap, swap_T ox oy, swap_T ox oz, swap_T oz oy]
    have : swT n xs ys ≤ swT n xs zs + swT n zs ys := by
      unfold swT
      rw [← sumN_add]
      apply sumN_le
      intro t ht
      rw [← sumN_add]
      apply sumN_le
      intro u hu
      unfold dT
      apply ind_le
      intro h
      rw [Bool.and_eq_true] at h
      have h1 := of_decide_eq_true h.1
      have h2 := of_decide_eq_true h.2
      by_cases c : pos zs u < pos zs t
      · rw [ind_true (by rw [decide_eq_true h1, decide_eq_true c]; rfl)]
        omega
      · have ne : pos zs t ≠ pos zs u := fun e => by
          have := pos_inj oz ht hu e
          subst this
          omega
        rw [ind_true (a := decide (pos zs t < pos zs u) && decide (pos ys u < pos ys t)) (by rw [decide_eq_true (show pos zs t < pos zs u by omega), decide_eq_true h2]; rfl)]
        omega
    omega
  · rw [farW_spot, farW_spot, farW_spot, spot_T ox oy, spot_T ox oz, spot_T oz oy]
    have : spT n xs ys ≤ spT n xs zs + spT n zs ys := by
      unfold spT
      rw [← sumN_add]
      apply sumN_le
      intro t _
      apply ind_le
      intro h
      by_cases c : pos xs t = pos zs t
      · have d : ¬ (pos zs t = pos ys t) := fun e => by
          rw [c, e] at h
          simp at h
        rw [ind_true (a := !decide (pos zs t = pos ys t)) (by rw [decide_eq_false d]; rfl)]
        omega
      · rw [ind_true (a := !decide (pos xs t = pos zs t)) (by rw [decide_eq_false c]; rfl)]
        omega
    omega
  · rw [farW_shift, farW_shift, farW_shift]
    obtain ⟨t, ht, e⟩ := (shift_T (ys := ys) ox hn).1
    have h1 := (shift_T (ys := zs) ox hn).2 t ht
    have h2 := (shift_T (ys := ys) oz hn).2 t ht
    rw [e]
    unfold absI at h1 h2 ⊢
    split at h1 <;> split at h2 <;> split <;> omega
/-! ### called otherwise, and from behind -/
/-- two pairs of orders whose things stand alike -/
theorem farW_called {w : Str} {n : Nat} {xs ys xs' ys' : List Int} {r : Int → Int} (hw : IsWay w) (ox : IsOrd n xs) (oy : IsOrd n ys) (ox' : IsOrd n xs') (oy' : IsOrd n ys') (hn : 1 ≤ n) (hr : IsOrd n ((rg n).map r)) (h1 : ∀ t ∈ rg n, pos xs' (r t) = pos xs t) (h2 : ∀ t ∈ rg n, pos ys' (r t) = pos ys t) : farW w xs' ys' = farW w xs ys := by
  have sr : ∀ f : Int → Nat, sumN (rg n) f = sumN (rg n) fun t => f (r t) := fun f => by
    have e : sumN ((rg n).map r) f = sumN (rg n) fun t => f (r t) := sumN_map _ _ _
    rw [← e]
    exact (sumN_perm hr f).symm
  have rin : ∀ t ∈ rg n, r t ∈ rg n := fun t ht => rg_mem.mpr (hr.mem (List.mem_map.mpr ⟨t, ht, rfl⟩))
  have ron : ∀ t' ∈ rg n, ∃ t ∈ rg n, r t = t' := fun t' ht' => List.mem_map.mp ((List.Perm.mem_iff hr).mpr ht')
  rcases hw with rfl | rfl | rfl
  · rw [farW_swap, farW_swap, swap_T ox' oy', swap_T ox oy]
    congr 1
    unfold swT
    rw [sr]
    apply sumN_congr
    intro t ht
    rw [sr]
    apply sumN_congr
    intro u hu
    unfold dT
    rw [h1 t ht, h1 u hu, h2 t ht, h2 u hu]
  · rw [farW_spot, farW_spot, spot_T ox' oy', spot_T ox oy]
    congr 1
    unfold spT
    rw [sr]
    apply sumN_congr
    intro t ht
    rw [h1 t ht, h2 t ht]
  · rw [farW_shift, farW_shift]
    obtain ⟨⟨t, ht, e⟩, hle⟩ := shift_T (ys := ys) ox hn
    refine shift_of ox' ⟨r t, rin t ht, by rw [h1 t ht, h2 t ht]; exact e⟩ fun t' ht' => ?_
    obtain ⟨u, hu, rfl⟩ := ron t' ht'
    rw [h1 u hu, h2 u hu]
    exact hle u hu
theorem behind_ord {n : Nat} {ns ms : List Int} (o1 : IsOrd n ns) (o2 : IsOrd n ms) : IsOrd n (behindL ns ms) := by
  have h : (behindL ns ms).Perm ((rg n).map (g0 ns)) := List.Perm.map _ o2
  rw [← g0_ord o1] at h
  exact h.trans o1
theorem behind_pos {n : Nat} {zs xs : List Int} (oz : IsOrd n zs) (ox : IsOrd n xs) : ∀ t ∈ rg n, pos (behindL zs xs) (g0 zs t) = pos xs t := by
  intro t ht
  have h1 := rg_mem.mp ht
  obtain ⟨j, _, ej, pj⟩ := pos_at ox h1.1 h1.2
  obtain ⟨z, hz, _⟩ := ord_ix oz (j := t.toNat) (by omega)
  have e := g0_at hz
  rw [Int.toNat_of_nonneg h1.1] at e
  rw [e, pj]
  exact pos_of (behind_ord oz ox) (behind_at ej hz)
theorem rev_pos {n : Nat} {xs : List Int} (ox : IsOrd n xs) : ∀ t ∈ rg n, pos xs.reverse t = (n : Int) - 1 - pos xs t := by
  intro t ht
  have h1 := rg_mem.mp ht
  obtain ⟨j, hj, ej, pj⟩ := pos_at ox h1.1 h1.2
  have hl := ox.len
  have er : xs.reverse[n - 1 - j]? = some t := by
    rw [List.getElem?_reverse (by omega), hl, show n - 1 - (n - 1 - j) = j by omega]
    exact ej
  rw [pj, pos_of (n := n) ((List.reverse_perm xs).trans ox) er]
  omega
theorem farW_rev {w : Str} {n : Nat} {xs ys : List Int} (hw : IsWay w) (ox : IsOrd n xs) (oy : IsOrd n ys) (hn : 1 ≤ n) : farW w xs.reverse ys.reverse = farW w xs ys := by
  have ox' : IsOrd n xs.reverse := (List.reverse_perm xs).trans ox
  have oy' : IsOrd n ys.reverse := (List.reverse_perm ys).trans oy
  rcases hw with rfl | rfl | rfl
  · rw [farW_swap, farW_swap, swap_T ox' oy', swap_T ox oy]
    congr 1
    unfold swT
    rw [sumN_swap]
    apply sumN_congr
    intro t ht
    apply sumN_congr
    intro u hu
    unfold dT
    rw [rev_pos ox u hu, rev_pos ox t ht, rev_pos oy u hu, rev_pos oy t ht]
    congr 1
    congr 1
    · by_cases c : pos xs t < pos xs u
      · rw [decide_eq_true c, decide_eq_true (by omega)]
      · rw [decide_eq_false c, decide_eq_false (by omega)]
    · by_cases c : pos ys u < pos ys t
      · rw [decide_eq_true c, decide_eq_true (by omega)]
      · rw [decide_eq_false c, decide_eq_false (by omega)]
  · rw [farW_spot, farW_spot, spot_T ox' oy', spot_T ox oy]
    congr 1
    unfold spT
    apply sumN_congr
    intro t ht
    rw [rev_pos ox t ht, rev_pos oy t ht]
    by_cases c : pos xs t = pos ys t
    · rw [decide_eq_true c, decide_eq_true (by omega)]
    · rw [decide_eq_false c, decide_eq_false (by omega)]
  · rw [farW_shift, farW_shift]
    have ea : ∀ t ∈ rg n, absI (pos xs.reverse t - pos ys.reverse t) = absI (pos xs t - pos ys t) := fun t ht => by
      rw [rev_pos ox t ht, rev_pos oy t ht]
      unfold absI
      split <;> split <;> omega
    obtain ⟨⟨t, ht, e⟩, hle⟩ := shift_T (ys := ys) ox hn
    exact shift_of ox' ⟨t, ht, by rw [ea t ht]; exact e⟩ fun u hu => by rw [ea u hu]; exact hle u hu
/-! ### how far at most -/
theorem invR_two (s : List Int) : 2 * invR s + s.length ≤ s.length * s.length := by
  induction s with
  | nil => exact Nat.le_refl _
  | cons x r ih =>
    show 2 * ((r.filter _).length + invR r) + (r.length + 1) ≤ (r.length + 1) * (r.length + 1)
    have h1 : (r.filter (fun z => decide (z < x))).length ≤ r.length := List.length_filter_le _ _
    have h2 : (r.length + 1) * (r.length + 1) = r.length * r.length + r.length + r.length + 1 := by
      rw [Nat.add_mul, Nat.mul_add]
      omega
    omega
theorem swap_most {n : Nat} {xs ys : List Int} (ox : IsOrd n xs) : 2 * farSwap xs ys ≤ (n : Int) * ((n : Int) - 1) := by
  unfold farSwap
  rw [inv_NR]
  have h := invR_two (seatsL xs ys)
  rw [seats_len, ox.len] at h
  have e : (n : Int) * ((n : Int) - 1) = ((n * n : Nat) : Int) - (n : Int) := by
    rw [Int.mul_sub, Int.mul_one, Int.natCast_mul]
  rw [e]
  omega
theorem spot_most {n : Nat} {xs ys : List Int} (ox : IsOrd n xs) : farSpot xs ys ≤ n := by
  unfold farSpot spotL
  rw [ox.len]
  have h := List.length_filter_le (fun p => !decide (g0 xs p = g0 ys p)) (rg n)
  rw [rg_len] at h
  omega
theorem spot_one {n : Nat} {xs ys : List Int} (ox : IsOrd n xs) (oy : IsOrd n ys) : farSpot xs ys ≠ 1 := by
  intro h
  unfold farSpot at h
  obtain ⟨p, hp⟩ := List.length_eq_one_iff.mp (show (spotL xs ys).length = 1 by omega)
  have mem : ∀ q, q ∈ spotL xs ys ↔ q ∈ rg n ∧ g0 xs q ≠ g0 ys q := fun q => by
    unfold spotL
    rw [List.mem_filter, ox.len]
    simp
  have hpm := (mem p).mp (by rw [hp]; exact List.mem_cons_self)
  have hq := pos_in oy (g0_in ox hpm.1)
  have e := g0_pos oy (g0_in ox hpm.1)
  have nq : pos ys (g0 xs p) ≠ p := fun z => hpm.2 (by rw [z] at e; exact e.symm)
  have same : g0 xs (pos ys (g0 xs p)) = g0 ys (pos ys (g0 xs p)) := by
    by_cases c : g0 xs (pos ys (g0 xs p)) = g0 ys (pos ys (g0 xs p))
    · exact c
    · have := (mem _).mpr ⟨hq, c⟩
      rw [hp] at this
      exact absurd (List.mem_singleton.mp this) nq
  rw [e] at same
  have e2 := pos_g0 ox hq
  rw [same, pos_g0 ox hpm.1] at e2
  exact nq e2.symm
theorem shift_most {n : Nat} {xs ys : List Int} (ox : IsOrd n xs) (oy : IsOrd n ys) (hn : 1 ≤ n) : farShift xs ys ≤ (n : Int) - 1 := by
  obtain ⟨t, ht, e⟩ := (shift_T (ys := ys) ox hn).1
  have h1 := rg_mem.mp (pos_in ox ht)
  have h2 := rg_mem.mp (pos_in oy ht)
  rw [e]
  unfold absI
  split <;> omega
theorem below_sum (n : Nat) : ∀ b : Nat, b ≤ n → sumN (rg n) (fun j => ind (decide (j < (b : Int)))) = b := by
  induction n with
  | zero => intro b hb; have : b = 0 := by omega
            subst this; rfl
  | succ n ih =>
    intro b hb
    rw [rg_succ, sumN_append, sumN_cons, sumN_nil]
    by_cases c : b = n + 1
    · subst c
      rw [sumN_congr (g := fun j => ind (decide (j < (n : Int)))) (fun j hj => by
        have := rg_mem.mp hj
        rw [decide_eq_true this.2, decide_eq_true (show j < ((n + 1 : Nat) : Int) by omega)]), ih n (Nat.le_refl _), ind_true (decide_eq_true (by omega))]
    · rw [ih b (by omega), decide_eq_false (show ¬ ((n : Int) < (b : Int)) by omega)]
      rfl
/-- so many others stand the other way round as a thing is shifted -/
theorem turned_most {n : Nat} {xs ys : List Int} (ox : IsOrd n xs) (oy : IsOrd n ys) {t : Int} (ht : t ∈ rg n) : pos ys t - pos xs t ≤ ((sumN (rg n) (fun u => dT xs ys t u) : Nat) : Int) := by
  have h1 := rg_mem.mp (pos_in ox ht)
  have h2 := rg_mem.mp (pos_in oy ht)
  have ea := below_sum n (pos xs t).toNat (by omega)
  have eb := below_sum n (pos ys t).toNat (by omega)
  rw [sum_pos ox] at ea
  rw [sum_pos oy] at eb
  rw [Int.toNat_of_nonneg h1.1] at ea
  rw [Int.toNat_of_nonneg h2.1] at eb
  have : sumN (rg n) (fun u => ind (decide (pos ys u < pos ys t))) ≤ sumN (rg n) (fun u => ind (decide (pos xs u < pos xs t))) + sumN (rg n) (fun u => dT xs ys t u) := by
    rw [← sumN_add]
    apply sumN_le
    intro u hu
    apply ind_le
    intro h
    have hlt := of_decide_eq_true h
    by_cases c : pos xs u < pos xs t
    · rw [ind_true (decide_eq_true c)]
      omega
    · have ne : pos xs t ≠ pos xs u := fun e => by
        have := pos_inj ox ht hu e
        subst this
        omega
      unfold dT
      rw [ind_true (a := decide (pos xs t < pos xs u) && decide (pos ys u < pos ys t)) (by rw [decide_eq_true (show pos xs t < pos xs u by omega), decide_eq_true hlt]; rfl)]
      omega
  omega
theorem dT_turn (xs ys : List Int) (t u : Int) : dT ys xs t u = dT xs ys u t := by
  unfold dT
  rw [Bool.and_comm]
theorem turned_abs {n : Nat} {xs ys : List Int} (ox : IsOrd n xs) (oy : IsOrd n ys) {t : Int} (ht : t ∈ rg n) : absI (pos xs t - pos ys t) ≤ ((sumN (rg n) (fun u => dT xs ys t u) : Nat) : Int) + ((sumN (rg n) (fun u => dT xs ys u t) : Nat) : Int) := by
  have h1 := turned_most ox oy ht
  have h2 := turned_most oy ox ht
  rw [sumN_congr (g := fun u => dT xs ys u t) (fun u _ => dT_turn xs ys t u)] at h2
  unfold absI
  split <;> omega
theorem shift_swap {n : Nat} {xs ys : List Int} (ox : IsOrd n xs) (oy : IsOrd n ys) (hn : 1 ≤ n) : farShift xs ys ≤ farSwap xs ys := by
  obtain ⟨t, ht, e⟩ := (shift_T (ys := ys) ox hn).1
  have h1 := turned_most ox oy ht
  have h2 := turned_most oy ox ht
  have b1 : sumN (rg n) (fun u => dT xs ys t u) ≤ swT n xs ys := sumN_one (f := fun t => sumN (rg n) fun u => dT xs ys t u) ht
  have b2 : sumN (rg n) (fun u => dT ys xs t u) ≤ swT n ys xs := sumN_one (f := fun t => sumN (rg n) fun u => dT ys xs t u) ht
  have e1 := swap_T ox oy
  have e2 := swap_T oy ox
  have e3 := farSwap_turn ox oy
  rw [e]
  unfold absI
  split <;> omega
theorem spot_swap {n : Nat} {xs ys : List Int} (ox : IsOrd n xs) (oy : IsOrd n ys) : farSpot xs ys ≤ 2 * farSwap xs ys := by
  rw [spot_T ox oy, swap_T ox oy]
  have : spT n xs ys ≤ swT n xs ys + swT n xs ys := by
    have e : swT n xs ys = sumN (rg n) fun t => sumN (rg n) fun u => dT xs ys u t := by
      unfold swT
      rw [sumN_swap]
    have e2 : swT n xs ys + swT n xs ys = sumN (rg n) fun t => sumN (rg n) (fun u => dT xs ys t u) + sumN (rg n) (fun u => dT xs ys u t) := by
      rw [sumN_add, ← e]
      rfl
    rw [e2]
    unfold spT
    apply sumN_le
    intro t ht
    apply ind_le
    intro h
    have ha := turned_abs ox oy ht
    have ne : ¬ (pos xs t = pos ys t) := fun z => by
      rw [z] at h
      simp at h
    unfold absI at ha
    split at ha <;> omega
  omega
/-! ### backs -/
theorem back_list {n : Nat} {ns ps : List Int} (o : IsOrd n ns) (h : IsBack ns ps) : ps = (rg n).map (pos ns) := by
  apply List.ext_getElem?
  intro t
  by_cases c : t < n
  · have e := back_pos o h (x := (t : Int)) (by omega) (by omega)
    rw [Int.toNat_natCast] at e
    rw [e]
    unfold rg
    rw [List.map_map, List.getElem?_map, List.getElem?_range c]
    rfl
  · rw [List.getElem?_eq_none (by rw [h.1, o.len]; omega), List.getElem?_eq_none (by rw [List.length_map, rg_len]; omega)]
theorem back_ord {n : Nat} {ns ps : List Int} (o : IsOrd n ns) (h : IsBack ns ps) : IsOrd n ps := by
  rw [back_list o h]
  exact pos_ord o
theorem back_g0 {n : Nat} {ns ps : List Int} (o : IsOrd n ns) (h : IsBack ns ps) : ∀ t ∈ rg n, g0 ps t = pos ns t := by
  intro t ht
  have h1 := rg_mem.mp ht
  have e := g0_at (back_pos o h h1.1 h1.2)
  rw [Int.toNat_of_nonneg h1.1] at e
  exact e
theorem back_back {n : Nat} {ns ps : List Int} (o : IsOrd n ns) (h : IsBack ns ps) : IsBack ps ns := by
  refine ⟨h.1.symm, fun j x hx => ?_⟩
  have hj := (List.getElem?_eq_some_iff.mp hx).1
  rw [h.1, o.len] at hj
  obtain ⟨i, hi, ei, pi⟩ := pos_at o (x := (j : Int)) (by omega) (by omega)
  have e := back_pos o h (x := (j : Int)) (by omega) (by omega)
  rw [Int.toNat_natCast, hx] at e
  have ex : x = (i : Int) := (Option.some.inj e).trans pi
  rw [ex, Int.toNat_natCast]
  exact ei
theorem spot_back {n : Nat} {xs ys ps qs : List Int} (ox : IsOrd n xs) (oy : IsOrd n ys) (hp : IsBack xs ps) (hq : IsBack ys qs) : farSpot ps qs = farSpot xs ys := by
  rw [spot_T ox oy]
  unfold farSpot spotL spT
  rw [filter_len, hp.1, ox.len]
  congr 1
  apply sumN_congr
  intro t ht
  rw [back_g0 ox hp t ht, back_g0 oy hq t ht]
theorem behind_back {n : Nat} {xs ps : List Int} (ox : IsOrd n xs) (hp : IsBack xs ps) : behindL xs ps = rg n := by
  rw [back_list ox hp]
  unfold behindL
  rw [List.map_map]
  have e : (rg n).map ((fun p => xs.getD p.toNat 0) ∘ pos xs) = (rg n).map (fun t => t) := List.map_congr_left fun t ht => g0_pos ox ht
  rw [e, List.map_id']
theorem behind_assoc {n : Nat} {xs ys zs : List Int} (ox : IsOrd n xs) (oy : IsOrd n ys) (oz : IsOrd n zs) : behindL (behindL xs ys) zs = behindL xs (behindL ys zs) := by
  apply List.ext_getElem?
  intro i
  by_cases c : i < n
  · obtain ⟨z, hz, z0, z1⟩ := ord_ix oz c
    obtain ⟨y, hy, y0, y1⟩ := ord_ix oy (j := z.toNat) (by omega)
    obtain ⟨x, hx, _⟩ := ord_ix ox (j := y.toNat) (by omega)
    rw [behind_at hz (behind_at hy hx), behind_at (behind_at hz hy) hx]
  · rw [List.getElem?_eq_none (by rw [behind_len, oz.len]; omega), List.getElem?_eq_none (by rw [behind_len, behind_len, oz.len]; omega)]
end Fo
namespace Fo
open PySem PySem.Spec PyProof.Rows L2
/-! ### pairs of things -/
theorem pair_sum (F : Int → Int → Nat) (h0 : ∀ t, F t t = 0) : ∀ n : Nat, (sumN (rg n) fun t => sumN (rg n) fun u => F t u) = sumN (rg n) fun t => sumN (rg t.toNat) fun u => F t u + F u t
  | 0 => rfl
  | n + 1 => by
    have ih := pair_sum F h0 n
    rw [rg_succ, sumN_append, sumN_append, ← ih]
    rw [sumN_cons, sumN_nil, sumN_cons, sumN_nil, Int.toNat_natCast]
    have e1 : (sumN (rg n) fun t => sumN (rg n ++ [(n : Int)]) fun u => F t u) = (sumN (rg n) fun t => sumN (rg n) fun u => F t u) + sumN (rg n) fun t => F t (n : Int) := by
      rw [← sumN_add]
      apply sumN_congr
      intro t _
      rw [sumN_append, sumN_cons, sumN_nil]
      omega
    have e2 : (sumN (rg n ++ [(n : Int)]) fun u => F (n : Int) u) = sumN (rg n) (fun u => F (n : Int) u) := by
      rw [sumN_append, sumN_cons, sumN_nil, h0]
      omega
    have e3 : (sumN (rg n) fun u => F (n : Int) u + F u (n : Int)) = sumN (rg n) (fun u => F (n : Int) u) + sumN (rg n) (fun u => F u (n : Int)) := sumN_add _ _ _
    have e4 := e1
    have e5 := e2
    have e6 := e3
    omega
def diffT (xs ys : List Int) (t u : Int) : Bool := !decide (decide (pos xs t < pos xs u) = decide (pos ys t < pos ys u))
theorem swT_pairs {n : Nat} {xs ys : List Int} (ox : IsOrd n xs) (oy : IsOrd n ys) : swT n xs ys = sumN (rg n) fun t => sumN (rg t.toNat) fun u => ind (diffT xs ys t u) := by
  unfold swT
  rw [pair_sum (fun t u => dT xs ys t u) (fun t => by
    unfold dT
    rw [decide_eq_false (show ¬ pos xs t < pos xs t by omega)]
    rfl)]
  apply sumN_congr
  intro t ht
  apply sumN_congr
  intro u hu
  have hub := rg_mem.mp hu
  have htb := rg_mem.mp ht
  have hur : u ∈ rg n := rg_mem.mpr ⟨hub.1, by omega⟩
  have n1 : pos xs t ≠ pos xs u := fun e => by
    have := pos_inj ox ht hur e
    omega
  have n2 : pos ys t ≠ pos ys u := fun e => by
    have := pos_inj oy ht hur e
    omega
  unfold dT diffT
  by_cases c : pos xs t < pos xs u
  · by_cases d : pos ys t < pos ys u
    · rw [decide_eq_true c, decide_eq_true d, decide_eq_false (show ¬ pos ys u < pos ys t by omega), decide_eq_false (show ¬ pos xs u < pos xs t by omega)]
      rfl
    · rw [decide_eq_true c, decide_eq_false d, decide_eq_true (show pos ys u < pos ys t by omega), decide_eq_false (show ¬ pos xs u < pos xs t by omega)]
      rfl
  · by_cases d : pos ys t < pos ys u
    · rw [decide_eq_false c, decide_eq_true d, decide_eq_false (show ¬ pos ys u < pos ys t by omega), decide_eq_true (show pos xs u < pos xs t by omega)]
      rfl
    · rw [decide_eq_false c, decide_eq_false d, decide_eq_true (show pos ys u < pos ys t by omega), decide_eq_true (show pos xs u < pos xs t by omega)]
      rfl
theorem sum_ind (l : List Int) (p : Int → Bool) : (l.map fun x => if p x then (1 : Int) else 0).sum = (((l.filter p).length : Nat) : Int) := by
  induction l with
  | nil => rfl
  | cons a l ih =>
    rw [List.map_cons, List.sum_cons, ih, List.filter_cons]
    cases p a
    · simp
    · simp
      omega
theorem farW_nonneg (w : Str) (xs ys : List Int) : 0 ≤ farW w xs ys := by
  unfold farW
  split
  · unfold farSwap; omega
  · split
    · unfold farSpot; omega
    · unfold farShift
      have : ∀ l : List Int, 0 ≤ maxL l := fun l => by
        induction l with
        | nil => exact Int.le_refl _
        | cons a l ih => show 0 ≤ max a (maxL l); omega
      exact this _
end Fo
namespace Fo
open PySem PySem.Spec PyProof.Rows L2
/-! ### all orders: each once -/
theorem allK_mem {n : Nat} : ∀ (k : Nat) (r : List Int), r.length = k → r.Nodup → (∀ x ∈ r, x ∈ rg n) → r ∈ allK n k
  | 0, r, hl, _, _ => by rw [List.length_eq_zero_iff.mp hl]; exact List.mem_cons_self
  | k + 1, r, hl, hn, hs => by
    have hne : r ≠ [] := fun e => by rw [e] at hl; cases hl
    have e := List.dropLast_concat_getLast hne
    rw [← e] at hn hs ⊢
    rw [List.nodup_append] at hn
    have ih := allK_mem k r.dropLast (by rw [List.length_dropLast, hl]; rfl) hn.1 fun x hx => hs x (List.mem_append.mpr (.inl hx))
    refine List.mem_flatMap.mpr ⟨_, ih, List.mem_map.mpr ⟨r.getLast hne, List.mem_filter.mpr ⟨hs _ (List.mem_append.mpr (.inr (List.mem_singleton.mpr rfl))), ?_⟩, rfl⟩⟩
    rw [decide_eq_false (fun z => hn.2.2 _ z _ (List.mem_singleton.mpr rfl) rfl)]
    rfl
theorem ord_mem {n : Nat} {r : List Int} (o : IsOrd n r) : r ∈ allK n n := allK_mem n r o.len o.nodup fun x hx => rg_mem.mpr (o.mem hx)
theorem allK_nodup {n : Nat} : ∀ k, (allK n k).Nodup
  | 0 => List.nodup_cons.mpr ⟨List.not_mem_nil, List.nodup_nil⟩
  | k + 1 => by
    have ih := allK_nodup (n := n) k
    show List.Pairwise _ ((allK n k).flatMap (extO n))
    rw [List.pairwise_flatMap]
    refine ⟨fun o _ => ?_, ih.imp fun {a b} hab x hx y hy e => ?_⟩
    · unfold extO
      refine List.Pairwise.map _ (fun a b h e => h ?_) ((rg_nodup n).filter _)
      have := List.append_cancel_left e
      exact (List.cons.inj this).1
    · obtain ⟨t, _, rfl⟩ := List.mem_map.mp hx
      obtain ⟨u, _, rfl⟩ := List.mem_map.mp hy
      exact hab (List.append_inj_left' e rfl)
theorem nodup_lenG : ∀ {l m : List (List Int)}, l.Nodup → (∀ x ∈ l, x ∈ m) → l.length ≤ m.length
  | [], m, _, _ => Nat.zero_le _
  | a :: l, m, hn, hs => by
    obtain ⟨h1, h2⟩ := List.nodup_cons.mp hn
    have ha := hs a List.mem_cons_self
    have ih := nodup_lenG (l := l) (m := m.erase a) h2 fun x hx => by
      have ne : x ≠ a := fun e => h1 (by rw [← e]; exact hx)
      exact (List.mem_erase_of_ne ne).mpr (hs x (List.mem_cons_of_mem _ hx))
    rw [List.length_erase_of_mem ha] at ih
    have : 0 < m.length := List.length_pos_of_mem ha
    rw [List.length_cons]
    omega
theorem nodup_perm {l m : List (List Int)} (hl : l.Nodup) (hm : m.Nodup) (h : ∀ x, x ∈ l ↔ x ∈ m) : l.Perm m := by
  rw [List.perm_iff_count]
  intro a
  have c : ∀ {l : List (List Int)}, l.Nodup → l.count a = if a ∈ l then 1 else 0 := by
    intro l hl
    by_cases ha : a ∈ l
    · rw [if_pos ha]
      have h1 := List.nodup_iff_count.mp hl a
      have h2 := List.count_pos_iff.mpr ha
      omega
    · rw [if_neg ha]
      exact List.count_eq_zero.mpr ha
  rw [c hl, c hm]
  by_cases ha : a ∈ l
  · rw [if_pos ha, if_pos ((h a).mp ha)]
  · rw [if_neg ha, if_neg (fun z => ha ((h a).mpr z))]
theorem seats_inj {n : Nat} {xs a b : List Int} (ox : IsOrd n xs) (oa : IsOrd n a) (ob : IsOrd n b) (e : seatsL a xs = seatsL b xs) : a = b := by
  apply List.ext_getElem?
  intro i
  by_cases h : i < n
  · obtain ⟨x, ex, x0, x1⟩ := ord_ix oa h
    obtain ⟨y, ey, y0, y1⟩ := ord_ix ob h
    have h1 := seats_at (ys := xs) ex
    have h2 := seats_at (ys := xs) ey
    rw [e, h2] at h1
    have h3 := Option.some.inj h1
    rw [ex, ey, pos_inj ox (rg_mem.mpr ⟨x0, x1⟩) (rg_mem.mpr ⟨y0, y1⟩) h3.symm]
  · rw [List.getElem?_eq_none (by rw [oa.len]; omega), List.getElem?_eq_none (by rw [ob.len]; omega)]
/-- all orders, called by their seats in one of them, are all orders -/
theorem seats_all {n : Nat} {xs : List Int} (ox : IsOrd n xs) : ((allK n n).map fun o => seatsL o xs).Perm (allK n n) := by
  have hnd : ((allK n n).map fun o => seatsL o xs).Nodup := by
    show List.Pairwise _ _
    rw [List.pairwise_map]
    exact (allK_nodup n).imp_of_mem fun ha hb h e => h (seats_inj ox (all_ord ha) (all_ord hb) e)
  have hsub : ∀ x ∈ (allK n n).map fun o => seatsL o xs, x ∈ allK n n := fun x h => by
    obtain ⟨o, ho, rfl⟩ := List.mem_map.mp h
    exact ord_mem (seats_ord (all_ord ho) ox)
  refine nodup_perm hnd (allK_nodup n) fun x => ⟨hsub x, fun h => Classical.byContradiction fun hx => ?_⟩
  have hl := nodup_lenG (l := x :: (allK n n).map fun o => seatsL o xs) (m := allK n n) (List.nodup_cons.mpr ⟨hx, hnd⟩) fun y hy => by
    rcases List.mem_cons.mp hy with rfl | hy
    · exact h
    · exact hsub y hy
  rw [List.length_cons, List.length_map] at hl
  omega
end Fo
namespace Fo
theorem emod_mul' (a : Int) {b c : Int} (hb : 0 < b) (hc : 0 < c) : a % (b * c) = a % b + b * (a / b % c) := by
  have h1 := Int.mul_ediv_add_emod a b
  have h2 := Int.mul_ediv_add_emod (a / b) c
  have b1 := Int.emod_nonneg a (show b ≠ 0 by omega)
  have b2 := Int.emod_lt_of_pos a hb
  have c1 := Int.emod_nonneg (a / b) (show c ≠ 0 by omega)
  have c2 := Int.emod_lt_of_pos (a / b) hc
  have e : a = (a % b + b * (a / b % c)) + (b * c) * (a / b / c) := by
    have h3 : b * (a / b) = b * (c * (a / b / c) + a / b % c) := by rw [h2]
    rw [Int.mul_add, ← Int.mul_assoc] at h3
    omega
  have l1 : 0 ≤ b * (a / b % c) := Int.mul_nonneg (by omega) c1
  have l2 : b * (a / b % c) ≤ b * (c - 1) := Int.mul_le_mul_of_nonneg_left (by omega) (by omega)
  rw [Int.mul_sub, Int.mul_one] at l2
  calc a % (b * c) = ((a % b + b * (a / b % c)) + (b * c) * (a / b / c)) % (b * c) := by rw [← e]
    _ = (a % b + b * (a / b % c)) % (b * c) := Int.add_mul_emod_self_left _ _ _
    _ = _ := Int.emod_eq_of_lt (by omega) (by omega)
end Fo
namespace Fo
open PySem PySem.Spec PyProof.Rows L2
/-! k74: orders by their numbers, the even ones of them -/
theorem ind_xor (a b : Bool) : (ind (a != b) + ind a + ind b) % 2 = 0 := by cases a <;> cases b <;> rfl
theorem sumN_par {l : List Int} {f g h : Int → Nat} (e : ∀ x ∈ l, (f x + g x + h x) % 2 = 0) : (sumN l f + sumN l g + sumN l h) % 2 = 0 := by
  induction l with
  | nil => rfl
  | cons a l ih =>
    rw [sumN_cons, sumN_cons, sumN_cons]
    have h1 := e a List.mem_cons_self
    have h2 := ih fun x hx => e x (List.mem_cons_of_mem _ hx)
    omega
theorem swT_par {n : Nat} {xs ys zs : List Int} (ox : IsOrd n xs) (oy : IsOrd n ys) (oz : IsOrd n zs) : (swT n xs ys + swT n xs zs + swT n zs ys) % 2 = 0 := by
  rw [swT_pairs ox oy, swT_pairs ox oz, swT_pairs oz oy]
  refine sumN_par fun t _ => sumN_par fun u _ => ?_
  have : diffT xs ys t u = (diffT xs zs t u != diffT zs ys t u) := by
    unfold diffT
    cases decide (pos xs t < pos xs u) <;> cases decide (pos ys t < pos ys u) <;> cases decide (pos zs t < pos zs u) <;> rfl
  rw [this]
  exact ind_xor _ _
theorem swap_par {n : Nat} {xs ys zs : List Int} (ox : IsOrd n xs) (oy : IsOrd n ys) (oz : IsOrd n zs) : (farSwap xs ys + farSwap xs zs + farSwap zs ys) % 2 = 0 := by
  rw [swap_T ox oy, swap_T ox oz, swap_T oz oy]
  have := swT_par ox oy oz
  omega
theorem swap_sw1 {n : Nat} {xs ys : List Int} (ox : IsOrd n xs) (oy : IsOrd n ys) {p : Nat} (hp : p + 1 < n) : (farSwap (sw xs p) ys + farSwap xs ys) % 2 = 1 := by
  unfold farSwap
  rw [seats_sw (by rw [ox.len]; exact hp), inv_NR, inv_NR]
  have os := seats_ord ox oy
  obtain ⟨a, ha, _⟩ := ord_ix os (j := p) (by omega)
  obtain ⟨b, hb, _⟩ := ord_ix os (j := p + 1) (by omega)
  have hne : a ≠ b := fun z => by
    rw [← z] at hb
    have := nd_ix os.nodup ha hb
    omega
  rcases Int.lt_or_gt_of_ne hne with h | h
  · have hl := os.len
    have h2 : invR (sw (seatsL xs ys) p) = invR (sw (sw (seatsL xs ys) p) p) + 1 := invR_sw (a := b) (b := a) (by
      unfold sw
      rw [List.getElem?_set_ne (by omega), List.getElem?_set_self (by omega), List.getD_eq_getElem?_getD, hb]; rfl) (by
      unfold sw
      rw [List.getElem?_set_self (by rw [List.length_set]; omega), List.getD_eq_getElem?_getD, ha]; rfl) h
    have e : sw (sw (seatsL xs ys) p) p = seatsL xs ys := by
      obtain ⟨A, x, y, B, e, l⟩ := split2 (xs := seatsL xs ys) (p := p) (by omega)
      rw [e, ← l, sw_at, sw_at]
    rw [e] at h2
    omega
  · have h2 := invR_sw ha hb h
    omega
theorem tr_odd : ∀ n : Nat, n ≤ 8 → ∀ p : Nat, p < n → ∀ q : Nat, q < n → p < q → invN ((rg n).map fun r => if r = (p : Int) then (q : Int) else if r = (q : Int) then (p : Int) else r) % 2 = 1 := by
  have h : ∀ n : Nat, n < 9 → ∀ p : Nat, p < n → ∀ q : Nat, q < n → p < q → invN ((rg n).map fun r => if r = (p : Int) then (q : Int) else if r = (q : Int) then (p : Int) else r) % 2 = 1 := by decide +kernel
  exact fun n hn => h n (by omega)
theorem spot_two {n : Nat} {xs ys : List Int} (ox : IsOrd n xs) (oy : IsOrd n ys) (hn : n ≤ 8) (he : farSwap xs ys % 2 = 0) : farSpot xs ys ≠ 2 := fun h2 => by
  have os := seats_ord ox oy
  have hl : (spotL xs ys).length = 2 := by unfold farSpot at h2; omega
  obtain ⟨p, q, epq⟩ : ∃ p q, spotL xs ys = [p, q] := by
    match hs : spotL xs ys, hl with
    | [p, q], _ => exact ⟨p, q, rfl⟩
  have hmem : ∀ r, r ∈ spotL xs ys ↔ r ∈ rg n ∧ g0 xs r ≠ g0 ys r := fun r => by
    unfold spotL
    rw [List.mem_filter, ox.len]
    simp
  have hs : ∀ r ∈ rg n, (g0 xs r = g0 ys r ↔ g0 (seatsL xs ys) r = r) := fun r hr => by
    rw [g0_seats ox hr]
    have hb := rg_mem.mp hr
    obtain ⟨y, hy, y0, y1⟩ := ord_ix oy (j := r.toNat) (by omega)
    have ey : g0 ys r = y := by
      have := g0_at hy
      rw [Int.toNat_of_nonneg hb.1] at this
      exact this
    obtain ⟨x, hx, x0, x1⟩ := ord_ix ox (j := r.toNat) (by omega)
    have ex : g0 xs r = x := by
      have := g0_at hx
      rw [Int.toNat_of_nonneg hb.1] at this
      exact this
    rw [ex, ey]
    constructor
    · rintro rfl
      rw [pos_of oy hy]
      omega
    · intro z
      obtain ⟨j, hj, ej, pj⟩ := pos_at oy x0 x1
      rw [pj] at z
      have : j = r.toNat := by omega
      rw [this, hy] at ej
      exact (Option.some.inj ej).symm
  have inj : ∀ r ∈ rg n, ∀ t ∈ rg n, g0 (seatsL xs ys) r = g0 (seatsL xs ys) t → r = t := fun r hr t ht z => by
    have hb := rg_mem.mp hr
    have hc := rg_mem.mp ht
    obtain ⟨x, hx, _⟩ := ord_ix os (j := r.toNat) (by omega)
    obtain ⟨y, hy, _⟩ := ord_ix os (j := t.toNat) (by omega)
    have ex := g0_at hx
    have ey := g0_at hy
    rw [Int.toNat_of_nonneg hb.1] at ex
    rw [Int.toNat_of_nonneg hc.1] at ey
    rw [ex, ey] at z
    subst z
    have := nd_ix os.nodup hx hy
    omega
  have val : ∀ r ∈ rg n, g0 (seatsL xs ys) r ∈ rg n := fun r hr => by
    have hb := rg_mem.mp hr
    obtain ⟨x, hx, x0, x1⟩ := ord_ix os (j := r.toNat) (by omega)
    have ex := g0_at hx
    rw [Int.toNat_of_nonneg hb.1] at ex
    rw [ex]
    exact rg_mem.mpr ⟨x0, x1⟩
  have hlt : p < q := by
    have h1 : (spotL xs ys).Pairwise (· < ·) := by
      unfold spotL rg
      exact List.Pairwise.filter _ (List.Pairwise.map _ (fun a b h => by omega) List.pairwise_lt_range)
    rw [epq] at h1
    exact (List.pairwise_cons.mp h1).1 q (by simp)
  have mp : p ∈ rg n ∧ g0 xs p ≠ g0 ys p := (hmem p).mp (by rw [epq]; simp)
  have mq : q ∈ rg n ∧ g0 xs q ≠ g0 ys q := (hmem q).mp (by rw [epq]; simp)
  have fix : ∀ r ∈ rg n, r ≠ p → r ≠ q → g0 (seatsL xs ys) r = r := fun r hr n1 n2 => by
    refine (hs r hr).mp ?_
    by_cases c : g0 xs r = g0 ys r
    · exact c
    · have := (hmem r).mpr ⟨hr, c⟩
      rw [epq] at this
      simp [n1, n2] at this
  have np : g0 (seatsL xs ys) p ≠ p := fun z => mp.2 ((hs p mp.1).mpr z)
  have nq : g0 (seatsL xs ys) q ≠ q := fun z => mq.2 ((hs q mq.1).mpr z)
  have ep : g0 (seatsL xs ys) p = q := by
    by_cases c : g0 (seatsL xs ys) p = q
    · exact c
    · have f := fix _ (val p mp.1) np c
      exact absurd (inj _ (val p mp.1) p mp.1 f) np
  have eq : g0 (seatsL xs ys) q = p := by
    by_cases c : g0 (seatsL xs ys) q = p
    · exact c
    · have f := fix _ (val q mq.1) c nq
      exact absurd (inj _ (val q mq.1) q mq.1 f) nq
  have hb := rg_mem.mp mp.1
  have hc := rg_mem.mp mq.1
  have e : seatsL xs ys = (rg n).map fun r => if r = ((p.toNat : Nat) : Int) then ((q.toNat : Nat) : Int) else if r = ((q.toNat : Nat) : Int) then ((p.toNat : Nat) : Int) else r := by
    rw [Int.toNat_of_nonneg hb.1, Int.toNat_of_nonneg hc.1]
    refine (g0_ord os).trans (List.map_congr_left fun r hr => ?_)
    by_cases c1 : r = p
    · rw [if_pos c1, c1, ep]
    · rw [if_neg c1]
      by_cases c2 : r = q
      · rw [if_pos c2, c2, eq]
      · rw [if_neg c2, fix r hr c1 c2]
  have := tr_odd n hn p.toNat (by omega) q.toNat (by omega) (by omega)
  rw [← e] at this
  unfold farSwap at he
  omega
theorem even_spot {n : Nat} {xs ys : List Int} (ox : IsOrd n xs) (oy : IsOrd n ys) (hn1 : 1 ≤ n) (hn : n ≤ 8) (he : farSwap xs ys % 2 = 0) (ne : xs ≠ ys) : 3 ≤ farSpot xs ys := by
  have h0 : farSpot xs ys ≠ 0 := fun z => ne (farW_zero (w := "spot") (.inr (.inl rfl)) ox oy hn1 (by rw [farW_spot]; exact z))
  have h1 := spot_one ox oy
  have h2 := spot_two ox oy hn he
  have h3 : 0 ≤ farSpot xs ys := by unfold farSpot; omega
  omega
theorem even_swap {n : Nat} {xs ys : List Int} (ox : IsOrd n xs) (oy : IsOrd n ys) (hn1 : 1 ≤ n) (he : farSwap xs ys % 2 = 0) (ne : xs ≠ ys) : 2 ≤ farSwap xs ys := by
  have h0 : farSwap xs ys ≠ 0 := fun z => ne (farW_zero (w := "swap") (.inl rfl) ox oy hn1 (by rw [farW_swap]; exact z))
  have h3 : 0 ≤ farSwap xs ys := by unfold farSwap; omega
  omega
/-! numbers -/
def numG : List Int → Nat → Int → List Int
  | _, 0, _ => []
  | left, m + 1, z => left.getD (z % ((m + 1 : Nat) : Int)).toNat 0 :: numG (left.eraseIdx (z % ((m + 1 : Nat) : Int)).toNat) m (z / ((m + 1 : Nat) : Int))
def numF (n : Nat) (z : Int) : List Int := numG (rg n) n z
def QQ : Nat → Nat → Nat
  | 0, _ => 1
  | t + 1, c => (t + 1 + c) * QQ t c
theorem QQ_pos : ∀ t c : Nat, 0 < QQ t c
  | 0, _ => Nat.one_pos
  | t + 1, c => Nat.mul_pos (by omega) (QQ_pos t c)
theorem numG_len : ∀ (m : Nat) (left : List Int) (z : Int), (numG left m z).length = m
  | 0, _, _ => rfl
  | m + 1, left, z => by rw [numG, List.length_cons, numG_len]
theorem getD_inj {l : List Int} (nd : l.Nodup) {i j : Nat} (hi : i < l.length) (hj : j < l.length) (e : l.getD i 0 = l.getD j 0) : i = j := by
  rw [List.getD_eq_getElem?_getD, List.getD_eq_getElem?_getD, List.getElem?_eq_getElem hi, List.getElem?_eq_getElem hj] at e
  exact nd_ix nd (x := l[i]) (List.getElem?_eq_getElem hi) (by rw [List.getElem?_eq_getElem hj]; exact congrArg some e.symm)
theorem numG_inj : ∀ (t c : Nat) (left : List Int) (z z' : Int), left.length = t + c → left.Nodup → (numG left (t + c) z).take t = (numG left (t + c) z').take t → z % ((QQ t c : Nat) : Int) = z' % ((QQ t c : Nat) : Int)
  | 0, c, left, z, z', _, _, _ => by rw [QQ]; show z % 1 = z' % 1; omega
  | t + 1, c, left, z, z', hl, nd, h => by
    have ea : t + 1 + c = (t + c) + 1 := by omega
    rw [ea, numG, numG, List.take_succ_cons, List.take_succ_cons] at h
    obtain ⟨h1, h2⟩ := List.cons.inj h
    have hm : (0 : Int) < ((t + c + 1 : Nat) : Int) := by omega
    have b1 := Int.emod_nonneg z (show ((t + c + 1 : Nat) : Int) ≠ 0 by omega)
    have b2 := Int.emod_lt_of_pos z hm
    have b3 := Int.emod_nonneg z' (show ((t + c + 1 : Nat) : Int) ≠ 0 by omega)
    have b4 := Int.emod_lt_of_pos z' hm
    have ej := getD_inj nd (by omega) (by omega) h1
    have em : z % ((t + c + 1 : Nat) : Int) = z' % ((t + c + 1 : Nat) : Int) := by omega
    rw [← ej] at h2
    have ih := numG_inj t c (left.eraseIdx (z % ((t + c + 1 : Nat) : Int)).toNat) _ _ (by rw [List.length_eraseIdx_of_lt (by omega)]; omega) (nd.sublist (List.eraseIdx_sublist _ _)) h2
    have e1 : ∀ a : Int, a % ((QQ (t + 1) c : Nat) : Int) = a % ((t + c + 1 : Nat) : Int) + ((t + c + 1 : Nat) : Int) * (a / ((t + c + 1 : Nat) : Int) % ((QQ t c : Nat) : Int)) := fun a => by
      rw [QQ, ea, Int.natCast_mul]
      exact emod_mul' a (by omega) (by have := QQ_pos t c; omega)
    rw [e1, e1, em, ih]
end Fo
namespace Fo
open PySem PySem.Spec PyProof.Rows L2
/-! k71, k74: orders by their numbers, many of them -/
def spNumbered : Sp := fun vs H Q _ => ∃ (n : Nat) (z : Int), vs = [.int n, .int z] ∧ 1 ≤ n ∧ n ≤ 8 ∧ ∀ (ns : List Int) (l : Addr) (H' : Hp), IsOrd n ns → H l = none → H' l = some (.lst (ns.map V.int)) → Same H H' → Q (.ref l) H'
/-- each row d far or farther from those ahead of it -/
def Apart (w : Str) (d : Int) (rs : List (List Int)) : Prop := ∀ i r, rs[i]? = some r → nearR w r d (rs.take i) = []
def spCrowd : Sp := fun vs H Q _ => ∃ (D : Addr) (w : Str) (n : Nat) (d : Int), vs = [.ref D, .str w, .int n, .int d] ∧ DqAt H D ∧ IsWay w ∧ 2 ≤ n ∧ n ≤ 8 ∧ 1 ≤ d ∧ ∀ (l : Addr) (qs : List (Addr × List Int)) (H' : Hp), NewRows H H' l qs → (∀ r ∈ rws qs, IsOrd n r) → Apart w d (rws qs) → qs.length ≤ 120 → DqAt H' D → KeepD D H H' → Q (.ref l) H'
theorem Apart.snoc {w : Str} {d : Int} {rs : List (List Int)} {o : List Int} (h : Apart w d rs) (n : nearR w o d rs = []) : Apart w d (rs ++ [o]) := fun i r hr => by
  by_cases c : i < rs.length
  · rw [List.getElem?_append_left c] at hr
    rw [List.take_append_of_le_length (Nat.le_of_lt c)]
    exact h i r hr
  · have hi : i = rs.length := by
      have := (List.getElem?_eq_some_iff.mp hr).1
      rw [List.length_append] at this
      have : [o].length = 1 := rfl
      omega
    subst hi
    rw [List.getElem?_append_right (Nat.le_refl _), Nat.sub_self] at hr
    obtain rfl : o = r := Option.some.inj hr
    rw [List.take_left']
    · exact n
    · rfl
theorem RP.ne' {H : Hp} {l : Addr} {qs : List (Addr × List Int)} (h : RP H l qs) {p : Addr × List Int} (hp : p ∈ qs) : p.1 ≠ l := fun z => by
  have h1 := h.2 p hp
  rw [z, h.1] at h1
  have h2 := HO.lst.inj (Option.some.inj h1)
  cases qs with
  | nil => exact absurd hp List.not_mem_nil
  | cons q r =>
    cases hx : p.2 with
    | nil => rw [hx] at h2; cases h2
    | cons x xs => rw [hx] at h2; cases h2
theorem last2 {ns : List Int} {n : Nat} (h : ns.length = n) (hn : 2 ≤ n) : ∃ ms x y, ns = ms ++ [x, y] ∧ ms.length + 2 = n := by
  refine ⟨ns.take (n - 2), ns[n - 2]'(by omega), ns[n - 1]'(by omega), ?_, by rw [List.length_take]; omega⟩
  have e1 : ns.drop (n - 2) = [ns[n - 2]'(by omega), ns[n - 1]'(by omega)] := by
    rw [List.drop_eq_getElem_cons (by omega), List.drop_eq_getElem_cons (by omega), List.drop_eq_nil_of_le (by omega)]
    have : n - 2 + 1 = n - 1 := by omega
    simp only [this]
  rw [← e1, List.take_append_drop]
theorem cut_m2 (ms : List Int) (x y : Int) : cutV ((ms ++ [x, y]).map V.int) none (some (-2)) = ms.map V.int := by
  rw [cut_ints]
  unfold cutI
  have e : HT.sIx (ms ++ [x, y]).length (ms ++ [x, y]).length (some (-2)) = ms.length := by
    unfold HT.sIx
    rw [List.length_append]
    show (if (-2 : Int) < 0 then ((-2 : Int) + ((ms.length + 2 : Nat) : Int)).toNat else _) = _
    rw [if_pos (by decide)]
    omega
  rw [e, HT.sIx_none, List.drop_zero, Nat.sub_zero, List.take_left']
  rfl
theorem at_m (ms : List Int) (x y : Int) : atI ((ms ++ [x, y]).map V.int) (-1) = some (.int y) ∧ atI ((ms ++ [x, y]).map V.int) (-2) = some (.int x) := by
  have hl : ((ms ++ [x, y]).map V.int).length = ms.length + 2 := by simp
  have e1 : ixN (ms.length + 2) (-1) = some (ms.length + 1) := by
    unfold ixN
    rw [if_neg (by decide)]
    simp
    omega
  have e2 : ixN (ms.length + 2) (-2) = some (ms.length) := by
    unfold ixN
    rw [if_neg (by decide)]
    simp
    omega
  unfold atI
  rw [hl, e1, e2]
  constructor
  · show ((ms ++ [x, y]).map V.int)[ms.length + 1]? = _
    simp
  · show ((ms ++ [x, y]).map V.int)[ms.length]? = _
    simp
section
variable {P : Program} {w : World} {K : PySem.W.Frag} {mg : Str → Option Value} {base : Heap}
theorem rg_down {n : Nat} (h : 1 ≤ n) (h2 : n ≤ 8) : RgC (n : Int) 0 (-1) n := by
  have : n = 1 ∨ n = 2 ∨ n = 3 ∨ n = 4 ∨ n = 5 ∨ n = 6 ∨ n = 7 ∨ n = 8 := by omega
  rcases this with rfl | rfl | rfl | rfl | rfl | rfl | rfl | rfl <;> exact ⟨by decide, by decide, by decide +kernel, by decide +kernel⟩
theorem scNumb : FnScope ["n", "number", "left", "found", "many"] ["n", "number"] (defScope s_law_numbered) := ⟨rfl, rfl, rfl, by decide +kernel, rfl, by decide +kernel, by decide +kernel⟩
set_option maxHeartbeats 4000000 in
theorem ok_numbered {f : Addr} {fd : FuncData} {k : Nat} (T : Df K mg "_law_numbered" s_law_numbered ["n", "number"] f fd) (B : Bi mg) : FnOk P w K mg base CX0 (k + 1) f fd ["n", "number"] spNumbered := by
  refine T.F.ok scNumb (fun vs H Q E h => ?_) (fun cdv A outer s H vs Q E hr h => ?_)
  · obtain ⟨n, z, rfl, _⟩ := h
    rfl
  · obtain ⟨n, z, rfl, hn1, hn2, q⟩ := h
    refine ⟨_, 
      (pss_cons (ps_set (i := 2) scNumb.nd rfl (.inl rfl) (pe_listRg rfl (by rfl) B.list (prg_1 (by rfl) B.range (pv 0))))
      (pss_cons (ps_set (i := 3) scNumb.nd rfl (.inl rfl) (pe_lst pa_nil))
      (pss_cons (ps_for PassesOwn.never rfl (pi_range3 (by rfl) B.range (pa_cons (pv 0) (pa_cons pe_int (pa_cons (pe_un un_neg pe_int) pa_nil)))) (pg_name (i := 4) scNumb.nd rfl (.inl rfl))
        (pss_cons (ps_expr (pe_bm PySem.F.plainAttrs_list PySem.F.slot_list_append PySem.F.type_list_append mt_append (pv 3) (pa_cons (pe_bm PySem.F.plainAttrs_list PySem.F.slot_list_pop PySem.F.type_list_pop mt_popAt (pv 2) (pa_cons (pe_op op_mod (pv 1) (pv 4)) pa_nil)) pa_nil)))
        (pss_one (ps_set (i := 1) scNumb.nd rfl (.inl rfl) (pe_op op_fdiv (pv 1) (pv 4))))))
      (pss_one (ps_ret (pv 3)))))), ?_⟩
    refine ⟨_, rfl, n, rfl, RgOk.of_le (by omega) (by omega) (by omega) (by omega), fun l nl => ?_⟩
    have s0 := same_new (o := .lst (rgV 0 (n : Int))) nl
    have hl0 : (upd H l (.lst (rgV 0 (n : Int)))) l = some (.lst ((rg n).map V.int)) := by rw [upd_same, rg_V]
    refine ⟨by decide, fun p np => ?_⟩
    have lp : l ≠ p := ne_of_none hl0 np
    have nHp : H p = none := s0.free np
    refine ⟨_, rfl, 1, rfl, (n : Int), 0, -1, n, rfl, rg_down hn1 hn2, ?_⟩
    refine for_rangeC (n := n) (lo := (n : Int)) (c := -1) (fun i σ H3 => ∃ (z' : Int) (y4 : Option V) (rest acc : List Int), σ = [some (.int n), some (.int z'), some (.ref l), some (.ref p), y4] ∧ (acc ++ rest).Perm (rg n) ∧ acc.length = i ∧ H3 l = some (.lst (rest.map V.int)) ∧ H3 p = some (.lst (acc.map V.int)) ∧ ∀ b o, H b = some o → H3 b = some o)
      ⟨z, _, rg n, [], rfl, List.Perm.refl _, rfl, by rw [upd_ne lp]; exact hl0, upd_same, fun b o e => by rw [upd_ne (ne_of_none (s0 b o e) np)]; exact s0 b o e⟩ (fun i σ H3 hi hP => ?_) (fun σ H3 hP => ?_)
    · obtain ⟨z', y4, rest, acc, rfl, hperm, el, hl3, hp3, kp3⟩ := hP
      have hlen : rest.length = n - i := by
        have := List.Perm.length_eq hperm
        rw [List.length_append, rg_len] at this
        omega
      have em : (n : Int) + (i : Int) * (-1) = ((n - i : Nat) : Int) := by omega
      rw [em]
      have m0 : 0 < n - i := by omega
      obtain ⟨j, ej, hj⟩ := mod_ix z' m0
      refine ⟨_, rfl, .inl ⟨rfl, _, SqL.of hp3⟩, _, rfl, .inl ⟨rfl, _, SqL.of hl3⟩, _, rfl, _, rfl, z', _, rfl, rfl, by omega, ?_⟩
      obtain ⟨y, ey⟩ : ∃ y, rest[j]? = some y := ⟨rest[j]'(by omega), List.getElem?_eq_getElem (by omega)⟩
      refine ⟨l, _, _, j, _, rfl, rfl, hl3, by rw [ej]; omega, by rw [ej]; omega, seq_ix ej (by rw [List.length_map, hlen]; exact hj), int_at ey, ?_⟩
      refine ⟨p, _, _, rfl, rfl, by rw [upd_ne lp.symm]; exact hp3, line_lt (by rw [List.length_map]; omega), ?_⟩
      refine ⟨_, rfl, _, rfl, z', _, rfl, rfl, ⟨by omega, by omega⟩, ?_⟩
      refine ⟨z' / ((n - i : Nat) : Int), _, rest.eraseIdx j, acc ++ [y], rfl, ?_, by rw [List.length_append, el]; rfl, ?_, by rw [upd_same, List.map_append]; rfl, fun b o e => ?_⟩
      · rw [List.append_assoc]
        exact (List.Perm.append_left acc (pop_perm ey)).trans hperm
      · rw [upd_ne lp, upd_same, map_erase]
      · rw [upd_ne (ne_of_none e nHp), upd_ne (ne_of_none e nl)]
        exact kp3 b o e
    · obtain ⟨z', y4, rest, acc, rfl, hperm, el, hl3, hp3, kp3⟩ := hP
      have hr0 : rest = [] := by
        have := List.Perm.length_eq hperm
        rw [List.length_append, rg_len] at this
        exact List.eq_nil_of_length_eq_zero (by omega)
      subst hr0
      rw [List.append_nil] at hperm
      exact ⟨_, rfl, q acc p H3 hperm nHp hp3 kp3⟩
end
end Fo
namespace Fo
open PySem PySem.Spec PyProof.Rows L2
/-! the least apart does not hang on the order of the list -/
theorem prs_mem {w : Str} {n : Nat} {rs : List (List Int)} (ho : ∀ r ∈ rs, IsOrd n r) (hn : 1 ≤ n) (nd : rs.Nodup) : ∀ i, i ≤ rs.length → ∀ y, y ∈ prs w rs i ↔ ∃ x, x ∈ rs.take i ∧ ∃ z, z ∈ rs.take i ∧ x ≠ z ∧ y = farW w x z
  | 0, _, y => ⟨fun h => absurd h List.not_mem_nil, fun ⟨x, hx, _⟩ => absurd hx (by rw [List.take_zero]; exact List.not_mem_nil)⟩
  | i + 1, hi, y => by
    have ih := prs_mem (w := w) ho hn nd i (Nat.le_of_succ_le hi) y
    have er : rs[i]? = some (rs[i]'hi) := List.getElem?_eq_getElem hi
    generalize rs[i]'hi = r at er
    have hr : r ∈ rs := List.mem_of_getElem? er
    have et := take_p er
    have nr : r ∉ rs.take i := fun h => by
      have h2 : (rs.take (i + 1)).Nodup := nd.sublist (List.take_sublist _ _)
      rw [et] at h2
      exact (List.nodup_append.mp h2).2.2 r h r (List.mem_singleton.mpr rfl) rfl
    rw [prs_at er, List.mem_append, ih, et]
    constructor
    · rintro (⟨x, hx, z, hz, h⟩ | h)
      · exact ⟨x, List.mem_append_left _ hx, z, List.mem_append_left _ hz, h⟩
      · obtain ⟨o, h1, rfl⟩ := List.mem_map.mp h
        exact ⟨r, List.mem_append_right _ (List.mem_singleton.mpr rfl), o, List.mem_append_left _ h1, fun q => nr (q ▸ h1), rfl⟩
    · rintro ⟨x, hx, z, hz, nxz, rfl⟩
      rcases List.mem_append.mp hx with hx | hx
      · rcases List.mem_append.mp hz with hz | hz
        · exact .inl ⟨x, hx, z, hz, nxz, rfl⟩
        · rw [List.mem_singleton.mp hz]
          refine .inr (List.mem_map.mpr ⟨x, hx, ?_⟩)
          exact (farW_turn (ho x (List.mem_of_mem_take hx)) (ho r hr) hn)
      · rw [List.mem_singleton.mp hx] at nxz ⊢
        rcases List.mem_append.mp hz with hz | hz
        · exact .inr (List.mem_map.mpr ⟨z, hz, rfl⟩)
        · exact absurd (List.mem_singleton.mp hz).symm nxz
theorem prs_perm {w : Str} {n : Nat} {rs qs : List (List Int)} (hp : rs.Perm qs) (ho : ∀ r ∈ rs, IsOrd n r) (hn : 1 ≤ n) (nd : rs.Nodup) (y : Int) : y ∈ prs w rs rs.length ↔ y ∈ prs w qs qs.length := by
  rw [prs_mem ho hn nd _ (Nat.le_refl _), prs_mem (fun r hr => ho r (hp.mem_iff.mpr hr)) hn (hp.nodup_iff.mp nd) _ (Nat.le_refl _), List.take_length, List.take_length]
  constructor
  · rintro ⟨x, hx, z, hz, h⟩
    exact ⟨x, hp.mem_iff.mp hx, z, hp.mem_iff.mp hz, h⟩
  · rintro ⟨x, hx, z, hz, h⟩
    exact ⟨x, hp.mem_iff.mpr hx, z, hp.mem_iff.mpr hz, h⟩
/-- outside of some addresses all stays -/
theorem LsAt.outY {C : Addr} {H H' : Hp} {a e : Addr} {Y : Addr → Prop} {X : List Addr} {w : Str} {n : Nat} {d : Int} {rs : List (List Int)} {ss : List (List (List Int))} (L : LsAt C H a e X w n d rs ss) (k : ∀ b o, H b = some o → ¬ Y b → H' b = some o) (hy : ∀ y, Y y → y ∈ X) (ha : ¬ Y a) (he : ¬ Y e) (ty : ∀ y ∈ X, Y y → ∃ o, H' y = some o) : LsAt C H' a e X w n d rs ss := by
  obtain ⟨⟨dx, t, ps, st, e1, e2, e3, e4, e5, e6, eX, tX, pX, sX⟩, tr, r⟩ := L
  have rk : ∀ {t : Addr} {ps : List (Addr × List Int)}, RP H t ps → t ∉ X → (∀ p ∈ ps, p.1 ∉ X) → RP H' t ps := fun h h1 h2 => ⟨k _ _ h.1 fun z => h1 (hy _ z), fun p hp => k _ _ (h.2 p hp) fun z => h2 p hp (hy _ z)⟩
  refine ⟨⟨dx, t, ps, st, k _ _ e1 ha, k _ _ e2 he, rk e3 tX pX, e4, fun q hq => rk (e5 q hq) (sX q hq).1 (sX q hq).2, e6, eX, tX, pX, sX⟩, fun x hx => ?_, by assumption, by assumption, by assumption, by assumption, by assumption, by assumption⟩
  by_cases c : Y x
  · exact ty x hx c
  · obtain ⟨o, ho⟩ := tr x hx
    exact ⟨o, k x o ho c⟩
end Fo
namespace Fo
open PySem PySem.Spec PyProof.Rows L2
theorem numG_perm : ∀ (m : Nat) (left : List Int) (z : Int), left.length = m → (numG left m z).Perm left
  | 0, left, _, h => by
    rw [List.eq_nil_of_length_eq_zero h]
    exact List.Perm.refl _
  | m + 1, left, z, h => by
    have b1 := Int.emod_nonneg z (show ((m + 1 : Nat) : Int) ≠ 0 by omega)
    have b2 := Int.emod_lt_of_pos z (show (0 : Int) < ((m + 1 : Nat) : Int) by omega)
    have hj : (z % ((m + 1 : Nat) : Int)).toNat < left.length := by omega
    rw [numG]
    refine (List.Perm.cons _ (numG_perm m _ _ (by rw [List.length_eraseIdx_of_lt hj]; omega))).trans ?_
    rw [List.getD_eq_getElem?_getD, List.getElem?_eq_getElem hj]
    exact pop_perm (List.getElem?_eq_getElem hj)
theorem numF_ord (n : Nat) (z : Int) : IsOrd n (numF n z) := numG_perm n (rg n) z (rg_len n)
def spNumF : Sp := fun vs H Q _ => ∃ (n : Nat) (z : Int), vs = [.int n, .int z] ∧ 1 ≤ n ∧ n ≤ 8 ∧ ∀ (l : Addr) (H' : Hp), H l = none → H' l = some (.lst ((numF n z).map V.int)) → Same H H' → Q (.ref l) H'
def evenF (n : Nat) (d : Int) (o : List Int) : List Int := if d = 1 ∨ farSwap o (rg n) % 2 = 0 then o else sw o (n - 2)
theorem evenF_ord {n : Nat} {d : Int} {o : List Int} (h : IsOrd n o) (hn : 2 ≤ n) : IsOrd n (evenF n d o) := by
  unfold evenF
  split
  · exact h
  · exact sw_ord h (by omega)
theorem evenF_even {n : Nat} {d : Int} {o : List Int} (h : IsOrd n o) (hn : 2 ≤ n) (hd : d ≠ 1) : farSwap (evenF n d o) (rg n) % 2 = 0 := by
  unfold evenF
  by_cases c : d = 1 ∨ farSwap o (rg n) % 2 = 0
  · rw [if_pos c]
    rcases c with c | c
    · exact absurd c hd
    · exact c
  · rw [if_neg c]
    have := swap_sw1 h (List.Perm.refl (rg n)) (p := n - 2) (by omega)
    have h2 : ¬ farSwap o (rg n) % 2 = 0 := fun z => c (.inr z)
    omega
theorem evenF_one {n : Nat} {o : List Int} : evenF n 1 o = o := if_pos (.inl rfl)
theorem evenF_take {n : Nat} {d : Int} {o : List Int} : (evenF n d o).take (n - 2) = o.take (n - 2) := by
  unfold evenF
  split
  · rfl
  · unfold sw
    rw [List.take_set_of_le (by omega), List.take_set_of_le (by omega)]
def spEven74 : Sp := fun vs H Q _ => ∃ (o : Addr) (n : Nat) (d : Int) (ns : List Int), vs = [.ref o, .int d] ∧ H o = some (.lst (ns.map V.int)) ∧ IsOrd n ns ∧ 2 ≤ n ∧ n ≤ 8 ∧ ∀ (l : Addr) (H' : Hp), (l = o ∨ H l = none) → H' l = some (.lst ((evenF n d ns).map V.int)) → Same H H' → Q (.ref l) H'
section
variable {P : Program} {w : World} {K : PySem.W.Frag} {mg : Str → Option Value} {base : Heap}
theorem scNumF : FnScope ["n", "number", "left", "found", "many"] ["n", "number"] (defScope s_law_numbered) := ⟨rfl, rfl, rfl, by decide +kernel, rfl, by decide +kernel, by decide +kernel⟩
set_option maxHeartbeats 4000000 in
theorem ok_numF {f : Addr} {fd : FuncData} {k : Nat} (T : Df K mg "_law_numbered" s_law_numbered ["n", "number"] f fd) (B : Bi mg) : FnOk P w K mg base CX0 (k + 1) f fd ["n", "number"] spNumF := by
  refine T.F.ok scNumF (fun vs H Q E h => ?_) (fun cdv A outer s H vs Q E hr h => ?_)
  · obtain ⟨n, z, rfl, _⟩ := h
    rfl
  · obtain ⟨n, z, rfl, hn1, hn2, q⟩ := h
    refine ⟨_, 
      (pss_cons (ps_set (i := 2) scNumF.nd rfl (.inl rfl) (pe_listRg rfl (by rfl) B.list (prg_1 (by rfl) B.range (pv 0))))
      (pss_cons (ps_set (i := 3) scNumF.nd rfl (.inl rfl) (pe_lst pa_nil))
      (pss_cons (ps_for PassesOwn.never rfl (pi_range3 (by rfl) B.range (pa_cons (pv 0) (pa_cons pe_int (pa_cons (pe_un un_neg pe_int) pa_nil)))) (pg_name (i := 4) scNumF.nd rfl (.inl rfl))
        (pss_cons (ps_expr (pe_bm PySem.F.plainAttrs_list PySem.F.slot_list_append PySem.F.type_list_append mt_append (pv 3) (pa_cons (pe_bm PySem.F.plainAttrs_list PySem.F.slot_list_pop PySem.F.type_list_pop mt_popAt (pv 2) (pa_cons (pe_op op_mod (pv 1) (pv 4)) pa_nil)) pa_nil)))
        (pss_one (ps_set (i := 1) scNumF.nd rfl (.inl rfl) (pe_op op_fdiv (pv 1) (pv 4))))))
      (pss_one (ps_ret (pv 3)))))), ?_⟩
    refine ⟨_, rfl, n, rfl, RgOk.of_le (by omega) (by omega) (by omega) (by omega), fun l nl => ?_⟩
    have s0 := same_new (o := .lst (rgV 0 (n : Int))) nl
    have hl0 : (upd H l (.lst (rgV 0 (n : Int)))) l = some (.lst ((rg n).map V.int)) := by rw [upd_same, rg_V]
    refine ⟨by decide, fun p np => ?_⟩
    have lp : l ≠ p := ne_of_none hl0 np
    have nHp : H p = none := s0.free np
    refine ⟨_, rfl, 1, rfl, (n : Int), 0, -1, n, rfl, rg_down hn1 hn2, ?_⟩
    refine for_rangeC (n := n) (lo := (n : Int)) (c := -1) (fun i σ H3 => ∃ (z' : Int) (y4 : Option V) (rest acc : List Int), σ = [some (.int n), some (.int z'), some (.ref l), some (.ref p), y4] ∧ rest.length = n - i ∧ acc.length = i ∧ acc ++ numG rest (n - i) z' = numF n z ∧ H3 l = some (.lst (rest.map V.int)) ∧ H3 p = some (.lst (acc.map V.int)) ∧ ∀ b o, H b = some o → H3 b = some o)
      ⟨z, _, rg n, [], rfl, rg_len n, rfl, rfl, by rw [upd_ne lp]; exact hl0, upd_same, fun b o e => by rw [upd_ne (ne_of_none (s0 b o e) np)]; exact s0 b o e⟩ (fun i σ H3 hi hP => ?_) (fun σ H3 hP => ?_)
    · obtain ⟨z', y4, rest, acc, rfl, hlen, el, hnum, hl3, hp3, kp3⟩ := hP
      have em : (n : Int) + (i : Int) * (-1) = ((n - i : Nat) : Int) := by omega
      rw [em]
      have m0 : 0 < n - i := by omega
      obtain ⟨j, ej, hj⟩ := mod_ix z' m0
      refine ⟨_, rfl, .inl ⟨rfl, _, SqL.of hp3⟩, _, rfl, .inl ⟨rfl, _, SqL.of hl3⟩, _, rfl, _, rfl, z', _, rfl, rfl, by omega, ?_⟩
      obtain ⟨y, ey⟩ : ∃ y, rest[j]? = some y := ⟨rest[j]'(by omega), List.getElem?_eq_getElem (by omega)⟩
      refine ⟨l, _, _, j, _, rfl, rfl, hl3, by rw [ej]; omega, by rw [ej]; omega, seq_ix ej (by rw [List.length_map, hlen]; exact hj), int_at ey, ?_⟩
      refine ⟨p, _, _, rfl, rfl, by rw [upd_ne lp.symm]; exact hp3, line_lt (by rw [List.length_map]; omega), ?_⟩
      refine ⟨_, rfl, _, rfl, z', _, rfl, rfl, ⟨by omega, by omega⟩, ?_⟩
      refine ⟨z' / ((n - i : Nat) : Int), _, rest.eraseIdx j, acc ++ [y], rfl, by rw [List.length_eraseIdx_of_lt (by omega)]; omega, by rw [List.length_append, el]; rfl, ?_, ?_, by rw [upd_same, List.map_append]; rfl, fun b o e => ?_⟩
      · rw [← hnum, List.append_assoc]
        obtain ⟨m, hm⟩ : ∃ m, n - i = m + 1 := ⟨n - i - 1, by omega⟩
        rw [show n - (i + 1) = m by omega]
        rw [hm] at ej ⊢
        rw [numG, ej, Int.toNat_natCast, List.getD_eq_getElem?_getD, ey]
        rfl
      · rw [upd_ne lp, upd_same, map_erase]
      · rw [upd_ne (ne_of_none e nHp), upd_ne (ne_of_none e nl)]
        exact kp3 b o e
    · obtain ⟨z', y4, rest, acc, rfl, hlen, el, hnum, hl3, hp3, kp3⟩ := hP
      rw [Nat.sub_self, numG, List.append_nil] at hnum
      subst hnum
      exact ⟨_, rfl, q p H3 nHp hp3 kp3⟩
theorem scEven74 : FnScope ["order", "d"] ["order", "d"] (defScope s_law_even) := ⟨rfl, rfl, rfl, by decide +kernel, rfl, by decide +kernel, by decide +kernel⟩
set_option maxHeartbeats 4000000 in
theorem ok_even74 {f f1 : Addr} {fd d1 : FuncData} {k : Nat} (T : Df K mg "_law_even" s_law_even ["order", "d"] f fd) (T__law_far : Df K mg "_law_far" s_law_far ["way", "one", "other"] f1 d1) (G__law_far : FnOk P w K mg base CX0 k f1 d1 ["way", "one", "other"] spFar) (B : Bi mg) : FnOk P w K mg base CX0 (k + 1) f fd ["order", "d"] spEven74 := by
  refine T.F.ok scEven74 (fun vs H Q E h => ?_) (fun cdv A outer s H vs Q E hr h => ?_)
  · obtain ⟨o, n, d, ns, rfl, _⟩ := h
    rfl
  · obtain ⟨o, n, d, ns, rfl, ho, ons, hn1, hn2, q⟩ := h
    refine ⟨_, 
      (pss_cons (ps_if (PW.pt (pw_or (pt_cmpR op_eq (pv 1) pe_int (nomark _)) (pw_or1 (pt_cmpR op_eq (pe_op op_mod (pe_call G__law_far hr (by rfl) T__law_far.g T__law_far.F.kp T__law_far.b .nil pass0 (pa_cons pe_str (pa_cons (pv 0) (pa_cons (pe_listRg rfl (by rfl) B.list (prg_1 (by rfl) B.range (pe_callB call_len_seq (by rfl) B.len PySem.boot_len (pa_cons (pv 0) pa_nil)))) pa_nil)))) pe_int) pe_int (nomark _)))))
        (pss_one (ps_ret (pv 0)))
        pss_nil)
      (pss_one (ps_ret (pe_op op_cat (pe_slice sl_list (pv 0) po_none (po_some (pe_un un_neg pe_int))) (pe_lst (pa_cons (pe_ix ix_list (pv 0) (pe_un un_neg pe_int) (fun _ _ => rfl)) (pa_cons (pe_ix ix_list (pv 0) (pe_un un_neg pe_int) (fun _ _ => rfl)) pa_nil))))))), ?_⟩
    by_cases hd : d = 1
    · subst hd
      refine ⟨_, rfl, rfl, _, rfl, iteT (iteT ⟨_, rfl, ?_⟩)⟩
      exact q o H (.inl rfl) (by rw [evenF_one]; exact ho) (Same.refl _)
    · refine ⟨_, rfl, rfl, _, rfl, ?_⟩
      rw [decide_eq_false (show ¬ V.int d = V.int 1 from fun h => hd (V.int.inj h))]
      refine iteF ?_
      refine ⟨_, rfl, _, rfl, o, _, rfl, .inl (SqL.of ho), n, by rw [List.length_map, ons.len], RgOk.of_le (by omega) (by omega) (by omega) (by omega), fun rl nrl => ?_⟩
      have s2 := same_new (o := .lst (rgV 0 (n : Int))) nrl
      refine ⟨"swap", o, rl, n, ns, rg n, rfl, .inl rfl, s2 _ _ ho, by rw [upd_same, rg_V], ons, List.Perm.refl _, by omega, by omega, fun H3 s3 => ?_⟩
      have s23 := s2.trans s3
      have ho3 := s23 _ _ ho
      refine ⟨_, 2, rfl, rfl, (show (0 : Int) < 2 by decide), rfl, _, rfl, ?_⟩
      rw [farW_swap]
      by_cases c : farSwap ns (rg n) % 2 = 0
      · rw [decide_eq_true (show V.int (farSwap ns (rg n) % 2) = V.int 0 by rw [c])]
        refine iteT ⟨_, rfl, ?_⟩
        exact q o H3 (.inl rfl) (by unfold evenF; rw [if_pos (.inr c)]; exact ho3) s23
      · rw [decide_eq_false (show ¬ V.int (farSwap ns (rg n) % 2) = V.int 0 from fun h => c (V.int.inj h))]
        refine iteF ?_
        have ee : evenF n d ns = sw ns (n - 2) := if_neg (by intro z; rcases z with z | z; exact hd z; exact c z)
        obtain ⟨ms, x, y, ens, hms⟩ := last2 ons.len hn1
        have e2 : sw ns (n - 2) = ms ++ [y, x] := by
          rw [ens, show n - 2 = ms.length by omega]
          exact sw_at ms x y []
        rw [ee, e2] at q
        subst ens
        refine ⟨_, rfl, 2, rfl, _, rfl, o, _, rfl, SqL.of ho3, fun c nc => ?_⟩
        have ec : cutV ((ms ++ [x, y]).map V.int) none (some (-2)) = ms.map V.int := cut_m2 ms x y
        rw [ec]
        have s4 := same_new (o := .lst (ms.map V.int)) nc
        have ho4 := s4 _ _ ho3
        refine ⟨_, rfl, 1, rfl, o, _, _, _, rfl, rfl, SqL.of ho4, (at_m ms x y).1, _, rfl, 2, rfl, o, _, _, _, rfl, rfl, SqL.of ho4, (at_m ms x y).2, by show 2 ≤ sizeLine; decide, fun t nt => ?_⟩
        have s5 := same_new (o := .lst [.int y, .int x]) nt
        refine ⟨c, t, _, _, rfl, rfl, s5 _ _ upd_same, upd_same, line_small (by rw [List.length_map]; show _ + 2 ≤ _; omega), fun z nz => ?_⟩
        have s6 := same_new (o := .lst (ms.map V.int ++ [.int y, .int x])) nz
        exact q z _ (.inr (s23.free (s4.free (s5.free nz)))) (by rw [upd_same, List.map_append]; rfl) (s23.trans (s4.trans (s5.trans s6)))
end
end Fo
namespace Fo
open PySem PySem.Spec PyProof.Rows L2
section
variable {P : Program} {w : World} {K : PySem.W.Frag} {mg : Str → Option Value} {base : Heap}
theorem scLWhole : FnScope ["thing"] ["thing"] (defScope s_law_whole) := ⟨rfl, rfl, rfl, by decide +kernel, rfl, by decide +kernel, by decide +kernel⟩
theorem ok_lwhole {f : Addr} {fd : FuncData} {k : Nat} (T : Df K mg "_law_whole" s_law_whole ["thing"] f fd) (B : Bi mg) : FnOk P w K mg base CX0 (k + 1) f fd ["thing"] spWhole := by
  refine T.F.ok scLWhole (fun vs H Q E h => ?_) (fun cdv A outer s H vs Q E hr h => ?_)
  · obtain ⟨i, rfl, _⟩ := h
    rfl
  · obtain ⟨i, rfl, q⟩ := h
    refine ⟨_, 
      (pss_one (ps_ret (pe_and (pe_callB call_isi (by rfl) B.isinstance (by decide +kernel) (pa_cons (pv 0) (pa_cons (pe_bltn (v := .ty "int") (by rfl) B.int (by decide +kernel) rfl) pa_nil))) (pe_one (pe_not (pe_callB call_isi (by rfl) B.isinstance (by decide +kernel) (pa_cons (pv 0) (pa_cons (pe_bltn (v := .ty "bool") (by rfl) B.bool (by decide +kernel) rfl) pa_nil)))))))), ?_⟩
    refine ⟨_, rfl, _, _, _, _, true, rfl, .ty _, .base (.int _), kit_ty (by decide +kernel), true, rfl, iteT ?_⟩
    exact ⟨_, rfl, _, _, _, _, false, rfl, .ty _, .base (.int _), kit_ty (by decide +kernel), false, rfl, q⟩
end
end Fo
namespace Fo
open PySem PySem.Spec PyProof.Rows L2
/-! k74: a hundred and twenty orders far from one another, and a Lister that holds them -/
structure Hd74 (w : Str) (n : Nat) (d : Int) (R : List (List Int)) : Prop where
  wy : IsWay w
  n5 : 5 ≤ n
  n8 : n ≤ 8
  len : R.length = 120
  ord : ∀ r ∈ R, IsOrd n r
  far : ∀ (i j : Nat) (x y : List Int), R[i]? = some x → R[j]? = some y → i ≠ j → d ≤ farW w x y
  dk : d = 1 ∨ (d = 2 ∧ w = "swap") ∨ (d = 3 ∧ w = "spot")
  five : n = 5 → d = 1
theorem Hd74.d1 {w : Str} {n : Nat} {d : Int} {R : List (List Int)} (h : Hd74 w n d R) : 1 ≤ d := by rcases h.dk with h | h | h <;> omega
theorem Hd74.nd {w : Str} {n : Nat} {d : Int} {R : List (List Int)} (h : Hd74 w n d R) : R.Nodup := by
  refine List.pairwise_iff_getElem.mpr fun i j hi hj hij e => ?_
  have h1 := h.far i j _ _ (List.getElem?_eq_getElem hi) (List.getElem?_eq_getElem hj) (by omega)
  rw [e, farW_self (h.ord _ (List.getElem_mem hj)) (by have := h.n5; omega)] at h1
  have := h.d1
  omega
def prefs (R : List (List Int)) (k : Nat) : List (List (List Int)) := (List.range k).map fun j => srt (R.take j)
theorem prefs_len (R : List (List Int)) (k : Nat) : (prefs R k).length = k := by unfold prefs; rw [List.length_map, List.length_range]
theorem prefs_succ (R : List (List Int)) (k : Nat) : prefs R (k + 1) = prefs R k ++ [srt (R.take k)] := by
  unfold prefs
  rw [List.range_succ, List.map_append]
  rfl
theorem far_most {w : Str} {n : Nat} {xs ys : List Int} (hw : IsWay w) (ox : IsOrd n xs) (oy : IsOrd n ys) (hn : 1 ≤ n) (hn8 : n ≤ 8) : farW w xs ys ≤ 99 := by
  rcases hw with rfl | rfl | rfl
  · rw [farW_swap]
    have h1 := swap_most (ys := ys) ox
    have h2 : (n : Int) * ((n : Int) - 1) ≤ 8 * 7 := Int.mul_le_mul (by omega) (by omega) (by omega) (by omega)
    omega
  · rw [farW_spot]
    have := spot_most (ys := ys) ox
    omega
  · rw [farW_shift]
    have := shift_most ox oy hn
    omega
/-- all but a Lister and a deck stays, tables but for growing -/
def K3T (a e D : Addr) (H H' : Hp) : Prop := (∀ b o, H b = some o → b ≠ a → b ≠ e → b ≠ D → (∀ q, o ≠ .tbl q) → H' b = some o) ∧ ∀ b q, H b = some (.tbl q) → b ≠ a → b ≠ e → b ≠ D → ∃ q', H' b = some (.tbl q') ∧ (TriplesOk q.toList → TriplesOk q'.toList)
section
variable {a e D : Addr} {H H1 H2 : Hp}
theorem K3T.trans (x : K3T a e D H H1) (y : K3T a e D H1 H2) : K3T a e D H H2 := by
  refine ⟨fun c o h n1 n2 n3 f => y.1 c o (x.1 c o h n1 n2 n3 f) n1 n2 n3 f, fun c q h n1 n2 n3 => ?_⟩
  obtain ⟨q1, e1, t1⟩ := x.2 c q h n1 n2 n3
  obtain ⟨q2, e2, t2⟩ := y.2 c q1 e1 n1 n2 n3
  exact ⟨q2, e2, fun z => t2 (t1 z)⟩
theorem K3T.k3 (k : K3 a e D H H1) : K3T a e D H H1 := ⟨fun b o h n1 n2 n3 _ => k b o h n1 n2 n3, fun b q h n1 n2 n3 => ⟨q, k b _ h n1 n2 n3, id⟩⟩
theorem K3T.sm (k : Same H H1) : K3T a e D H H1 := K3T.k3 (K3.sm k)
theorem K3T.refl : K3T a e D H H := K3T.sm (Same.refl _)
theorem K3T.kd (k : KeepD D H H1) : K3T a e D H H1 := K3T.k3 (K3.kd k)
theorem K3T.kl (k : KpL a e H H1) : K3T a e D H H1 := K3T.k3 (K3.kl k)
theorem K3T.kt (k : KeepT H H1) : K3T a e D H H1 := ⟨fun b o h _ _ _ f => k.1 b o h f, fun b q h _ _ _ => k.2 b q h⟩
theorem K3T.lst (k : K3T a e D H H1) {b : Addr} {xs : List V} (h : H b = some (.lst xs)) (n1 : b ≠ a) (n2 : b ≠ e) (n3 : b ≠ D) : H1 b = some (.lst xs) := k.1 b _ h n1 n2 n3 fun q z => by cases z
end
theorem DqAt.kt {D : Addr} {H H' : Hp} (h : DqAt H D) (k : KeepT H H') : DqAt H' D := by
  obtain ⟨ms, e, r⟩ := h
  exact ⟨ms, k.lst e, r⟩
structure W74 (C : Addr) (G : Hp) (a e D h : Addr) (w : Str) (n : Nat) (d : Int) (rs : List (List Int)) (ss : List (List (List Int))) (ps : List (Addr × List Int)) : Prop where
  L : LsAt C G a e [e, D] w n d rs ss
  dq : DqAt G D
  rp : RP G h ps
  hn : h ≠ a ∧ h ≠ e ∧ h ≠ D
  pn : ∀ p ∈ ps, p.1 ≠ a ∧ p.1 ≠ e ∧ p.1 ≠ D
  ne : a ≠ D ∧ e ≠ D
section
variable {C a e D h : Addr} {G G' : Hp} {w : Str} {n : Nat} {d : Int} {rs rs' : List (List Int)} {ss ss' : List (List (List Int))} {ps : List (Addr × List Int)}
theorem W74.draw (W : W74 C G a e D h w n d rs ss ps) (k : KeepD D G G') (q : DqAt G' D) : W74 C G' a e D h w n d rs ss ps :=
  ⟨W.L.out k (by simp) W.ne.1 W.ne.2 (by obtain ⟨ms, e, _⟩ := q; exact ⟨_, e⟩), q, ⟨k _ _ W.rp.1 W.hn.2.2, fun p m => k _ _ (W.rp.2 p m) (W.pn p m).2.2⟩, W.hn, W.pn, W.ne⟩
theorem W74.same (W : W74 C G a e D h w n d rs ss ps) (s : Same G G') : W74 C G' a e D h w n d rs ss ps := W.draw (KeepD.of_same s) (W.dq.same s)
theorem W74.kt (W : W74 C G a e D h w n d rs ss ps) (k : KeepT G G') : W74 C G' a e D h w n d rs ss ps := ⟨W.L.keepT k, W.dq.kt k, k.rp W.rp, W.hn, W.pn, W.ne⟩
theorem W74.lst {X : List Addr} (W : W74 C G a e D h w n d rs ss ps) (k : KpL a e G G') (L : LsAt C G' a e X w n d rs' ss') (hX : ∀ x ∈ [e, D], x ∈ X) : W74 C G' a e D h w n d rs' ss' ps :=
  ⟨L.sub hX List.mem_cons_self, W.dq.k3 k W.ne.1.symm W.ne.2.symm, ⟨k _ _ W.rp.1 W.hn.1 W.hn.2.1, fun p m => k _ _ (W.rp.2 p m) (W.pn p m).1 (W.pn p m).2.1⟩, W.hn, W.pn, W.ne⟩
theorem W74.tab {P : Addr} (W : W74 C G a e D h w n d rs ss ps) (k : K3T a e D G G') (t : GxR.TabG G P) : GxR.TabG G' P := by
  obtain ⟨q, e1, z⟩ := t
  obtain ⟨dx, t0, p0, st, ha, he, _⟩ := W.L.ex
  obtain ⟨ms, eD, _⟩ := W.dq
  obtain ⟨q', e2, t'⟩ := k.2 P q e1 (fun z => by rw [z, ha] at e1; cases e1) (fun z => by rw [z, he] at e1; cases e1) (fun z => by rw [z, eD] at e1; cases e1)
  exact ⟨q', e2, t' z⟩
/-- what is new is neither the Lister's nor the deck's own -/
theorem W74.new (W : W74 C G a e D h w n d rs ss ps) {x : Addr} (nx : G x = none) : x ≠ a ∧ x ≠ e ∧ x ≠ D := by
  obtain ⟨dx, t0, p0, st, ha, he, _⟩ := W.L.ex
  obtain ⟨ms, eD, _⟩ := W.dq
  exact ⟨fun z => (by rw [z, ha] at nx; cases nx), fun z => (by rw [z, he] at nx; cases nx), fun z => (by rw [z, eD] at nx; cases nx)⟩
theorem W74.ob (W : W74 C G a e D h w n d rs ss ps) (m : Str) (h1 : (m == "way") = false) (h2 : (m == "n") = false) (h3 : (m == "d") = false) (h4 : (m == "taken") = false) (h5 : (m == "earlier") = false) : ∃ dx fs, G a = some (.ins C dx fs) ∧ fs.lookup m = none := W.L.obj m h1 h2 h3 h4 h5
end
end Fo
namespace Fo
open PySem PySem.Spec PyProof.Rows L2
def spRoom74 (C Pt : Addr) : Sp := fun vs H Q _ => ∃ (a e : Addr) (X : List Addr) (w : Str) (n : Nat) (d : Int) (rs : List (List Int)) (ss : List (List (List Int))) (v : V), vs = [.ref a, v] ∧ LsAt C H a e X w n d rs ss ∧ n ≤ 6 ∧ GxR.TabG H Pt ∧
  ((v = .non ∧ freeL w n d rs = []) ∨ ∃ o g, v = .ref o ∧ H o = some (.lst (g.map V.int)) ∧ freeL w n d rs = [g]) ∧ ∀ H', KeepT H H' → Q (.bl true) H'
def spLeast74 (C : Addr) : Sp := fun vs H Q _ => ∃ (a e h : Addr) (X : List Addr) (w : Str) (n : Nat) (d : Int) (rs : List (List Int)) (ss : List (List (List Int))) (ps : List (Addr × List Int)), vs = [.ref a, .str w, .ref h] ∧ LsAt C H a e X w n d rs ss ∧ RP H h ps ∧ (rws ps).Perm rs ∧ (rws ps).Nodup ∧ 2 ≤ ps.length ∧ ps.length ≤ 120 ∧ ∀ H', Same H H' → Q (.bl true) H'
def LeM (m : Int) (l : List Int) : Prop := (m = 99 ∨ m ∈ l) ∧ m ≤ 99 ∧ ∀ y ∈ l, m ≤ y
theorem LeM.more {m k : Int} {l r : List Int} (h : LeM m l) (hk : k ∈ m :: r) (hle : ∀ y ∈ m :: r, k ≤ y) : LeM k (l ++ r) := by
  obtain ⟨h1, h2, h3⟩ := h
  have hm := hle m List.mem_cons_self
  refine ⟨?_, by omega, fun y hy => ?_⟩
  · rcases List.mem_cons.mp hk with rfl | hk
    · rcases h1 with h1 | h1
      · exact .inl h1
      · exact .inr (List.mem_append_left _ h1)
    · exact .inr (List.mem_append_right _ hk)
  · rcases List.mem_append.mp hy with hy | hy
    · have := h3 y hy
      omega
    · exact hle y (List.mem_cons_of_mem _ hy)
section
variable {P : Program} {w : World} {K : PySem.W.Frag} {mg : Str → Option Value} {base : Heap}
theorem scRoom74 : FnScope ["lister", "gone"] ["lister", "gone"] (defScope s_law_room_right) := ⟨rfl, rfl, rfl, by decide +kernel, rfl, by decide +kernel, by decide +kernel⟩
set_option maxHeartbeats 2000000 in
theorem ok_room74 {f f1 f2 fI C_Lister Pt : Addr} {fd d1 d2 : FuncData} {k : Nat} (T : Df K mg "_law_room_right" s_law_room_right ["lister", "gone"] f fd) (T_Lister : TxL K mg C_Lister fI) (T_Lister_how_many_more : Dm K C_Lister "how_many_more" "Lister.how_many_more" s_Lister_how_many_more ["self"] f1 d1) (T_Lister_first_more : Dm K C_Lister "first_more" "Lister.first_more" s_Lister_first_more ["self"] f2 d2) (G_Lister_how_many_more : FnOk P w K mg base CX0 k f1 d1 ["self"] (spMoreL C_Lister Pt)) (G_Lister_first_more : FnOk P w K mg base CX0 k f2 d2 ["self"] (spFirstL C_Lister Pt)) (B : Bi mg) : FnOk P w K mg base CX0 (k + 1) f fd ["lister", "gone"] (spRoom74 C_Lister Pt) := by
  refine T.F.ok scRoom74 (fun vs H Q E h => ?_) (fun cdv A outer s H vs Q E hr h => ?_)
  · obtain ⟨a, e, X, w, n, d, rs, ss, v, rfl, _⟩ := h
    rfl
  · obtain ⟨a, e, X, wy, n, d, rs, ss, v, rfl, L, hn6, tab, hv, q⟩ := h
    refine ⟨_, 
      (pss_cons (ps_if (pt_cmpR op_isN (pv 1) pe_non (nomark _))
        (pss_one (ps_ret (pe_cmpR op_eq (pe_meth0 (pv 0) T_Lister.cl T_Lister_how_many_more.me G_Lister_how_many_more hr T_Lister_how_many_more.b .nil pass0) pe_int (nomark _))))
        pss_nil)
      (pss_one (ps_ret (pe_cmpR (op_eqD hr.units) (pe_meth0 (pv 0) T_Lister.cl T_Lister_first_more.me G_Lister_first_more hr T_Lister_first_more.b .nil pass0) (pv 1) (nomark _))))), ?_⟩
    obtain ⟨dx, fs, ha, hno⟩ := L.obj "how_many_more" (by decide +kernel) (by decide +kernel) (by decide +kernel) (by decide +kernel) (by decide +kernel)
    obtain ⟨dx2, fs2, ha2, hno2⟩ := L.obj "first_more" (by decide +kernel) (by decide +kernel) (by decide +kernel) (by decide +kernel) (by decide +kernel)
    rcases hv with ⟨rfl, ez⟩ | ⟨o, g, rfl, ho, ez⟩
    · refine ⟨_, rfl, rfl, _, rfl, iteT ⟨_, rfl, a, dx, fs, rfl, ha, hno, a, e, X, wy, n, d, rs, ss, rfl, L, hn6, tab, fun H' k' => ⟨rfl, ?_⟩⟩⟩
      rw [ez]
      exact q H' k'
    · refine ⟨_, rfl, rfl, _, rfl, iteF ⟨_, rfl, a, dx2, fs2, rfl, ha2, hno2, a, e, X, wy, n, d, rs, ss, rfl, L, hn6, tab, fun e0 => (by rw [ez] at e0; cases e0), fun x xs l H' e1 nl hl k' => ?_⟩⟩
      rw [ez] at e1
      obtain ⟨rfl, _⟩ := List.cons.inj e1
      refine ⟨_, rfl, _, _, dp_list hl, dp_list (k'.lst ho), shaped_list _, shaped_list _, ?_⟩
      rw [eqv_ints, decide_eq_true rfl]
      exact q H' k'
theorem scLeast74 : FnScope ["lister", "way", "held", "least", "at", "one", "found", "other"] ["lister", "way", "held"] (defScope s_law_least_right) := ⟨rfl, rfl, rfl, by decide +kernel, rfl, by decide +kernel, by decide +kernel⟩
set_option maxHeartbeats 4000000 in
theorem ok_least74 {f f1 f2 f3 fI C_Lister : Addr} {fd d1 d2 d3 : FuncData} {k : Nat} (T : Df K mg "_law_least_right" s_law_least_right ["lister", "way", "held"] f fd) (T_Lister : TxL K mg C_Lister fI) (T_Lister_least_apart : Dm K C_Lister "least_apart" "Lister.least_apart" s_Lister_least_apart ["self"] f1 d1) (T__law_far : Df K mg "_law_far" s_law_far ["way", "one", "other"] f2 d2) (T__law_whole : Df K mg "_law_whole" s_law_whole ["thing"] f3 d3) (G_Lister_least_apart : FnOk P w K mg base CX0 k f1 d1 ["self"] (spLeastL C_Lister)) (G__law_far : FnOk P w K mg base CX0 k f2 d2 ["way", "one", "other"] spFar) (G__law_whole : FnOk P w K mg base CX0 k f3 d3 ["thing"] spWhole) (B : Bi mg) : FnOk P w K mg base CX0 (k + 1) f fd ["lister", "way", "held"] (spLeast74 C_Lister) := by
  refine T.F.ok scLeast74 (fun vs H Q E h => ?_) (fun cdv A outer s H vs Q E hr h => ?_)
  · obtain ⟨a, e, h, X, w, n, d, rs, ss, ps, rfl, _⟩ := h
    rfl
  · obtain ⟨a, e, h, X, wy, n, d, rs, ss, ps, rfl, L, hh, hperm, hnd, hl2, hl, q⟩ := h
    have hn1 := L.n1
    have hn8 := L.n2
    have hord : ∀ r ∈ rws ps, IsOrd n r := fun r m => L.ord r (hperm.subset m)
    refine ⟨_, 
      (pss_cons (ps_set (i := 3) scLeast74.nd rfl (.inl rfl) pe_int)
      (pss_cons (ps_for PassesOwn.never rfl (pi_enum (by rfl) B.enumerate (pa_cons (pv 2) pa_nil)) (pg_tup (by rfl) (pgs_cons (pg_name (i := 4) scLeast74.nd rfl (.inl rfl)) (pgs_cons (pg_name (i := 5) scLeast74.nd rfl (.inr rfl)) pgs_nil)))
        (pss_one (ps_set (i := 3) scLeast74.nd rfl (.inl rfl) (pe_callB (cr_min rfl) (by rfl) B.min (by decide +kernel) (pa_cons (pe_op op_cat (pe_lst (pa_cons (pv 3) pa_nil)) (pe_lc (own := [("other", 7)]) (g := (gName 7)) (tt := tYes) (te := (tCall spFar [] E0 (tCons (tVar 1) (tCons (tVar 5) (tCons (tVar 7) tNil))))) rfl scLeast74.nd (pi_list (pe_slice sl_list (pv 2) po_none (po_some (pv 4)))) (blkOk_by (N := ["lister", "way", "held", "least", "at", "one", "found", "other"]) (sc := defScope s_law_least_right) (by decide +kernel)) (fun _ _ _ _ _ => (pg_name (i := 7) scLeast74.nd rfl (.inl rfl))) (fun _ _ _ _ _ => pts_nil) (fun _ _ _ _ _ => (pe_call G__law_far hr (by rfl) T__law_far.g T__law_far.F.kp T__law_far.b .nil pass0 (pa_cons (pv 1) (pa_cons (pv 5) (pa_cons (pv 7) pa_nil))))))) pa_nil)))))
      (pss_cons (ps_set (i := 6) scLeast74.nd rfl (.inl rfl) (pe_meth0 (pv 0) T_Lister.cl T_Lister_least_apart.me G_Lister_least_apart hr T_Lister_least_apart.b .nil pass0))
      (pss_one (ps_ret (pe_and (pe_call G__law_whole hr (by rfl) T__law_whole.g T__law_whole.F.kp T__law_whole.b .nil pass0 (pa_cons (pv 6) pa_nil)) (pe_one (pe_cmpR op_eq (pv 6) (pv 3) (nomark _))))))))), ?_⟩
    refine ⟨_, rfl, h, _, rfl, SqL.of hh.1, ?_⟩
    refine for_enumL (K := K) (a := h) (xs := ps.map fun p => V.ref p.1) (fun i σ G => ∃ (m : Int) (y4 y5 y6 y7 : Option V), σ = [some (.ref a), some (.str wy), some (.ref h), some (.int m), y4, y5, y6, y7] ∧ LeM m (prs wy (rws ps) i) ∧ Same H G)
      ⟨99, _, _, _, _, rfl, ⟨.inl rfl, by decide, fun y hy => absurd hy List.not_mem_nil⟩, Same.refl _⟩ (fun i σ G hP => by obtain ⟨_, _, _, _, _, _, _, sm⟩ := hP; exact SqL.of (sm _ _ hh.1)) (fun i x T2 σ G hx hP nT => ?_) (fun σ G hP => ?_)
    · obtain ⟨m, y4, y5, y6, y7, rfl, hm, sm⟩ := hP
      obtain ⟨p, ep, rfl, hp⟩ := (hh.same sm).at hx
      have er := rws_at ep
      have hi : i < ps.length := (List.getElem?_eq_some_iff.mp ep).1
      have s1 := same_new (o := .tup [.int (i : Nat), .ref p.1]) nT
      have sm1 := sm.trans s1
      refine ⟨T2, _, rfl, .inl (.inl upd_same), rfl, _, _, rfl, _, _, rfl, rfl, ?_⟩
      refine ⟨_, rfl, by show 1 ≤ sizeLine; decide, fun t nt => ?_⟩
      have s2 := same_new (o := .lst [V.int m]) nt
      have ht : (upd (upd G T2 (.tup [.int (i : Nat), .ref p.1])) t (.lst [V.int m])) t = some (.lst [V.int m]) := upd_same
      have sm2 := sm1.trans s2
      generalize upd (upd G T2 (.tup [.int (i : Nat), .ref p.1])) t (.lst [V.int m]) = G2 at ht sm2 ⊢
      refine ⟨_, rfl, _, rfl, _, rfl, h, _, rfl, SqL.of (sm2 _ _ hh.1), fun c nc => ?_⟩
      rw [cut_take]
      have s3 := same_new (o := .lst ((ps.map fun p => V.ref p.1).take i)) nc
      have hc : (upd G2 c (.lst ((ps.map fun p => V.ref p.1).take i))) c = some (.lst ((ps.map fun p => V.ref p.1).take i)) := upd_same
      have ht3 := s3 _ _ ht
      have sm3 := sm2.trans s3
      generalize upd G2 c (.lst ((ps.map fun p => V.ref p.1).take i)) = G3 at hc ht3 sm3 ⊢
      refine ⟨c, rfl, ⟨_, SqL.of hc⟩, fun D nD => ?_⟩
      have nDt : t ≠ D := ne_of_none ht3 nD
      refine lc_list (K := K) (a := c) (xs := (ps.map fun p => V.ref p.1).take i) (fun j H3 => H3 D = some (.lst ((((rws ps).take i).take j).map (farW wy p.2) |>.map V.int)) ∧ Same G3 H3) ⟨upd_same, same_new nD⟩ (fun j H3 _ hP => SqL.of (hP.2 _ _ hc)) (fun j x H3 hx hP => ?_) (fun H3 hP => ?_)
      · obtain ⟨hD, s4⟩ := hP
        have hj : j < i := by
          have := (List.getElem?_eq_some_iff.mp hx).1
          rw [List.length_take] at this
          omega
        rw [List.getElem?_take_of_lt hj] at hx
        have sm4 := sm3.trans s4
        obtain ⟨r, eqr, rfl, hr3⟩ := (hh.same sm4).at hx
        have er2 := rws_at eqr
        have er3 : ((rws ps).take i)[j]? = some r.2 := by rw [List.getElem?_take_of_lt hj]; exact er2
        refine ⟨rfl, _, rfl, _, rfl, _, rfl, wy, p.1, r.1, n, p.2, r.2, rfl, L.wy, sm4 _ _ (hh.2 p (List.mem_of_getElem? ep)), hr3, hord _ (List.mem_of_getElem? er), hord _ (List.mem_of_getElem? er2), hn1, by omega, fun H4 s5 => ?_⟩
        refine ⟨_, s5 _ _ hD, line_lt ?_, ?_, fun b o hb => ?_⟩
        · rw [List.length_map, List.length_map, List.length_take, List.length_take]
          omega
        · rw [upd_same, take_p er3, List.map_append, List.map_append]
          rfl
        · rw [upd_ne (ne_of_none hb nD)]
          exact s5 _ _ (s4 _ _ hb)
      · obtain ⟨hD, s4⟩ := hP
        rw [List.length_take, List.length_map, List.take_take, Nat.min_eq_left (by omega : i ≤ ps.length), Nat.min_self] at hD
        refine ⟨t, D, _, _, rfl, rfl, s4 _ _ ht3, hD, line_small ?_, fun u nu => ?_⟩
        · rw [List.length_map, List.length_map, List.length_take]
          show 1 + _ ≤ _
          omega
        have s5 := same_new (o := .lst ([V.int m] ++ (((rws ps).take i).map (farW wy p.2)).map V.int)) nu
        refine ⟨u, m :: ((rws ps).take i).map (farW wy p.2), rfl, SqL.of upd_same, Nat.succ_pos _, fun k0 hk hle => ?_⟩
        exact ⟨k0, _, _, _, _, rfl, by rw [prs_at er]; exact hm.more hk hle, sm3.trans (s4.trans s5)⟩
    · obtain ⟨m, y4, y5, y6, y7, rfl, hm, sm⟩ := hP
      have L1 := L.same sm
      obtain ⟨dx, fs, ha, hno⟩ := L1.obj "least_apart" (by decide +kernel) (by decide +kernel) (by decide +kernel) (by decide +kernel) (by decide +kernel)
      have elen : (ps.map fun p => V.ref p.1).length = (rws ps).length := by rw [List.length_map, List.length_map]
      rw [elen] at hm
      have hpm := fun y => prs_perm (w := wy) hperm hord hn1 hnd y
      -- there are two
      obtain ⟨y0, hy0⟩ : ∃ y, y ∈ prs wy (rws ps) (rws ps).length := by
        have h0 : (rws ps)[0]? = some ((rws ps)[0]'(by rw [List.length_map]; omega)) := List.getElem?_eq_getElem _
        have h1 : (rws ps)[1]? = some ((rws ps)[1]'(by rw [List.length_map]; omega)) := List.getElem?_eq_getElem _
        refine ⟨_, (prs_mem hord hn1 hnd _ (Nat.le_refl _) _).mpr ⟨_, by rw [List.take_length]; exact List.mem_of_getElem? h0, _, by rw [List.take_length]; exact List.mem_of_getElem? h1, fun z => ?_, rfl⟩⟩
        rw [← z] at h1
        have := (List.getElem?_inj (by rw [List.length_map]; omega) hnd).mp (h0.trans h1.symm)
        omega
      have b99 : ∀ y ∈ prs wy (rws ps) (rws ps).length, y ≤ 99 := fun y hy => by
        obtain ⟨x, hx, z, hz, _, rfl⟩ := (prs_mem hord hn1 hnd _ (Nat.le_refl _) _).mp hy
        rw [List.take_length] at hx hz
        exact far_most L.wy (hord x hx) (hord z hz) hn1 hn8
      refine ⟨_, rfl, a, dx, fs, rfl, ha, hno, a, e, X, wy, n, d, rs, ss, rfl, L1, by have := hperm.length_eq; rw [List.length_map] at this; omega, fun ez => ?_, fun m' H' s' hm1 hm2 => ?_⟩
      · have := (hpm y0).mp hy0
        rw [ez] at this
        exact absurd this List.not_mem_nil
      · have e1 : m' = m := by
          have h1 := (hpm m').mpr hm1
          have h2 := hm.2.2 m' h1
          rcases hm.1 with h3 | h3
          · have := b99 m' h1
            omega
          · have := hm2 m ((hpm m).mp h3)
            omega
        subst e1
        refine ⟨_, rfl, m', rfl, true, rfl, iteT ⟨_, rfl, _, rfl, rfl, ?_⟩⟩
        rw [decide_eq_true rfl]
        exact q _ (sm.trans s')
end
end Fo
namespace Fo
open PySem PySem.Spec PyProof.Rows L2
def spFill74 (C : Addr) : Sp := fun vs H Q _ => ∃ (D a e h : Addr) (w : Str) (n : Nat) (d : Int) (ps : List (Addr × List Int)), vs = [.ref D, .ref a, .str w, .int d, .ref h] ∧ Hd74 w n d (rws ps) ∧ W74 C H a e D h w n d [] [] ps ∧
  ∀ H', W74 C H' a e D h w n d (srt (rws ps)) (prefs (rws ps) 120) ps → K3 a e D H H' → Q (.bl true) H'
theorem sw_near {n : Nat} {xs : List Int} {p : Nat} (ox : IsOrd n xs) (hp : p + 1 < n) : farSwap (sw xs p) xs = 1 := by
  unfold farSwap
  rw [seats_sw (by rw [ox.len]; exact hp), seats_self ox, inv_NR]
  have h0 : invR (rg n) = 0 := by rw [← inv_NR, inv_rg]
  have ha : (rg n)[p]? = some (p : Int) := by unfold rg; rw [List.getElem?_map, List.getElem?_range (by omega)]; rfl
  have hb : (rg n)[p + 1]? = some ((p + 1 : Nat) : Int) := by unfold rg; rw [List.getElem?_map, List.getElem?_range (by omega)]; rfl
  have hl := rg_len n
  have h2 : invR (sw (rg n) p) = invR (sw (sw (rg n) p) p) + 1 := invR_sw (a := ((p + 1 : Nat) : Int)) (b := (p : Int)) (by
    unfold sw
    rw [List.getElem?_set_ne (by omega), List.getElem?_set_self (by omega), List.getD_eq_getElem?_getD, hb]; rfl) (by
    unfold sw
    rw [List.getElem?_set_self (by rw [List.length_set]; omega), List.getD_eq_getElem?_getD, ha]; rfl) (by omega)
  have e : sw (sw (rg n) p) p = rg n := by
    obtain ⟨A, x, y, B, e, l⟩ := split2 (xs := rg n) (p := p) (by omega)
    rw [e, ← l, sw_at, sw_at]
  rw [e] at h2
  omega
theorem bent_near {w : Str} {n : Nat} {d : Int} {R : List (List Int)} (h : Hd74 w n d R) {xs : List Int} (ox : IsOrd n xs) {p : Nat} (hp : p + 1 < n) (hd : 1 < d) : farW w xs (sw xs p) < d := by
  have hn : 1 ≤ n := by omega
  rw [farW_turn (sw_ord ox hp) ox hn]
  have h1 := sw_near ox hp
  rcases h.dk with e | ⟨e, rfl⟩ | ⟨e, rfl⟩
  · omega
  · rw [farW_swap]
    omega
  · rw [farW_spot]
    have := spot_swap (sw_ord ox hp) ox
    omega
theorem near_none {w : Str} {n : Nat} {d : Int} {R : List (List Int)} (h : Hd74 w n d R) {i : Nat} {x : List Int} (hx : R[i]? = some x) : nearR w x d (srt (R.take i)) = [] := by
  unfold nearR
  refine List.filter_eq_nil_iff.mpr fun r hr z => ?_
  have m := (srt_perm (R.take i)).mem_iff.mp hr
  obtain ⟨j, hj, ej⟩ := List.getElem_of_mem m
  rw [List.length_take] at hj
  have e2 : R[j]? = some r := by
    rw [List.getElem_take] at ej
    rw [List.getElem?_eq_getElem (by omega), ej]
  have := h.far i j x r hx e2 (by omega)
  have := of_decide_eq_true z
  omega
section
variable {P : Program} {w : World} {K : PySem.W.Frag} {mg : Str → Option Value} {base : Heap}
theorem scFill74 : FnScope ["deck", "lister", "way", "d", "held", "marks", "k", "order", "bent", "p", "due", "one"] ["deck", "lister", "way", "d", "held"] (defScope s_law_filled_right) := ⟨rfl, rfl, rfl, by decide +kernel, rfl, by decide +kernel, by decide +kernel⟩
set_option maxHeartbeats 16000000 in
theorem ok_fill74 {f f1 f2 f3 g1 fI C_Lister : Addr} {c : Nat → Addr} {fd d1 d2 d3 b1 : FuncData} {k : Nat} (T : Df K mg "_law_filled_right" s_law_filled_right ["deck", "lister", "way", "d", "held"] f fd) (T_Lister : TxL K mg C_Lister fI) (T__law_next : Df K mg "_law_next" s_law_next ["deck"] f1 d1) (T__law_far : Df K mg "_law_far" s_law_far ["way", "one", "other"] f2 d2) (T__law_said : Df K mg "_law_said" s_law_said ["lister", "word", "order"] f3 d3) (T_Lister_come : Dm K C_Lister "come" "Lister.come" s_Lister_come ["self", "order"] g1 b1) (G__law_next : FnOk P w K mg base CX0 k f1 d1 ["deck"] spNext) (G__law_far : FnOk P w K mg base CX0 k f2 d2 ["way", "one", "other"] spFar) (G__law_said : FnOk P w K mg base CX0 k f3 d3 ["lister", "word", "order"] (spSaidL K C_Lister c)) (G_Lister_come : FnOk P w K mg base CX0 k g1 b1 ["self", "order"] (spComeL C_Lister)) (B : Bi mg) : FnOk P w K mg base CX0 (k + 1) f fd ["deck", "lister", "way", "d", "held"] (spFill74 C_Lister) := by
  refine T.F.ok scFill74 (fun vs H Q E h => ?_) (fun cdv A outer s H vs Q E hr h => ?_)
  · obtain ⟨D, a, e, h, w, n, d, ps, rfl, _⟩ := h
    rfl
  · obtain ⟨D, a, e, h, wy, n, d, ps, rfl, hd, W0, q⟩ := h
    have hn5 := hd.n5
    have hn8 := hd.n8
    have hd1 := hd.d1
    have hlR := hd.len
    have hlp : ps.length = 120 := by rw [List.length_map] at hlR; exact hlR
    refine ⟨_, 
      (pss_cons (ps_set (i := 5) scFill74.nd rfl (.inl rfl) (pe_lst (pa_cons (pe_op op_mod (pe_call G__law_next hr (by rfl) T__law_next.g T__law_next.F.kp T__law_next.b .nil pass0 (pa_cons (pv 0) pa_nil)) pe_int) (pa_cons (pe_op op_add pe_int (pe_op op_mod (pe_call G__law_next hr (by rfl) T__law_next.g T__law_next.F.kp T__law_next.b .nil pass0 (pa_cons (pv 0) pa_nil)) pe_int)) (pa_cons pe_int pa_nil)))))
      (pss_cons (ps_for PassesOwn.never rfl (pi_enum (by rfl) B.enumerate (pa_cons (pv 4) pa_nil)) (pg_tup (by rfl) (pgs_cons (pg_name (i := 6) scFill74.nd rfl (.inl rfl)) (pgs_cons (pg_name (i := 7) scFill74.nd rfl (.inl rfl)) pgs_nil)))
        (pss_cons (ps_if (pt_cmpR (op_neNilL hr.units) (pe_meth (pv 1) T_Lister.cl T_Lister_come.me G_Lister_come hr T_Lister_come.b .nil pass0 (pa_cons (pe_callTy call_list_of (by rfl) B.list (by decide +kernel) (pa_cons (pv 7) pa_nil)) pa_nil)) (pe_lst pa_nil) (nomark _))
          (pss_one (ps_ret pe_bl))
          pss_nil)
        (pss_one (ps_if (pt_cmpR op_in_seq (pv 6) (pv 5) (by rfl))
          (pss_cons (ps_set (i := 8) scFill74.nd rfl (.inr rfl) (pe_callTy call_list_of (by rfl) B.list (by decide +kernel) (pa_cons (pe_ix ix_list (pv 4) (pe_op op_mod (pe_call G__law_next hr (by rfl) T__law_next.g T__law_next.F.kp T__law_next.b .nil pass0 (pa_cons (pv 0) pa_nil)) (pe_op op_add (pv 6) pe_int)) (fun _ _ => rfl)) pa_nil)))
          (pss_cons (ps_set (i := 9) scFill74.nd rfl (.inl rfl) (pe_op op_mod (pe_call G__law_next hr (by rfl) T__law_next.g T__law_next.F.kp T__law_next.b .nil pass0 (pa_cons (pv 0) pa_nil)) (pe_op op_sub (pe_callB call_len_seq (by rfl) B.len PySem.boot_len (pa_cons (pv 8) pa_nil)) pe_int)))
          (Evl.pss_cut (ps_if (pt_cmpR op_gt (pv 3) pe_int (nomark _))
            (pss_one (ps_asg (pe_tup (pa_cons (pe_ix ix_list (pv 8) (pe_op op_add (pv 9) pe_int) (fun _ _ => rfl)) (pa_cons (pe_ix ix_list (pv 8) (pv 9) (fun _ _ => rfl)) pa_nil))) (pg_tup (by rfl) (pgs_cons (pg_sub (pv 8) (pv 9) set_list) (pgs_cons (pg_sub (pv 8) (pe_op op_add (pv 9) pe_int) set_list) pgs_nil)))))
            pss_nil)
          (pss_cons (ps_set (i := 10) scFill74.nd rfl (.inl rfl) (pe_callB (cr_sortedR hr.units) (by rfl) B.sorted (by decide +kernel) (pa_cons (pe_lc (own := [("one", 11)]) (g := (gName 11)) (tt := (tTest (tOp (rI0 fun i j => .bl (decide (i < j))) (tCall spFar [] E0 (tCons (tVar 2) (tCons (tVar 11) (tCons (tVar 8) tNil)))) (tVar 3)))) (te := (tCB (rListOf K) (tCons (tVar 11) tNil))) rfl scFill74.nd (pi_list (pe_slice sl_list (pv 4) po_none (po_some (pe_op op_add (pv 6) pe_int)))) (blkOk_by (N := ["deck", "lister", "way", "d", "held", "marks", "k", "order", "bent", "p", "due", "one"]) (sc := defScope s_law_filled_right) (by decide +kernel)) (fun _ _ _ _ _ => (pg_name (i := 11) scFill74.nd rfl (.inl rfl))) (fun _ _ _ _ _ => (pts_one (pt_cmpR op_lt (pe_call G__law_far hr (by rfl) T__law_far.g T__law_far.F.kp T__law_far.b .nil pass0 (pa_cons (pv 2) (pa_cons (pv 11) (pa_cons (pv 8) pa_nil)))) (pv 3) (nomark _)))) (fun _ _ _ _ _ => (pe_callTy call_list_of (by rfl) B.list (by decide +kernel) (pa_cons (pv 11) pa_nil)))) pa_nil)))
          (pss_one (ps_if (PW.pt (pw_or (pt_cmpR (op_neD hr.units) (pe_call G__law_said hr (by rfl) T__law_said.g T__law_said.F.kp T__law_said.b .nil pass0 (pa_cons (pv 1) (pa_cons pe_str (pa_cons (pv 8) pa_nil)))) (pv 10) (nomark _)) (pw_or1 (pt_cmpR (op_eqNilL hr.units) (pv 10) (pe_lst pa_nil) (nomark _)))))
            (pss_one (ps_ret pe_bl))
            pss_nil))))))
          pss_nil))))
      (pss_one (ps_ret pe_bl)))), ?_⟩
    refine ⟨_, rfl, D, rfl, W0.dq, fun v1 H1 _ _ D1 k1 => ⟨v1, 119, rfl, rfl, (show (0 : Int) < 119 by decide), _, rfl, D, rfl, D1, fun v2 H2 _ _ D2 k2 => ⟨v2, 77, rfl, rfl, (show (0 : Int) < 77 by decide), 41, _, rfl, rfl, by show 3 ≤ sizeLine; decide, fun mk nmk => ?_⟩⟩⟩
    have m1 := mod_b v1 (m := 119) (by decide)
    have m2 := mod_b v2 (m := 77) (by decide)
    have W2 := (W0.draw k1 D1).draw k2 D2
    have W3 := W2.same (same_new (o := .lst [.int (v1 % 119), .int (41 + v2 % 77), .int 118]) nmk)
    have nmk3 := W2.new nmk
    have kk3 : K3 a e D H (upd H2 mk (.lst [.int (v1 % 119), .int (41 + v2 % 77), .int 118])) := (K3.kd (k1.trans k2)).trans (K3.sm (same_new nmk))
    have hmk3 : (upd H2 mk (.lst [.int (v1 % 119), .int (41 + v2 % 77), .int 118])) mk = some (.lst [.int (v1 % 119), .int (41 + v2 % 77), .int 118]) := upd_same
    generalize upd H2 mk (.lst [.int (v1 % 119), .int (41 + v2 % 77), .int 118]) = H3 at W3 kk3 hmk3 ⊢
    clear W2 W0 k1 k2 D1 D2 nmk
    refine ⟨_, rfl, h, _, rfl, SqL.of W3.rp.1, ?_⟩
    refine for_enumL (K := K) (a := h) (xs := ps.map fun p => V.ref p.1) (fun i σ G => ∃ (y6 y7 y8 y9 y10 y11 : Option V), σ = [some (.ref D), some (.ref a), some (.str wy), some (.int d), some (.ref h), some (.ref mk), y6, y7, y8, y9, y10, y11] ∧ W74 C_Lister G a e D h wy n d (srt ((rws ps).take i)) (prefs (rws ps) i) ps ∧ G mk = some (.lst [.int (v1 % 119), .int (41 + v2 % 77), .int 118]) ∧ K3 a e D H G)
      ⟨_, _, _, _, _, _, rfl, by rw [List.take_zero, srt_nil]; exact W3, hmk3, kk3⟩ (fun i σ G hP => by obtain ⟨_, _, _, _, _, _, _, W, _⟩ := hP; exact SqL.of W.rp.1) (fun i x T2 σ G hx hP nT => ?_) (fun σ G hP => ?_)
    rotate_left
    · obtain ⟨_, _, _, _, _, _, rfl, W, _, kG⟩ := hP
      rw [List.length_map, hlp, List.take_of_length_le (by rw [hlR]; exact Nat.le_refl _)] at W
      exact q G W kG
    obtain ⟨y6, y7, y8, y9, y10, y11, rfl, W, hmk, kG⟩ := hP
    obtain ⟨p, ep, rfl, _⟩ := W.rp.at hx
    have er := rws_at ep
    have hi : i < 120 := by have := (List.getElem?_eq_some_iff.mp ep).1; omega
    have mp := List.mem_of_getElem? ep
    have op := hd.ord _ (List.mem_of_getElem? er)
    have s1 := same_new (o := .tup [.int (i : Nat), .ref p.1]) nT
    have W1 := W.same s1
    have hmk1 := s1 _ _ hmk
    have kG1 := kG.trans (K3.sm s1)
    refine ⟨T2, _, rfl, .inl (.inl upd_same), rfl, _, _, rfl, _, _, rfl, rfl, ?_⟩
    generalize upd G T2 (.tup [.int (i : Nat), .ref p.1]) = G1 at W1 hmk1 kG1 ⊢
    clear W hmk kG s1 nT
    -- it comes
    obtain ⟨dx3, fl3, ha3, hno3⟩ := W1.ob "come" (by decide +kernel) (by decide +kernel) (by decide +kernel) (by decide +kernel) (by decide +kernel)
    refine ⟨_, rfl, a, dx3, fl3, rfl, ha3, hno3, _, rfl, p.1, _, rfl, .inl (SqL.of (W1.rp.2 p mp)), fun c1 nc1 => ?_⟩
    have s2 := same_new (o := .lst (p.2.map V.int)) nc1
    have W2 := W1.same s2
    refine ⟨a, e, c1, [e, D], wy, n, d, _, _, p.2, rfl, W2.L, upd_same, op, ?_, ?_, fun l9 qs9 rs9 ss9 G3 e9 r1 r2 nr9 L9 k9 => ?_⟩
    · rw [(srt_perm _).length_eq, List.length_take]
      omega
    · rw [prefs_len]
      omega
    rw [near_none hd er] at e9
    have q0 : qs9 = [] := List.eq_nil_of_length_eq_zero (by have := congrArg List.length e9; rw [List.length_map] at this; exact this)
    subst q0
    obtain ⟨x1, x2, rfl⟩ := r1 rfl
    have ers : rs9 = srt ((rws ps).take (i + 1)) := by
      refine srt_eq (x1.trans ?_) x2
      rw [take_p er]
      exact (srt_perm _).append_right _
    subst ers
    rw [← prefs_succ] at L9
    have W3' := W2.lst k9 L9 (fun x hx => List.mem_cons_of_mem _ (List.mem_append_right _ hx))
    have hmk3' := k9 _ _ (s2 _ _ hmk1) nmk3.1 nmk3.2.1
    have kG3 := (kG1.trans (K3.sm s2)).trans (K3.kl k9)
    refine ⟨by decide, fun u nu => ?_⟩
    have s4 := same_new (o := .lst []) nu
    have W4 := W3'.same s4
    have hmk4 := s4 _ _ hmk3'
    have kG4 := kG3.trans (K3.sm s4)
    have h9 := nr9.1.same s4
    have hu : (upd G3 u (.lst [])) u = some (.lst []) := upd_same
    generalize upd G3 u (.lst []) = G4 at W4 hmk4 kG4 h9 hu ⊢
    refine ⟨l9, u, _, rfl, rfl, SqL.of h9.1, SqL.of hu, _, rfl, iteF ?_⟩
    clear W3' hmk3' kG3 s4 hu h9 nu nr9 L9 k9 r1 r2 x1 x2 e9 W2 s2 nc1 W1 hmk1 kG1 ha3 hno3
    -- marked
    refine ⟨_, rfl, _, rfl, mk, _, rfl, .inl (SqL.of hmk4), rfl, rfl, _, rfl, ite2 (fun z => ?_) (fun _ => ⟨_, _, _, _, _, _, rfl, W4, hmk4, kG4⟩)⟩
    have hi9 : i < 119 := by
      have : ((i : Int) = v1 % 119 ∨ (i : Int) = 41 + v2 % 77 ∨ (i : Int) = 118) := by
        unfold inV at z
        obtain ⟨y, hy, hz⟩ := List.any_eq_true.mp z
        simp only [List.mem_cons, List.not_mem_nil, or_false] at hy
        rcases hy with rfl | rfl | rfl
        · have : (v1 % 119 == (i : Int)) = true := hz
          exact .inl (eq_of_beq this).symm
        · have : (41 + v2 % 77 == (i : Int)) = true := hz
          exact .inr (.inl (eq_of_beq this).symm)
        · have : ((118 : Int) == (i : Int)) = true := hz
          exact .inr (.inr (eq_of_beq this).symm)
      omega
    refine ⟨_, rfl, _, rfl, D, rfl, W4.dq, fun v3 G5 v30 _ D5 k5 => ⟨_, rfl, _, 1, rfl, rfl, v3, _, rfl, rfl, (show (0 : Int) < (i : Int) + 1 by omega), ?_⟩⟩
    have W5 := W4.draw k5 D5
    have hmk5 := k5 _ _ hmk4 nmk3.2.2
    have kG5 := kG4.trans (K3.kd k5)
    obtain ⟨j, ej, hj⟩ : ∃ j : Nat, v3 % ((i : Int) + 1) = (j : Int) ∧ j < i + 1 := by
      have h1 := mod_b v3 (m := (i : Int) + 1) (by omega)
      exact ⟨(v3 % ((i : Int) + 1)).toNat, by omega, by omega⟩
    obtain ⟨r, ejr⟩ : ∃ r, ps[j]? = some r := ⟨ps[j]'(by omega), List.getElem?_eq_getElem (by omega)⟩
    have hr5 := W5.rp.2 r (List.mem_of_getElem? ejr)
    have erj := rws_at ejr
    have ojr := hd.ord _ (List.mem_of_getElem? erj)
    have mjr : r.2 ∈ (rws ps).take (i + 1) := List.mem_of_getElem? (i := j) (by rw [List.getElem?_take_of_lt hj]; exact erj)
    refine ⟨h, _, _, _, rfl, rfl, SqL.of W5.rp.1, (show atI _ _ = some (V.ref r.1) from by rw [ej]; exact atI_nat (by rw [List.getElem?_map, ejr]; rfl)), ?_⟩
    refine ⟨r.1, _, rfl, .inl (SqL.of hr5), fun b nb => ?_⟩
    have s6 := same_new (o := .lst (r.2.map V.int)) nb
    have W6 := W5.same s6
    have nbn := W5.new nb
    have hmk6 := s6 _ _ hmk5
    have kG6 := kG5.trans (K3.sm s6)
    have hb6 : (upd G5 b (.lst (r.2.map V.int))) b = some (.lst (r.2.map V.int)) := upd_same
    have L6 : LsAt C_Lister (upd G5 b (.lst (r.2.map V.int))) a e [b, e, D] wy n d (srt ((rws ps).take (i + 1))) (prefs (rws ps) (i + 1)) := W5.L.grow s6 nb ⟨_, upd_same⟩
    have nbh : b ≠ h ∧ (∀ p ∈ ps, p.1 ≠ b) ∧ b ≠ mk := ⟨fun z => (by rw [z, W5.rp.1] at nb; cases nb), fun p hp z => (by have := W5.rp.2 p hp; rw [z, nb] at this; cases this), fun z => (by rw [z, hmk5] at nb; cases nb)⟩
    have nHb : H b = none := by
      cases e1 : H b with
      | none => rfl
      | some o => rw [kG5 b o e1 nbn.1 nbn.2.1 nbn.2.2] at nb; cases nb
    generalize upd G5 b (.lst (r.2.map V.int)) = G6 at W6 hmk6 kG6 hb6 L6 ⊢
    clear W5 hmk5 kG5 hr5 s6 nb W4 hmk4 kG4 D5 k5
    refine ⟨_, rfl, D, rfl, W6.dq, fun v4 G7 _ _ D7 k7 => ?_⟩
    have W7 := W6.draw k7 D7
    have hmk7 := k7 _ _ hmk6 nmk3.2.2
    have kG7 := kG6.trans (K3.kd k7)
    have hb7 := k7 _ _ hb6 nbn.2.2
    have L7 : LsAt C_Lister G7 a e [b, e, D] wy n d (srt ((rws ps).take (i + 1))) (prefs (rws ps) (i + 1)) := L6.out k7 (by simp) W6.ne.1 W6.ne.2 (by obtain ⟨ms, e, _⟩ := D7; exact ⟨_, e⟩)
    have hbl : (r.2.map V.int).length = n := by rw [List.length_map, ojr.len]
    refine ⟨_, rfl, b, _, rfl, .inl (SqL.of hb7), _, 1, rfl, rfl, v4, _, rfl, rfl, by rw [hbl]; omega, ?_⟩
    obtain ⟨z0, ez0, hz0⟩ : ∃ z0 : Nat, v4 % ((((r.2.map V.int).length : Nat) : Int) - 1) = (z0 : Int) ∧ z0 + 1 < n := by
      rw [hbl]
      have h1 := mod_b v4 (m := (n : Int) - 1) (by omega)
      exact ⟨(v4 % ((n : Int) - 1)).toNat, by omega, by omega⟩
    show gName 9 (V.int (v4 % ((((r.2.map V.int).length : Nat) : Int) - 1))) _ _ _
    rw [ez0]
    clear W6 hmk6 kG6 hb6 L6 k7
    refine ⟨fun τ G' => ∃ (bt : List Int), τ = [some (.ref D), some (.ref a), some (.str wy), some (.int d), some (.ref h), some (.ref mk), some (.int (i : Nat)), some (.ref p.1), some (.ref b), some (.int (z0 : Int)), y10, y11] ∧ W74 C_Lister G' a e D h wy n d (srt ((rws ps).take (i + 1))) (prefs (rws ps) (i + 1)) ps ∧ G' mk = some (.lst [.int (v1 % 119), .int (41 + v2 % 77), .int 118]) ∧ K3 a e D H G' ∧ G' b = some (.lst (bt.map V.int)) ∧ IsOrd n bt ∧ farW wy r.2 bt < d, ?_, fun τ G' hM => ?_⟩
    · refine ⟨_, rfl, _, _, rfl, rfl, _, rfl, ite2 (fun zd => ?_) (fun zd => ?_)⟩
      · have hd2 : 1 < d := of_decide_eq_true zd
        obtain ⟨x0, ex0⟩ : ∃ x0, r.2[z0]? = some x0 := ⟨r.2[z0]'(by have := ojr.len; omega), List.getElem?_eq_getElem _⟩
        obtain ⟨x1, ex1⟩ : ∃ x1, r.2[z0 + 1]? = some x1 := ⟨r.2[z0 + 1]'(by have := ojr.len; omega), List.getElem?_eq_getElem _⟩
        refine ⟨_, rfl, _, rfl, _, 1, rfl, rfl, b, _, _, _, rfl, rfl, SqL.of hb7, at_of (j := z0 + 1) (by omega) (int_at ex1), _, rfl, _, rfl, b, _, _, _, rfl, rfl, SqL.of hb7, at_of (j := z0) rfl (int_at ex0), line_small (by show 2 ≤ 16777216; decide), fun t3 nt3 => ?_⟩
        have s8 := same_new (o := .tup [.int x1, .int x0]) nt3
        have hb8 := s8 _ _ hb7
        refine ⟨t3, _, rfl, .inl (.inl upd_same), rfl, _, _, rfl, _, rfl, _, rfl, b, _, _, z0, rfl, rfl, hb8, ix_n rfl (by rw [hbl]; omega), ?_⟩
        refine ⟨_, _, rfl, _, rfl, _, rfl, _, 1, rfl, rfl, b, _, _, z0 + 1, rfl, rfl, upd_same, ix_n (by omega) (by rw [List.length_set, hbl]; omega), ?_⟩
        have W8 := W7.same s8
        have L8 := L7.same s8
        have hmk8 := s8 _ _ hmk7
        have kG8 := kG7.trans (K3.sm s8)
        generalize upd G7 t3 (.tup [.int x1, .int x0]) = G8 at W8 L8 hmk8 kG8 hb8 ⊢
        rw [upd_upd]
        have up : ∀ x o, G8 x = some o → x ≠ b → (upd G8 b (.lst (((r.2.map V.int).set z0 (.int x1)).set (z0 + 1) (.int x0)))) x = some o := fun x o hx nx => by rw [upd_ne nx]; exact hx
        refine ⟨rfl, sw r.2 z0, rfl, ⟨(L8.out up (by simp) nbn.1.symm nbn.2.1.symm ⟨_, upd_same⟩).sub (fun x hx => List.mem_cons_of_mem _ hx) (by simp), W8.dq.upd nbn.2.2, ⟨up _ _ W8.rp.1 nbh.1.symm, fun p hp => up _ _ (W8.rp.2 p hp) (nbh.2.1 p hp)⟩, W8.hn, W8.pn, W8.ne⟩, up _ _ hmk8 nbh.2.2.symm, fun x o hx n1 n2 n3 => up _ _ (kG8 x o hx n1 n2 n3) (ne_of_none hx nHb), by rw [upd_same, sw_V ex0 ex1], sw_ord ojr hz0, bent_near hd ojr hz0 hd2⟩
      · have hd2 : d = 1 := by have : ¬ (1 : Int) < d := (by simpa using zd); omega
        exact ⟨r.2, rfl, W7, hmk7, kG7, hb7, ojr, by rw [farW_self ojr (by omega)]; omega⟩
    obtain ⟨bt, rfl, W8, hmk8, kG8, hb8, obt, hfar⟩ := hM
    clear W7 L7 hmk7 kG7 hb7 D7
    -- those too near
    refine ⟨_, rfl, _, rfl, _, 1, rfl, rfl, _, rfl, h, _, rfl, SqL.of W8.rp.1, fun c2 nc2 => ?_⟩
    have ecut : cutV (ps.map fun p => V.ref p.1) none (some ((i : Int) + 1)) = (ps.map fun p => V.ref p.1).take (i + 1) := cut_take _ (i + 1)
    rw [ecut]
    have s9 := same_new (o := .lst ((ps.map fun p => V.ref p.1).take (i + 1))) nc2
    have W9 := W8.same s9
    have hmk9 := s9 _ _ hmk8
    have kG9 := kG8.trans (K3.sm s9)
    have hb9 := s9 _ _ hb8
    have hc9 : (upd G' c2 (.lst ((ps.map fun p => V.ref p.1).take (i + 1)))) c2 = some (.lst ((ps.map fun p => V.ref p.1).take (i + 1))) := upd_same
    generalize upd G' c2 (.lst ((ps.map fun p => V.ref p.1).take (i + 1))) = G9 at W9 hmk9 kG9 hb9 hc9 ⊢
    refine ⟨c2, rfl, ⟨_, SqL.of hc9⟩, fun M nM => ?_⟩
    refine lc_list (K := K) (a := c2) (xs := (ps.map fun p => V.ref p.1).take (i + 1)) (fun j H3 => ∃ bs : List (Addr × List Int), RP H3 M bs ∧ rws bs = nearR wy bt d (((rws ps).take (i + 1)).take j) ∧ bs.length ≤ j ∧ (∀ b ∈ bs, G9 b.1 = none ∧ b.1 ≠ M) ∧ Same G9 H3)
      ⟨[], ⟨upd_same, fun p hp => absurd hp List.not_mem_nil⟩, rfl, Nat.le_refl _, fun p hp => absurd hp List.not_mem_nil, same_new nM⟩ (fun j H3 _ hP => by obtain ⟨_, _, _, _, _, sm⟩ := hP; exact SqL.of (sm _ _ hc9)) (fun j x H3 hxj hP => ?_) (fun H3 hP => ?_)
    · obtain ⟨bs, hb, eb, lb, nb, sm⟩ := hP
      have hj1 : j < i + 1 := by
        have := (List.getElem?_eq_some_iff.mp hxj).1
        rw [List.length_take] at this
        omega
      rw [List.getElem?_take_of_lt hj1] at hxj
      obtain ⟨u, eu, rfl, hu⟩ := (W9.rp.same sm).at hxj
      have eru : (rws ps)[j]? = some u.2 := rws_at eu
      have eru2 : ((rws ps).take (i + 1))[j]? = some u.2 := by rw [List.getElem?_take_of_lt hj1]; exact eru
      have ou := hd.ord _ (List.mem_of_getElem? eru)
      refine ⟨rfl, _, rfl, _, rfl, _, rfl, wy, u.1, b, n, u.2, bt, rfl, hd.wy, hu, sm _ _ hb9, ou, obt, by omega, by omega, fun H4 s4 => ?_⟩
      have t4 := sm.trans s4
      refine ⟨_, rfl, _, _, rfl, rfl, _, rfl, ?_⟩
      rw [farW_turn obt ou (by omega)]
      refine ite2 (fun z => ?_) (fun z => ?_)
      · refine ⟨_, rfl, u.1, _, rfl, .inl (SqL.of (s4 _ _ hu)), fun c nc => ?_⟩
        have s5 := same_new (o := .lst (u.2.map V.int)) nc
        have hb4 := hb.same s4
        have npc : M ≠ c := ne_of_none hb4.1 nc
        refine ⟨_, s5 _ _ hb4.1, line_lt (by rw [List.length_map]; omega), bs ++ [(c, u.2)], ⟨by rw [upd_same, List.map_append]; rfl, fun y hy => ?_⟩, ?_, by rw [List.length_append]; show _ + 1 ≤ _; omega, fun y hy => ?_, fun b ob hbo => ?_⟩
        · rcases List.mem_append.mp hy with hy | hy
          · rw [upd_ne (nb y hy).2]
            exact s5 _ _ (hb4.2 y hy)
          · rw [List.mem_singleton.mp hy, upd_ne npc.symm, upd_same]
        · unfold nearR at eb ⊢
          rw [filter_p _ eru2, if_pos z, ← eb]
          show List.map _ (bs ++ [(c, u.2)]) = _
          rw [List.map_append]
          rfl
        · rcases List.mem_append.mp hy with hy | hy
          · exact nb y hy
          · rw [List.mem_singleton.mp hy]
            exact ⟨t4.free nc, npc.symm⟩
        · rw [upd_ne (ne_of_none hbo nM)]
          exact s5 _ _ (t4 _ _ hbo)
      · refine ⟨bs, hb.same s4, ?_, Nat.le_succ_of_le lb, nb, t4⟩
        unfold nearR at eb ⊢
        rw [filter_p _ eru2, if_neg z, List.append_nil]
        exact eb
    · obtain ⟨bs, hb, eb, lb, nb, sm⟩ := hP
      rw [List.length_take, List.length_map, List.take_take, Nat.min_eq_left (by omega : i + 1 ≤ ps.length), Nat.min_self] at eb
      refine ⟨M, bs, rfl, SqL.of hb.1, fun p hp => dp_list (hb.2 p hp), fun l nl => ?_⟩
      have s6 := same_new (o := .lst ((rowsR bs).map fun p => V.ref p.1)) nl
      have hl6 : RP (upd H3 l (.lst ((rowsR bs).map fun p => V.ref p.1))) l (rowsR bs) := ⟨upd_same, fun p hp => s6 _ _ (hb.2 p ((rowsR_perm bs).mem_iff.mp hp))⟩
      have s96 := sm.trans s6
      have edue : rws (rowsR bs) = nearR wy bt d (srt ((rws ps).take (i + 1))) := by
        have h1 : rws (rowsR bs) = srt (nearR wy bt d ((rws ps).take (i + 1))) := srt_eq (by rw [← eb]; exact (rowsR_perm bs).map _) (rowsR_sorted bs)
        rw [h1]
        exact (srt_filter _ _).symm
      have nhb : ∀ y ∈ rowsR bs, y.1 ≠ a ∧ y.1 ≠ e := fun y hy => by
        have h1 := (nb y ((rowsR_perm bs).mem_iff.mp hy)).1
        exact ⟨(W9.new h1).1, (W9.new h1).2.1⟩
      have nlW := W9.new (sm.free nl)
      have W10 := W9.same s96
      have hmk10 := s96 _ _ hmk9
      have kG10 := kG9.trans (K3.sm s96)
      have hb10 := s96 _ _ hb9
      generalize upd H3 l (.lst ((rowsR bs).map fun p => V.ref p.1)) = G10 at hl6 W10 hmk10 kG10 hb10 ⊢
      -- told
      have hne : nearR wy bt d (srt ((rws ps).take (i + 1))) ≠ [] := fun z => by
        have := List.filter_eq_nil_iff.mp z r.2 ((srt_perm _).mem_iff.mpr mjr)
        exact this (decide_eq_true (by rw [farW_turn ojr obt (by omega)]; exact hfar))
      refine ⟨_, rfl, _, rfl, a, e, [e, D], wy, n, d, _, _, "come", .ref b, rfl, W10.L, .inl ⟨rfl, b, bt, rfl, hb10, obt, ?_, ?_, fun l9 qs9 rs9 ss9 G11 e9 r1 r2 nr9 L9 k9 => ?_⟩⟩
      · rw [(srt_perm _).length_eq, List.length_take]
        omega
      · rw [prefs_len]
        omega
      have q9 : qs9 ≠ [] := fun z => by
        rw [z] at e9
        exact hne e9.symm
      obtain ⟨rfl, rfl⟩ := r2 q9
      have W11 := W10.lst k9 L9 (fun x hx => List.mem_cons_of_mem _ (List.mem_append_right _ hx))
      have hmk11 := k9 _ _ hmk10 nmk3.1 nmk3.2.1
      have kG11 := kG10.trans (K3.kl k9)
      have hl11 : RP G11 l (rowsR bs) := ⟨k9 _ _ hl6.1 nlW.1 nlW.2.1, fun p hp => k9 _ _ (hl6.2 p hp) (nhb p hp).1 (nhb p hp).2⟩
      refine ⟨_, rfl, _, _, nr9.1.dp, hl11.dp, shaped_lists _, shaped_lists _, _, rfl, ?_⟩
      rw [e9, edue, eqv_lists]
      refine iteF ⟨_, rfl, by decide, fun u nu => ?_⟩
      have s12 := same_new (o := .lst []) nu
      refine ⟨l, u, _, rfl, rfl, SqL.of (s12 _ _ hl11.1), SqL.of upd_same, _, rfl, ?_⟩
      have hrne : ((rowsR bs).map fun p => V.ref p.1).isEmpty = false := by
        cases hz : rowsR bs with
        | nil => rw [hz] at edue; exact absurd edue.symm hne
        | cons => rfl
      rw [hrne]
      exact iteF ⟨_, _, _, _, _, _, rfl, W11.same s12, s12 _ _ hmk11, kG11.trans (K3.sm s12)⟩
end
end Fo
namespace Fo
open PySem PySem.Spec PyProof.Rows L2
theorem row_srt74 (qs : List (Addr × List Int)) : rws (rowsR qs) = srt (rws qs) := srt_eq ((rowsR_perm qs).map _) (rowsR_sorted _)
theorem all5 : (allK 5 5).length = 120 := by decide +kernel
theorem full_mem {R : List (List Int)} (ho : ∀ r ∈ R, IsOrd 5 r) (nd : R.Nodup) (hl : R.length = 120) {o : List Int} (oo : IsOrd 5 o) : o ∈ R := by
  by_cases c : o ∈ R
  · exact c
  · have h := nodup_lenG (l := o :: R) (m := allK 5 5) (List.nodup_cons.mpr ⟨c, nd⟩) fun x hx => by
      rcases List.mem_cons.mp hx with rfl | hx
      · exact ord_mem oo
      · exact ord_mem (ho x hx)
    rw [all5, List.length_cons] at h
    omega
theorem free_full {w : Str} {R rs : List (List Int)} (ho : ∀ r ∈ R, IsOrd 5 r) (nd : R.Nodup) (hl : R.length = 120) (hp : rs.Perm R) : freeL w 5 1 rs = [] := by
  unfold freeL
  refine List.filter_eq_nil_iff.mpr fun o m z => ?_
  have oo := all_ord m
  have h := List.all_eq_true.mp z o (hp.symm.subset (full_mem ho nd hl oo))
  have := of_decide_eq_true h
  rw [farW_self oo (by decide)] at this
  omega
theorem filter_one {α : Type} [DecidableEq α] {x : α} {f : α → Bool} : ∀ {l : List α}, l.Nodup → x ∈ l → f x = true → (∀ y ∈ l, y ≠ x → f y = false) → l.filter f = [x]
  | [], _, h, _, _ => absurd h List.not_mem_nil
  | a :: l, nd, h, hx, hf => by
    obtain ⟨n1, n2⟩ := List.nodup_cons.mp nd
    by_cases c : a = x
    · subst c
      rw [List.filter_cons, if_pos hx]
      rw [List.filter_eq_nil_iff.mpr fun y hy z => by
        rw [hf y (List.mem_cons_of_mem _ hy) fun e => n1 (e ▸ hy)] at z
        cases z]
    · rw [List.filter_cons, if_neg (by rw [hf a List.mem_cons_self c]; decide)]
      exact filter_one n2 ((List.mem_cons.mp h).resolve_left fun e => c e.symm) hx fun y hy ny => hf y (List.mem_cons_of_mem _ hy) ny
theorem free_gone {w : Str} {R rs : List (List Int)} {g : List Int} (hw : IsWay w) (ho : ∀ r ∈ R, IsOrd 5 r) (nd : R.Nodup) (hl : R.length = 120) (hp : rs.Perm R) (hg : g ∈ R) : freeL w 5 1 (rs.filter fun r => !decide (r = g)) = [g] := by
  unfold freeL
  have og := ho g hg
  refine filter_one (allK_nodup 5) (ord_mem og) ?_ fun o m no => ?_
  · refine List.all_eq_true.mpr fun r hr => decide_eq_true ?_
    obtain ⟨h1, h2⟩ := List.mem_filter.mp hr
    have ne : r ≠ g := fun z => by rw [decide_eq_true z] at h2; cases h2
    have or := ho r (hp.subset h1)
    have h3 : farW w g r ≠ 0 := fun z => ne (farW_zero hw og or (by decide) z).symm
    have := farW_nonneg w g r
    omega
  · have oo := all_ord m
    cases z : farAll w 1 o (rs.filter fun r => !decide (r = g)) with
    | false => rfl
    | true =>
      have h := List.all_eq_true.mp z o (List.mem_filter.mpr ⟨hp.symm.subset (full_mem ho nd hl oo), by rw [decide_eq_false no]; rfl⟩)
      have := of_decide_eq_true h
      rw [farW_self oo (by decide)] at this
      omega
def spUnd74 (C : Addr) : Sp := fun vs H Q _ => ∃ (D a e h : Addr) (w : Str) (n : Nat) (d : Int) (ps : List (Addr × List Int)), vs = [.ref D, .ref a, .ref h] ∧ W74 C H a e D h w n d (srt (rws ps)) (prefs (rws ps) 120) ps ∧ ps.length = 120 ∧ ∀ H', Q (.bl true) H'
def spGone74 (C Pt : Addr) : Sp := fun vs H Q _ => ∃ (D a e h mo : Addr) (w : Str) (n : Nat) (d : Int) (ps : List (Addr × List Int)) (M : List Int) (ag : Int), vs = [.ref D, .ref a, .int n, .ref h, .ref mo, .int ag] ∧ Hd74 w n d (rws ps) ∧ W74 C H a e D h w n d (srt (rws ps)) (prefs (rws ps) 120) ps ∧ H mo = some (.lst (M.map V.int)) ∧ (mo ≠ a ∧ mo ≠ e ∧ mo ≠ D) ∧ IsOrd n M ∧ (n ≠ 5 → ∀ r ∈ rws ps, d ≤ farW w M r) ∧ GxR.TabG H Pt ∧
  ∀ H', W74 C H' a e D h w n d (srt (rws ps)) (prefs (rws ps) 120) ps → K3T a e D H H' → Q (.bl true) H'
section
variable {P : Program} {w : World} {K : PySem.W.Frag} {mg : Str → Option Value} {base : Heap}
theorem scUnd74 : FnScope ["deck", "lister", "held", "marks", "left"] ["deck", "lister", "held"] (defScope s_law_undone_right) := ⟨rfl, rfl, rfl, by decide +kernel, rfl, by decide +kernel, by decide +kernel⟩
set_option maxHeartbeats 8000000 in
theorem ok_und74 {f f1 f3 g1 fI C_Lister : Addr} {c : Nat → Addr} {fd d1 d3 b1 : FuncData} {k : Nat} (T : Df K mg "_law_undone_right" s_law_undone_right ["deck", "lister", "held"] f fd) (T_Lister : TxL K mg C_Lister fI) (T__law_next : Df K mg "_law_next" s_law_next ["deck"] f1 d1) (T__law_said : Df K mg "_law_said" s_law_said ["lister", "word", "order"] f3 d3) (T_Lister_orders : Dm K C_Lister "orders" "Lister.orders" s_Lister_orders ["self"] g1 b1) (G__law_next : FnOk P w K mg base CX0 k f1 d1 ["deck"] spNext) (G__law_said : FnOk P w K mg base CX0 k f3 d3 ["lister", "word", "order"] (spSaidL K C_Lister c)) (G_Lister_orders : FnOk P w K mg base CX0 k g1 b1 ["self"] (spOrdersL C_Lister)) (B : Bi mg) : FnOk P w K mg base CX0 (k + 1) f fd ["deck", "lister", "held"] (spUnd74 C_Lister) := by
  refine T.F.ok scUnd74 (fun vs H Q E h => ?_) (fun cdv A outer s H vs Q E hr h => ?_)
  · obtain ⟨D, a, e, h, w, n, d, ps, rfl, _⟩ := h
    rfl
  · obtain ⟨D, a, e, h, wy, n, d, ps, rfl, W0, hlp, q⟩ := h
    refine ⟨_, 
      (pss_cons (ps_set (i := 3) scUnd74.nd rfl (.inl rfl) (pe_lst (pa_cons (pe_op op_mod (pe_call G__law_next hr (by rfl) T__law_next.g T__law_next.F.kp T__law_next.b .nil pass0 (pa_cons (pv 0) pa_nil)) pe_int) (pa_cons (pe_op op_mod (pe_call G__law_next hr (by rfl) T__law_next.g T__law_next.F.kp T__law_next.b .nil pass0 (pa_cons (pv 0) pa_nil)) pe_int) (pa_cons pe_int pa_nil)))))
      (pss_cons (ps_for PassesOwn.never rfl (pi_range3 (by rfl) B.range (pa_cons pe_int (pa_cons (pe_un un_neg pe_int) (pa_cons (pe_un un_neg pe_int) pa_nil)))) (pg_name (i := 4) scUnd74.nd rfl (.inl rfl))
        (pss_cons (ps_if (pt_cmpR op_notN (pe_call G__law_said hr (by rfl) T__law_said.g T__law_said.F.kp T__law_said.b .nil pass0 (pa_cons (pv 1) (pa_cons pe_str (pa_cons pe_non pa_nil)))) pe_non (nomark _))
          (pss_one (ps_ret pe_bl))
          pss_nil)
        (pss_one (ps_if (PW.pt (pw_and (pt_cmpR op_in_seq (pv 4) (pv 3) (by rfl)) (pw_and1 (pt_cmpR (op_neD hr.units) (pe_meth0 (pv 1) T_Lister.cl T_Lister_orders.me G_Lister_orders hr T_Lister_orders.b .nil pass0) (pe_callB (cr_sortedR hr.units) (by rfl) B.sorted (by decide +kernel) (pa_cons (pe_slice sl_list (pv 2) po_none (po_some (pv 4))) pa_nil)) (nomark _)))))
          (pss_one (ps_ret pe_bl))
          pss_nil))))
      (pss_one (ps_ret (pe_and (pe_cmpR op_eq (pe_call G__law_said hr (by rfl) T__law_said.g T__law_said.F.kp T__law_said.b .nil pass0 (pa_cons (pv 1) (pa_cons pe_str (pa_cons pe_non pa_nil)))) pe_str (nomark _)) (pe_one (pe_cmpR (op_eqNilL hr.units) (pe_meth0 (pv 1) T_Lister.cl T_Lister_orders.me G_Lister_orders hr T_Lister_orders.b .nil pass0) (pe_lst pa_nil) (nomark _)))))))), ?_⟩
    refine ⟨_, rfl, D, rfl, W0.dq, fun v1 H1 _ _ D1 k1 => ⟨v1, 120, rfl, rfl, (show (0 : Int) < 120 by decide), _, rfl, D, rfl, D1, fun v2 H2 _ _ D2 k2 => ⟨v2, 120, rfl, rfl, (show (0 : Int) < 120 by decide), by show 3 ≤ sizeLine; decide, fun mk nmk => ?_⟩⟩⟩
    have W2 := (W0.draw k1 D1).draw k2 D2
    have W3 := W2.same (same_new (o := .lst [.int (v1 % 120), .int (v2 % 120), .int 79]) nmk)
    have nmk3 := W2.new nmk
    have hmk3 : (upd H2 mk (.lst [.int (v1 % 120), .int (v2 % 120), .int 79])) mk = some (.lst [.int (v1 % 120), .int (v2 % 120), .int 79]) := upd_same
    generalize upd H2 mk (.lst [.int (v1 % 120), .int (v2 % 120), .int 79]) = H3 at W3 hmk3 ⊢
    clear W2 W0 k1 k2 D1 D2 nmk
    refine ⟨1, rfl, 1, rfl, 119, -1, -1, 120, rfl, ⟨by decide, by decide, by decide +kernel, by decide +kernel⟩, ?_⟩
    have hlR : (rws ps).length = 120 := by rw [List.length_map]; exact hlp
    refine for_rangeC (n := 120) (lo := 119) (c := -1) (fun i σ G => ∃ (y4 : Option V), σ = [some (.ref D), some (.ref a), some (.ref h), some (.ref mk), y4] ∧ W74 C_Lister G a e D h wy n d (srt ((rws ps).take (120 - i))) (prefs (rws ps) (120 - i)) ps ∧ G mk = some (.lst [.int (v1 % 120), .int (v2 % 120), .int 79]))
      ⟨_, rfl, by rw [Nat.sub_zero, List.take_of_length_le (by omega)]; exact W3, hmk3⟩ (fun i σ G hi hP => ?_) (fun σ G hP => ?_)
    · obtain ⟨y4, rfl, W, hmk⟩ := hP
      obtain ⟨m, hm, em⟩ : ∃ m : Nat, 120 - i = m + 1 ∧ (119 : Int) + (i : Int) * (-1) = (m : Int) := ⟨119 - i, by omega, by omega⟩
      rw [em]
      rw [hm] at W
      rw [show 120 - (i + 1) = m by omega]
      have hm120 : m < 120 := by omega
      refine ⟨_, rfl, a, e, [e, D], wy, n, d, _, _, "undo", .non, rfl, W.L, .inr (.inr (.inr (.inr ⟨rfl, fun r0 ss0 e0 G1 L1 k1 => ⟨rfl, _, rfl, iteF ?_⟩, fun e0 => ?_⟩)))⟩
      rotate_left
      · rw [prefs_succ] at e0
        exact absurd e0 (by simp)
      rw [prefs_succ] at e0
      obtain ⟨rfl, e1⟩ := List.append_inj' e0 rfl
      obtain rfl := (List.cons.inj e1).1
      have W1 := W.lst k1 L1 (fun x hx => hx)
      have hmk1 := k1 _ _ hmk nmk3.1 nmk3.2.1
      refine ⟨_, rfl, _, rfl, mk, _, rfl, .inl (SqL.of hmk1), rfl, rfl, _, rfl, ite2 (fun _ => ?_) (fun _ => iteF ⟨_, rfl, W1, hmk1⟩)⟩
      obtain ⟨dx, fl, ha, hno⟩ := W1.ob "orders" (by decide +kernel) (by decide +kernel) (by decide +kernel) (by decide +kernel) (by decide +kernel)
      refine ⟨_, rfl, a, dx, fl, rfl, ha, hno, a, e, [e, D], wy, n, d, _, _, rfl, W1.L, by rw [(srt_perm _).length_eq, List.length_take]; omega, fun l qs G2 er nr s2 => ?_⟩
      have W2 := W1.same s2
      refine ⟨_, rfl, _, rfl, _, rfl, h, _, rfl, SqL.of W2.rp.1, fun c nc => ?_⟩
      rw [cut_take]
      have s3 := same_new (o := .lst ((ps.map fun p => V.ref p.1).take m)) nc
      have W3 := W2.same s3
      refine ⟨c, ps.take m, rfl, by rw [List.map_take]; exact SqL.of upd_same, fun p hp => dp_list (W3.rp.2 p (List.mem_of_mem_take hp)), fun y ny => ?_⟩
      have s4 := same_new (o := .lst ((rowsR (ps.take m)).map fun p => V.ref p.1)) ny
      have W4 := W3.same s4
      have hy : RP (upd (upd G2 c (.lst ((ps.map fun p => V.ref p.1).take m))) y (.lst ((rowsR (ps.take m)).map fun p => V.ref p.1))) y (rowsR (ps.take m)) := ⟨upd_same, fun p hp => W4.rp.2 p (List.mem_of_mem_take ((rowsR_perm _).mem_iff.mp hp))⟩
      refine ⟨_, _, (nr.1.same (s3.trans s4)).dp, hy.dp, shaped_lists _, shaped_lists _, _, rfl, ?_⟩
      rw [er, row_srt74, show rws (ps.take m) = (rws ps).take m from List.map_take, eqv_lists]
      exact iteF ⟨_, rfl, W4, s4 _ _ (s3 _ _ (s2 _ _ hmk1))⟩
    · obtain ⟨y4, rfl, W, hmk⟩ := hP
      rw [Nat.sub_self, List.take_zero, srt_nil] at W
      refine ⟨_, rfl, a, e, [e, D], wy, n, d, _, _, "undo", .non, rfl, W.L, .inr (.inr (.inr (.inr ⟨rfl, fun r0 ss0 e0 => absurd e0 (by simp [prefs]), fun _ G2 s2 => ?_⟩)))⟩
      have W2 := W.same s2
      refine ⟨rfl, true, rfl, iteT ?_⟩
      obtain ⟨dx, fl, ha, hno⟩ := W2.ob "orders" (by decide +kernel) (by decide +kernel) (by decide +kernel) (by decide +kernel) (by decide +kernel)
      refine ⟨_, rfl, a, dx, fl, rfl, ha, hno, a, e, [e, D], wy, n, d, _, _, rfl, W2.L, by decide, fun l qs G3 er nr s3 => ⟨by decide, fun u nu => ?_⟩⟩
      have q0 : qs = [] := List.eq_nil_of_length_eq_zero (by have := congrArg List.length er; rw [List.length_map] at this; exact this)
      subst q0
      exact ⟨l, u, _, rfl, rfl, SqL.of (same_new nu _ _ nr.1.1), SqL.of upd_same, q _⟩
theorem scGone74 : FnScope ["deck", "lister", "n", "held", "more", "again", "gone", "left", "asked", "one", "turn"] ["deck", "lister", "n", "held", "more", "again"] (defScope s_law_gone_right) := ⟨rfl, rfl, rfl, by decide +kernel, rfl, by decide +kernel, by decide +kernel⟩
set_option maxHeartbeats 16000000 in
theorem ok_gone74 {f f1 f2 f3 g1 fI C_Lister Pt : Addr} {c : Nat → Addr} {fd d1 d2 d3 b1 : FuncData} {k : Nat} (T : Df K mg "_law_gone_right" s_law_gone_right ["deck", "lister", "n", "held", "more", "again"] f fd) (T_Lister : TxL K mg C_Lister fI) (T__law_next : Df K mg "_law_next" s_law_next ["deck"] f1 d1) (T__law_room_right : Df K mg "_law_room_right" s_law_room_right ["lister", "gone"] f2 d2) (T__law_said : Df K mg "_law_said" s_law_said ["lister", "word", "order"] f3 d3) (T_Lister_orders : Dm K C_Lister "orders" "Lister.orders" s_Lister_orders ["self"] g1 b1) (G__law_next : FnOk P w K mg base CX0 k f1 d1 ["deck"] spNext) (G__law_room_right : FnOk P w K mg base CX0 k f2 d2 ["lister", "gone"] (spRoom74 C_Lister Pt)) (G__law_said : FnOk P w K mg base CX0 k f3 d3 ["lister", "word", "order"] (spSaidL K C_Lister c)) (G_Lister_orders : FnOk P w K mg base CX0 k g1 b1 ["self"] (spOrdersL C_Lister)) (B : Bi mg) : FnOk P w K mg base CX0 (k + 1) f fd ["deck", "lister", "n", "held", "more", "again"] (spGone74 C_Lister Pt) := by
  refine T.F.ok scGone74 (fun vs H Q E h => ?_) (fun cdv A outer s H vs Q E hr h => ?_)
  · obtain ⟨D, a, e, h, mo, w, n, d, ps, M, ag, rfl, _⟩ := h
    rfl
  · obtain ⟨D, a, e, h, mo, wy, n, d, ps, M, ag, rfl, hd, W0, hmo, nmo, oM, hM, tab, q⟩ := h
    have hn5 := hd.n5
    have hn8 := hd.n8
    have hd1 := hd.d1
    have hlR := hd.len
    have hlp : ps.length = 120 := by rw [List.length_map] at hlR; exact hlR
    refine ⟨_, 
      (pss_cons (ps_set (i := 6) scGone74.nd rfl (.inr rfl) (pe_ix ix_list (pv 3) (pe_op op_mod (pe_call G__law_next hr (by rfl) T__law_next.g T__law_next.F.kp T__law_next.b .nil pass0 (pa_cons (pv 0) pa_nil)) pe_int) (fun _ _ => rfl)))
      (pss_cons (ps_set (i := 7) scGone74.nd rfl (.inl rfl) (pe_callB (cr_sortedR hr.units) (by rfl) B.sorted (by decide +kernel) (pa_cons (pe_lc (own := [("one", 9)]) (g := (gName 9)) (tt := (tTest (tOp (rNeD K) (tVar 9) (tVar 6)))) (te := (tVar 9)) rfl scGone74.nd (pi_list (pv 3)) (blkOk_by (N := ["deck", "lister", "n", "held", "more", "again", "gone", "left", "asked", "one", "turn"]) (sc := defScope s_law_gone_right) (by decide +kernel)) (fun _ _ _ _ _ => (pg_name (i := 9) scGone74.nd rfl (.inl rfl))) (fun _ _ _ _ _ => (pts_one (pt_cmpR (op_neD hr.units) (pv 9) (pv 6) (nomark _)))) (fun _ _ _ _ _ => (pv 9))) pa_nil)))
      (Evl.pss_cut (ps_set (i := 8) scGone74.nd rfl (.inl rfl) (pe_and (pe_cmpR op_eq (pv 2) pe_int (nomark _)) (pe_one (pe_cmpR op_eq (pv 5) pe_int (nomark _)))))
      (Evl.pss_cut (ps_if (PW.pt (pw_and (pt_val (pv 8)) (pw_and (pt_cmpR op_eq (pe_op op_mod (pe_ix ix_list (pv 4) pe_int (fun _ _ => rfl)) pe_int) pe_int (nomark _)) (pw_and1 (pt_not (pt_val (pe_call G__law_room_right hr (by rfl) T__law_room_right.g T__law_room_right.F.kp T__law_room_right.b .nil pass0 (pa_cons (pv 1) (pa_cons pe_non pa_nil)))))))))
        (pss_one (ps_ret pe_bl))
        pss_nil)
      (pss_cons (ps_if (PW.pt (pw_or (pt_cmpR op_notN (pe_call G__law_said hr (by rfl) T__law_said.g T__law_said.F.kp T__law_said.b .nil pass0 (pa_cons (pv 1) (pa_cons pe_str (pa_cons (pe_callTy call_list_of (by rfl) B.list (by decide +kernel) (pa_cons (pv 6) pa_nil)) pa_nil)))) pe_non (nomark _)) (pw_or1 (pt_cmpR (op_neD hr.units) (pe_meth0 (pv 1) T_Lister.cl T_Lister_orders.me G_Lister_orders hr T_Lister_orders.b .nil pass0) (pv 7) (nomark _)))))
        (pss_one (ps_ret pe_bl))
        pss_nil)
      (Evl.pss_cut (ps_if (PW.pt (pw_and (pt_val (pv 8)) (pw_and (pt_cmpR op_eq (pe_op op_mod (pe_ix ix_list (pv 4) pe_int (fun _ _ => rfl)) pe_int) pe_int (nomark _)) (pw_and1 (pt_not (pt_val (pe_call G__law_room_right hr (by rfl) T__law_room_right.g T__law_room_right.F.kp T__law_room_right.b .nil pass0 (pa_cons (pv 1) (pa_cons (pv 6) pa_nil)))))))))
        (pss_one (ps_ret pe_bl))
        pss_nil)
      (pss_cons (ps_if (pt_cmpR (op_neNilL hr.units) (pe_call G__law_said hr (by rfl) T__law_said.g T__law_said.F.kp T__law_said.b .nil pass0 (pa_cons (pv 1) (pa_cons pe_str (pa_cons (pe_callTy call_list_of (by rfl) B.list (by decide +kernel) (pa_cons (pe_ix ix_list (pe_lst (pa_cons (pv 4) (pa_cons (pv 6) pa_nil))) (pe_callTy call_int1 (by rfl) B.int (by decide +kernel) (pa_cons (pe_cmpR op_eq (pv 2) pe_int (nomark _)) pa_nil)) (fun _ _ => rfl)) pa_nil)) pa_nil)))) (pe_lst pa_nil) (nomark _))
        (pss_one (ps_ret pe_bl))
        pss_nil)
      (pss_cons (ps_if (pt_cmpR op_ne (pe_call G__law_said hr (by rfl) T__law_said.g T__law_said.F.kp T__law_said.b .nil pass0 (pa_cons (pv 1) (pa_cons pe_str (pa_cons (pe_callTy call_list_of (by rfl) B.list (by decide +kernel) (pa_cons (pv 6) pa_nil)) pa_nil)))) pe_str (nomark _))
        (pss_one (ps_ret pe_bl))
        pss_nil)
      (pss_one (ps_ret (pe_cmpR (op_eqNilL hr.units) (pe_lc (own := [("turn", 10)]) (g := (gName 10)) (tt := (tTest (tOp rNotN (tCall (spSaidL K C_Lister c) [] E0 (tCons (tVar 1) (tCons (tC (.str "undo")) (tCons (tC .non) tNil)))) (tC .non)))) (te := (tVar 10)) rfl scGone74.nd (pi_range1 (by rfl) B.range (pa_cons pe_int pa_nil)) (blkOk_by (N := ["deck", "lister", "n", "held", "more", "again", "gone", "left", "asked", "one", "turn"]) (sc := defScope s_law_gone_right) (by decide +kernel)) (fun _ _ _ _ _ => (pg_name (i := 10) scGone74.nd rfl (.inl rfl))) (fun _ _ _ _ _ => (pts_one (pt_cmpR op_notN (pe_call G__law_said hr (by rfl) T__law_said.g T__law_said.F.kp T__law_said.b .nil pass0 (pa_cons (pv 1) (pa_cons pe_str (pa_cons pe_non pa_nil)))) pe_non (nomark _)))) (fun _ _ _ _ _ => (pv 10))) (pe_lst pa_nil) (nomark _)))))))))))), ?_⟩
    refine ⟨_, rfl, _, rfl, D, rfl, W0.dq, fun v1 H1 _ _ D1 k1 => ⟨v1, 120, rfl, rfl, (show (0 : Int) < 120 by decide), ?_⟩⟩
    have W1 := W0.draw k1 D1
    have hmo1 := k1 _ _ hmo nmo.2.2
    have kk1 : K3T a e D H H1 := K3T.kd k1
    obtain ⟨j, ej, hj⟩ : ∃ j : Nat, v1 % 120 = (j : Int) ∧ j < 120 := by
      have h1 := mod_b v1 (m := 120) (by decide)
      exact ⟨(v1 % 120).toNat, by omega, by omega⟩
    obtain ⟨g, eg⟩ : ∃ g, ps[j]? = some g := ⟨ps[j]'(by omega), List.getElem?_eq_getElem (by omega)⟩
    have mg1 := List.mem_of_getElem? eg
    have erg := rws_at eg
    have og := hd.ord _ (List.mem_of_getElem? erg)
    refine ⟨h, _, _, _, rfl, rfl, SqL.of W1.rp.1, (show atI _ _ = some (V.ref g.1) from by rw [ej]; exact atI_nat (by rw [List.getElem?_map, eg]; rfl)), ?_⟩
    -- those left
    refine ⟨_, rfl, h, rfl, ⟨_, SqL.of W1.rp.1⟩, fun N nN => ?_⟩
    refine lc_list (K := K) (a := h) (xs := ps.map fun p => V.ref p.1) (fun i H3 => H3 N = some (.lst (((ps.take i).filter fun p => !decide (p.2 = g.2)).map fun p => V.ref p.1)) ∧ Same H1 H3)
      ⟨upd_same, same_new nN⟩ (fun i H3 _ hP => SqL.of (hP.2 _ _ W1.rp.1)) (fun i x H3 hx hP => ?_) (fun H3 hP => ?_)
    · obtain ⟨hN, s3⟩ := hP
      obtain ⟨p, ep, rfl, hp⟩ := (W1.rp.same s3).at hx
      refine ⟨rfl, _, rfl, _, rfl, _, _, dp_list hp, dp_list (s3 _ _ (W1.rp.2 g mg1)), shaped_list _, shaped_list _, _, rfl, ite2 (fun z => ?_) (fun z => ?_)⟩
      · rw [eqv_ints] at z
        refine ⟨_, rfl, _, hN, line_lt ?_, ?_, fun b ob hb => ?_⟩
        · rw [List.length_map]
          have := List.length_filter_le (fun p : Addr × List Int => !decide (p.2 = g.2)) (ps.take i)
          rw [List.length_take] at this
          omega
        · rw [upd_same, filter_p _ ep, if_pos z, List.map_append]
          rfl
        · rw [upd_ne (ne_of_none hb nN)]
          exact s3 _ _ hb
      · rw [eqv_ints] at z
        refine ⟨?_, s3⟩
        rw [filter_p _ ep, if_neg z, List.append_nil]
        exact hN
    obtain ⟨hN, s3⟩ := hP
    rw [List.length_map, List.take_length] at hN
    have W3 := W1.same s3
    refine ⟨N, ps.filter fun p => !decide (p.2 = g.2), rfl, SqL.of hN, fun p hp => dp_list (W3.rp.2 p (List.mem_filter.mp hp).1), fun l nl => ?_⟩
    have s4 := same_new (o := .lst ((rowsR (ps.filter fun p => !decide (p.2 = g.2))).map fun p => V.ref p.1)) nl
    have W4 := W3.same s4
    have nlW := W3.new nl
    have hl4 : RP (upd H3 l (.lst ((rowsR (ps.filter fun p => !decide (p.2 = g.2))).map fun p => V.ref p.1))) l (rowsR (ps.filter fun p => !decide (p.2 = g.2))) := ⟨upd_same, fun p hp => W4.rp.2 p (List.mem_filter.mp ((rowsR_perm _).mem_iff.mp hp)).1⟩
    have hmo4 := s4 _ _ (s3 _ _ hmo1)
    have kk4 := kk1.trans (K3T.sm (s3.trans s4))
    generalize upd H3 l (.lst ((rowsR (ps.filter fun p => !decide (p.2 = g.2))).map fun p => V.ref p.1)) = G4 at W4 hl4 hmo4 kk4 ⊢
    clear W3 W1 s3 s4 hN nN nl hmo1 kk1 D1 k1
    have eleft : rws (rowsR (ps.filter fun p => !decide (p.2 = g.2))) = (srt (rws ps)).filter fun r => !decide (r = g.2) := by
      rw [row_srt74, srt_filter]
      congr 1
      show List.map _ (List.filter _ _) = List.filter _ (List.map _ _)
      rw [List.filter_map]
      rfl
    have nlp : ∀ p ∈ rowsR (ps.filter fun p => !decide (p.2 = g.2)), p.1 ≠ a ∧ p.1 ≠ e ∧ p.1 ≠ D := fun p hp => W4.pn p (List.mem_filter.mp ((rowsR_perm _).mem_iff.mp hp)).1
    have LK : ∀ {G G' : Hp}, RP G l (rowsR (ps.filter fun p => !decide (p.2 = g.2))) → K3T a e D G G' → RP G' l (rowsR (ps.filter fun p => !decide (p.2 = g.2))) := fun r k => ⟨k.lst r.1 nlW.1 nlW.2.1 nlW.2.2, fun p hp => k.lst (r.2 p hp) (nlp p hp).1 (nlp p hp).2.1 (nlp p hp).2.2⟩
    -- asked
    refine ⟨fun σ G => ∃ (b : Bool) (y9 y10 : Option V), σ = [some (.ref D), some (.ref a), some (.int n), some (.ref h), some (.ref mo), some (.int ag), some (.ref g.1), some (.ref l), some (.bl b), y9, y10] ∧ (b = true → n = 5) ∧ G = G4, ?_, fun σ G hP => ?_⟩
    · refine ⟨_, rfl, rfl, _, rfl, ite2 (fun z => ⟨_, rfl, rfl, _, _, _, rfl, fun _ => ?_, rfl⟩) (fun z => ⟨_, _, _, rfl, fun h => absurd h (by decide), rfl⟩)⟩
      have := V.int.inj (of_decide_eq_true z)
      omega
    obtain ⟨b, y9, y10, rfl, hb5, rfl⟩ := hP
    have hR5 : b = true → n = 5 ∧ d = 1 := fun z => ⟨hb5 z, hd.five (hb5 z)⟩
    obtain ⟨M0, eM0⟩ : ∃ M0, M[0]? = some M0 := ⟨M[0]'(by have := oM.len; omega), List.getElem?_eq_getElem _⟩
    have hperm := srt_perm (rws ps)
    -- no room
    refine ⟨fun σ G' => ∃ (y9 y10 : Option V), σ = [some (.ref D), some (.ref a), some (.int n), some (.ref h), some (.ref mo), some (.int ag), some (.ref g.1), some (.ref l), some (.bl b), y9, y10] ∧ KeepT G G', ?_, fun σ G' hP => ?_⟩
    · refine ⟨_, rfl, b, rfl, ?_⟩
      cases b with
      | false => exact iteF (iteF ⟨_, _, rfl, KeepT.refl _⟩)
      | true =>
        obtain ⟨rfl, rfl⟩ := hR5 rfl
        refine iteT ⟨_, rfl, mo, _, 0, _, rfl, rfl, SqL.of hmo4, atI_nat (j := 0) (int_at eM0), M0, 2, rfl, rfl, (show (0 : Int) < 2 by decide), rfl, _, rfl, ite2 (fun _ => ?_) (fun _ => iteF ⟨_, _, rfl, KeepT.refl _⟩)⟩
        refine ⟨_, rfl, a, e, [e, D], wy, 5, 1, _, _, .non, rfl, W4.L, by decide, W0.tab kk4 tab, .inl ⟨rfl, free_full hd.ord hd.nd hlR hperm⟩, fun G' k' => ?_⟩
        exact ⟨true, rfl, iteF ⟨_, _, rfl, k'⟩⟩
    obtain ⟨y9', y10', rfl, kT⟩ := hP
    clear y9 y10
    have W5 := W4.kt kT
    have kk5 := kk4.trans (K3T.kt kT)
    have hl5 := LK hl4 (K3T.kt kT)
    have hmo5 := kT.lst hmo4
    clear W4 hl4 hmo4 kk4 kT
    -- dropped
    have hg5 := W5.rp.2 g mg1
    refine ⟨_, rfl, _, rfl, g.1, _, rfl, .inl (SqL.of hg5), fun c1 nc1 => ?_⟩
    have s6 := same_new (o := .lst (g.2.map V.int)) nc1
    have W6 := W5.same s6
    have mgs : g.2 ∈ srt (rws ps) := hperm.symm.subset (List.mem_of_getElem? erg)
    have hsl : (srt (rws ps)).length = 120 := by rw [hperm.length_eq]; exact hlR
    refine ⟨a, e, [e, D], wy, n, d, _, _, "drop", .ref c1, rfl, W6.L, .inr (.inr (.inl ⟨rfl, c1, g.2, rfl, upd_same, mgs, og, by rw [prefs_len]; decide, by omega, fun G7 L7 k7 => ?_⟩))⟩
    have W7 := W6.lst k7 L7 (fun x hx => hx)
    have kk7 := (kk5.trans (K3T.sm s6)).trans (K3T.kl k7)
    have hl7 := LK hl5 ((K3T.sm s6).trans (K3T.kl k7))
    have hmo7 := k7 _ _ (s6 _ _ hmo5) nmo.1 nmo.2.1
    refine ⟨rfl, _, rfl, iteF ?_⟩
    clear W5 W6 s6 kk5 hl5 hmo5 hg5 nc1 L7 k7
    obtain ⟨dx, fl, ha, hno⟩ := W7.ob "orders" (by decide +kernel) (by decide +kernel) (by decide +kernel) (by decide +kernel) (by decide +kernel)
    have hfl : ((srt (rws ps)).filter fun r => !decide (r = g.2)).length < 120 := by
      have := List.length_filter_lt_length_iff_exists (p := fun r => !decide (r = g.2)) (l := srt (rws ps)) |>.mpr ⟨g.2, mgs, by simp⟩
      omega
    refine ⟨_, rfl, a, dx, fl, rfl, ha, hno, a, e, [e, D], wy, n, d, _, _, rfl, W7.L, by omega, fun l8 qs8 G8 er8 nr8 s8 => ?_⟩
    have W8 := W7.same s8
    have kk8 := kk7.trans (K3T.sm s8)
    have hl8 := hl7.same s8
    have hmo8 := s8 _ _ hmo7
    refine ⟨_, rfl, _, _, nr8.1.dp, hl8.dp, shaped_lists _, shaped_lists _, _, rfl, ?_⟩
    rw [er8, eleft, eqv_lists]
    refine iteF ?_
    clear W7 kk7 hl7 hmo7 s8 nr8 er8 ha hno
    -- just that one
    refine ⟨fun σ G' => ∃ (y9 y10 : Option V), σ = [some (.ref D), some (.ref a), some (.int n), some (.ref h), some (.ref mo), some (.int ag), some (.ref g.1), some (.ref l), some (.bl b), y9, y10] ∧ KeepT G8 G', ?_, fun σ G' hP => ?_⟩
    · refine ⟨_, rfl, b, rfl, ?_⟩
      cases b with
      | false => exact iteF (iteF ⟨_, _, rfl, KeepT.refl _⟩)
      | true =>
        obtain ⟨rfl, rfl⟩ := hR5 rfl
        refine iteT ⟨_, rfl, mo, _, 0, _, rfl, rfl, SqL.of hmo8, atI_nat (j := 0) (int_at eM0), M0, 2, rfl, rfl, (show (0 : Int) < 2 by decide), rfl, _, rfl, ite2 (fun _ => ?_) (fun _ => iteF ⟨_, _, rfl, KeepT.refl _⟩)⟩
        refine ⟨_, rfl, _, rfl, a, e, [e, D], wy, 5, 1, _, _, .ref g.1, rfl, W8.L, by decide, W0.tab kk8 tab, .inr ⟨g.1, g.2, rfl, W8.rp.2 g mg1, free_gone hd.wy hd.ord hd.nd hlR hperm (List.mem_of_getElem? erg)⟩, fun G' k' => ?_⟩
        exact ⟨true, rfl, iteF ⟨_, _, rfl, k'⟩⟩
    obtain ⟨y9, y10, rfl, kT⟩ := hP
    have W9 := W8.kt kT
    have kk9 := kk8.trans (K3T.kt kT)
    have hmo9 := kT.lst hmo8
    clear W8 kk8 hl8 hmo8 kT
    -- another one comes
    have hg9 := W9.rp.2 g mg1
    refine ⟨_, rfl, _, rfl, _, rfl, by show 2 ≤ sizeLine; decide, fun t nt => ?_⟩
    have s10 := same_new (o := .lst [V.ref mo, .ref g.1]) nt
    refine ⟨_, rfl, rfl, .inr ⟨_, rfl, ?_⟩⟩
    obtain ⟨ad, xs, ead, had, oxs, nxs⟩ : ∃ (ad : Addr) (xs : List Int), atI [V.ref mo, V.ref g.1] (if decide (V.int (n : Int) = V.int 5) = true then 1 else 0) = some (.ref ad) ∧ (upd G' t (.lst [V.ref mo, .ref g.1])) ad = some (.lst (xs.map V.int)) ∧ IsOrd n xs ∧ nearR wy xs d ((srt (rws ps)).filter fun r => !decide (r = g.2)) = [] := by
      by_cases c : n = 5
      · refine ⟨g.1, g.2, by rw [decide_eq_true (show V.int (n : Int) = V.int 5 by rw [c]; rfl)]; rfl, s10 _ _ hg9, og, ?_⟩
        refine List.filter_eq_nil_iff.mpr fun r hr z => ?_
        obtain ⟨h1, h2⟩ := List.mem_filter.mp hr
        have ne : r ≠ g.2 := fun z => by rw [decide_eq_true z] at h2; cases h2
        obtain ⟨i, hi, ei⟩ := List.getElem_of_mem (hperm.subset h1)
        have e2 : (rws ps)[i]? = some r := by rw [List.getElem?_eq_getElem hi, ei]
        have := hd.far j i g.2 r erg e2 (fun z2 => by rw [z2, e2] at erg; exact ne (Option.some.inj erg))
        have := of_decide_eq_true z
        omega
      · refine ⟨mo, M, by rw [decide_eq_false (show ¬ V.int (n : Int) = V.int 5 from fun z => c (by have := V.int.inj z; omega))]; rfl, s10 _ _ hmo9, oM, ?_⟩
        refine List.filter_eq_nil_iff.mpr fun r hr z => ?_
        have := hM c r (hperm.subset (List.mem_filter.mp hr).1)
        have := of_decide_eq_true z
        omega
    refine ⟨t, _, _, _, rfl, rfl, SqL.of upd_same, ead, ad, _, rfl, .inl (SqL.of had), fun c2 nc2 => ?_⟩
    have s11 := same_new (o := .lst (xs.map V.int)) nc2
    have W11 := W9.same (s10.trans s11)
    have kk11 := kk9.trans (K3T.sm (s10.trans s11))
    refine ⟨a, e, [e, D], wy, n, d, _, _, "come", .ref c2, rfl, W11.L, .inl ⟨rfl, c2, xs, rfl, upd_same, oxs, hfl, by rw [List.length_append, prefs_len]; show 120 + 1 < 1000; decide, fun l9 qs9 rs9 ss9 G12 e9 r1 r2 nr9 L9 k9 => ?_⟩⟩
    rw [nxs] at e9
    have q0 : qs9 = [] := List.eq_nil_of_length_eq_zero (by have := congrArg List.length e9; rw [List.length_map] at this; exact this)
    subst q0
    obtain ⟨x1, x2, rfl⟩ := r1 rfl
    have W12 := W11.lst k9 L9 (fun x hx => List.mem_cons_of_mem _ (List.mem_append_right _ hx))
    have kk12 := kk11.trans (K3T.kl k9)
    refine ⟨by decide, fun u nu => ?_⟩
    have s13 := same_new (o := .lst []) nu
    have W13 := W12.same s13
    have kk13 := kk12.trans (K3T.sm s13)
    refine ⟨l9, u, _, rfl, rfl, SqL.of (s13 _ _ nr9.1.1), SqL.of upd_same, _, rfl, iteF ?_⟩
    generalize upd G12 u (.lst []) = G13 at W13 kk13 ⊢
    clear W9 W11 W12 kk9 kk11 kk12 s10 s11 s13 nu nt nc2 nr9 L9 k9 hmo9 r1 r2 had ead hg9 e9
    -- full again
    have hg13 := W13.rp.2 g mg1
    refine ⟨_, rfl, _, rfl, g.1, _, rfl, .inl (SqL.of hg13), fun c3 nc3 => ?_⟩
    have s14 := same_new (o := .lst (g.2.map V.int)) nc3
    have W14 := W13.same s14
    have kk14 := kk13.trans (K3T.sm s14)
    have hl9 : 120 ≤ rs9.length := by
      have h1 := x1.length_eq
      rw [List.length_append] at h1
      have h2 : ((srt (rws ps)).filter fun r => !decide (r = g.2)).length = 119 := by
        have hjs : ∃ j' : Nat, (srt (rws ps))[j']? = some g.2 := by
          obtain ⟨i, hi, ei⟩ := List.getElem_of_mem mgs
          exact ⟨i, by rw [List.getElem?_eq_getElem hi, ei]⟩
        obtain ⟨j', ej'⟩ := hjs
        rw [← erase_filter (hperm.symm.nodup_iff.mp hd.nd) ej', List.length_eraseIdx_of_lt (List.getElem?_eq_some_iff.mp ej').1, hsl]
      rw [h2] at h1
      have : [xs].length = 1 := rfl
      omega
    have gog : GoodD (dL g.2) := ⟨g.2, rfl, by rw [og.len]; exact og, by rw [og.len]; omega, by rw [og.len]; omega⟩
    refine ⟨a, e, [e, D], wy, n, d, _, _, "come", .ref c3, rfl, W14.L, .inr (.inl ⟨rfl, dL g.2, 5, .lst upd_same dqAll_intsG, .inr (.inr ⟨gog, by show (g.2.map PyData.int).length = n; rw [List.length_map, og.len], hl9, rfl⟩), fun G15 s15 => ?_⟩)⟩
    have W15 := W14.same s15
    have kk15 := kk14.trans (K3T.sm s15)
    refine ⟨rfl, _, rfl, iteF ?_⟩
    clear W13 W14 kk13 kk14 s14 s15 nc3 hg13
    -- both undone
    refine ⟨2, rfl, by decide, by decide, fun N nN => ?_⟩
    have sN := same_new (o := .lst []) nN
    refine lc_range (lo := 0) (n := 2) (fun i G => G N = some (.lst []) ∧ K3T a e D H G ∧ ((i = 0 ∧ W74 C_Lister G a e D h wy n d rs9 (prefs (rws ps) 120 ++ [srt (rws ps)] ++ [(srt (rws ps)).filter fun r => !decide (r = g.2)]) ps) ∨ (i = 1 ∧ W74 C_Lister G a e D h wy n d ((srt (rws ps)).filter fun r => !decide (r = g.2)) (prefs (rws ps) 120 ++ [srt (rws ps)]) ps) ∨ (i = 2 ∧ W74 C_Lister G a e D h wy n d (srt (rws ps)) (prefs (rws ps) 120) ps)))
      ⟨upd_same, kk15.trans (K3T.sm sN), .inl ⟨rfl, W15.same sN⟩⟩ (fun i G hi hP => ?_) (fun G hP => ?_)
    · obtain ⟨hN, kG, ⟨rfl, W⟩ | ⟨rfl, W⟩ | ⟨rfl, W⟩⟩ := hP
      · have nNW : N ≠ a ∧ N ≠ e := ⟨(W15.new nN).1, (W15.new nN).2.1⟩
        refine ⟨rfl, _, rfl, a, e, [e, D], wy, n, d, _, _, "undo", .non, rfl, W.L, .inr (.inr (.inr (.inr ⟨rfl, fun r0 ss0 e0 G1 L1 k1 => ⟨rfl, _, rfl, iteF ?_⟩, fun e0 => absurd e0 (by simp)⟩)))⟩
        obtain ⟨rfl, e1⟩ := List.append_inj' e0 rfl
        obtain rfl := (List.cons.inj e1).1
        exact ⟨k1 _ _ hN nNW.1 nNW.2, kG.trans (K3T.kl k1), .inr (.inl ⟨rfl, W.lst k1 L1 (fun x hx => hx)⟩)⟩
      · have nNW : N ≠ a ∧ N ≠ e := ⟨(W15.new nN).1, (W15.new nN).2.1⟩
        refine ⟨rfl, _, rfl, a, e, [e, D], wy, n, d, _, _, "undo", .non, rfl, W.L, .inr (.inr (.inr (.inr ⟨rfl, fun r0 ss0 e0 G1 L1 k1 => ⟨rfl, _, rfl, iteF ?_⟩, fun e0 => absurd e0 (by simp)⟩)))⟩
        obtain ⟨rfl, e1⟩ := List.append_inj' e0 rfl
        obtain rfl := (List.cons.inj e1).1
        exact ⟨k1 _ _ hN nNW.1 nNW.2, kG.trans (K3T.kl k1), .inr (.inr ⟨rfl, W.lst k1 L1 (fun x hx => hx)⟩)⟩
      · omega
    · obtain ⟨hN, kG, ⟨z, _⟩ | ⟨z, _⟩ | ⟨_, W⟩⟩ := hP
      · omega
      · omega
      refine ⟨by decide, fun u nu => ?_⟩
      have s16 := same_new (o := .lst []) nu
      exact ⟨N, u, _, rfl, rfl, SqL.of (s16 _ _ hN), SqL.of upd_same, q _ (W.same s16) (kG.trans (K3T.sm s16))⟩
end
end Fo
namespace Fo
open PySem PySem.Spec PyProof.Rows L2
def hR (n : Nat) (d st sp k : Int) : List Int := evenF n d (numF n (st + sp * k))
structure Cf74 (w : Str) (n : Nat) (d sp : Int) : Prop where
  wy : IsWay w
  n5 : n = 5 ∨ n = 6 ∨ n = 7 ∨ n = 8
  sp4 : sp = 1 ∨ sp = 7 ∨ sp = 11 ∨ sp = 13
  dk : d = 1 ∨ (d = 2 ∧ w = "swap") ∨ (d = 3 ∧ w = "spot")
  five : n = 5 → d = 1
theorem hR_ord {w : Str} {n : Nat} {d sp : Int} (c : Cf74 w n d sp) (st k : Int) : IsOrd n (hR n d st sp k) := evenF_ord (numF_ord _ _) (by rcases c.n5 with h | h | h | h <;> omega)
theorem q50 : QQ 5 0 = 120 := rfl
theorem q60 : QQ 6 0 = 720 := rfl
theorem q70 : QQ 7 0 = 5040 := rfl
theorem q80 : QQ 8 0 = 40320 := rfl
theorem q42 : QQ 4 2 = 360 := rfl
theorem q52 : QQ 5 2 = 2520 := rfl
theorem q62 : QQ 6 2 = 20160 := rfl
theorem numF_inj (t c n : Nat) (z z' : Int) (hn : n = t + c) (e : (numF n z).take t = (numF n z').take t) : z % ((QQ t c : Nat) : Int) = z' % ((QQ t c : Nat) : Int) := by
  subst hn
  exact numG_inj t c (rg (t + c)) z z' (rg_len _) (rg_nodup _) e
theorem step_k {M sp st i j : Int} (h : (st + sp * i) % M = (st + sp * j) % M) : ∃ k, sp * (i - j) = M * k := by
  obtain ⟨k, hk⟩ := Int.dvd_of_emod_eq_zero (Int.emod_eq_emod_iff_emod_sub_eq_zero.mp h)
  exact ⟨k, by rw [Int.mul_sub]; omega⟩
theorem hR_ne {w : Str} {n : Nat} {d sp : Int} (c : Cf74 w n d sp) {st i j : Int} (hi : 0 ≤ i ∧ i ≤ 120) (hj : 0 ≤ j ∧ j ≤ 120) (h5 : n = 5 → i < 120 ∧ j < 120) (hij : i ≠ j) : hR n d st sp i ≠ hR n d st sp j := fun e => by
  unfold hR at e
  have hsp := c.sp4
  by_cases hd : d = 1
  · subst hd
    rw [evenF_one, evenF_one] at e
    rcases c.n5 with rfl | rfl | rfl | rfl
    · have h := numF_inj 5 0 5 (st + sp * i) (st + sp * j) rfl (by rw [e])
      rw [q50] at h
      obtain ⟨k, hk⟩ := step_k h
      clear h e
      have := h5 rfl
      rcases hsp with rfl | rfl | rfl | rfl <;> omega
    · have h := numF_inj 6 0 6 (st + sp * i) (st + sp * j) rfl (by rw [e])
      rw [q60] at h
      obtain ⟨k, hk⟩ := step_k h
      clear h e
      rcases hsp with rfl | rfl | rfl | rfl <;> omega
    · have h := numF_inj 7 0 7 (st + sp * i) (st + sp * j) rfl (by rw [e])
      rw [q70] at h
      obtain ⟨k, hk⟩ := step_k h
      clear h e
      rcases hsp with rfl | rfl | rfl | rfl <;> omega
    · have h := numF_inj 8 0 8 (st + sp * i) (st + sp * j) rfl (by rw [e])
      rw [q80] at h
      obtain ⟨k, hk⟩ := step_k h
      clear h e
      rcases hsp with rfl | rfl | rfl | rfl <;> omega
  · have e2 := congrArg (List.take (n - 2)) e
    rw [evenF_take, evenF_take] at e2
    rcases c.n5 with rfl | rfl | rfl | rfl
    · exact hd (c.five rfl)
    · have h := numF_inj 4 2 6 (st + sp * i) (st + sp * j) rfl e2
      rw [q42] at h
      obtain ⟨k, hk⟩ := step_k h
      clear h e
      rcases hsp with rfl | rfl | rfl | rfl <;> omega
    · have h := numF_inj 5 2 7 (st + sp * i) (st + sp * j) rfl e2
      rw [q52] at h
      obtain ⟨k, hk⟩ := step_k h
      clear h e
      rcases hsp with rfl | rfl | rfl | rfl <;> omega
    · have h := numF_inj 6 2 8 (st + sp * i) (st + sp * j) rfl e2
      rw [q62] at h
      obtain ⟨k, hk⟩ := step_k h
      clear h e
      rcases hsp with rfl | rfl | rfl | rfl <;> omega
theorem hR_far {w : Str} {n : Nat} {d sp : Int} (c : Cf74 w n d sp) {st i j : Int} (hi : 0 ≤ i ∧ i ≤ 120) (hj : 0 ≤ j ∧ j ≤ 120) (h5 : n = 5 → i < 120 ∧ j < 120) (hij : i ≠ j) : d ≤ farW w (hR n d st sp i) (hR n d st sp j) := by
  have ne := hR_ne c (st := st) hi hj h5 hij
  have ox := hR_ord c st i
  have oy := hR_ord c st j
  have hn : 1 ≤ n ∧ 2 ≤ n ∧ n ≤ 8 := by rcases c.n5 with h | h | h | h <;> omega
  have par : d ≠ 1 → farSwap (hR n d st sp i) (hR n d st sp j) % 2 = 0 := fun hd => by
    have h1 := swap_par ox oy (List.Perm.refl (rg n))
    have h2 : farSwap (hR n d st sp i) (rg n) % 2 = 0 := evenF_even (numF_ord _ _) hn.2.1 hd
    have h3 : farSwap (hR n d st sp j) (rg n) % 2 = 0 := evenF_even (numF_ord _ _) hn.2.1 hd
    rw [farSwap_turn (xs := hR n d st sp j) (ys := rg n) oy (List.Perm.refl (rg n))] at h1
    omega
  rcases c.dk with rfl | ⟨rfl, rfl⟩ | ⟨rfl, rfl⟩
  · have h1 : farW w (hR n 1 st sp i) (hR n 1 st sp j) ≠ 0 := fun z => ne (farW_zero c.wy ox oy hn.1 z)
    have := farW_nonneg w (hR n 1 st sp i) (hR n 1 st sp j)
    omega
  · rw [farW_swap]
    exact even_swap ox oy hn.1 (par (by decide)) ne
  · rw [farW_spot]
    exact even_spot ox oy hn.1 hn.2.2 (par (by decide)) ne
def hRs (n : Nat) (d st sp : Int) (m : Nat) : List (List Int) := (List.range m).map fun k : Nat => hR n d st sp (k : Int)
theorem hRs_at {n : Nat} {d st sp : Int} {m i : Nat} {x : List Int} (h : (hRs n d st sp m)[i]? = some x) : i < m ∧ x = hR n d st sp (i : Int) := by
  unfold hRs at h
  obtain ⟨hi, e⟩ := List.getElem?_eq_some_iff.mp h
  rw [List.length_map, List.length_range] at hi
  refine ⟨hi, ?_⟩
  rw [List.getElem_map, List.getElem_range] at e
  exact e.symm
theorem hRs_hd {w : Str} {n : Nat} {d sp : Int} (c : Cf74 w n d sp) (st : Int) : Hd74 w n d (hRs n d st sp 120) where
  wy := c.wy
  n5 := by rcases c.n5 with h | h | h | h <;> omega
  n8 := by rcases c.n5 with h | h | h | h <;> omega
  len := by unfold hRs; rw [List.length_map, List.length_range]
  ord := fun r hr => by
    obtain ⟨k, _, rfl⟩ := List.mem_map.mp hr
    exact hR_ord c st _
  far := fun i j x y hx hy hij => by
    obtain ⟨hi, rfl⟩ := hRs_at hx
    obtain ⟨hj, rfl⟩ := hRs_at hy
    exact hR_far c ⟨by omega, by omega⟩ ⟨by omega, by omega⟩ (fun _ => ⟨by omega, by omega⟩) (by omega)
  dk := c.dk
  five := c.five
theorem hRs_more {w : Str} {n : Nat} {d sp : Int} (c : Cf74 w n d sp) (st : Int) (h5 : n ≠ 5) : ∀ r ∈ hRs n d st sp 120, d ≤ farW w (hR n d st sp 120) r := fun r hr => by
  obtain ⟨k, hk, rfl⟩ := List.mem_map.mp hr
  have := List.mem_range.mp hk
  exact hR_far c ⟨by omega, by omega⟩ ⟨by omega, by omega⟩ (fun z => absurd z h5) (by omega)
end Fo
namespace Fo
open PySem PySem.Spec PyProof.Rows L2
theorem Kvs.uniq : ∀ {kvs : List (Key × V)} {ks js : List (PyData × PyData)}, Kvs kvs ks → Kvs kvs js → ks = js
  | [], _, _, h, g => by cases h; cases g; rfl
  | _ :: _, _, _, h, g => by
    cases h with
    | cons h =>
      cases g with
      | cons g => rw [Kvs.uniq h g]
mutual
theorem Dq.uniq {H : Hp} : ∀ (d e : PyData) (v : V), Dq H v d → Dq H v e → d = e
  | .none, e, _, h, g => by cases h; cases g; rfl
  | .bool b, e, _, h, g => by cases h; cases g; rfl
  | .int i, e, _, h, g => by cases h; cases g; rfl
  | .str x, e, _, h, g => by cases h; cases g; rfl
  | .list ds, e, _, h, g => by
    cases h with
    | lst h1 h2 =>
      cases g with
      | lst g1 g2 =>
        rw [h1] at g1
        cases g1
        rw [DqAll.uniq ds _ _ h2 g2]
      | tup g1 g2 => rw [h1] at g1; cases g1
      | dic g1 g2 => rw [h1] at g1; cases g1
  | .tuple ds, e, _, h, g => by
    cases h with
    | tup h1 h2 =>
      cases g with
      | lst g1 g2 => rw [h1] at g1; cases g1
      | tup g1 g2 =>
        rw [h1] at g1
        cases g1
        rw [DqAll.uniq ds _ _ h2 g2]
      | dic g1 g2 => rw [h1] at g1; cases g1
  | .dict ks, e, _, h, g => by
    cases h with
    | dic h1 h2 =>
      cases g with
      | lst g1 g2 => rw [h1] at g1; cases g1
      | tup g1 g2 => rw [h1] at g1; cases g1
      | dic g1 g2 =>
        rw [h1] at g1
        cases g1
        rw [Kvs.uniq h2 g2]
theorem DqAll.uniq {H : Hp} : ∀ (ds es : List PyData) (vs : List V), DqAll H vs ds → DqAll H vs es → ds = es
  | [], _, _, h, g => by cases h; cases g; rfl
  | d :: ds, _, _, h, g => by
    cases h with
    | cons h1 h2 =>
      cases g with
      | cons g1 g2 => rw [Dq.uniq d _ _ h1 g1, DqAll.uniq ds _ _ h2 g2]
end
section
variable {H H' : Hp} {a e D : Addr}
mutual
theorem Dq.move (k : K3T a e D H H') (ha : ∃ C dx fs, H a = some (.ins C dx fs)) (he : ∀ d, Dq (cut1 D H) (.ref e) d → Dq (cut1 D H') (.ref e) d) : ∀ (d : PyData) (v : V), Dq (cut1 D H) v d → Dq (cut1 D H') v d
  | .none, _, h => by cases h; exact .non
  | .bool b, _, h => by cases h; exact .bl b
  | .int i, _, h => by cases h; exact .int i
  | .str x, _, h => by cases h; exact .str x
  | .list ds, _, h => by
    cases h with
    | @lst b _ _ e1 a1 =>
      by_cases c : b = e
      · subst c
        exact he _ (.lst e1 a1)
      · obtain ⟨e2, e3⟩ := cut1_of e1
        have na : b ≠ a := fun z => by
          obtain ⟨C, dx, fs, h1⟩ := ha
          rw [z, h1] at e2
          cases e2
        exact .lst (by rw [cut1_ne e3]; exact k.1 b _ e2 na c e3 (fun q z => by cases z)) (DqAll.move k ha he ds _ a1)
  | .tuple ds, _, h => by
    cases h with
    | @tup b _ _ e1 a1 =>
      by_cases c : b = e
      · subst c
        exact he _ (.tup e1 a1)
      · obtain ⟨e2, e3⟩ := cut1_of e1
        have na : b ≠ a := fun z => by
          obtain ⟨C, dx, fs, h1⟩ := ha
          rw [z, h1] at e2
          cases e2
        exact .tup (by rw [cut1_ne e3]; exact k.1 b _ e2 na c e3 (fun q z => by cases z)) (DqAll.move k ha he ds _ a1)
  | .dict ks, _, h => by
    cases h with
    | @dic b _ _ e1 a1 =>
      by_cases c : b = e
      · subst c
        exact he _ (.dic e1 a1)
      · obtain ⟨e2, e3⟩ := cut1_of e1
        have na : b ≠ a := fun z => by
          obtain ⟨C, dx, fs, h1⟩ := ha
          rw [z, h1] at e2
          cases e2
        exact .dic (by rw [cut1_ne e3]; exact k.1 b _ e2 na c e3 (fun q z => by cases z)) a1
theorem DqAll.move (k : K3T a e D H H') (ha : ∃ C dx fs, H a = some (.ins C dx fs)) (he : ∀ d, Dq (cut1 D H) (.ref e) d → Dq (cut1 D H') (.ref e) d) : ∀ (ds : List PyData) (vs : List V), DqAll (cut1 D H) vs ds → DqAll (cut1 D H') vs ds
  | [], _, h => by cases h; exact .nil
  | d :: ds, _, h => by
    cases h with
    | cons h1 h2 => exact .cons (Dq.move k ha he d _ h1) (DqAll.move k ha he ds _ h2)
end
end
theorem rows_dq {H : Hp} : ∀ {ps : List (Addr × List Int)}, (∀ p ∈ ps, H p.1 = some (.lst (p.2.map V.int))) → DqAll H (ps.map fun p => V.ref p.1) ((rws ps).map dL)
  | [], _ => .nil
  | p :: ps, h => .cons (.lst (h p List.mem_cons_self) dqAll_intsG) (rows_dq fun q m => h q (List.mem_cons_of_mem _ m))
theorem stack_dq {H : Hp} : ∀ {st : List (Addr × List (Addr × List Int))}, (∀ q ∈ st, RP H q.1 q.2) → DqAll H (st.map fun q => V.ref q.1) ((st.map fun q => rws q.2).map dLL)
  | [], _ => .nil
  | q :: st, h => .cons (.lst (h q List.mem_cons_self).1 (rows_dq (h q List.mem_cons_self).2)) (stack_dq fun r m => h r (List.mem_cons_of_mem _ m))
theorem LsAt.e_dq {C : Addr} {H : Hp} {a e D : Addr} {X : List Addr} {w : Str} {n : Nat} {d : Int} {rs : List (List Int)} {ss : List (List (List Int))} (L : LsAt C H a e X w n d rs ss) (hD : D ∈ X) (ne : e ≠ D) : Dq (cut1 D H) (.ref e) (.list (ss.map dLL)) := by
  obtain ⟨dx, t, ps, st, e1, e2, e3, e4, e5, e6, eX, tX, pX, sX⟩ := L.ex
  rw [← e6]
  refine .lst (by rw [cut1_ne ne]; exact e2) (stack_dq fun q hq => ⟨?_, fun p hp => ?_⟩)
  · rw [cut1_ne (show q.1 ≠ D from fun z => (sX q hq).1 (by rw [z]; exact hD))]
    exact (e5 q hq).1
  · rw [cut1_ne (show p.1 ≠ D from fun z => (sX q hq).2 p hp (by rw [z]; exact hD))]
    exact (e5 q hq).2 p hp
theorem W74.move {C a e D h : Addr} {G G' : Hp} {w : Str} {n : Nat} {d : Int} {rs rs' : List (List Int)} {ss : List (List (List Int))} {ps ps' : List (Addr × List Int)} (W : W74 C G a e D h w n d rs ss ps) (W' : W74 C G' a e D h w n d rs' ss ps') (k : K3T a e D G G') {x : PyData} {v : V} (hx : Dq (cut1 D G) v x) : Dq (cut1 D G') v x := by
  obtain ⟨dx, t, p0, st, ha, _⟩ := W.L.ex
  refine Dq.move k ⟨_, _, _, ha⟩ (fun y hy => ?_) x v hx
  rw [Dq.uniq _ _ _ hy (W.L.e_dq (by simp) W.ne.2)]
  exact W'.L.e_dq (by simp) W'.ne.2
end Fo
namespace Fo
open PySem PySem.Spec PyProof.Rows L2
def spLaw (K : PySem.W.Frag) (Pt : Addr) : Sp := fun vs H Q _ => ∃ (a : Addr) (ns : List Int), vs = [.ref a] ∧ SqL K H a (ns.map V.int) ∧ ns.length ≤ 63 ∧ GxR.TabG H Pt ∧ ∀ H', Q (.bl true) H'
theorem hRs_succ (n : Nat) (d st sp : Int) (m : Nat) : hRs n d st sp (m + 1) = hRs n d st sp m ++ [hR n d st sp (m : Int)] := by
  unfold hRs
  rw [List.range_succ, List.map_append]
  rfl
section
variable {P : Program} {w : World} {K : PySem.W.Frag} {mg : Str → Option Value} {base : Heap}
theorem scLaw74 : FnScope ["script", "deck", "way", "n", "d", "start", "step", "lister", "held", "more", "bad", "asked", "dues", "again", "k", "order"] ["script"] (defScope s_law) := ⟨rfl, rfl, rfl, by decide +kernel, rfl, by decide +kernel, by decide +kernel⟩
set_option maxHeartbeats 16000000 in
theorem ok_law {C_Lister f f1 f2 f3 f4 f5 f6 f7 f8 f9 f10 f11 f12 fI g1 Pt : Addr} {c : Nat → Addr} {fd d1 d2 d3 d4 d5 d6 d7 d8 d9 d10 d11 d12 dI b1 : FuncData} (T : Fun K "law" "law" s_law f fd) (T_Lister : TxL K mg C_Lister fI) (T_Lister_init : Dm K C_Lister "__init__" "Lister.__init__" s_Lister___init__ ["self", "way", "n", "d"] fI dI) (T_Lister_orders : Dm K C_Lister "orders" "Lister.orders" s_Lister_orders ["self"] g1 b1) (T__law_deck : Df K mg "_law_deck" s_law_deck ["cell", "many"] f1 d1) (T__law_cell_at : Df K mg "_law_cell_at" s_law_cell_at ["script", "k"] f2 d2) (T__law_next : Df K mg "_law_next" s_law_next ["deck"] f3 d3) (T__law_order : Df K mg "_law_order" s_law_order ["deck", "n"] f4 d4) (T__law_numbered : Df K mg "_law_numbered" s_law_numbered ["n", "number"] f5 d5) (T__law_even : Df K mg "_law_even" s_law_even ["order", "d"] f6 d6) (T__law_filled_right : Df K mg "_law_filled_right" s_law_filled_right ["deck", "lister", "way", "d", "held"] f7 d7) (T__law_no_order : Df K mg "_law_no_order" s_law_no_order ["deck", "n"] f8 d8) (T__law_said : Df K mg "_law_said" s_law_said ["lister", "word", "order"] f9 d9) (T__law_gone_right : Df K mg "_law_gone_right" s_law_gone_right ["deck", "lister", "n", "held", "more", "again"] f10 d10) (T__law_least_right : Df K mg "_law_least_right" s_law_least_right ["lister", "way", "held"] f11 d11) (T__law_undone_right : Df K mg "_law_undone_right" s_law_undone_right ["deck", "lister", "held"] f12 d12)
    (G_Lister_init : FnOk P w K mg base CX0 38 fI dI ["self", "way", "n", "d"] (spInitL C_Lister)) (G_Lister_orders : FnOk P w K mg base CX0 39 g1 b1 ["self"] (spOrdersL C_Lister)) (G__law_deck : FnOk P w K mg base CX0 39 f1 d1 ["cell", "many"] spDeckN) (G__law_cell_at : FnOk P w K mg base CX0 39 f2 d2 ["script", "k"] (spCell K)) (G__law_next : FnOk P w K mg base CX0 39 f3 d3 ["deck"] spNext) (G__law_order : FnOk P w K mg base CX0 39 f4 d4 ["deck", "n"] spOrderN) (G__law_numbered : FnOk P w K mg base CX0 39 f5 d5 ["n", "number"] spNumF) (G__law_even : FnOk P w K mg base CX0 39 f6 d6 ["order", "d"] spEven74) (G__law_filled_right : FnOk P w K mg base CX0 39 f7 d7 ["deck", "lister", "way", "d", "held"] (spFill74 C_Lister)) (G__law_no_order : FnOk P w K mg base CX0 39 f8 d8 ["deck", "n"] spNoOrd72) (G__law_said : FnOk P w K mg base CX0 39 f9 d9 ["lister", "word", "order"] (spSaidL K C_Lister c)) (G__law_gone_right : FnOk P w K mg base CX0 39 f10 d10 ["deck", "lister", "n", "held", "more", "again"] (spGone74 C_Lister Pt)) (G__law_least_right : FnOk P w K mg base CX0 39 f11 d11 ["lister", "way", "held"] (spLeast74 C_Lister)) (G__law_undone_right : FnOk P w K mg base CX0 39 f12 d12 ["deck", "lister", "held"] (spUnd74 C_Lister)) (B : Bi mg) :
    FnOk P w K mg base CX0 40 f fd ["script"] (spLaw K Pt) := by
  refine T.ok scLaw74 (fun vs H Q E h => ?_) (fun cdv A outer s H vs Q E hr h => ?_)
  · obtain ⟨a, ns, rfl, _⟩ := h
    rfl
  · obtain ⟨b0, ns, rfl, hS, hlen, htab, q⟩ := h
    refine ⟨_, 
      (pss_cons (ps_set (i := 1) scLaw74.nd rfl (.inl rfl) (pe_call G__law_deck hr (by rfl) T__law_deck.g T__law_deck.F.kp T__law_deck.b .nil pass0 (pa_cons (pe_call G__law_cell_at hr (by rfl) T__law_cell_at.g T__law_cell_at.F.kp T__law_cell_at.b .nil pass0 (pa_cons (pv 0) (pa_cons pe_int pa_nil))) (pa_cons pe_int pa_nil))))
      (pss_cons (ps_set (i := 2) scLaw74.nd rfl (.inl rfl) (pe_ix ix_list (pe_lst (pa_cons pe_str (pa_cons pe_str (pa_cons pe_str pa_nil)))) (pe_op op_mod (pe_call G__law_next hr (by rfl) T__law_next.g T__law_next.F.kp T__law_next.b .nil pass0 (pa_cons (pv 1) pa_nil)) pe_int) (fun _ _ => rfl)))
      (pss_cons (ps_set (i := 3) scLaw74.nd rfl (.inr rfl) (pe_ix ix_list (pe_lst (pa_cons pe_int (pa_cons pe_int (pa_cons pe_int (pa_cons pe_int (pa_cons pe_int pa_nil)))))) (pe_op op_mod (pe_call G__law_next hr (by rfl) T__law_next.g T__law_next.F.kp T__law_next.b .nil pass0 (pa_cons (pv 1) pa_nil)) pe_int) (fun _ _ => rfl)))
      (pss_cons (ps_set (i := 4) scLaw74.nd rfl (.inr rfl) pe_int)
      (Evl.pss_cut (ps_if (PW.pt (pw_and (pt_cmpR op_gt (pv 3) pe_int (nomark _)) (pw_and1 (pt_cmpR op_ne (pv 2) pe_str (nomark _)))))
        (pss_one (ps_set (i := 4) scLaw74.nd rfl (.inr rfl) (pe_ix ix_list (pe_lst (pa_cons pe_int (pa_cons pe_int pa_nil))) (pe_callTy call_int1 (by rfl) B.int (by decide +kernel) (pa_cons (pe_cmpR op_eq (pv 2) pe_str (nomark _)) pa_nil)) (fun _ _ => rfl))))
        pss_nil)
      (pss_cons (ps_set (i := 5) scLaw74.nd rfl (.inr rfl) (pe_call G__law_next hr (by rfl) T__law_next.g T__law_next.F.kp T__law_next.b .nil pass0 (pa_cons (pv 1) pa_nil)))
      (pss_cons (ps_set (i := 6) scLaw74.nd rfl (.inr rfl) (pe_ix ix_list (pe_lst (pa_cons pe_int (pa_cons pe_int (pa_cons pe_int (pa_cons pe_int pa_nil))))) (pe_op op_mod (pe_call G__law_next hr (by rfl) T__law_next.g T__law_next.F.kp T__law_next.b .nil pass0 (pa_cons (pv 1) pa_nil)) pe_int) (fun _ _ => rfl)))
      (pss_cons (ps_set (i := 7) scLaw74.nd rfl (.inr rfl) (pe_make T_Lister.mkx G_Lister_init hr (by rfl) T_Lister.g T_Lister_init.b .nil pass0 (pa_cons (pv 2) (pa_cons (pv 3) (pa_cons (pv 4) pa_nil)))))
      (pss_cons (ps_setLc (i := 8) (own := [("k", 14)]) (g := (gName 14)) (tt := tYes) (te := (tCall spEven74 [] E0 (tCons (tCall spNumF [] E0 (tCons (tVar 3) (tCons (tOp (rI0 fun i j => .int (i + j)) (tVar 5) (tOp (rI CMul fun i j => .int (i * j)) (tVar 6) (tVar 14))) tNil))) (tCons (tVar 4) tNil)))) (by rfl) scLaw74.nd rfl rfl (sw_true rfl rfl rfl (by decide +kernel)) (pi_range1 (by rfl) B.range (pa_cons pe_int pa_nil)) (blkOk_by (N := ["script", "deck", "way", "n", "d", "start", "step", "lister", "held", "more", "bad", "asked", "dues", "again", "k", "order"]) (sc := defScope s_law) (by decide +kernel)) (fun _ _ _ _ _ => (pg_name (i := 14) scLaw74.nd rfl (.inl rfl))) (fun _ _ _ _ _ => pts_nil) (fun _ _ _ _ _ => (pe_call G__law_even hr (by rfl) T__law_even.g T__law_even.F.kp T__law_even.b .nil pass0 (pa_cons (pe_call G__law_numbered hr (by rfl) T__law_numbered.g T__law_numbered.F.kp T__law_numbered.b .nil pass0 (pa_cons (pv 3) (pa_cons (pe_op op_add (pv 5) (pe_op op_mul (pv 6) (pv 14))) pa_nil))) (pa_cons (pv 4) pa_nil)))))
      (pss_cons (ps_if (pt_not (pt_val (pe_call G__law_filled_right hr (by rfl) T__law_filled_right.g T__law_filled_right.F.kp T__law_filled_right.b .nil pass0 (pa_cons (pv 1) (pa_cons (pv 7) (pa_cons (pv 2) (pa_cons (pv 4) (pa_cons (pv 8) pa_nil))))))))
        (pss_one (ps_ret pe_bl))
        pss_nil)
      (pss_cons (ps_set (i := 9) scLaw74.nd rfl (.inl rfl) (pe_call G__law_even hr (by rfl) T__law_even.g T__law_even.F.kp T__law_even.b .nil pass0 (pa_cons (pe_call G__law_numbered hr (by rfl) T__law_numbered.g T__law_numbered.F.kp T__law_numbered.b .nil pass0 (pa_cons (pv 3) (pa_cons (pe_op op_add (pv 5) (pe_op op_mul (pv 6) pe_int)) pa_nil))) (pa_cons (pv 4) pa_nil))))
      (pss_cons (ps_set (i := 10) scLaw74.nd rfl (.inl rfl) (pe_call G__law_no_order hr (by rfl) T__law_no_order.g T__law_no_order.F.kp T__law_no_order.b .nil pass0 (pa_cons (pv 1) (pa_cons (pv 3) pa_nil))))
      (pss_cons (ps_set (i := 11) scLaw74.nd rfl (.inl rfl) (pe_lst (pa_cons (pv 9) (pa_cons (pe_ix ix_list (pv 8) (pe_op op_mod (pe_call G__law_next hr (by rfl) T__law_next.g T__law_next.F.kp T__law_next.b .nil pass0 (pa_cons (pv 1) pa_nil)) pe_int) (fun _ _ => rfl)) (pa_cons (pe_ix ix_list (pv 8) (pe_un un_neg pe_int) (fun _ _ => rfl)) (pa_cons (pv 10) (pa_cons (pe_call G__law_order hr (by rfl) T__law_order.g T__law_order.F.kp T__law_order.b .nil pass0 (pa_cons (pv 1) (pa_cons (pe_op op_add (pv 3) pe_int) pa_nil))) (pa_cons (pe_call G__law_order hr (by rfl) T__law_order.g T__law_order.F.kp T__law_order.b .nil pass0 (pa_cons (pv 1) (pa_cons (pe_op op_sub (pv 3) pe_int) pa_nil))) pa_nil))))))))
      (pss_cons (ps_set (i := 12) scLaw74.nd rfl (.inl rfl) (pe_lst (pa_cons pe_str (pa_cons pe_str (pa_cons pe_str (pa_cons pe_str (pa_cons pe_str (pa_cons pe_str pa_nil))))))))
      (pss_cons (ps_for PassesOwn.never rfl (pi_range1 (by rfl) B.range (pa_cons pe_int pa_nil)) (pg_name (i := 13) scLaw74.nd rfl (.inl rfl))
        (pss_cons (ps_if (PW.pt (pw_or (pt_cmpR (op_neD hr.units) (pe_lc (own := [("order", 15)]) (g := (gName 15)) (tt := tYes) (te := (tCall (spSaidL K C_Lister c) [] E0 (tCons (tVar 7) (tCons (tC (.str "come")) (tCons (tVar 15) tNil))))) rfl scLaw74.nd (pi_list (pv 11)) (blkOk_by (N := ["script", "deck", "way", "n", "d", "start", "step", "lister", "held", "more", "bad", "asked", "dues", "again", "k", "order"]) (sc := defScope s_law) (by decide +kernel)) (fun _ _ _ _ _ => (pg_name (i := 15) scLaw74.nd rfl (.inl rfl))) (fun _ _ _ _ _ => pts_nil) (fun _ _ _ _ _ => (pe_call G__law_said hr (by rfl) T__law_said.g T__law_said.F.kp T__law_said.b .nil pass0 (pa_cons (pv 7) (pa_cons pe_str (pa_cons (pv 15) pa_nil)))))) (pv 12) (nomark _)) (pw_or1 (pt_cmpR (op_neD hr.units) (pe_meth0 (pv 7) T_Lister.cl T_Lister_orders.me G_Lister_orders hr T_Lister_orders.b .nil pass0) (pe_callB (cr_sortedR hr.units) (by rfl) B.sorted (by decide +kernel) (pa_cons (pv 8) pa_nil)) (nomark _)))))
          (pss_one (ps_ret pe_bl))
          pss_nil)
        (pss_one (ps_if (pt_not (pt_val (pe_call G__law_gone_right hr (by rfl) T__law_gone_right.g T__law_gone_right.F.kp T__law_gone_right.b .nil pass0 (pa_cons (pv 1) (pa_cons (pv 7) (pa_cons (pv 3) (pa_cons (pv 8) (pa_cons (pv 9) (pa_cons (pv 13) pa_nil)))))))))
          (pss_one (ps_ret pe_bl))
          pss_nil))))
      (pss_one (ps_ret (pe_and (pe_call G__law_least_right hr (by rfl) T__law_least_right.g T__law_least_right.F.kp T__law_least_right.b .nil pass0 (pa_cons (pv 7) (pa_cons (pv 2) (pa_cons (pv 8) pa_nil)))) (pe_one (pe_call G__law_undone_right hr (by rfl) T__law_undone_right.g T__law_undone_right.F.kp T__law_undone_right.b .nil pass0 (pa_cons (pv 1) (pa_cons (pv 7) (pa_cons (pv 8) pa_nil))))))))))))))))))))))), ?_⟩
    refine ⟨_, rfl, b0, ns, 0, rfl, hS, fun cc => ⟨cc, 140, rfl, by decide, by decide, fun D H4 nD D4 s4 => ?_⟩⟩
    -- way
    refine ⟨line_small (by show 3 ≤ 16777216; decide), fun t1 nt1 => ?_⟩
    have D5 := D4.new (o := .lst [.str "swap", .str "spot", .str "shift"]) nt1
    have nt1D := D4.ne nt1
    refine ⟨_, rfl, D, rfl, D5, fun v1 H6 _ _ D6 k6 => ⟨v1, 3, rfl, rfl, (show (0 : Int) < 3 by decide), ?_⟩⟩
    have m1 := mod_b v1 (m := 3) (by decide)
    obtain ⟨wy, ew, hw⟩ : ∃ wy : Str, atI [V.str "swap", V.str "spot", V.str "shift"] (v1 % 3) = some (.str wy) ∧ IsWay wy := by
      have : v1 % 3 = 0 ∨ v1 % 3 = 1 ∨ v1 % 3 = 2 := by omega
      rcases this with h | h | h <;> rw [h]
      · exact ⟨_, rfl, .inl rfl⟩
      · exact ⟨_, rfl, .inr (.inl rfl)⟩
      · exact ⟨_, rfl, .inr (.inr rfl)⟩
    refine ⟨t1, _, _, _, rfl, rfl, SqL.of (k6 t1 _ upd_same nt1D), ew, ?_⟩
    have kk6 : KeepD D H4 H6 := (KeepD.of_same (same_new nt1)).trans k6
    clear k6 D5 nt1
    -- n
    refine ⟨line_small (by show 5 ≤ 16777216; decide), fun t2 nt2 => ?_⟩
    have D7 := D6.new (o := .lst [.int 5, .int 5, .int 6, .int 7, .int 8]) nt2
    have nt2D := D6.ne nt2
    refine ⟨_, rfl, D, rfl, D7, fun v2 H8 _ _ D8 k8 => ⟨v2, 5, rfl, rfl, (show (0 : Int) < 5 by decide), ?_⟩⟩
    have m2 := mod_b v2 (m := 5) (by decide)
    obtain ⟨n, en, hn⟩ : ∃ n : Nat, atI [V.int 5, V.int 5, V.int 6, V.int 7, V.int 8] (v2 % 5) = some (.int (n : Int)) ∧ (n = 5 ∨ n = 6 ∨ n = 7 ∨ n = 8) := by
      have : v2 % 5 = 0 ∨ v2 % 5 = 1 ∨ v2 % 5 = 2 ∨ v2 % 5 = 3 ∨ v2 % 5 = 4 := by omega
      rcases this with h | h | h | h | h <;> rw [h]
      · exact ⟨5, rfl, .inl rfl⟩
      · exact ⟨5, rfl, .inl rfl⟩
      · exact ⟨6, rfl, .inr (.inl rfl)⟩
      · exact ⟨7, rfl, .inr (.inr (.inl rfl))⟩
      · exact ⟨8, rfl, .inr (.inr (.inr rfl))⟩
    refine ⟨t2, _, _, _, rfl, rfl, SqL.of (k8 t2 _ upd_same nt2D), en, ?_⟩
    have kk8 : KeepD D H4 H8 := (kk6.trans (KeepD.of_same (same_new nt2))).trans k8
    clear kk6 k8 D7 nt2 D6
    -- d
    refine ⟨fun σ G => ∃ (d : Int) (y5 y6 y7 y8 y9 y10 y11 y12 y13 y14 y15 : Option V), σ = [some (.ref b0), some (.ref D), some (.str wy), some (.int n), some (.int d), y5, y6, y7, y8, y9, y10, y11, y12, y13, y14, y15] ∧ (d = 1 ∨ (d = 2 ∧ wy = "swap") ∨ (d = 3 ∧ wy = "spot")) ∧ (n = 5 → d = 1) ∧ DqAt G D ∧ KeepD D H4 G, ?_, fun σ G hP => ?_⟩
    · by_cases c5 : n = 5
      · subst c5
        exact ⟨_, rfl, _, _, rfl, rfl, _, rfl, iteF (iteF ⟨1, _, _, _, _, _, _, _, _, _, _, _, rfl, .inl rfl, fun _ => rfl, D8, kk8⟩)⟩
      · have h5 : (5 : Int) < (n : Int) := by omega
        refine ⟨_, rfl, _, _, rfl, rfl, _, rfl, ?_⟩
        rw [decide_eq_true h5]
        rcases hw with rfl | rfl | rfl
        · refine iteT ⟨_, rfl, rfl, _, rfl, iteT ⟨by show 2 ≤ sizeLine; decide, fun t nt => ?_⟩⟩
          exact ⟨_, rfl, rfl, .inr ⟨_, rfl, t, _, _, _, rfl, rfl, SqL.of upd_same, rfl, 2, _, _, _, _, _, _, _, _, _, _, _, rfl, .inr (.inl ⟨rfl, rfl⟩), fun z => absurd z c5, D8.new nt, kk8.trans (KeepD.of_same (same_new nt))⟩⟩
        · refine iteT ⟨_, rfl, rfl, _, rfl, iteT ⟨by show 2 ≤ sizeLine; decide, fun t nt => ?_⟩⟩
          exact ⟨_, rfl, rfl, .inr ⟨_, rfl, t, _, _, _, rfl, rfl, SqL.of upd_same, rfl, 3, _, _, _, _, _, _, _, _, _, _, _, rfl, .inr (.inr ⟨rfl, rfl⟩), fun z => absurd z c5, D8.new nt, kk8.trans (KeepD.of_same (same_new nt))⟩⟩
        · exact iteT ⟨_, rfl, rfl, _, rfl, iteF ⟨1, _, _, _, _, _, _, _, _, _, _, _, rfl, .inl rfl, fun _ => rfl, D8, kk8⟩⟩
    obtain ⟨d, y5, y6, y7, y8, y9, y10, y11, y12, y13, y14, y15, rfl, hdk, hd5, D9, kk9⟩ := hP
    clear D8 kk8
    have hd1 : 1 ≤ d := by rcases hdk with h | h | h <;> omega
    -- start, step
    refine ⟨_, rfl, D, rfl, D9, fun st H10 _ _ D10 k10 => ?_⟩
    refine ⟨line_small (by show 4 ≤ 16777216; decide), fun t3 nt3 => ?_⟩
    have D11 := D10.new (o := .lst [.int 1, .int 7, .int 11, .int 13]) nt3
    have nt3D := D10.ne nt3
    refine ⟨_, rfl, D, rfl, D11, fun v3 H12 _ _ D12 k12 => ⟨v3, 4, rfl, rfl, (show (0 : Int) < 4 by decide), ?_⟩⟩
    have m3 := mod_b v3 (m := 4) (by decide)
    obtain ⟨sp, esp, hsp⟩ : ∃ sp : Int, atI [V.int 1, V.int 7, V.int 11, V.int 13] (v3 % 4) = some (.int sp) ∧ (sp = 1 ∨ sp = 7 ∨ sp = 11 ∨ sp = 13) := by
      have : v3 % 4 = 0 ∨ v3 % 4 = 1 ∨ v3 % 4 = 2 ∨ v3 % 4 = 3 := by omega
      rcases this with h | h | h | h <;> rw [h]
      · exact ⟨1, rfl, .inl rfl⟩
      · exact ⟨7, rfl, .inr (.inl rfl)⟩
      · exact ⟨11, rfl, .inr (.inr (.inl rfl))⟩
      · exact ⟨13, rfl, .inr (.inr (.inr rfl))⟩
    refine ⟨t3, _, _, _, rfl, rfl, SqL.of (k12 t3 _ upd_same nt3D), esp, ?_⟩
    have kk12 : KeepD D H4 H12 := ((kk9.trans k10).trans (KeepD.of_same (same_new nt3))).trans k12
    have cf : Cf74 wy n d sp := ⟨hw, hn, hsp, hdk, hd5⟩
    have hn8 : 5 ≤ n ∧ n ≤ 8 := by rcases hn with h | h | h | h <;> omega
    clear kk9 k10 k12 D9 D10 D11 nt3
    -- the Lister
    refine ⟨_, rfl, _, rfl, _, rfl, fun a dx na ndx nxa => ?_⟩
    have n2a : (upd H12 dx (.own a)) a = none := by rw [upd_ne nxa.symm]; exact na
    have sm1 := (same_new (o := .own a) ndx).trans (same_new (o := .ins C_Lister dx []) n2a)
    have naD : a ≠ D := D12.ne na
    refine ⟨a, dx, [D], wy, n, d, rfl, upd_same, hw, by omega, hn8.2, hd1, fun x hx => by rw [List.mem_singleton.mp hx]; obtain ⟨ms, e1, _⟩ := D12; exact ⟨_, sm1 _ _ e1⟩, by simp [naD], fun e H13 ne L1 k1 => ⟨rfl, ?_⟩⟩
    have neH : H12 e = none := sm1.free ne
    have neD : e ≠ D := D12.ne neH
    have k1' : KpL a e (upd (upd H12 dx (.own a)) a (.ins C_Lister dx [])) H13 := fun b o eb n1 _ => k1 b o eb n1
    have D13 : DqAt H13 D := (D12.same sm1).k3 k1' naD.symm neD.symm
    have kk13 : K3T a e D H H13 := ((K3T.sm s4).trans (K3T.kd kk12)).trans ((K3T.sm sm1).trans (K3T.kl k1'))
    have hn1D : H D = none := nD
    have hnH : H a = none ∧ H e = none := by
      have key : ∀ x, H12 x = none → x ≠ D → H x = none := fun x h1 h2 => by
        cases z : H x with
        | none => rfl
        | some o => rw [kk12 _ _ (s4 _ _ z) h2] at h1; cases h1
      exact ⟨key a na naD, key e neH neD⟩
    have htab13 : GxR.TabG H13 Pt := by
      obtain ⟨q0, e1, z⟩ := htab
      obtain ⟨q', e2, t'⟩ := kk13.2 Pt q0 e1 (fun z => by rw [z, hnH.1] at e1; cases e1) (fun z => by rw [z, hnH.2] at e1; cases e1) (fun z => by rw [z, hn1D] at e1; cases e1)
      exact ⟨q', e2, t' z⟩
    clear kk13 kk12 D12 sm1 n2a na ndx nxa neH k1 k1' hnH s4 D4 nD hn1D ne
    -- held
    refine ⟨120, rfl, by decide, by decide, fun N nN => ?_⟩
    refine lc_range (lo := 0) (n := 120) (fun i G => ∃ qs : List (Addr × List Int), G N = some (.lst (qs.map fun p => V.ref p.1)) ∧ rws qs = hRs n d st sp i ∧ qs.length = i ∧ (∀ q ∈ qs, G q.1 = some (.lst (q.2.map V.int)) ∧ H13 q.1 = none ∧ q.1 ≠ N) ∧ Same H13 G)
      ⟨[], upd_same, rfl, rfl, fun q m => absurd m List.not_mem_nil, same_new nN⟩ (fun i G hi hP => ?_) (fun G hP => ?_)
    · obtain ⟨qs, hN, eq, hl, hq, sG⟩ := hP
      refine ⟨rfl, _, rfl, _, rfl, _, rfl, _, rfl, sp, _, rfl, rfl, .inl ⟨by omega, by omega⟩, st, _, rfl, rfl, n, _, rfl, by omega, hn8.2, fun o G1 no ho s1 => ?_⟩
      refine ⟨_, rfl, o, n, d, _, rfl, ho, numF_ord _ _, by omega, hn8.2, fun l G2 hlo hl2 s2 => ?_⟩
      have s12 := s1.trans s2
      have nHl : G l = none := by
        rcases hlo with rfl | h1
        · exact no
        · exact s1.free h1
      refine ⟨_, s12 _ _ hN, line_lt (by rw [List.length_map]; omega), qs ++ [(l, hR n d st sp (i : Nat))], by rw [upd_same, List.map_append]; rfl, ?_, by rw [List.length_append]; show _ + 1 = _; omega, fun r hr => ?_, fun b ob hb => ?_⟩
      · rw [hRs_succ, ← eq]
        show List.map _ (qs ++ _) = _
        rw [List.map_append]
        rfl
      · have nlN : l ≠ N := fun z => by rw [z, hN] at nHl; cases nHl
        rcases List.mem_append.mp hr with hr | hr
        · obtain ⟨h1, h2, h3⟩ := hq r hr
          exact ⟨by rw [upd_ne h3]; exact s12 _ _ h1, h2, h3⟩
        · rw [List.mem_singleton.mp hr]
          refine ⟨?_, sG.free nHl, nlN⟩
          rw [upd_ne nlN, hl2]
          unfold hR
          rw [show (0 + (i : Int)) = (i : Int) by omega]
      · rw [upd_ne (ne_of_none hb nN)]
        exact s12 _ _ (sG _ _ hb)
    obtain ⟨qs, hN, eq, hl, hq, sG⟩ := hP
    have hd : Hd74 wy n d (rws qs) := by rw [eq]; exact hRs_hd cf st
    have hM5 : n ≠ 5 → ∀ r ∈ rws qs, d ≤ farW wy (hR n d st sp 120) r := by rw [eq]; exact hRs_more cf st
    have oM := hR_ord cf st 120
    have old : ∀ x, H13 x = none → x ≠ a ∧ x ≠ e ∧ x ≠ D := fun x hx => by
      obtain ⟨dx, t0, p0, st, ha, he, _⟩ := L1.ex
      obtain ⟨ms, eD, _⟩ := D13
      exact ⟨fun z => (by rw [z, ha] at hx; cases hx), fun z => (by rw [z, he] at hx; cases hx), fun z => (by rw [z, eD] at hx; cases hx)⟩
    have W0 : W74 C_Lister G a e D N wy n d [] [] qs := ⟨L1.same sG, D13.same sG, ⟨hN, fun p hp => (hq p hp).1⟩, old N nN, fun p hp => old p.1 (hq p hp).2.1, ⟨naD, neD⟩⟩
    have tab0 : GxR.TabG G Pt := by
      obtain ⟨q0, e1, z⟩ := htab13
      exact ⟨q0, sG _ _ e1, z⟩
    clear hq hN nN sG L1 D13 htab13 old htab eq
    -- filled
    refine ⟨_, rfl, _, rfl, _, rfl, _, rfl, _, rfl, D, a, e, N, wy, n, d, qs, rfl, hd, W0, fun G1 W1 k1 => ⟨true, rfl, iteF ?_⟩⟩
    have tab1 := W0.tab (K3T.k3 k1) tab0
    clear W0 tab0 k1
    -- more
    refine ⟨_, rfl, _, rfl, _, rfl, sp, 120, rfl, rfl, .inl ⟨by omega, by omega⟩, st, _, rfl, rfl, n, _, rfl, by omega, hn8.2, fun o G2 no ho s2 => ?_⟩
    refine ⟨_, rfl, o, n, d, _, rfl, ho, numF_ord _ _, by omega, hn8.2, fun mo G3 hlo hmo s3 => ?_⟩
    have nmo0 : G1 mo = none := by
      rcases hlo with rfl | h1
      · exact no
      · exact s2.free h1
    have nmo := W1.new nmo0
    have W3 := W1.same (s2.trans s3)
    have tab3 := W1.tab (K3T.sm (s2.trans s3)) tab1
    replace hmo : G3 mo = some (.lst ((hR n d st sp 120).map V.int)) := hmo
    clear W1 tab1 s2 s3 ho no hlo nmo0
    -- bad
    refine ⟨_, rfl, _, rfl, D, n, rfl, W3.dq, by omega, by omega, fun bv G4 ob D4 k4 => ?_⟩
    have W4 := W3.draw k4 D4
    have tab4 := W3.tab (K3T.kd k4) tab3
    have hmo4 := k4 _ _ hmo nmo.2.2
    clear W3 tab3 hmo
    -- asked
    refine ⟨_, rfl, _, rfl, _, rfl, D, rfl, D4, fun v4 G5 _ _ D5 k5 => ⟨v4, 120, rfl, rfl, (show (0 : Int) < 120 by decide), ?_⟩⟩
    have W5 := W4.draw k5 D5
    have ob5 := ob.kp (show (srcN D).Kp _ _ from k5)
    obtain ⟨j, ej, hj⟩ : ∃ j : Nat, v4 % 120 = (j : Int) ∧ j < 120 := by
      have h1 := mod_b v4 (m := 120) (by decide)
      exact ⟨(v4 % 120).toNat, by omega, by omega⟩
    obtain ⟨g, eg⟩ : ∃ g, qs[j]? = some g := ⟨qs[j]'(by omega), List.getElem?_eq_getElem (by omega)⟩
    obtain ⟨u, eu⟩ : ∃ u, qs[119]? = some u := ⟨qs[119]'(by omega), List.getElem?_eq_getElem (by omega)⟩
    have elast : atI (qs.map fun p => V.ref p.1) (-1) = some (.ref u.1) := by
      have hl2 : (qs.map fun p => V.ref p.1).length = 120 := by rw [List.length_map]; exact hl
      unfold atI
      rw [hl2, show ixN 120 (-1) = some 119 from by decide]
      show (qs.map fun p => V.ref p.1)[119]? = _
      rw [List.getElem?_map, eu]
      rfl
    refine ⟨N, _, _, _, rfl, rfl, SqL.of W5.rp.1, (show atI _ _ = some (V.ref g.1) from by rw [ej]; exact atI_nat (by rw [List.getElem?_map, eg]; rfl)), _, rfl, 1, rfl, N, _, _, _, rfl, rfl, SqL.of W5.rp.1, elast, ?_⟩
    refine ⟨_, rfl, _, rfl, _, rfl, _, 1, rfl, rfl, D, n + 1, rfl, D5, by omega, fun p1 l1 G6 op1 _ hl1 nl1D D6 k6 => ?_⟩
    refine ⟨_, rfl, _, rfl, _, 1, rfl, rfl, D, n - 1, (by show [V.ref D, V.int ((n : Int) - 1)] = _; rw [show (n : Int) - 1 = ((n - 1 : Nat) : Int) by omega]), D6, by omega, fun p2 l2 G7 op2 _ hl2 nl2D D7 k7 => ?_⟩
    refine ⟨by show 6 ≤ sizeLine; decide, fun pa npa => ?_⟩
    have k47 := (k5.trans k6).trans k7
    have W7 := W4.draw k47 D7
    have tab7 := W4.tab (K3T.kd k47) tab4
    have hmo7 := k47 _ _ hmo4 nmo.2.2
    have ob7 := ob.kp (show (srcN D).Kp _ _ from k47)
    have hl1' := k7 _ _ hl1 nl1D
    have nl1 : l1 ≠ a ∧ l1 ≠ e ∧ l1 ≠ D := W5.new (by assumption)
    have nl2 : l2 ≠ a ∧ l2 ≠ e ∧ l2 ≠ D := (W5.draw k6 D6).new (by assumption)
    have npW := W7.new npa
    have s8 := same_new (o := .lst [V.ref mo, .ref g.1, .ref u.1, bv, .ref l1, .ref l2]) npa
    have W8 := W7.same s8
    have tab8 := W7.tab (K3T.sm s8) tab7
    have hmo8 := s8 _ _ hmo7
    have ob8 := ob7.kp (KeepD.of_same s8 : (srcN D).Kp _ _)
    have hl18 := s8 _ _ hl1'
    have hl28 := s8 _ _ hl2
    have hpa8 : (upd G7 pa (.lst [V.ref mo, .ref g.1, .ref u.1, bv, .ref l1, .ref l2])) pa = some (.lst [V.ref mo, .ref g.1, .ref u.1, bv, .ref l1, .ref l2]) := upd_same
    generalize upd G7 pa (.lst [V.ref mo, .ref g.1, .ref u.1, bv, .ref l1, .ref l2]) = G8 at W8 tab8 hmo8 ob8 hl18 hl28 hpa8 ⊢
    clear W4 W5 W7 tab4 tab7 hmo4 hmo7 ob ob5 ob7 hl1 hl1' hl2 s8 npa k47 k4 k5 k6 k7 D4 D5 D6 D7
    refine ⟨by show 6 ≤ sizeLine; decide, fun pd npd => ?_⟩
    have ndW := W8.new npd
    have s9 := same_new (o := .lst [V.str "TooMany", .str "TooMany", .str "TooMany", .str "NoOrder", .str "NoFit", .str "NoFit"]) npd
    have W9 := W8.same s9
    have tab9 := W8.tab (K3T.sm s9) tab8
    have hmo9 := s9 _ _ hmo8
    obtain ⟨bx, hb9, _, nb⟩ := ob8.kp (KeepD.of_same s9 : (srcN D).Kp _ _)
    have hl19 := s9 _ _ hl18
    have hl29 := s9 _ _ hl28
    have hpa9 := s9 _ _ hpa8
    have hpd9 : (upd G8 pd (.lst [V.str "TooMany", .str "TooMany", .str "TooMany", .str "NoOrder", .str "NoFit", .str "NoFit"])) pd = some (.lst [V.str "TooMany", .str "TooMany", .str "TooMany", .str "NoOrder", .str "NoFit", .str "NoFit"]) := upd_same
    generalize upd G8 pd (.lst [V.str "TooMany", .str "TooMany", .str "TooMany", .str "NoOrder", .str "NoFit", .str "NoFit"]) = G9 at W9 tab9 hmo9 hb9 hl19 hl29 hpa9 hpd9 ⊢
    clear W8 tab8 hmo8 ob8 hl18 hl28 hpa8 s9 npd
    have hlR : (rws qs).length = 120 := hd.len
    have hsl : (srt (rws qs)).length = 120 := by rw [(srt_perm _).length_eq]; exact hlR
    refine ⟨2, rfl, by decide, by decide, ?_⟩
    refine for_range (n := 2) (fun i σ G => ∃ (y13 y14 y15 : Option V), σ = [some (.ref b0), some (.ref D), some (.str wy), some (.int n), some (.int d), some (.int st), some (.int sp), some (.ref a), some (.ref N), some (.ref mo), some bv, some (.ref pa), some (.ref pd), y13, y14, y15] ∧ W74 C_Lister G a e D N wy n d (srt (rws qs)) (prefs (rws qs) 120) qs ∧ GxR.TabG G Pt ∧ K3T a e D G9 G)
      ⟨_, _, _, rfl, W9, tab9, K3T.refl⟩ (fun i σ G hi hP => ?_) (fun σ G hP => ?_)
    · obtain ⟨y13, y14, y15, rfl, W, tab, kG⟩ := hP
      have hpa := kG.lst hpa9 npW.1 npW.2.1 npW.2.2
      have hpd := kG.lst hpd9 ndW.1 ndW.2.1 ndW.2.2
      have hmo := kG.lst hmo9 nmo.1 nmo.2.1 nmo.2.2
      have hl1 := kG.lst hl19 nl1.1 nl1.2.1 nl1.2.2
      have hl2 := kG.lst hl29 nl2.1 nl2.2.1 nl2.2.2
      have hb : Dq G bv bx := (W9.move W kG hb9).same fun b o e => (cut1_of e).1
      have og := hd.ord _ (List.mem_of_getElem? (rws_at eg))
      have ou := hd.ord _ (List.mem_of_getElem? (rws_at eu))
      have good : ∀ {m : Nat} {xs : List Int}, IsOrd m xs → 1 ≤ m → m ≤ 12 → GoodD (dL xs) ∧ lenD (dL xs) = m := fun o h1 h2 => ⟨⟨_, rfl, by rw [o.len]; exact o, by rw [o.len]; exact h1, by rw [o.len]; exact h2⟩, by show (List.map PyData.int _).length = _; rw [List.length_map, o.len]⟩
      have gn := fun {xs : List Int} (o : IsOrd n xs) => good o (by omega) (by omega)
      have ask : ∀ (j : Nat) (x : V), [V.ref mo, .ref g.1, .ref u.1, bv, .ref l1, .ref l2][j]? = some x → ∃ dat z, Dq G x dat ∧ ((¬ GoodD dat ∧ z = 0) ∨ (GoodD dat ∧ lenD dat ≠ n ∧ z = 2) ∨ (GoodD dat ∧ lenD dat = n ∧ 120 ≤ (srt (rws qs)).length ∧ z = 5)) ∧ [V.str "TooMany", .str "TooMany", .str "TooMany", .str "NoOrder", .str "NoFit", .str "NoFit"][j]? = some (.str (wordY z)) := fun j x hx => by
        match j, hx with
        | 0, hx => cases hx; exact ⟨_, 5, .lst hmo dqAll_intsG, .inr (.inr ⟨(gn oM).1, (gn oM).2, by omega, rfl⟩), rfl⟩
        | 1, hx => cases hx; exact ⟨_, 5, .lst (W.rp.2 g (List.mem_of_getElem? eg)) dqAll_intsG, .inr (.inr ⟨(gn og).1, (gn og).2, by omega, rfl⟩), rfl⟩
        | 2, hx => cases hx; exact ⟨_, 5, .lst (W.rp.2 u (List.mem_of_getElem? eu)) dqAll_intsG, .inr (.inr ⟨(gn ou).1, (gn ou).2, by omega, rfl⟩), rfl⟩
        | 3, hx => cases hx; exact ⟨_, 0, hb, .inl ⟨nb, rfl⟩, rfl⟩
        | 4, hx => cases hx; exact ⟨_, 2, .lst hl1 dqAll_intsG, .inr (.inl ⟨(good op1 (by omega) (by omega)).1, by rw [(good op1 (by omega) (by omega)).2]; omega, rfl⟩), rfl⟩
        | 5, hx => cases hx; exact ⟨_, 2, .lst hl2 dqAll_intsG, .inr (.inl ⟨(good op2 (by omega) (by omega)).1, by rw [(good op2 (by omega) (by omega)).2]; omega, rfl⟩), rfl⟩
      refine ⟨_, rfl, pa, rfl, ⟨_, SqL.of hpa⟩, fun M nM => ?_⟩
      refine lc_list (K := K) (a := pa) (xs := [V.ref mo, .ref g.1, .ref u.1, bv, .ref l1, .ref l2]) (fun j G' => G' M = some (.lst ([V.str "TooMany", .str "TooMany", .str "TooMany", .str "NoOrder", .str "NoFit", .str "NoFit"].take j)) ∧ Same G G')
        ⟨upd_same, same_new nM⟩ (fun j G' _ hP => SqL.of (hP.2 _ _ hpa)) (fun j x G' hx hP => ?_) (fun G' hP => ?_)
      · obtain ⟨hM, sM⟩ := hP
        obtain ⟨dat, z, hdq, hc, hz⟩ := ask j x hx
        refine ⟨rfl, _, rfl, _, rfl, a, e, [e, D], wy, n, d, _, _, "come", x, rfl, W.L.same sM, .inr (.inl ⟨rfl, dat, z, hdq.same sM, hc, fun G2 s2 => ?_⟩)⟩
        refine ⟨_, s2 _ _ hM, line_lt (by rw [List.length_take]; exact Nat.lt_of_le_of_lt (Nat.min_le_right _ _) (by decide)), ?_, fun b o hb => ?_⟩
        · rw [upd_same, take_p hz]
        · rw [upd_ne (ne_of_none hb nM)]
          exact s2 _ _ (sM _ _ hb)
      obtain ⟨hM, sM⟩ := hP
      replace hM : G' M = some (.lst [V.str "TooMany", .str "TooMany", .str "TooMany", .str "NoOrder", .str "NoFit", .str "NoFit"]) := hM
      refine ⟨_, rfl, .list [.str "TooMany", .str "TooMany", .str "TooMany", .str "NoOrder", .str "NoFit", .str "NoFit"], .list [.str "TooMany", .str "TooMany", .str "TooMany", .str "NoOrder", .str "NoFit", .str "NoFit"], .lst (SqL.of hM) (.cons (.str _) (.cons (.str _) (.cons (.str _) (.cons (.str _) (.cons (.str _) (.cons (.str _) .nil)))))), .lst (SqL.of (sM _ _ hpd)) (.cons (.str _) (.cons (.str _) (.cons (.str _) (.cons (.str _) (.cons (.str _) (.cons (.str _) .nil)))))), by decide +kernel, by decide +kernel, _, rfl, ?_⟩
      rw [show (!PyData.eqv (.list [.str "TooMany", .str "TooMany", .str "TooMany", .str "NoOrder", .str "NoFit", .str "NoFit"]) (.list [.str "TooMany", .str "TooMany", .str "TooMany", .str "NoOrder", .str "NoFit", .str "NoFit"])) = false by decide +kernel]
      refine iteF ?_
      have W1 := W.same sM
      obtain ⟨dx, fl, ha, hno⟩ := W1.ob "orders" (by decide +kernel) (by decide +kernel) (by decide +kernel) (by decide +kernel) (by decide +kernel)
      refine ⟨_, rfl, a, dx, fl, rfl, ha, hno, a, e, [e, D], wy, n, d, _, _, rfl, W1.L, by omega, fun l3 qs3 G3 er3 nr3 s3 => ?_⟩
      have W3 := W1.same s3
      refine ⟨_, rfl, N, qs, rfl, SqL.of W3.rp.1, fun p hp => dp_list (W3.rp.2 p hp), fun y ny => ?_⟩
      have s4 := same_new (o := .lst ((rowsR qs).map fun p => V.ref p.1)) ny
      have W4 := W3.same s4
      have hy : RP (upd G3 y (.lst ((rowsR qs).map fun p => V.ref p.1))) y (rowsR qs) := ⟨upd_same, fun p hp => W4.rp.2 p ((rowsR_perm _).mem_iff.mp hp)⟩
      refine ⟨_, _, (nr3.1.same s4).dp, hy.dp, shaped_lists _, shaped_lists _, _, rfl, ?_⟩
      rw [er3, row_srt74, eqv_lists]
      refine iteF ?_
      have s04 := sM.trans (s3.trans s4)
      have tab4 := W.tab (K3T.sm s04) tab
      refine ⟨_, rfl, _, rfl, _, rfl, _, rfl, _, rfl, _, rfl, D, a, e, N, mo, wy, n, d, qs, hR n d st sp 120, _, rfl, hd, W4, s04 _ _ hmo, nmo, oM, hM5, tab4, fun G5 W5 k5 => ⟨true, rfl, iteF ⟨_, _, _, rfl, W5, W4.tab k5 tab4, kG.trans ((K3T.sm s04).trans k5)⟩⟩⟩
    · obtain ⟨y13, y14, y15, rfl, W, tab, kG⟩ := hP
      refine ⟨_, rfl, _, rfl, _, rfl, a, e, N, [e, D], wy, n, d, _, _, qs, rfl, W.L, W.rp, (srt_perm _).symm, hd.nd, by omega, by omega, fun G5 s5 => ⟨true, rfl, iteT ?_⟩⟩
      exact ⟨_, rfl, _, rfl, _, rfl, D, a, e, N, wy, n, d, qs, rfl, W.same s5, hl, fun H' => q _⟩
end
end Fo
namespace Fo
open PySem PySem.Spec PyProof.Rows L2
/-! the end of a law that reaches tables of code objects -/
theorem tab_code {K : PySem.W.Frag} {x : Str} {c P f : Addr} {oc : Value} {od : Option Addr} {fd : FuncData} {osl : Array (Option Value)} (t : PySem.W.tabIn K x = some (c, P)) (a : PySem.W.nsIn K mainGlobals x = some (some (.ref f))) (l : K.lookup f = some ⟨oc, od, .func fd, osl⟩) : fd.code = .ref c := by
  unfold PySem.W.tabIn at t
  rw [a] at t
  simp only [l] at t
  split at t
  · rename_i c' e
    rw [e]
    split at t
    · split at t
      · cases t
        rfl
      · cases t
    · cases t
  · cases t
theorem tab_mk {K : PySem.W.Frag} {x : Str} {c P f : Addr} {oc o2 cd : Value} {od d2 : Option Addr} {osl s2 : Array (Option Value)} {nm ql : Str} {ar : Arguments} {bd : List Stmt} {sc : Scope} {dV kV dc pm ct : Value} {an : Option Addr} {vs : Array Value}
    (a : PySem.W.nsIn K mainGlobals x = some (some (.ref f))) (l : K.lookup f = some ⟨oc, od, .func (PySem.W.fnOf nm ql ar bd sc dV kV dc pm an cd ct), osl⟩) (e : cd = .ref c) (u : K.lookup c = some ⟨o2, d2, .fields vs, s2⟩) (v : vs[11]? = some (.ref P)) : PySem.W.tabIn K x = some (c, P) := by
  subst e
  have hc : (PySem.W.fnOf nm ql ar bd sc dV kV dc pm an (.ref c) ct).code = .ref c := rfl
  unfold PySem.W.tabIn
  rw [a]
  simp only [l, hc, u, v]
def TabsOf (q : Program) (K : PySem.W.Frag) (h : Heap) : Prop := ∀ (y : Str) (c P : Addr), ((recsOf q).any fun e => e.name == y) = true → PySem.W.tabIn K y = some (c, P) → PySem.W.CodeHd h c P ∧ h.get? P = some { cls := .none, data := .fields #[] }
theorem walk_tab {l : PySem.W.OpenLaw} {n k : Nat} {q : Program} {loose : List Str} {XP : (Str → Option Value) → Heap → Prop} {YP : World → Heap → Prop} {d : DefRec} {K : Params → PySem.W.Frag} {CX : World → CXT} {x : Str}
    (hn : l.most = some n) (hn2 : n ≤ sizeLine) (hdf : d.params.defaults = []) (hr : Room k callerA) (hY : ∀ (w : World) (h : Heap), YP w h → (K w.params).In h)
    (F : ∀ (w : World) (mg : Str → Option Value) (fa : Addr) (h : Heap), (K w.params).In h → h.Ns mainGlobals mg → mg d.name = some (.ref fa) → TabsOf q (K w.params) h → LamX.LawAtS l w (K w.params) (CX w) k n x mg fa h)
    (hX : ∀ (w : World) (H : Hp) (s : Shared) (e : Value) (s' : Shared), CX w [] H s (fun _ _ _ => False) e s' → False) :
    PySem.W.WalkO q loose XP YP l.row.toRowW d [] (fun f vs => PySem.call f vs) := by
  refine Att.attach_callB hn hdf fun w sA sB mg mb fa o1 pm cd dc ad us ns G Y ho hd hcd hmg hob hin hle hbi hge => ?_
  have KX := hY w _ Y
  have tabs : TabsOf q (K w.params) sB.heap := fun y c P hy ht => by
    obtain ⟨e, he⟩ := Option.isSome_iff_exists.mp ((List.find?_isSome (p := fun e : DefRec => e.name == y) (xs := recsOf q)).mpr (by
      obtain ⟨z, z1, z2⟩ := List.any_eq_true.mp hy
      exact ⟨z, z1, z2⟩))
    exact PySem.W.tab_of G.T KX he ht
  obtain ⟨fd, cs, sp, hT, nT, C, hb, hsp, hF⟩ := F w mg fa _ KX G.T.g hmg tabs
  exact LamX.law_callTs KX G.T.g G.T.b G.T.builtins G.T.nolimit hge hT nT C G.T.bmain hob hin (Nat.le_trans hle hn2) hr hF hb (fun H hH hS => hsp H ad ns hle hbi hH hS) fun H e s' => hX w H sB e s'
end Fo
--LEVEL 40
--TABS is_far
--CLASSOBJ Lister way n d taken earlier
--CLASSES OrderError NoOrder NoWay NoFit NoPlace NoNumber TooMany NoText NoName NoRow
--RAISED NoOrder NoWay NoFit NoNumber TooMany
--KINDS NoOrder NoWay NoFit NoPlace NoNumber TooMany NoText NoName NoRow
--LAWCALL ok_law (c := cls9 C_NoOrder C_NoWay C_NoFit C_NoPlace C_NoNumber C_TooMany C_NoText C_NoName C_NoRow) F_law T_Lister T_Lister_init T_Lister_orders T__law_deck T__law_cell_at T__law_next T__law_order T__law_numbered T__law_even T__law_filled_right T__law_no_order T__law_said T__law_gone_right T__law_least_right T__law_undone_right (ok_initL (k := 37) T_Lister_init T_Lister T_check_apart (ok_apart (k := 34) T_check_apart T_check_way T_check_size T_check_from T_is_whole m_WAYS B) m_MOST_KEPT) (ok_ordersL (k := 38) T_Lister_orders T_Lister B) (ok_deckN (k := 37) T__law_deck T__law_stir B) (ok_cell (k := 38) T__law_cell_at B) (ok_next (k := 37) T__law_next T__law_stir B) (ok_orderN (k := 38) T__law_order T__law_next (ok_next (k := 36) T__law_next T__law_stir B) B) (ok_numF (k := 38) T__law_numbered B) (ok_even74 (k := 38) T__law_even T__law_far (ok_lfar (k := 37) T__law_far T__law_places (ok_pld (k := 36) T__law_places B) B) B) (ok_fill74 (k := 38) (c := cls9 C_NoOrder C_NoWay C_NoFit C_NoPlace C_NoNumber C_TooMany C_NoText C_NoName C_NoRow) T__law_filled_right T_Lister T__law_next T__law_far T__law_said T_Lister_come (ok_next (k := 36) T__law_next T__law_stir B) (ok_lfar (k := 37) T__law_far T__law_places (ok_pld (k := 36) T__law_places B) B) (ok_saidL (k := 37) (c := cls9 C_NoOrder C_NoWay C_NoFit C_NoPlace C_NoNumber C_TooMany C_NoText C_NoName C_NoRow) T__law_said T_Lister T_Lister_come T_Lister_drop T_Lister_undo T__law_word (fn_or (fn_up (ok_comeL (k := 36) T_Lister_come T_Lister T_check_order (ok_check (k := 33) T_check_order T_is_order T_is_whole B m_MOST_THINGS) T_check_many (ok_manyOk (k := 35) T_check_many m_MOST_ORDERS) T_known_far (ok_known (k := 35) T_known_far T_far_by_swap T_far_by_spot T_far_by_shift (ok_swap (k := 34) T_far_by_swap T_seats_in (ok_seats (k := 32) T_seats_in T_places_in B) B) (ok_spot (k := 34) T_far_by_spot B) (ok_shift (k := 34) T_far_by_shift T_seats_in (ok_seats (k := 32) T_seats_in T_places_in B) B)) T_Lister_change_to (ok_changeL (k := 35) T_Lister_change_to T_Lister) B)) (ok_comeR (k := 36) T_Lister_come T_Lister T_check_order (ok_chk (k := 35) T_check_order T_is_order (ok_isOrdD (k := 33) T_is_order T_is_whole B m_MOST_THINGS) X_NoOrder) T_check_many (ok_manyX (k := 35) T_check_many m_MOST_ORDERS X_TooMany) T_known_far (ok_known (k := 35) T_known_far T_far_by_swap T_far_by_spot T_far_by_shift (ok_swap (k := 34) T_far_by_swap T_seats_in (ok_seats (k := 32) T_seats_in T_places_in B) B) (ok_spot (k := 34) T_far_by_spot B) (ok_shift (k := 34) T_far_by_shift T_seats_in (ok_seats (k := 32) T_seats_in T_places_in B) B)) T_Lister_change_to (ok_changeL (k := 35) T_Lister_change_to T_Lister) X_NoFit B)) (fn_or (fn_up (ok_dropL (k := 36) T_Lister_drop T_Lister T_check_order (ok_check (k := 33) T_check_order T_is_order T_is_whole B m_MOST_THINGS) T_Lister_change_to (ok_changeL (k := 35) T_Lister_change_to T_Lister) B)) (ok_dropR (k := 36) T_Lister_drop T_Lister T_check_order (ok_chk (k := 35) T_check_order T_is_order (ok_isOrdD (k := 33) T_is_order T_is_whole B m_MOST_THINGS) X_NoOrder) T_Lister_change_to (ok_changeL (k := 35) T_Lister_change_to T_Lister) X_NoFit B)) (ok_undoL (k := 36) T_Lister_undo T_Lister X_NoNumber B) (ok_wordY (k := 36) (c := cls9 C_NoOrder C_NoWay C_NoFit C_NoPlace C_NoNumber C_TooMany C_NoText C_NoName C_NoRow) T__law_word g_NoOrder g_NoWay g_NoFit g_NoPlace g_NoNumber g_TooMany g_NoText g_NoName g_NoRow B) (fun i hi => by rcases hi with rfl | rfl | rfl | rfl <;> first | exact kd_NoOrder | exact kd_NoFit | exact kd_NoNumber | exact kd_TooMany) g_OrderError (fun i hi => by rcases hi with rfl | rfl | rfl | rfl <;> first | exact xm_NoOrder | exact xm_NoFit | exact xm_NoNumber | exact xm_TooMany) B) (ok_comeL (k := 37) T_Lister_come T_Lister T_check_order (ok_check (k := 34) T_check_order T_is_order T_is_whole B m_MOST_THINGS) T_check_many (ok_manyOk (k := 36) T_check_many m_MOST_ORDERS) T_known_far (ok_known (k := 36) T_known_far T_far_by_swap T_far_by_spot T_far_by_shift (ok_swap (k := 35) T_far_by_swap T_seats_in (ok_seats (k := 33) T_seats_in T_places_in B) B) (ok_spot (k := 35) T_far_by_spot B) (ok_shift (k := 35) T_far_by_shift T_seats_in (ok_seats (k := 33) T_seats_in T_places_in B) B)) T_Lister_change_to (ok_changeL (k := 36) T_Lister_change_to T_Lister) B) B) (ok_noord72 (k := 38) T__law_no_order T__law_order T__law_next (ok_orderN (k := 37) T__law_order T__law_next (ok_next (k := 35) T__law_next T__law_stir B) B) (ok_next (k := 36) T__law_next T__law_stir B) B) (ok_saidL (k := 38) (c := cls9 C_NoOrder C_NoWay C_NoFit C_NoPlace C_NoNumber C_TooMany C_NoText C_NoName C_NoRow) T__law_said T_Lister T_Lister_come T_Lister_drop T_Lister_undo T__law_word (fn_or (fn_up (ok_comeL (k := 37) T_Lister_come T_Lister T_check_order (ok_check (k := 34) T_check_order T_is_order T_is_whole B m_MOST_THINGS) T_check_many (ok_manyOk (k := 36) T_check_many m_MOST_ORDERS) T_known_far (ok_known (k := 36) T_known_far T_far_by_swap T_far_by_spot T_far_by_shift (ok_swap (k := 35) T_far_by_swap T_seats_in (ok_seats (k := 33) T_seats_in T_places_in B) B) (ok_spot (k := 35) T_far_by_spot B) (ok_shift (k := 35) T_far_by_shift T_seats_in (ok_seats (k := 33) T_seats_in T_places_in B) B)) T_Lister_change_to (ok_changeL (k := 36) T_Lister_change_to T_Lister) B)) (ok_comeR (k := 37) T_Lister_come T_Lister T_check_order (ok_chk (k := 36) T_check_order T_is_order (ok_isOrdD (k := 34) T_is_order T_is_whole B m_MOST_THINGS) X_NoOrder) T_check_many (ok_manyX (k := 36) T_check_many m_MOST_ORDERS X_TooMany) T_known_far (ok_known (k := 36) T_known_far T_far_by_swap T_far_by_spot T_far_by_shift (ok_swap (k := 35) T_far_by_swap T_seats_in (ok_seats (k := 33) T_seats_in T_places_in B) B) (ok_spot (k := 35) T_far_by_spot B) (ok_shift (k := 35) T_far_by_shift T_seats_in (ok_seats (k := 33) T_seats_in T_places_in B) B)) T_Lister_change_to (ok_changeL (k := 36) T_Lister_change_to T_Lister) X_NoFit B)) (fn_or (fn_up (ok_dropL (k := 37) T_Lister_drop T_Lister T_check_order (ok_check (k := 34) T_check_order T_is_order T_is_whole B m_MOST_THINGS) T_Lister_change_to (ok_changeL (k := 36) T_Lister_change_to T_Lister) B)) (ok_dropR (k := 37) T_Lister_drop T_Lister T_check_order (ok_chk (k := 36) T_check_order T_is_order (ok_isOrdD (k := 34) T_is_order T_is_whole B m_MOST_THINGS) X_NoOrder) T_Lister_change_to (ok_changeL (k := 36) T_Lister_change_to T_Lister) X_NoFit B)) (ok_undoL (k := 37) T_Lister_undo T_Lister X_NoNumber B) (ok_wordY (k := 37) (c := cls9 C_NoOrder C_NoWay C_NoFit C_NoPlace C_NoNumber C_TooMany C_NoText C_NoName C_NoRow) T__law_word g_NoOrder g_NoWay g_NoFit g_NoPlace g_NoNumber g_TooMany g_NoText g_NoName g_NoRow B) (fun i hi => by rcases hi with rfl | rfl | rfl | rfl <;> first | exact kd_NoOrder | exact kd_NoFit | exact kd_NoNumber | exact kd_TooMany) g_OrderError (fun i hi => by rcases hi with rfl | rfl | rfl | rfl <;> first | exact xm_NoOrder | exact xm_NoFit | exact xm_NoNumber | exact xm_TooMany) B) (ok_gone74 (k := 38) (c := cls9 C_NoOrder C_NoWay C_NoFit C_NoPlace C_NoNumber C_TooMany C_NoText C_NoName C_NoRow) T__law_gone_right T_Lister T__law_next T__law_room_right T__law_said T_Lister_orders (ok_next (k := 36) T__law_next T__law_stir B) (ok_room74 (k := 37) T__law_room_right T_Lister T_Lister_how_many_more T_Lister_first_more (ok_moreL (k := 36) T_Lister_how_many_more T_Lister T_check_few (ok_few (k := 35) T_check_few) T_all_orders (ok_all_orders (k := 34) T_all_orders T_orders_with B) T_is_far (ok_isFar (k := 34) T_is_far TB_is_far T_known_far (ok_known (k := 33) T_known_far T_far_by_swap T_far_by_spot T_far_by_shift (ok_swap (k := 32) T_far_by_swap T_seats_in (ok_seats (k := 30) T_seats_in T_places_in B) B) (ok_spot (k := 32) T_far_by_spot B) (ok_shift (k := 32) T_far_by_shift T_seats_in (ok_seats (k := 30) T_seats_in T_places_in B) B)) B) B m_MOST_LISTED) (ok_firstL (k := 36) T_Lister_first_more T_Lister T_check_few (ok_few (k := 35) T_check_few) T_all_orders (ok_all_orders (k := 34) T_all_orders T_orders_with B) T_is_far (ok_isFar (k := 34) T_is_far TB_is_far T_known_far (ok_known (k := 33) T_known_far T_far_by_swap T_far_by_spot T_far_by_shift (ok_swap (k := 32) T_far_by_swap T_seats_in (ok_seats (k := 30) T_seats_in T_places_in B) B) (ok_spot (k := 32) T_far_by_spot B) (ok_shift (k := 32) T_far_by_shift T_seats_in (ok_seats (k := 30) T_seats_in T_places_in B) B)) B) B m_MOST_LISTED) B) (ok_saidL (k := 37) (c := cls9 C_NoOrder C_NoWay C_NoFit C_NoPlace C_NoNumber C_TooMany C_NoText C_NoName C_NoRow) T__law_said T_Lister T_Lister_come T_Lister_drop T_Lister_undo T__law_word (fn_or (fn_up (ok_comeL (k := 36) T_Lister_come T_Lister T_check_order (ok_check (k := 33) T_check_order T_is_order T_is_whole B m_MOST_THINGS) T_check_many (ok_manyOk (k := 35) T_check_many m_MOST_ORDERS) T_known_far (ok_known (k := 35) T_known_far T_far_by_swap T_far_by_spot T_far_by_shift (ok_swap (k := 34) T_far_by_swap T_seats_in (ok_seats (k := 32) T_seats_in T_places_in B) B) (ok_spot (k := 34) T_far_by_spot B) (ok_shift (k := 34) T_far_by_shift T_seats_in (ok_seats (k := 32) T_seats_in T_places_in B) B)) T_Lister_change_to (ok_changeL (k := 35) T_Lister_change_to T_Lister) B)) (ok_comeR (k := 36) T_Lister_come T_Lister T_check_order (ok_chk (k := 35) T_check_order T_is_order (ok_isOrdD (k := 33) T_is_order T_is_whole B m_MOST_THINGS) X_NoOrder) T_check_many (ok_manyX (k := 35) T_check_many m_MOST_ORDERS X_TooMany) T_known_far (ok_known (k := 35) T_known_far T_far_by_swap T_far_by_spot T_far_by_shift (ok_swap (k := 34) T_far_by_swap T_seats_in (ok_seats (k := 32) T_seats_in T_places_in B) B) (ok_spot (k := 34) T_far_by_spot B) (ok_shift (k := 34) T_far_by_shift T_seats_in (ok_seats (k := 32) T_seats_in T_places_in B) B)) T_Lister_change_to (ok_changeL (k := 35) T_Lister_change_to T_Lister) X_NoFit B)) (fn_or (fn_up (ok_dropL (k := 36) T_Lister_drop T_Lister T_check_order (ok_check (k := 33) T_check_order T_is_order T_is_whole B m_MOST_THINGS) T_Lister_change_to (ok_changeL (k := 35) T_Lister_change_to T_Lister) B)) (ok_dropR (k := 36) T_Lister_drop T_Lister T_check_order (ok_chk (k := 35) T_check_order T_is_order (ok_isOrdD (k := 33) T_is_order T_is_whole B m_MOST_THINGS) X_NoOrder) T_Lister_change_to (ok_changeL (k := 35) T_Lister_change_to T_Lister) X_NoFit B)) (ok_undoL (k := 36) T_Lister_undo T_Lister X_NoNumber B) (ok_wordY (k := 36) (c := cls9 C_NoOrder C_NoWay C_NoFit C_NoPlace C_NoNumber C_TooMany C_NoText C_NoName C_NoRow) T__law_word g_NoOrder g_NoWay g_NoFit g_NoPlace g_NoNumber g_TooMany g_NoText g_NoName g_NoRow B) (fun i hi => by rcases hi with rfl | rfl | rfl | rfl <;> first | exact kd_NoOrder | exact kd_NoFit | exact kd_NoNumber | exact kd_TooMany) g_OrderError (fun i hi => by rcases hi with rfl | rfl | rfl | rfl <;> first | exact xm_NoOrder | exact xm_NoFit | exact xm_NoNumber | exact xm_TooMany) B) (ok_ordersL (k := 37) T_Lister_orders T_Lister B) B) (ok_least74 (k := 38) T__law_least_right T_Lister T_Lister_least_apart T__law_far T__law_whole (ok_leastL (k := 37) T_Lister_least_apart T_Lister T_known_far (ok_known (k := 36) T_known_far T_far_by_swap T_far_by_spot T_far_by_shift (ok_swap (k := 35) T_far_by_swap T_seats_in (ok_seats (k := 33) T_seats_in T_places_in B) B) (ok_spot (k := 35) T_far_by_spot B) (ok_shift (k := 35) T_far_by_shift T_seats_in (ok_seats (k := 33) T_seats_in T_places_in B) B)) B) (ok_lfar (k := 37) T__law_far T__law_places (ok_pld (k := 36) T__law_places B) B) (ok_lwhole (k := 37) T__law_whole B) B) (ok_und74 (k := 38) (c := cls9 C_NoOrder C_NoWay C_NoFit C_NoPlace C_NoNumber C_TooMany C_NoText C_NoName C_NoRow) T__law_undone_right T_Lister T__law_next T__law_said T_Lister_orders (ok_next (k := 36) T__law_next T__law_stir B) (ok_saidL (k := 37) (c := cls9 C_NoOrder C_NoWay C_NoFit C_NoPlace C_NoNumber C_TooMany C_NoText C_NoName C_NoRow) T__law_said T_Lister T_Lister_come T_Lister_drop T_Lister_undo T__law_word (fn_or (fn_up (ok_comeL (k := 36) T_Lister_come T_Lister T_check_order (ok_check (k := 33) T_check_order T_is_order T_is_whole B m_MOST_THINGS) T_check_many (ok_manyOk (k := 35) T_check_many m_MOST_ORDERS) T_known_far (ok_known (k := 35) T_known_far T_far_by_swap T_far_by_spot T_far_by_shift (ok_swap (k := 34) T_far_by_swap T_seats_in (ok_seats (k := 32) T_seats_in T_places_in B) B) (ok_spot (k := 34) T_far_by_spot B) (ok_shift (k := 34) T_far_by_shift T_seats_in (ok_seats (k := 32) T_seats_in T_places_in B) B)) T_Lister_change_to (ok_changeL (k := 35) T_Lister_change_to T_Lister) B)) (ok_comeR (k := 36) T_Lister_come T_Lister T_check_order (ok_chk (k := 35) T_check_order T_is_order (ok_isOrdD (k := 33) T_is_order T_is_whole B m_MOST_THINGS) X_NoOrder) T_check_many (ok_manyX (k := 35) T_check_many m_MOST_ORDERS X_TooMany) T_known_far (ok_known (k := 35) T_known_far T_far_by_swap T_far_by_spot T_far_by_shift (ok_swap (k := 34) T_far_by_swap T_seats_in (ok_seats (k := 32) T_seats_in T_places_in B) B) (ok_spot (k := 34) T_far_by_spot B) (ok_shift (k := 34) T_far_by_shift T_seats_in (ok_seats (k := 32) T_seats_in T_places_in B) B)) T_Lister_change_to (ok_changeL (k := 35) T_Lister_change_to T_Lister) X_NoFit B)) (fn_or (fn_up (ok_dropL (k := 36) T_Lister_drop T_Lister T_check_order (ok_check (k := 33) T_check_order T_is_order T_is_whole B m_MOST_THINGS) T_Lister_change_to (ok_changeL (k := 35) T_Lister_change_to T_Lister) B)) (ok_dropR (k := 36) T_Lister_drop T_Lister T_check_order (ok_chk (k := 35) T_check_order T_is_order (ok_isOrdD (k := 33) T_is_order T_is_whole B m_MOST_THINGS) X_NoOrder) T_Lister_change_to (ok_changeL (k := 35) T_Lister_change_to T_Lister) X_NoFit B)) (ok_undoL (k := 36) T_Lister_undo T_Lister X_NoNumber B) (ok_wordY (k := 36) (c := cls9 C_NoOrder C_NoWay C_NoFit C_NoPlace C_NoNumber C_TooMany C_NoText C_NoName C_NoRow) T__law_word g_NoOrder g_NoWay g_NoFit g_NoPlace g_NoNumber g_TooMany g_NoText g_NoName g_NoRow B) (fun i hi => by rcases hi with rfl | rfl | rfl | rfl <;> first | exact kd_NoOrder | exact kd_NoFit | exact kd_NoNumber | exact kd_TooMany) g_OrderError (fun i hi => by rcases hi with rfl | rfl | rfl | rfl <;> first | exact xm_NoOrder | exact xm_NoFit | exact xm_NoNumber | exact xm_TooMany) B) (ok_ordersL (k := 37) T_Lister_orders T_Lister B) B) B
namespace Fo
open PySem PySem.Spec PyProof.Rows L2
set_option maxHeartbeats 8000000 in
theorem all_mk {l : PySem.W.OpenLaw} {w : World} {K : PySem.W.Frag} {h : Heap} {mg : Str → Option Value} {fa : Addr} (X : K.In h) (G : h.Ns mainGlobals mg) (hfa : mg "law" = some (.ref fa))
    {f0 f1 f2 f3 f4 f5 f6 f7 f8 f9 f10 f11 f12 f13 f14 f15 f16 f17 f18 f19 f20 f21 f22 f23 f24 f25 f26 f27 f28 f29 f30 f31 f32 f33 f34 f35 f36 : Addr} {od0 an0 od1 an1 od2 an2 od3 an3 od4 an4 od5 an5 od6 an6 od7 an7 od8 an8 od9 an9 od10 an10 od11 an11 od12 an12 od13 an13 od14 an14 od15 an15 od16 an16 od17 an17 od18 an18 od19 an19 od20 an20 od21 an21 od22 an22 od23 an23 od24 an24 od25 an25 od26 an26 od27 an27 od28 an28 od29 an29 od30 an30 od31 an31 od32 an32 od33 an33 od34 an34 od35 an35 od36 an36 : Option Addr} {sl0 sl1 sl2 sl3 sl4 sl5 sl6 sl7 sl8 sl9 sl10 sl11 sl12 sl13 sl14 sl15 sl16 sl17 sl18 sl19 sl20 sl21 sl22 sl23 sl24 sl25 sl26 sl27 sl28 sl29 sl30 sl31 sl32 sl33 sl34 sl35 sl36 : Array (Option Value)} {oc0 kV0 dc0 pm0 cd0 ct0 oc1 kV1 dc1 pm1 cd1 ct1 oc2 kV2 dc2 pm2 cd2 ct2 oc3 kV3 dc3 pm3 cd3 ct3 oc4 kV4 dc4 pm4 cd4 ct4 oc5 kV5 dc5 pm5 cd5 ct5 oc6 kV6 dc6 pm6 cd6 ct6 oc7 kV7 dc7 pm7 cd7 ct7 oc8 kV8 dc8 pm8 cd8 ct8 oc9 kV9 dc9 pm9 cd9 ct9 oc10 kV10 dc10 pm10 cd10 ct10 oc11 kV11 dc11 pm11 cd11 ct11 oc12 kV12 dc12 pm12 cd12 ct12 oc13 kV13 dc13 pm13 cd13 ct13 oc14 kV14 dc14 pm14 cd14 ct14 oc15 kV15 dc15 pm15 cd15 ct15 oc16 kV16 dc16 pm16 cd16 ct16 oc17 kV17 dc17 pm17 cd17 ct17 oc18 kV18 dc18 pm18 cd18 ct18 oc19 kV19 dc19 pm19 cd19 ct19 oc20 kV20 dc20 pm20 cd20 ct20 oc21 kV21 dc21 pm21 cd21 ct21 oc22 kV22 dc22 pm22 cd22 ct22 oc23 kV23 dc23 pm23 cd23 ct23 oc24 kV24 dc24 pm24 cd24 ct24 oc25 kV25 dc25 pm25 cd25 ct25 oc26 kV26 dc26 pm26 cd26 ct26 oc27 kV27 dc27 pm27 cd27 ct27 oc28 kV28 dc28 pm28 cd28 ct28 oc29 kV29 dc29 pm29 cd29 ct29 oc30 kV30 dc30 pm30 cd30 ct30 oc31 kV31 dc31 pm31 cd31 ct31 oc32 kV32 dc32 pm32 cd32 ct32 oc33 kV33 dc33 pm33 cd33 ct33 oc34 kV34 dc34 pm34 cd34 ct34 oc35 kV35 dc35 pm35 cd35 ct35 oc36 kV36 dc36 pm36 cd36 ct36 : Value} {tk_MOST_THINGS tk_MOST_LISTED tk_MOST_ORDERS tk_MOST_KEPT : Tok} {aW : Addr} {ddW : Option Addr} {nW : Nat} {tW1 tW2 tW3 : Tok} {slW : Array (Option Value)} {C_Lister fm0 fm1 fm2 fm3 fm4 fm5 fm6 fm7 fm8 : Addr} {odm0 anm0 odm1 anm1 odm2 anm2 odm3 anm3 odm4 anm4 odm5 anm5 odm6 anm6 odm7 anm7 odm8 anm8 : Option Addr} {slm0 slm1 slm2 slm3 slm4 slm5 slm6 slm7 slm8 : Array (Option Value)} {ocm0 kVm0 dcm0 pmm0 cdm0 ctm0 ocm1 kVm1 dcm1 pmm1 cdm1 ctm1 ocm2 kVm2 dcm2 pmm2 cdm2 ctm2 ocm3 kVm3 dcm3 pmm3 cdm3 ctm3 ocm4 kVm4 dcm4 pmm4 cdm4 ctm4 ocm5 kVm5 dcm5 pmm5 cdm5 ctm5 ocm6 kVm6 dcm6 pmm6 cdm6 ctm6 ocm7 kVm7 dcm7 pmm7 cdm7 ctm7 ocm8 kVm8 dcm8 pmm8 cdm8 ctm8 : Value} {C_OrderError C_NoOrder C_NoWay C_NoFit C_NoPlace C_NoNumber C_TooMany C_NoText C_NoName C_NoRow : Addr}
    (a0 : PySem.W.nsIn K mainGlobals "is_whole" = some (some (.ref f0))) (l0 : K.lookup f0 = some ⟨oc0, od0, .func (PySem.W.fnOf "is_whole" "is_whole" (defArgs s_is_whole) (defBody s_is_whole) (defScope s_is_whole) .none kV0 dc0 pm0 an0 cd0 ct0), sl0⟩) (c0 : PySem.W.codeIn K cd0 "is_whole" = true) (k0 : PySem.W.keepIn K (.ref f0) = true)
    (a1 : PySem.W.nsIn K mainGlobals "check_way" = some (some (.ref f1))) (l1 : K.lookup f1 = some ⟨oc1, od1, .func (PySem.W.fnOf "check_way" "check_way" (defArgs s_check_way) (defBody s_check_way) (defScope s_check_way) .none kV1 dc1 pm1 an1 cd1 ct1), sl1⟩) (c1 : PySem.W.codeIn K cd1 "check_way" = true) (k1 : PySem.W.keepIn K (.ref f1) = true)
    (a2 : PySem.W.nsIn K mainGlobals "check_from" = some (some (.ref f2))) (l2 : K.lookup f2 = some ⟨oc2, od2, .func (PySem.W.fnOf "check_from" "check_from" (defArgs s_check_from) (defBody s_check_from) (defScope s_check_from) .none kV2 dc2 pm2 an2 cd2 ct2), sl2⟩) (c2 : PySem.W.codeIn K cd2 "check_from" = true) (k2 : PySem.W.keepIn K (.ref f2) = true)
    (a3 : PySem.W.nsIn K mainGlobals "check_size" = some (some (.ref f3))) (l3 : K.lookup f3 = some ⟨oc3, od3, .func (PySem.W.fnOf "check_size" "check_size" (defArgs s_check_size) (defBody s_check_size) (defScope s_check_size) .none kV3 dc3 pm3 an3 cd3 ct3), sl3⟩) (c3 : PySem.W.codeIn K cd3 "check_size" = true) (k3 : PySem.W.keepIn K (.ref f3) = true)
    (a4 : PySem.W.nsIn K mainGlobals "check_few" = some (some (.ref f4))) (l4 : K.lookup f4 = some ⟨oc4, od4, .func (PySem.W.fnOf "check_few" "check_few" (defArgs s_check_few) (defBody s_check_few) (defScope s_check_few) .none kV4 dc4 pm4 an4 cd4 ct4), sl4⟩) (c4 : PySem.W.codeIn K cd4 "check_few" = true) (k4 : PySem.W.keepIn K (.ref f4) = true)
    (a5 : PySem.W.nsIn K mainGlobals "check_apart" = some (some (.ref f5))) (l5 : K.lookup f5 = some ⟨oc5, od5, .func (PySem.W.fnOf "check_apart" "check_apart" (defArgs s_check_apart) (defBody s_check_apart) (defScope s_check_apart) .none kV5 dc5 pm5 an5 cd5 ct5), sl5⟩) (c5 : PySem.W.codeIn K cd5 "check_apart" = true) (k5 : PySem.W.keepIn K (.ref f5) = true)
    (a6 : PySem.W.nsIn K mainGlobals "is_order" = some (some (.ref f6))) (l6 : K.lookup f6 = some ⟨oc6, od6, .func (PySem.W.fnOf "is_order" "is_order" (defArgs s_is_order) (defBody s_is_order) (defScope s_is_order) .none kV6 dc6 pm6 an6 cd6 ct6), sl6⟩) (c6 : PySem.W.codeIn K cd6 "is_order" = true) (k6 : PySem.W.keepIn K (.ref f6) = true)
    (a7 : PySem.W.nsIn K mainGlobals "check_order" = some (some (.ref f7))) (l7 : K.lookup f7 = some ⟨oc7, od7, .func (PySem.W.fnOf "check_order" "check_order" (defArgs s_check_order) (defBody s_check_order) (defScope s_check_order) .none kV7 dc7 pm7 an7 cd7 ct7), sl7⟩) (c7 : PySem.W.codeIn K cd7 "check_order" = true) (k7 : PySem.W.keepIn K (.ref f7) = true)
    (a8 : PySem.W.nsIn K mainGlobals "places_in" = some (some (.ref f8))) (l8 : K.lookup f8 = some ⟨oc8, od8, .func (PySem.W.fnOf "places_in" "places_in" (defArgs s_places_in) (defBody s_places_in) (defScope s_places_in) .none kV8 dc8 pm8 an8 cd8 ct8), sl8⟩) (c8 : PySem.W.codeIn K cd8 "places_in" = true) (k8 : PySem.W.keepIn K (.ref f8) = true)
    (a9 : PySem.W.nsIn K mainGlobals "seats_in" = some (some (.ref f9))) (l9 : K.lookup f9 = some ⟨oc9, od9, .func (PySem.W.fnOf "seats_in" "seats_in" (defArgs s_seats_in) (defBody s_seats_in) (defScope s_seats_in) .none kV9 dc9 pm9 an9 cd9 ct9), sl9⟩) (c9 : PySem.W.codeIn K cd9 "seats_in" = true) (k9 : PySem.W.keepIn K (.ref f9) = true)
    (a10 : PySem.W.nsIn K mainGlobals "known_far" = some (some (.ref f10))) (l10 : K.lookup f10 = some ⟨oc10, od10, .func (PySem.W.fnOf "known_far" "known_far" (defArgs s_known_far) (defBody s_known_far) (defScope s_known_far) .none kV10 dc10 pm10 an10 cd10 ct10), sl10⟩) (c10 : PySem.W.codeIn K cd10 "known_far" = true) (k10 : PySem.W.keepIn K (.ref f10) = true)
    (a11 : PySem.W.nsIn K mainGlobals "far_by_swap" = some (some (.ref f11))) (l11 : K.lookup f11 = some ⟨oc11, od11, .func (PySem.W.fnOf "far_by_swap" "far_by_swap" (defArgs s_far_by_swap) (defBody s_far_by_swap) (defScope s_far_by_swap) .none kV11 dc11 pm11 an11 cd11 ct11), sl11⟩) (c11 : PySem.W.codeIn K cd11 "far_by_swap" = true) (k11 : PySem.W.keepIn K (.ref f11) = true)
    (a12 : PySem.W.nsIn K mainGlobals "far_by_spot" = some (some (.ref f12))) (l12 : K.lookup f12 = some ⟨oc12, od12, .func (PySem.W.fnOf "far_by_spot" "far_by_spot" (defArgs s_far_by_spot) (defBody s_far_by_spot) (defScope s_far_by_spot) .none kV12 dc12 pm12 an12 cd12 ct12), sl12⟩) (c12 : PySem.W.codeIn K cd12 "far_by_spot" = true) (k12 : PySem.W.keepIn K (.ref f12) = true)
    (a13 : PySem.W.nsIn K mainGlobals "far_by_shift" = some (some (.ref f13))) (l13 : K.lookup f13 = some ⟨oc13, od13, .func (PySem.W.fnOf "far_by_shift" "far_by_shift" (defArgs s_far_by_shift) (defBody s_far_by_shift) (defScope s_far_by_shift) .none kV13 dc13 pm13 an13 cd13 ct13), sl13⟩) (c13 : PySem.W.codeIn K cd13 "far_by_shift" = true) (k13 : PySem.W.keepIn K (.ref f13) = true)
    (a14 : PySem.W.nsIn K mainGlobals "all_orders" = some (some (.ref f14))) (l14 : K.lookup f14 = some ⟨oc14, od14, .func (PySem.W.fnOf "all_orders" "all_orders" (defArgs s_all_orders) (defBody s_all_orders) (defScope s_all_orders) .none kV14 dc14 pm14 an14 cd14 ct14), sl14⟩) (c14 : PySem.W.codeIn K cd14 "all_orders" = true) (k14 : PySem.W.keepIn K (.ref f14) = true)
    (a15 : PySem.W.nsIn K mainGlobals "orders_with" = some (some (.ref f15))) (l15 : K.lookup f15 = some ⟨oc15, od15, .func (PySem.W.fnOf "orders_with" "orders_with" (defArgs s_orders_with) (defBody s_orders_with) (defScope s_orders_with) .none kV15 dc15 pm15 an15 cd15 ct15), sl15⟩) (c15 : PySem.W.codeIn K cd15 "orders_with" = true) (k15 : PySem.W.keepIn K (.ref f15) = true)
    (a16 : PySem.W.nsIn K mainGlobals "is_far" = some (some (.ref f16))) (l16 : K.lookup f16 = some ⟨oc16, od16, .func (PySem.W.fnOf "is_far" "is_far" (defArgs s_is_far) (defBody s_is_far) (defScope s_is_far) .none kV16 dc16 pm16 an16 cd16 ct16), sl16⟩) (c16 : PySem.W.codeIn K cd16 "is_far" = true) (k16 : PySem.W.keepIn K (.ref f16) = true)
    (a17 : PySem.W.nsIn K mainGlobals "check_many" = some (some (.ref f17))) (l17 : K.lookup f17 = some ⟨oc17, od17, .func (PySem.W.fnOf "check_many" "check_many" (defArgs s_check_many) (defBody s_check_many) (defScope s_check_many) .none kV17 dc17 pm17 an17 cd17 ct17), sl17⟩) (c17 : PySem.W.codeIn K cd17 "check_many" = true) (k17 : PySem.W.keepIn K (.ref f17) = true)
    (a18 : PySem.W.nsIn K mainGlobals "_law_cell_at" = some (some (.ref f18))) (l18 : K.lookup f18 = some ⟨oc18, od18, .func (PySem.W.fnOf "_law_cell_at" "_law_cell_at" (defArgs s_law_cell_at) (defBody s_law_cell_at) (defScope s_law_cell_at) .none kV18 dc18 pm18 an18 cd18 ct18), sl18⟩) (c18 : PySem.W.codeIn K cd18 "_law_cell_at" = true) (k18 : PySem.W.keepIn K (.ref f18) = true)
    (a19 : PySem.W.nsIn K mainGlobals "_law_stir" = some (some (.ref f19))) (l19 : K.lookup f19 = some ⟨oc19, od19, .func (PySem.W.fnOf "_law_stir" "_law_stir" (defArgs s_law_stir) (defBody s_law_stir) (defScope s_law_stir) .none kV19 dc19 pm19 an19 cd19 ct19), sl19⟩) (c19 : PySem.W.codeIn K cd19 "_law_stir" = true) (k19 : PySem.W.keepIn K (.ref f19) = true)
    (a20 : PySem.W.nsIn K mainGlobals "_law_deck" = some (some (.ref f20))) (l20 : K.lookup f20 = some ⟨oc20, od20, .func (PySem.W.fnOf "_law_deck" "_law_deck" (defArgs s_law_deck) (defBody s_law_deck) (defScope s_law_deck) .none kV20 dc20 pm20 an20 cd20 ct20), sl20⟩) (c20 : PySem.W.codeIn K cd20 "_law_deck" = true) (k20 : PySem.W.keepIn K (.ref f20) = true)
    (a21 : PySem.W.nsIn K mainGlobals "_law_next" = some (some (.ref f21))) (l21 : K.lookup f21 = some ⟨oc21, od21, .func (PySem.W.fnOf "_law_next" "_law_next" (defArgs s_law_next) (defBody s_law_next) (defScope s_law_next) .none kV21 dc21 pm21 an21 cd21 ct21), sl21⟩) (c21 : PySem.W.codeIn K cd21 "_law_next" = true) (k21 : PySem.W.keepIn K (.ref f21) = true)
    (a22 : PySem.W.nsIn K mainGlobals "_law_order" = some (some (.ref f22))) (l22 : K.lookup f22 = some ⟨oc22, od22, .func (PySem.W.fnOf "_law_order" "_law_order" (defArgs s_law_order) (defBody s_law_order) (defScope s_law_order) .none kV22 dc22 pm22 an22 cd22 ct22), sl22⟩) (c22 : PySem.W.codeIn K cd22 "_law_order" = true) (k22 : PySem.W.keepIn K (.ref f22) = true)
    (a23 : PySem.W.nsIn K mainGlobals "_law_places" = some (some (.ref f23))) (l23 : K.lookup f23 = some ⟨oc23, od23, .func (PySem.W.fnOf "_law_places" "_law_places" (defArgs s_law_places) (defBody s_law_places) (defScope s_law_places) .none kV23 dc23 pm23 an23 cd23 ct23), sl23⟩) (c23 : PySem.W.codeIn K cd23 "_law_places" = true) (k23 : PySem.W.keepIn K (.ref f23) = true)
    (a24 : PySem.W.nsIn K mainGlobals "_law_far" = some (some (.ref f24))) (l24 : K.lookup f24 = some ⟨oc24, od24, .func (PySem.W.fnOf "_law_far" "_law_far" (defArgs s_law_far) (defBody s_law_far) (defScope s_law_far) .none kV24 dc24 pm24 an24 cd24 ct24), sl24⟩) (c24 : PySem.W.codeIn K cd24 "_law_far" = true) (k24 : PySem.W.keepIn K (.ref f24) = true)
    (a25 : PySem.W.nsIn K mainGlobals "_law_whole" = some (some (.ref f25))) (l25 : K.lookup f25 = some ⟨oc25, od25, .func (PySem.W.fnOf "_law_whole" "_law_whole" (defArgs s_law_whole) (defBody s_law_whole) (defScope s_law_whole) .none kV25 dc25 pm25 an25 cd25 ct25), sl25⟩) (c25 : PySem.W.codeIn K cd25 "_law_whole" = true) (k25 : PySem.W.keepIn K (.ref f25) = true)
    (a26 : PySem.W.nsIn K mainGlobals "_law_no_order" = some (some (.ref f26))) (l26 : K.lookup f26 = some ⟨oc26, od26, .func (PySem.W.fnOf "_law_no_order" "_law_no_order" (defArgs s_law_no_order) (defBody s_law_no_order) (defScope s_law_no_order) .none kV26 dc26 pm26 an26 cd26 ct26), sl26⟩) (c26 : PySem.W.codeIn K cd26 "_law_no_order" = true) (k26 : PySem.W.keepIn K (.ref f26) = true)
    (a27 : PySem.W.nsIn K mainGlobals "_law_word" = some (some (.ref f27))) (l27 : K.lookup f27 = some ⟨oc27, od27, .func (PySem.W.fnOf "_law_word" "_law_word" (defArgs s_law_word) (defBody s_law_word) (defScope s_law_word) .none kV27 dc27 pm27 an27 cd27 ct27), sl27⟩) (c27 : PySem.W.codeIn K cd27 "_law_word" = true) (k27 : PySem.W.keepIn K (.ref f27) = true)
    (a28 : PySem.W.nsIn K mainGlobals "_law_said" = some (some (.ref f28))) (l28 : K.lookup f28 = some ⟨oc28, od28, .func (PySem.W.fnOf "_law_said" "_law_said" (defArgs s_law_said) (defBody s_law_said) (defScope s_law_said) .none kV28 dc28 pm28 an28 cd28 ct28), sl28⟩) (c28 : PySem.W.codeIn K cd28 "_law_said" = true) (k28 : PySem.W.keepIn K (.ref f28) = true)
    (a29 : PySem.W.nsIn K mainGlobals "_law_numbered" = some (some (.ref f29))) (l29 : K.lookup f29 = some ⟨oc29, od29, .func (PySem.W.fnOf "_law_numbered" "_law_numbered" (defArgs s_law_numbered) (defBody s_law_numbered) (defScope s_law_numbered) .none kV29 dc29 pm29 an29 cd29 ct29), sl29⟩) (c29 : PySem.W.codeIn K cd29 "_law_numbered" = true) (k29 : PySem.W.keepIn K (.ref f29) = true)
    (a30 : PySem.W.nsIn K mainGlobals "_law_room_right" = some (some (.ref f30))) (l30 : K.lookup f30 = some ⟨oc30, od30, .func (PySem.W.fnOf "_law_room_right" "_law_room_right" (defArgs s_law_room_right) (defBody s_law_room_right) (defScope s_law_room_right) .none kV30 dc30 pm30 an30 cd30 ct30), sl30⟩) (c30 : PySem.W.codeIn K cd30 "_law_room_right" = true) (k30 : PySem.W.keepIn K (.ref f30) = true)
    (a31 : PySem.W.nsIn K mainGlobals "_law_least_right" = some (some (.ref f31))) (l31 : K.lookup f31 = some ⟨oc31, od31, .func (PySem.W.fnOf "_law_least_right" "_law_least_right" (defArgs s_law_least_right) (defBody s_law_least_right) (defScope s_law_least_right) .none kV31 dc31 pm31 an31 cd31 ct31), sl31⟩) (c31 : PySem.W.codeIn K cd31 "_law_least_right" = true) (k31 : PySem.W.keepIn K (.ref f31) = true)
    (a32 : PySem.W.nsIn K mainGlobals "_law_even" = some (some (.ref f32))) (l32 : K.lookup f32 = some ⟨oc32, od32, .func (PySem.W.fnOf "_law_even" "_law_even" (defArgs s_law_even) (defBody s_law_even) (defScope s_law_even) .none kV32 dc32 pm32 an32 cd32 ct32), sl32⟩) (c32 : PySem.W.codeIn K cd32 "_law_even" = true) (k32 : PySem.W.keepIn K (.ref f32) = true)
    (a33 : PySem.W.nsIn K mainGlobals "_law_filled_right" = some (some (.ref f33))) (l33 : K.lookup f33 = some ⟨oc33, od33, .func (PySem.W.fnOf "_law_filled_right" "_law_filled_right" (defArgs s_law_filled_right) (defBody s_law_filled_right) (defScope s_law_filled_right) .none kV33 dc33 pm33 an33 cd33 ct33), sl33⟩) (c33 : PySem.W.codeIn K cd33 "_law_filled_right" = true) (k33 : PySem.W.keepIn K (.ref f33) = true)
    (a34 : PySem.W.nsIn K mainGlobals "_law_undone_right" = some (some (.ref f34))) (l34 : K.lookup f34 = some ⟨oc34, od34, .func (PySem.W.fnOf "_law_undone_right" "_law_undone_right" (defArgs s_law_undone_right) (defBody s_law_undone_right) (defScope s_law_undone_right) .none kV34 dc34 pm34 an34 cd34 ct34), sl34⟩) (c34 : PySem.W.codeIn K cd34 "_law_undone_right" = true) (k34 : PySem.W.keepIn K (.ref f34) = true)
    (a35 : PySem.W.nsIn K mainGlobals "_law_gone_right" = some (some (.ref f35))) (l35 : K.lookup f35 = some ⟨oc35, od35, .func (PySem.W.fnOf "_law_gone_right" "_law_gone_right" (defArgs s_law_gone_right) (defBody s_law_gone_right) (defScope s_law_gone_right) .none kV35 dc35 pm35 an35 cd35 ct35), sl35⟩) (c35 : PySem.W.codeIn K cd35 "_law_gone_right" = true) (k35 : PySem.W.keepIn K (.ref f35) = true)
    (a36 : PySem.W.nsIn K mainGlobals "law" = some (some (.ref f36))) (l36 : K.lookup f36 = some ⟨oc36, od36, .func (PySem.W.fnOf "law" "law" (defArgs s_law) (defBody s_law) (defScope s_law) .none kV36 dc36 pm36 an36 cd36 ct36), sl36⟩) (c36 : PySem.W.codeIn K cd36 "law" = true) (k36 : PySem.W.keepIn K (.ref f36) = true)
    (g_MOST_THINGS : PySem.W.nsIn K mainGlobals "MOST_THINGS" = some (some (.int 12 tk_MOST_THINGS)))
    (g_MOST_LISTED : PySem.W.nsIn K mainGlobals "MOST_LISTED" = some (some (.int 6 tk_MOST_LISTED)))
    (g_MOST_ORDERS : PySem.W.nsIn K mainGlobals "MOST_ORDERS" = some (some (.int 120 tk_MOST_ORDERS)))
    (g_MOST_KEPT : PySem.W.nsIn K mainGlobals "MOST_KEPT" = some (some (.int 8 tk_MOST_KEPT)))
    (g_WAYS : PySem.W.nsIn K mainGlobals "WAYS" = some (some (.ref aW))) (l_WAYS : K.lookup aW = some ⟨.type "tuple", ddW, .seq #[.str "swap" tW1, .str "spot" tW2, .str "shift" tW3] nW, slW⟩)
    (aC_Lister : PySem.W.nsIn K mainGlobals "Lister" = some (some (.ref C_Lister)))
    (am0 : PySem.W.findIn K (.ref C_Lister) "__init__" = some (some (.ref fm0))) (im0 : PySem.W.isFn K (.ref fm0) = true) (lm0 : K.lookup fm0 = some ⟨ocm0, odm0, .func (PySem.W.fnOf "__init__" "Lister.__init__" (defArgs s_Lister___init__) (defBody s_Lister___init__) (defScope s_Lister___init__) .none kVm0 dcm0 pmm0 anm0 cdm0 ctm0), slm0⟩) (cm0 : PySem.W.codeIn K cdm0 "Lister.__init__" = true) (km0 : PySem.W.keepIn K (.ref fm0) = true)
    (am1 : PySem.W.findIn K (.ref C_Lister) "come" = some (some (.ref fm1))) (im1 : PySem.W.isFn K (.ref fm1) = true) (lm1 : K.lookup fm1 = some ⟨ocm1, odm1, .func (PySem.W.fnOf "come" "Lister.come" (defArgs s_Lister_come) (defBody s_Lister_come) (defScope s_Lister_come) .none kVm1 dcm1 pmm1 anm1 cdm1 ctm1), slm1⟩) (cm1 : PySem.W.codeIn K cdm1 "Lister.come" = true) (km1 : PySem.W.keepIn K (.ref fm1) = true)
    (am2 : PySem.W.findIn K (.ref C_Lister) "drop" = some (some (.ref fm2))) (im2 : PySem.W.isFn K (.ref fm2) = true) (lm2 : K.lookup fm2 = some ⟨ocm2, odm2, .func (PySem.W.fnOf "drop" "Lister.drop" (defArgs s_Lister_drop) (defBody s_Lister_drop) (defScope s_Lister_drop) .none kVm2 dcm2 pmm2 anm2 cdm2 ctm2), slm2⟩) (cm2 : PySem.W.codeIn K cdm2 "Lister.drop" = true) (km2 : PySem.W.keepIn K (.ref fm2) = true)
    (am3 : PySem.W.findIn K (.ref C_Lister) "change_to" = some (some (.ref fm3))) (im3 : PySem.W.isFn K (.ref fm3) = true) (lm3 : K.lookup fm3 = some ⟨ocm3, odm3, .func (PySem.W.fnOf "change_to" "Lister.change_to" (defArgs s_Lister_change_to) (defBody s_Lister_change_to) (defScope s_Lister_change_to) .none kVm3 dcm3 pmm3 anm3 cdm3 ctm3), slm3⟩) (cm3 : PySem.W.codeIn K cdm3 "Lister.change_to" = true) (km3 : PySem.W.keepIn K (.ref fm3) = true)
    (am4 : PySem.W.findIn K (.ref C_Lister) "undo" = some (some (.ref fm4))) (im4 : PySem.W.isFn K (.ref fm4) = true) (lm4 : K.lookup fm4 = some ⟨ocm4, odm4, .func (PySem.W.fnOf "undo" "Lister.undo" (defArgs s_Lister_undo) (defBody s_Lister_undo) (defScope s_Lister_undo) .none kVm4 dcm4 pmm4 anm4 cdm4 ctm4), slm4⟩) (cm4 : PySem.W.codeIn K cdm4 "Lister.undo" = true) (km4 : PySem.W.keepIn K (.ref fm4) = true)
    (am5 : PySem.W.findIn K (.ref C_Lister) "orders" = some (some (.ref fm5))) (im5 : PySem.W.isFn K (.ref fm5) = true) (lm5 : K.lookup fm5 = some ⟨ocm5, odm5, .func (PySem.W.fnOf "orders" "Lister.orders" (defArgs s_Lister_orders) (defBody s_Lister_orders) (defScope s_Lister_orders) .none kVm5 dcm5 pmm5 anm5 cdm5 ctm5), slm5⟩) (cm5 : PySem.W.codeIn K cdm5 "Lister.orders" = true) (km5 : PySem.W.keepIn K (.ref fm5) = true)
    (am6 : PySem.W.findIn K (.ref C_Lister) "least_apart" = some (some (.ref fm6))) (im6 : PySem.W.isFn K (.ref fm6) = true) (lm6 : K.lookup fm6 = some ⟨ocm6, odm6, .func (PySem.W.fnOf "least_apart" "Lister.least_apart" (defArgs s_Lister_least_apart) (defBody s_Lister_least_apart) (defScope s_Lister_least_apart) .none kVm6 dcm6 pmm6 anm6 cdm6 ctm6), slm6⟩) (cm6 : PySem.W.codeIn K cdm6 "Lister.least_apart" = true) (km6 : PySem.W.keepIn K (.ref fm6) = true)
    (am7 : PySem.W.findIn K (.ref C_Lister) "first_more" = some (some (.ref fm7))) (im7 : PySem.W.isFn K (.ref fm7) = true) (lm7 : K.lookup fm7 = some ⟨ocm7, odm7, .func (PySem.W.fnOf "first_more" "Lister.first_more" (defArgs s_Lister_first_more) (defBody s_Lister_first_more) (defScope s_Lister_first_more) .none kVm7 dcm7 pmm7 anm7 cdm7 ctm7), slm7⟩) (cm7 : PySem.W.codeIn K cdm7 "Lister.first_more" = true) (km7 : PySem.W.keepIn K (.ref fm7) = true)
    (am8 : PySem.W.findIn K (.ref C_Lister) "how_many_more" = some (some (.ref fm8))) (im8 : PySem.W.isFn K (.ref fm8) = true) (lm8 : K.lookup fm8 = some ⟨ocm8, odm8, .func (PySem.W.fnOf "how_many_more" "Lister.how_many_more" (defArgs s_Lister_how_many_more) (defBody s_Lister_how_many_more) (defScope s_Lister_how_many_more) .none kVm8 dcm8 pmm8 anm8 cdm8 ctm8), slm8⟩) (cm8 : PySem.W.codeIn K cdm8 "Lister.how_many_more" = true) (km8 : PySem.W.keepIn K (.ref fm8) = true)
    (pgC : PySem.W.plainGet K C_Lister Str.empty = true) (hdC : PySem.W.hasDictIn K C_Lister = true) (poC : PySem.W.plainOver K C_Lister = true) (saC : PySem.W.findIn K (.ref C_Lister) "__setattr__" = some (some (.builtin "object.__setattr__"))) (mkC : PySem.W.makesIn K C_Lister = true) (kcC : PySem.W.keepIn K (.ref C_Lister) = true)
    (nf_way : PySem.W.findIn K (.ref C_Lister) "way" = some none)
    (nf_n : PySem.W.findIn K (.ref C_Lister) "n" = some none)
    (nf_d : PySem.W.findIn K (.ref C_Lister) "d" = some none)
    (nf_taken : PySem.W.findIn K (.ref C_Lister) "taken" = some none)
    (nf_earlier : PySem.W.findIn K (.ref C_Lister) "earlier" = some none)
    (gc_OrderError : PySem.W.nsIn K mainGlobals "OrderError" = some (some (.ref C_OrderError)))
    (gc_NoOrder : PySem.W.nsIn K mainGlobals "NoOrder" = some (some (.ref C_NoOrder)))
    (gc_NoWay : PySem.W.nsIn K mainGlobals "NoWay" = some (some (.ref C_NoWay)))
    (gc_NoFit : PySem.W.nsIn K mainGlobals "NoFit" = some (some (.ref C_NoFit)))
    (gc_NoPlace : PySem.W.nsIn K mainGlobals "NoPlace" = some (some (.ref C_NoPlace)))
    (gc_NoNumber : PySem.W.nsIn K mainGlobals "NoNumber" = some (some (.ref C_NoNumber)))
    (gc_TooMany : PySem.W.nsIn K mainGlobals "TooMany" = some (some (.ref C_TooMany)))
    (gc_NoText : PySem.W.nsIn K mainGlobals "NoText" = some (some (.ref C_NoText)))
    (gc_NoName : PySem.W.nsIn K mainGlobals "NoName" = some (some (.ref C_NoName)))
    (gc_NoRow : PySem.W.nsIn K mainGlobals "NoRow" = some (some (.ref C_NoRow)))
    (xq_NoOrder : PySem.W.excIn K C_NoOrder [.type "ValueError", .type "Exception", .type "BaseException", .type "object"] "ValueError.__new__" = true) (xk_NoOrder : PySem.W.keepIn K (.ref C_NoOrder) = true) (xt_NoOrder : PySem.W.typeIn K (.ref C_NoOrder) = some (.type "type")) (xm_NoOrder : PySem.W.exmOne K (.ref C_NoOrder) (.ref C_OrderError) = some true) (xv_NoOrder : PySem.W.kitOne K (.ref C_NoOrder) (.type "ValueError") = some true)
    (xehg_NoOrder : PySem.W.findIn K (.ref C_NoOrder) "__getattribute__" = some (some (.builtin "BaseException.__getattribute__")))
    (xehk_NoOrder : PySem.W.findIn K (.ref C_NoOrder) "__getattr__" = some none)
    (xehs_NoOrder : PySem.W.subIn K (.ref C_NoOrder) (.type "BaseException") = some true)
    (xehd_NoOrder : PySem.W.hasDictIn K C_NoOrder = true)
    (xeha_NoOrder : PySem.W.findIn K (.ref C_NoOrder) "__class__" = some (some (.builtin "object.__class__")))
    (xehn_NoOrder : PySem.W.specialIn K (.builtin "object.__class__") "__get__" = some (some (.builtin "getset_descriptor.__get__")))
    (xeht_NoOrder : PySem.W.takesIn K (.builtin "object.__class__") = some true)
    (xehm_NoOrder : PySem.W.mroIn K C_NoOrder (.type "object") = some true)
    (xy_NoOrder_NoOrder : PySem.W.kitOne K (.ref C_NoOrder) (.ref C_NoOrder) = some true)
    (xy_NoOrder_NoWay : PySem.W.kitOne K (.ref C_NoOrder) (.ref C_NoWay) = some false)
    (xy_NoOrder_NoFit : PySem.W.kitOne K (.ref C_NoOrder) (.ref C_NoFit) = some false)
    (xy_NoOrder_NoPlace : PySem.W.kitOne K (.ref C_NoOrder) (.ref C_NoPlace) = some false)
    (xy_NoOrder_NoNumber : PySem.W.kitOne K (.ref C_NoOrder) (.ref C_NoNumber) = some false)
    (xy_NoOrder_TooMany : PySem.W.kitOne K (.ref C_NoOrder) (.ref C_TooMany) = some false)
    (xy_NoOrder_NoText : PySem.W.kitOne K (.ref C_NoOrder) (.ref C_NoText) = some false)
    (xy_NoOrder_NoName : PySem.W.kitOne K (.ref C_NoOrder) (.ref C_NoName) = some false)
    (xy_NoOrder_NoRow : PySem.W.kitOne K (.ref C_NoOrder) (.ref C_NoRow) = some false)
    (xq_NoWay : PySem.W.excIn K C_NoWay [.type "ValueError", .type "Exception", .type "BaseException", .type "object"] "ValueError.__new__" = true) (xk_NoWay : PySem.W.keepIn K (.ref C_NoWay) = true) (xt_NoWay : PySem.W.typeIn K (.ref C_NoWay) = some (.type "type")) (xm_NoWay : PySem.W.exmOne K (.ref C_NoWay) (.ref C_OrderError) = some true) (xv_NoWay : PySem.W.kitOne K (.ref C_NoWay) (.type "ValueError") = some true)
    (xehg_NoWay : PySem.W.findIn K (.ref C_NoWay) "__getattribute__" = some (some (.builtin "BaseException.__getattribute__")))
    (xehk_NoWay : PySem.W.findIn K (.ref C_NoWay) "__getattr__" = some none)
    (xehs_NoWay : PySem.W.subIn K (.ref C_NoWay) (.type "BaseException") = some true)
    (xehd_NoWay : PySem.W.hasDictIn K C_NoWay = true)
    (xeha_NoWay : PySem.W.findIn K (.ref C_NoWay) "__class__" = some (some (.builtin "object.__class__")))
    (xehn_NoWay : PySem.W.specialIn K (.builtin "object.__class__") "__get__" = some (some (.builtin "getset_descriptor.__get__")))
    (xeht_NoWay : PySem.W.takesIn K (.builtin "object.__class__") = some true)
    (xehm_NoWay : PySem.W.mroIn K C_NoWay (.type "object") = some true)
    (xy_NoWay_NoOrder : PySem.W.kitOne K (.ref C_NoWay) (.ref C_NoOrder) = some false)
    (xy_NoWay_NoWay : PySem.W.kitOne K (.ref C_NoWay) (.ref C_NoWay) = some true)
    (xy_NoWay_NoFit : PySem.W.kitOne K (.ref C_NoWay) (.ref C_NoFit) = some false)
    (xy_NoWay_NoPlace : PySem.W.kitOne K (.ref C_NoWay) (.ref C_NoPlace) = some false)
    (xy_NoWay_NoNumber : PySem.W.kitOne K (.ref C_NoWay) (.ref C_NoNumber) = some false)
    (xy_NoWay_TooMany : PySem.W.kitOne K (.ref C_NoWay) (.ref C_TooMany) = some false)
    (xy_NoWay_NoText : PySem.W.kitOne K (.ref C_NoWay) (.ref C_NoText) = some false)
    (xy_NoWay_NoName : PySem.W.kitOne K (.ref C_NoWay) (.ref C_NoName) = some false)
    (xy_NoWay_NoRow : PySem.W.kitOne K (.ref C_NoWay) (.ref C_NoRow) = some false)
    (xq_NoFit : PySem.W.excIn K C_NoFit [.type "ValueError", .type "Exception", .type "BaseException", .type "object"] "ValueError.__new__" = true) (xk_NoFit : PySem.W.keepIn K (.ref C_NoFit) = true) (xt_NoFit : PySem.W.typeIn K (.ref C_NoFit) = some (.type "type")) (xm_NoFit : PySem.W.exmOne K (.ref C_NoFit) (.ref C_OrderError) = some true) (xv_NoFit : PySem.W.kitOne K (.ref C_NoFit) (.type "ValueError") = some true)
    (xehg_NoFit : PySem.W.findIn K (.ref C_NoFit) "__getattribute__" = some (some (.builtin "BaseException.__getattribute__")))
    (xehk_NoFit : PySem.W.findIn K (.ref C_NoFit) "__getattr__" = some none)
    (xehs_NoFit : PySem.W.subIn K (.ref C_NoFit) (.type "BaseException") = some true)
    (xehd_NoFit : PySem.W.hasDictIn K C_NoFit = true)
    (xeha_NoFit : PySem.W.findIn K (.ref C_NoFit) "__class__" = some (some (.builtin "object.__class__")))
    (xehn_NoFit : PySem.W.specialIn K (.builtin "object.__class__") "__get__" = some (some (.builtin "getset_descriptor.__get__")))
    (xeht_NoFit : PySem.W.takesIn K (.builtin "object.__class__") = some true)
    (xehm_NoFit : PySem.W.mroIn K C_NoFit (.type "object") = some true)
    (xy_NoFit_NoOrder : PySem.W.kitOne K (.ref C_NoFit) (.ref C_NoOrder) = some false)
    (xy_NoFit_NoWay : PySem.W.kitOne K (.ref C_NoFit) (.ref C_NoWay) = some false)
    (xy_NoFit_NoFit : PySem.W.kitOne K (.ref C_NoFit) (.ref C_NoFit) = some true)
    (xy_NoFit_NoPlace : PySem.W.kitOne K (.ref C_NoFit) (.ref C_NoPlace) = some false)
    (xy_NoFit_NoNumber : PySem.W.kitOne K (.ref C_NoFit) (.ref C_NoNumber) = some false)
    (xy_NoFit_TooMany : PySem.W.kitOne K (.ref C_NoFit) (.ref C_TooMany) = some false)
    (xy_NoFit_NoText : PySem.W.kitOne K (.ref C_NoFit) (.ref C_NoText) = some false)
    (xy_NoFit_NoName : PySem.W.kitOne K (.ref C_NoFit) (.ref C_NoName) = some false)
    (xy_NoFit_NoRow : PySem.W.kitOne K (.ref C_NoFit) (.ref C_NoRow) = some false)
    (xq_NoNumber : PySem.W.excIn K C_NoNumber [.type "ValueError", .type "Exception", .type "BaseException", .type "object"] "ValueError.__new__" = true) (xk_NoNumber : PySem.W.keepIn K (.ref C_NoNumber) = true) (xt_NoNumber : PySem.W.typeIn K (.ref C_NoNumber) = some (.type "type")) (xm_NoNumber : PySem.W.exmOne K (.ref C_NoNumber) (.ref C_OrderError) = some true) (xv_NoNumber : PySem.W.kitOne K (.ref C_NoNumber) (.type "ValueError") = some true)
    (xehg_NoNumber : PySem.W.findIn K (.ref C_NoNumber) "__getattribute__" = some (some (.builtin "BaseException.__getattribute__")))
    (xehk_NoNumber : PySem.W.findIn K (.ref C_NoNumber) "__getattr__" = some none)
    (xehs_NoNumber : PySem.W.subIn K (.ref C_NoNumber) (.type "BaseException") = some true)
    (xehd_NoNumber : PySem.W.hasDictIn K C_NoNumber = true)
    (xeha_NoNumber : PySem.W.findIn K (.ref C_NoNumber) "__class__" = some (some (.builtin "object.__class__")))
    (xehn_NoNumber : PySem.W.specialIn K (.builtin "object.__class__") "__get__" = some (some (.builtin "getset_descriptor.__get__")))
    (xeht_NoNumber : PySem.W.takesIn K (.builtin "object.__class__") = some true)
    (xehm_NoNumber : PySem.W.mroIn K C_NoNumber (.type "object") = some true)
    (xy_NoNumber_NoOrder : PySem.W.kitOne K (.ref C_NoNumber) (.ref C_NoOrder) = some false)
    (xy_NoNumber_NoWay : PySem.W.kitOne K (.ref C_NoNumber) (.ref C_NoWay) = some false)
    (xy_NoNumber_NoFit : PySem.W.kitOne K (.ref C_NoNumber) (.ref C_NoFit) = some false)
    (xy_NoNumber_NoPlace : PySem.W.kitOne K (.ref C_NoNumber) (.ref C_NoPlace) = some false)
    (xy_NoNumber_NoNumber : PySem.W.kitOne K (.ref C_NoNumber) (.ref C_NoNumber) = some true)
    (xy_NoNumber_TooMany : PySem.W.kitOne K (.ref C_NoNumber) (.ref C_TooMany) = some false)
    (xy_NoNumber_NoText : PySem.W.kitOne K (.ref C_NoNumber) (.ref C_NoText) = some false)
    (xy_NoNumber_NoName : PySem.W.kitOne K (.ref C_NoNumber) (.ref C_NoName) = some false)
    (xy_NoNumber_NoRow : PySem.W.kitOne K (.ref C_NoNumber) (.ref C_NoRow) = some false)
    (xq_TooMany : PySem.W.excIn K C_TooMany [.type "ValueError", .type "Exception", .type "BaseException", .type "object"] "ValueError.__new__" = true) (xk_TooMany : PySem.W.keepIn K (.ref C_TooMany) = true) (xt_TooMany : PySem.W.typeIn K (.ref C_TooMany) = some (.type "type")) (xm_TooMany : PySem.W.exmOne K (.ref C_TooMany) (.ref C_OrderError) = some true) (xv_TooMany : PySem.W.kitOne K (.ref C_TooMany) (.type "ValueError") = some true)
    (xehg_TooMany : PySem.W.findIn K (.ref C_TooMany) "__getattribute__" = some (some (.builtin "BaseException.__getattribute__")))
    (xehk_TooMany : PySem.W.findIn K (.ref C_TooMany) "__getattr__" = some none)
    (xehs_TooMany : PySem.W.subIn K (.ref C_TooMany) (.type "BaseException") = some true)
    (xehd_TooMany : PySem.W.hasDictIn K C_TooMany = true)
    (xeha_TooMany : PySem.W.findIn K (.ref C_TooMany) "__class__" = some (some (.builtin "object.__class__")))
    (xehn_TooMany : PySem.W.specialIn K (.builtin "object.__class__") "__get__" = some (some (.builtin "getset_descriptor.__get__")))
    (xeht_TooMany : PySem.W.takesIn K (.builtin "object.__class__") = some true)
    (xehm_TooMany : PySem.W.mroIn K C_TooMany (.type "object") = some true)
    (xy_TooMany_NoOrder : PySem.W.kitOne K (.ref C_TooMany) (.ref C_NoOrder) = some false)
    (xy_TooMany_NoWay : PySem.W.kitOne K (.ref C_TooMany) (.ref C_NoWay) = some false)
    (xy_TooMany_NoFit : PySem.W.kitOne K (.ref C_TooMany) (.ref C_NoFit) = some false)
    (xy_TooMany_NoPlace : PySem.W.kitOne K (.ref C_TooMany) (.ref C_NoPlace) = some false)
    (xy_TooMany_NoNumber : PySem.W.kitOne K (.ref C_TooMany) (.ref C_NoNumber) = some false)
    (xy_TooMany_TooMany : PySem.W.kitOne K (.ref C_TooMany) (.ref C_TooMany) = some true)
    (xy_TooMany_NoText : PySem.W.kitOne K (.ref C_TooMany) (.ref C_NoText) = some false)
    (xy_TooMany_NoName : PySem.W.kitOne K (.ref C_TooMany) (.ref C_NoName) = some false)
    (xy_TooMany_NoRow : PySem.W.kitOne K (.ref C_TooMany) (.ref C_NoRow) = some false)
    (z_ValueError : PySem.W.nsIn K mainGlobals "ValueError" = some none)
    (z_abs : PySem.W.nsIn K mainGlobals "abs" = some none)
    (z_all : PySem.W.nsIn K mainGlobals "all" = some none)
    (z_bool : PySem.W.nsIn K mainGlobals "bool" = some none)
    (z_enumerate : PySem.W.nsIn K mainGlobals "enumerate" = some none)
    (z_int : PySem.W.nsIn K mainGlobals "int" = some none)
    (z_isinstance : PySem.W.nsIn K mainGlobals "isinstance" = some none)
    (z_len : PySem.W.nsIn K mainGlobals "len" = some none)
    (z_list : PySem.W.nsIn K mainGlobals "list" = some none)
    (z_max : PySem.W.nsIn K mainGlobals "max" = some none)
    (z_min : PySem.W.nsIn K mainGlobals "min" = some none)
    (z_range : PySem.W.nsIn K mainGlobals "range" = some none)
    (z_sorted : PySem.W.nsIn K mainGlobals "sorted" = some none)
    (z_str : PySem.W.nsIn K mainGlobals "str" = some none)
    (z_tuple : PySem.W.nsIn K mainGlobals "tuple" = some none)
    (z_zip : PySem.W.nsIn K mainGlobals "zip" = some none)
    {tc_is_far tp_is_far : Addr} {to_is_far : Value} {td_is_far : Option Addr} {tv_is_far : Array Value} {ts_is_far : Array (Option Value)}
    (e_is_far : cd16 = .ref tc_is_far) (u_is_far : K.lookup tc_is_far = some ⟨to_is_far, td_is_far, .fields tv_is_far, ts_is_far⟩) (v_is_far : tv_is_far[11]? = some (.ref tp_is_far)) (n_is_far : K.lookup tp_is_far = none)
    (tabs : ∀ y ∈ ["is_far"], ∀ c P, PySem.W.tabIn K y = some (c, P) → PySem.W.CodeHd h c P ∧ h.get? P = some { cls := .none, data := .fields #[] })
    : LamX.LawAtS l w K CX0 40 63 "script" mg fa h := by
  have e := hfa.symm.trans (PySem.W.mg_of X G a36)
  cases e
  have t_is_far := tab_mk a16 l16 e_is_far u_is_far v_is_far
  have F0 := fun_mk (st := s_is_whole) l0 c0 k0
  have F1 := fun_mk (st := s_check_way) l1 c1 k1
  have F2 := fun_mk (st := s_check_from) l2 c2 k2
  have F3 := fun_mk (st := s_check_size) l3 c3 k3
  have F4 := fun_mk (st := s_check_few) l4 c4 k4
  have F5 := fun_mk (st := s_check_apart) l5 c5 k5
  have F6 := fun_mk (st := s_is_order) l6 c6 k6
  have F7 := fun_mk (st := s_check_order) l7 c7 k7
  have F8 := fun_mk (st := s_places_in) l8 c8 k8
  have F9 := fun_mk (st := s_seats_in) l9 c9 k9
  have F10 := fun_mk (st := s_known_far) l10 c10 k10
  have F11 := fun_mk (st := s_far_by_swap) l11 c11 k11
  have F12 := fun_mk (st := s_far_by_spot) l12 c12 k12
  have F13 := fun_mk (st := s_far_by_shift) l13 c13 k13
  have F14 := fun_mk (st := s_all_orders) l14 c14 k14
  have F15 := fun_mk (st := s_orders_with) l15 c15 k15
  have F16 := fun_mk (st := s_is_far) l16 c16 k16
  have F17 := fun_mk (st := s_check_many) l17 c17 k17
  have F18 := fun_mk (st := s_law_cell_at) l18 c18 k18
  have F19 := fun_mk (st := s_law_stir) l19 c19 k19
  have F20 := fun_mk (st := s_law_deck) l20 c20 k20
  have F21 := fun_mk (st := s_law_next) l21 c21 k21
  have F22 := fun_mk (st := s_law_order) l22 c22 k22
  have F23 := fun_mk (st := s_law_places) l23 c23 k23
  have F24 := fun_mk (st := s_law_far) l24 c24 k24
  have F25 := fun_mk (st := s_law_whole) l25 c25 k25
  have F26 := fun_mk (st := s_law_no_order) l26 c26 k26
  have F27 := fun_mk (st := s_law_word) l27 c27 k27
  have F28 := fun_mk (st := s_law_said) l28 c28 k28
  have F29 := fun_mk (st := s_law_numbered) l29 c29 k29
  have F30 := fun_mk (st := s_law_room_right) l30 c30 k30
  have F31 := fun_mk (st := s_law_least_right) l31 c31 k31
  have F32 := fun_mk (st := s_law_even) l32 c32 k32
  have F33 := fun_mk (st := s_law_filled_right) l33 c33 k33
  have F34 := fun_mk (st := s_law_undone_right) l34 c34 k34
  have F35 := fun_mk (st := s_law_gone_right) l35 c35 k35
  have F36 := fun_mk (st := s_law) l36 c36 k36
  have T_is_whole : Df K mg "is_whole" s_is_whole ["thing"] f0 _ := ⟨F0, F0.binds (ps := ["thing"]) (fun _ _ _ _ _ _ us hl => match us, hl with | [_], _ => rfl), PySem.W.mg_of X G a0⟩
  have T_check_way : Df K mg "check_way" s_check_way ["thing"] f1 _ := ⟨F1, F1.binds (ps := ["thing"]) (fun _ _ _ _ _ _ us hl => match us, hl with | [_], _ => rfl), PySem.W.mg_of X G a1⟩
  have T_check_from : Df K mg "check_from" s_check_from ["thing", "least"] f2 _ := ⟨F2, F2.binds (ps := ["thing", "least"]) (fun _ _ _ _ _ _ us hl => match us, hl with | [_, _], _ => rfl), PySem.W.mg_of X G a2⟩
  have T_check_size : Df K mg "check_size" s_check_size ["thing", "most"] f3 _ := ⟨F3, F3.binds (ps := ["thing", "most"]) (fun _ _ _ _ _ _ us hl => match us, hl with | [_, _], _ => rfl), PySem.W.mg_of X G a3⟩
  have T_check_few : Df K mg "check_few" s_check_few ["n", "most"] f4 _ := ⟨F4, F4.binds (ps := ["n", "most"]) (fun _ _ _ _ _ _ us hl => match us, hl with | [_, _], _ => rfl), PySem.W.mg_of X G a4⟩
  have T_check_apart : Df K mg "check_apart" s_check_apart ["way", "n", "most", "d"] f5 _ := ⟨F5, F5.binds (ps := ["way", "n", "most", "d"]) (fun _ _ _ _ _ _ us hl => match us, hl with | [_, _, _, _], _ => rfl), PySem.W.mg_of X G a5⟩
  have T_is_order : Df K mg "is_order" s_is_order ["thing"] f6 _ := ⟨F6, F6.binds (ps := ["thing"]) (fun _ _ _ _ _ _ us hl => match us, hl with | [_], _ => rfl), PySem.W.mg_of X G a6⟩
  have T_check_order : Df K mg "check_order" s_check_order ["thing"] f7 _ := ⟨F7, F7.binds (ps := ["thing"]) (fun _ _ _ _ _ _ us hl => match us, hl with | [_], _ => rfl), PySem.W.mg_of X G a7⟩
  have T_places_in : Df K mg "places_in" s_places_in ["order"] f8 _ := ⟨F8, F8.binds (ps := ["order"]) (fun _ _ _ _ _ _ us hl => match us, hl with | [_], _ => rfl), PySem.W.mg_of X G a8⟩
  have T_seats_in : Df K mg "seats_in" s_seats_in ["one", "other"] f9 _ := ⟨F9, F9.binds (ps := ["one", "other"]) (fun _ _ _ _ _ _ us hl => match us, hl with | [_, _], _ => rfl), PySem.W.mg_of X G a9⟩
  have T_known_far : Df K mg "known_far" s_known_far ["way", "one", "other"] f10 _ := ⟨F10, F10.binds (ps := ["way", "one", "other"]) (fun _ _ _ _ _ _ us hl => match us, hl with | [_, _, _], _ => rfl), PySem.W.mg_of X G a10⟩
  have T_far_by_swap : Df K mg "far_by_swap" s_far_by_swap ["one", "other"] f11 _ := ⟨F11, F11.binds (ps := ["one", "other"]) (fun _ _ _ _ _ _ us hl => match us, hl with | [_, _], _ => rfl), PySem.W.mg_of X G a11⟩
  have T_far_by_spot : Df K mg "far_by_spot" s_far_by_spot ["one", "other"] f12 _ := ⟨F12, F12.binds (ps := ["one", "other"]) (fun _ _ _ _ _ _ us hl => match us, hl with | [_, _], _ => rfl), PySem.W.mg_of X G a12⟩
  have T_far_by_shift : Df K mg "far_by_shift" s_far_by_shift ["one", "other"] f13 _ := ⟨F13, F13.binds (ps := ["one", "other"]) (fun _ _ _ _ _ _ us hl => match us, hl with | [_, _], _ => rfl), PySem.W.mg_of X G a13⟩
  have T_all_orders : Df K mg "all_orders" s_all_orders ["n"] f14 _ := ⟨F14, F14.binds (ps := ["n"]) (fun _ _ _ _ _ _ us hl => match us, hl with | [_], _ => rfl), PySem.W.mg_of X G a14⟩
  have T_orders_with : Df K mg "orders_with" s_orders_with ["choices"] f15 _ := ⟨F15, F15.binds (ps := ["choices"]) (fun _ _ _ _ _ _ us hl => match us, hl with | [_], _ => rfl), PySem.W.mg_of X G a15⟩
  have T_is_far : DfC K mg "is_far" s_is_far ["way", "d", "order", "others"] f16 _ tc_is_far := ⟨F16, F16.binds (ps := ["way", "d", "order", "others"]) (fun _ _ _ _ _ _ us hl => match us, hl with | [_, _, _, _], _ => rfl), PySem.W.mg_of X G a16, tab_code t_is_far a16 l16⟩
  have T_check_many : Df K mg "check_many" s_check_many ["many"] f17 _ := ⟨F17, F17.binds (ps := ["many"]) (fun _ _ _ _ _ _ us hl => match us, hl with | [_], _ => rfl), PySem.W.mg_of X G a17⟩
  have T__law_cell_at : Df K mg "_law_cell_at" s_law_cell_at ["script", "k"] f18 _ := ⟨F18, F18.binds (ps := ["script", "k"]) (fun _ _ _ _ _ _ us hl => match us, hl with | [_, _], _ => rfl), PySem.W.mg_of X G a18⟩
  have T__law_stir : Df K mg "_law_stir" s_law_stir ["cell", "k"] f19 _ := ⟨F19, F19.binds (ps := ["cell", "k"]) (fun _ _ _ _ _ _ us hl => match us, hl with | [_, _], _ => rfl), PySem.W.mg_of X G a19⟩
  have T__law_deck : Df K mg "_law_deck" s_law_deck ["cell", "many"] f20 _ := ⟨F20, F20.binds (ps := ["cell", "many"]) (fun _ _ _ _ _ _ us hl => match us, hl with | [_, _], _ => rfl), PySem.W.mg_of X G a20⟩
  have T__law_next : Df K mg "_law_next" s_law_next ["deck"] f21 _ := ⟨F21, F21.binds (ps := ["deck"]) (fun _ _ _ _ _ _ us hl => match us, hl with | [_], _ => rfl), PySem.W.mg_of X G a21⟩
  have T__law_order : Df K mg "_law_order" s_law_order ["deck", "n"] f22 _ := ⟨F22, F22.binds (ps := ["deck", "n"]) (fun _ _ _ _ _ _ us hl => match us, hl with | [_, _], _ => rfl), PySem.W.mg_of X G a22⟩
  have T__law_places : Df K mg "_law_places" s_law_places ["order"] f23 _ := ⟨F23, F23.binds (ps := ["order"]) (fun _ _ _ _ _ _ us hl => match us, hl with | [_], _ => rfl), PySem.W.mg_of X G a23⟩
  have T__law_far : Df K mg "_law_far" s_law_far ["way", "one", "other"] f24 _ := ⟨F24, F24.binds (ps := ["way", "one", "other"]) (fun _ _ _ _ _ _ us hl => match us, hl with | [_, _, _], _ => rfl), PySem.W.mg_of X G a24⟩
  have T__law_whole : Df K mg "_law_whole" s_law_whole ["thing"] f25 _ := ⟨F25, F25.binds (ps := ["thing"]) (fun _ _ _ _ _ _ us hl => match us, hl with | [_], _ => rfl), PySem.W.mg_of X G a25⟩
  have T__law_no_order : Df K mg "_law_no_order" s_law_no_order ["deck", "n"] f26 _ := ⟨F26, F26.binds (ps := ["deck", "n"]) (fun _ _ _ _ _ _ us hl => match us, hl with | [_, _], _ => rfl), PySem.W.mg_of X G a26⟩
  have T__law_word : Df K mg "_law_word" s_law_word ["caught"] f27 _ := ⟨F27, F27.binds (ps := ["caught"]) (fun _ _ _ _ _ _ us hl => match us, hl with | [_], _ => rfl), PySem.W.mg_of X G a27⟩
  have T__law_said : Df K mg "_law_said" s_law_said ["lister", "word", "order"] f28 _ := ⟨F28, F28.binds (ps := ["lister", "word", "order"]) (fun _ _ _ _ _ _ us hl => match us, hl with | [_, _, _], _ => rfl), PySem.W.mg_of X G a28⟩
  have T__law_numbered : Df K mg "_law_numbered" s_law_numbered ["n", "number"] f29 _ := ⟨F29, F29.binds (ps := ["n", "number"]) (fun _ _ _ _ _ _ us hl => match us, hl with | [_, _], _ => rfl), PySem.W.mg_of X G a29⟩
  have T__law_room_right : Df K mg "_law_room_right" s_law_room_right ["lister", "gone"] f30 _ := ⟨F30, F30.binds (ps := ["lister", "gone"]) (fun _ _ _ _ _ _ us hl => match us, hl with | [_, _], _ => rfl), PySem.W.mg_of X G a30⟩
  have T__law_least_right : Df K mg "_law_least_right" s_law_least_right ["lister", "way", "held"] f31 _ := ⟨F31, F31.binds (ps := ["lister", "way", "held"]) (fun _ _ _ _ _ _ us hl => match us, hl with | [_, _, _], _ => rfl), PySem.W.mg_of X G a31⟩
  have T__law_even : Df K mg "_law_even" s_law_even ["order", "d"] f32 _ := ⟨F32, F32.binds (ps := ["order", "d"]) (fun _ _ _ _ _ _ us hl => match us, hl with | [_, _], _ => rfl), PySem.W.mg_of X G a32⟩
  have T__law_filled_right : Df K mg "_law_filled_right" s_law_filled_right ["deck", "lister", "way", "d", "held"] f33 _ := ⟨F33, F33.binds (ps := ["deck", "lister", "way", "d", "held"]) (fun _ _ _ _ _ _ us hl => match us, hl with | [_, _, _, _, _], _ => rfl), PySem.W.mg_of X G a33⟩
  have T__law_undone_right : Df K mg "_law_undone_right" s_law_undone_right ["deck", "lister", "held"] f34 _ := ⟨F34, F34.binds (ps := ["deck", "lister", "held"]) (fun _ _ _ _ _ _ us hl => match us, hl with | [_, _, _], _ => rfl), PySem.W.mg_of X G a34⟩
  have T__law_gone_right : Df K mg "_law_gone_right" s_law_gone_right ["deck", "lister", "n", "held", "more", "again"] f35 _ := ⟨F35, F35.binds (ps := ["deck", "lister", "n", "held", "more", "again"]) (fun _ _ _ _ _ _ us hl => match us, hl with | [_, _, _, _, _, _], _ => rfl), PySem.W.mg_of X G a35⟩
  have FM0 := fun_mk (st := s_Lister___init__) lm0 cm0 km0
  have T_Lister_init : Dm K C_Lister "__init__" "Lister.__init__" s_Lister___init__ ["self", "way", "n", "d"] fm0 _ := ⟨FM0, FM0.binds (ps := ["self", "way", "n", "d"]) (fun _ _ _ _ _ _ us hl => match us, hl with | [_, _, _, _], _ => rfl), am0, im0⟩
  have FM1 := fun_mk (st := s_Lister_come) lm1 cm1 km1
  have T_Lister_come : Dm K C_Lister "come" "Lister.come" s_Lister_come ["self", "order"] fm1 _ := ⟨FM1, FM1.binds (ps := ["self", "order"]) (fun _ _ _ _ _ _ us hl => match us, hl with | [_, _], _ => rfl), am1, im1⟩
  have FM2 := fun_mk (st := s_Lister_drop) lm2 cm2 km2
  have T_Lister_drop : Dm K C_Lister "drop" "Lister.drop" s_Lister_drop ["self", "order"] fm2 _ := ⟨FM2, FM2.binds (ps := ["self", "order"]) (fun _ _ _ _ _ _ us hl => match us, hl with | [_, _], _ => rfl), am2, im2⟩
  have FM3 := fun_mk (st := s_Lister_change_to) lm3 cm3 km3
  have T_Lister_change_to : Dm K C_Lister "change_to" "Lister.change_to" s_Lister_change_to ["self", "orders"] fm3 _ := ⟨FM3, FM3.binds (ps := ["self", "orders"]) (fun _ _ _ _ _ _ us hl => match us, hl with | [_, _], _ => rfl), am3, im3⟩
  have FM4 := fun_mk (st := s_Lister_undo) lm4 cm4 km4
  have T_Lister_undo : Dm K C_Lister "undo" "Lister.undo" s_Lister_undo ["self"] fm4 _ := ⟨FM4, FM4.binds (ps := ["self"]) (fun _ _ _ _ _ _ us hl => match us, hl with | [_], _ => rfl), am4, im4⟩
  have FM5 := fun_mk (st := s_Lister_orders) lm5 cm5 km5
  have T_Lister_orders : Dm K C_Lister "orders" "Lister.orders" s_Lister_orders ["self"] fm5 _ := ⟨FM5, FM5.binds (ps := ["self"]) (fun _ _ _ _ _ _ us hl => match us, hl with | [_], _ => rfl), am5, im5⟩
  have FM6 := fun_mk (st := s_Lister_least_apart) lm6 cm6 km6
  have T_Lister_least_apart : Dm K C_Lister "least_apart" "Lister.least_apart" s_Lister_least_apart ["self"] fm6 _ := ⟨FM6, FM6.binds (ps := ["self"]) (fun _ _ _ _ _ _ us hl => match us, hl with | [_], _ => rfl), am6, im6⟩
  have FM7 := fun_mk (st := s_Lister_first_more) lm7 cm7 km7
  have T_Lister_first_more : Dm K C_Lister "first_more" "Lister.first_more" s_Lister_first_more ["self"] fm7 _ := ⟨FM7, FM7.binds (ps := ["self"]) (fun _ _ _ _ _ _ us hl => match us, hl with | [_], _ => rfl), am7, im7⟩
  have FM8 := fun_mk (st := s_Lister_how_many_more) lm8 cm8 km8
  have T_Lister_how_many_more : Dm K C_Lister "how_many_more" "Lister.how_many_more" s_Lister_how_many_more ["self"] fm8 _ := ⟨FM8, FM8.binds (ps := ["self"]) (fun _ _ _ _ _ _ us hl => match us, hl with | [_], _ => rfl), am8, im8⟩
  have T_Lister : TxL K mg C_Lister fm0 := ⟨⟨pgC, hdC, poC, saC⟩, ⟨mkC, am0, im0, kcC⟩, PySem.W.mg_of X G aC_Lister, nf_way, nf_n, nf_d, nf_taken, nf_earlier⟩
  have B : Bi mg := ⟨PySem.W.mg_none_of X G z_ValueError, PySem.W.mg_none_of X G z_abs, PySem.W.mg_none_of X G z_all, PySem.W.mg_none_of X G z_bool, PySem.W.mg_none_of X G z_enumerate, PySem.W.mg_none_of X G z_int, PySem.W.mg_none_of X G z_isinstance, PySem.W.mg_none_of X G z_len, PySem.W.mg_none_of X G z_list, PySem.W.mg_none_of X G z_max, PySem.W.mg_none_of X G z_min, PySem.W.mg_none_of X G z_range, PySem.W.mg_none_of X G z_sorted, PySem.W.mg_none_of X G z_str, PySem.W.mg_none_of X G z_tuple, PySem.W.mg_none_of X G z_zip⟩
  have m_WAYS := wy_mk (PySem.W.mg_of X G g_WAYS) l_WAYS
  have m_MOST_THINGS := PySem.W.mg_of X G g_MOST_THINGS
  have m_MOST_LISTED := PySem.W.mg_of X G g_MOST_LISTED
  have m_MOST_ORDERS := PySem.W.mg_of X G g_MOST_ORDERS
  have m_MOST_KEPT := PySem.W.mg_of X G g_MOST_KEPT
  have g_OrderError := PySem.W.mg_of X G gc_OrderError
  have g_NoOrder := PySem.W.mg_of X G gc_NoOrder
  have g_NoWay := PySem.W.mg_of X G gc_NoWay
  have g_NoFit := PySem.W.mg_of X G gc_NoFit
  have g_NoPlace := PySem.W.mg_of X G gc_NoPlace
  have g_NoNumber := PySem.W.mg_of X G gc_NoNumber
  have g_TooMany := PySem.W.mg_of X G gc_TooMany
  have g_NoText := PySem.W.mg_of X G gc_NoText
  have g_NoName := PySem.W.mg_of X G gc_NoName
  have g_NoRow := PySem.W.mg_of X G gc_NoRow
  have ec_NoOrder : ExcC K C_NoOrder := ⟨xehg_NoOrder, xehk_NoOrder, xehs_NoOrder, xehd_NoOrder, xeha_NoOrder, xehn_NoOrder, xeht_NoOrder, xehm_NoOrder⟩
  have X_NoOrder : ExK K mg "NoOrder" C_NoOrder := ⟨g_NoOrder, xq_NoOrder, xk_NoOrder, xehs_NoOrder, xt_NoOrder, ec_NoOrder⟩
  have kd_NoOrder := kd_mk9 (i := 0) ec_NoOrder xy_NoOrder_NoOrder xy_NoOrder_NoWay xy_NoOrder_NoFit xy_NoOrder_NoPlace xy_NoOrder_NoNumber xy_NoOrder_TooMany xy_NoOrder_NoText xy_NoOrder_NoName xy_NoOrder_NoRow xv_NoOrder (by decide)
  have ec_NoWay : ExcC K C_NoWay := ⟨xehg_NoWay, xehk_NoWay, xehs_NoWay, xehd_NoWay, xeha_NoWay, xehn_NoWay, xeht_NoWay, xehm_NoWay⟩
  have X_NoWay : ExK K mg "NoWay" C_NoWay := ⟨g_NoWay, xq_NoWay, xk_NoWay, xehs_NoWay, xt_NoWay, ec_NoWay⟩
  have kd_NoWay := kd_mk9 (i := 1) ec_NoWay xy_NoWay_NoOrder xy_NoWay_NoWay xy_NoWay_NoFit xy_NoWay_NoPlace xy_NoWay_NoNumber xy_NoWay_TooMany xy_NoWay_NoText xy_NoWay_NoName xy_NoWay_NoRow xv_NoWay (by decide)
  have ec_NoFit : ExcC K C_NoFit := ⟨xehg_NoFit, xehk_NoFit, xehs_NoFit, xehd_NoFit, xeha_NoFit, xehn_NoFit, xeht_NoFit, xehm_NoFit⟩
  have X_NoFit : ExK K mg "NoFit" C_NoFit := ⟨g_NoFit, xq_NoFit, xk_NoFit, xehs_NoFit, xt_NoFit, ec_NoFit⟩
  have kd_NoFit := kd_mk9 (i := 2) ec_NoFit xy_NoFit_NoOrder xy_NoFit_NoWay xy_NoFit_NoFit xy_NoFit_NoPlace xy_NoFit_NoNumber xy_NoFit_TooMany xy_NoFit_NoText xy_NoFit_NoName xy_NoFit_NoRow xv_NoFit (by decide)
  have ec_NoNumber : ExcC K C_NoNumber := ⟨xehg_NoNumber, xehk_NoNumber, xehs_NoNumber, xehd_NoNumber, xeha_NoNumber, xehn_NoNumber, xeht_NoNumber, xehm_NoNumber⟩
  have X_NoNumber : ExK K mg "NoNumber" C_NoNumber := ⟨g_NoNumber, xq_NoNumber, xk_NoNumber, xehs_NoNumber, xt_NoNumber, ec_NoNumber⟩
  have kd_NoNumber := kd_mk9 (i := 4) ec_NoNumber xy_NoNumber_NoOrder xy_NoNumber_NoWay xy_NoNumber_NoFit xy_NoNumber_NoPlace xy_NoNumber_NoNumber xy_NoNumber_TooMany xy_NoNumber_NoText xy_NoNumber_NoName xy_NoNumber_NoRow xv_NoNumber (by decide)
  have ec_TooMany : ExcC K C_TooMany := ⟨xehg_TooMany, xehk_TooMany, xehs_TooMany, xehd_TooMany, xeha_TooMany, xehn_TooMany, xeht_TooMany, xehm_TooMany⟩
  have X_TooMany : ExK K mg "TooMany" C_TooMany := ⟨g_TooMany, xq_TooMany, xk_TooMany, xehs_TooMany, xt_TooMany, ec_TooMany⟩
  have kd_TooMany := kd_mk9 (i := 5) ec_TooMany xy_TooMany_NoOrder xy_TooMany_NoWay xy_TooMany_NoFit xy_TooMany_NoPlace xy_TooMany_NoNumber xy_TooMany_TooMany xy_TooMany_NoText xy_TooMany_NoName xy_TooMany_NoRow xv_TooMany (by decide)
  refine ⟨PySem.W.fnOf "law" "law" (defArgs s_law) (defBody s_law) (defScope s_law) .none kV36 dc36 pm36 an36 cd36 ct36, [(tc_is_far, tp_is_far)], spLaw K tp_is_far, ?_, ?_, ?_, fun s v => .of_eq rfl, fun H a ns hl _ hT hS => ⟨a, ns, rfl, hS, hl, ⟨#[], hT (tc_is_far, tp_is_far) (by simp), trivial⟩, fun _ => rfl⟩, fun base _ _ TBs => ?_⟩
  · rintro p hp
    simp only [List.mem_cons, List.not_mem_nil, or_false] at hp
    rcases hp with rfl
    · exact (tabs "is_far" (by simp) _ _ t_is_far).2
  · rintro p hp
    simp only [List.mem_cons, List.not_mem_nil, or_false] at hp
    rcases hp with rfl
    · exact n_is_far
  · rintro p hp
    simp only [List.mem_cons, List.not_mem_nil, or_false] at hp
    rcases hp with rfl
    · exact (tabs "is_far" (by simp) _ _ t_is_far).1
  have TB_is_far := TBs (tc_is_far, tp_is_far) (by simp)
  exact ok_law (c := cls9 C_NoOrder C_NoWay C_NoFit C_NoPlace C_NoNumber C_TooMany C_NoText C_NoName C_NoRow) F36 T_Lister T_Lister_init T_Lister_orders T__law_deck T__law_cell_at T__law_next T__law_order T__law_numbered T__law_even T__law_filled_right T__law_no_order T__law_said T__law_gone_right T__law_least_right T__law_undone_right (ok_initL (k := 37) T_Lister_init T_Lister T_check_apart (ok_apart (k := 34) T_check_apart T_check_way T_check_size T_check_from T_is_whole m_WAYS B) m_MOST_KEPT) (ok_ordersL (k := 38) T_Lister_orders T_Lister B) (ok_deckN (k := 37) T__law_deck T__law_stir B) (ok_cell (k := 38) T__law_cell_at B) (ok_next (k := 37) T__law_next T__law_stir B) (ok_orderN (k := 38) T__law_order T__law_next (ok_next (k := 36) T__law_next T__law_stir B) B) (ok_numF (k := 38) T__law_numbered B) (ok_even74 (k := 38) T__law_even T__law_far (ok_lfar (k := 37) T__law_far T__law_places (ok_pld (k := 36) T__law_places B) B) B) (ok_fill74 (k := 38) (c := cls9 C_NoOrder C_NoWay C_NoFit C_NoPlace C_NoNumber C_TooMany C_NoText C_NoName C_NoRow) T__law_filled_right T_Lister T__law_next T__law_far T__law_said T_Lister_come (ok_next (k := 36) T__law_next T__law_stir B) (ok_lfar (k := 37) T__law_far T__law_places (ok_pld (k := 36) T__law_places B) B) (ok_saidL (k := 37) (c := cls9 C_NoOrder C_NoWay C_NoFit C_NoPlace C_NoNumber C_TooMany C_NoText C_NoName C_NoRow) T__law_said T_Lister T_Lister_come T_Lister_drop T_Lister_undo T__law_word (fn_or (fn_up (ok_comeL (k := 36) T_Lister_come T_Lister T_check_order (ok_check (k := 33) T_check_order T_is_order T_is_whole B m_MOST_THINGS) T_check_many (ok_manyOk (k := 35) T_check_many m_MOST_ORDERS) T_known_far (ok_known (k := 35) T_known_far T_far_by_swap T_far_by_spot T_far_by_shift (ok_swap (k := 34) T_far_by_swap T_seats_in (ok_seats (k := 32) T_seats_in T_places_in B) B) (ok_spot (k := 34) T_far_by_spot B) (ok_shift (k := 34) T_far_by_shift T_seats_in (ok_seats (k := 32) T_seats_in T_places_in B) B)) T_Lister_change_to (ok_changeL (k := 35) T_Lister_change_to T_Lister) B)) (ok_comeR (k := 36) T_Lister_come T_Lister T_check_order (ok_chk (k := 35) T_check_order T_is_order (ok_isOrdD (k := 33) T_is_order T_is_whole B m_MOST_THINGS) X_NoOrder) T_check_many (ok_manyX (k := 35) T_check_many m_MOST_ORDERS X_TooMany) T_known_far (ok_known (k := 35) T_known_far T_far_by_swap T_far_by_spot T_far_by_shift (ok_swap (k := 34) T_far_by_swap T_seats_in (ok_seats (k := 32) T_seats_in T_places_in B) B) (ok_spot (k := 34) T_far_by_spot B) (ok_shift (k := 34) T_far_by_shift T_seats_in (ok_seats (k := 32) T_seats_in T_places_in B) B)) T_Lister_change_to (ok_changeL (k := 35) T_Lister_change_to T_Lister) X_NoFit B)) (fn_or (fn_up (ok_dropL (k := 36) T_Lister_drop T_Lister T_check_order (ok_check (k := 33) T_check_order T_is_order T_is_whole B m_MOST_THINGS) T_Lister_change_to (ok_changeL (k := 35) T_Lister_change_to T_Lister) B)) (ok_dropR (k := 36) T_Lister_drop T_Lister T_check_order (ok_chk (k := 35) T_check_order T_is_order (ok_isOrdD (k := 33) T_is_order T_is_whole B m_MOST_THINGS) X_NoOrder) T_Lister_change_to (ok_changeL (k := 35) T_Lister_change_to T_Lister) X_NoFit B)) (ok_undoL (k := 36) T_Lister_undo T_Lister X_NoNumber B) (ok_wordY (k := 36) (c := cls9 C_NoOrder C_NoWay C_NoFit C_NoPlace C_NoNumber C_TooMany C_NoText C_NoName C_NoRow) T__law_word g_NoOrder g_NoWay g_NoFit g_NoPlace g_NoNumber g_TooMany g_NoText g_NoName g_NoRow B) (fun i hi => by rcases hi with rfl | rfl | rfl | rfl <;> first | exact kd_NoOrder | exact kd_NoFit | exact kd_NoNumber | exact kd_TooMany) g_OrderError (fun i hi => by rcases hi with rfl | rfl | rfl | rfl <;> first | exact xm_NoOrder | exact xm_NoFit | exact xm_NoNumber | exact xm_TooMany) B) (ok_comeL (k := 37) T_Lister_come T_Lister T_check_order (ok_check (k := 34) T_check_order T_is_order T_is_whole B m_MOST_THINGS) T_check_many (ok_manyOk (k := 36) T_check_many m_MOST_ORDERS) T_known_far (ok_known (k := 36) T_known_far T_far_by_swap T_far_by_spot T_far_by_shift (ok_swap (k := 35) T_far_by_swap T_seats_in (ok_seats (k := 33) T_seats_in T_places_in B) B) (ok_spot (k := 35) T_far_by_spot B) (ok_shift (k := 35) T_far_by_shift T_seats_in (ok_seats (k := 33) T_seats_in T_places_in B) B)) T_Lister_change_to (ok_changeL (k := 36) T_Lister_change_to T_Lister) B) B) (ok_noord72 (k := 38) T__law_no_order T__law_order T__law_next (ok_orderN (k := 37) T__law_order T__law_next (ok_next (k := 35) T__law_next T__law_stir B) B) (ok_next (k := 36) T__law_next T__law_stir B) B) (ok_saidL (k := 38) (c := cls9 C_NoOrder C_NoWay C_NoFit C_NoPlace C_NoNumber C_TooMany C_NoText C_NoName C_NoRow) T__law_said T_Lister T_Lister_come T_Lister_drop T_Lister_undo T__law_word (fn_or (fn_up (ok_comeL (k := 37) T_Lister_come T_Lister T_check_order (ok_check (k := 34) T_check_order T_is_order T_is_whole B m_MOST_THINGS) T_check_many (ok_manyOk (k := 36) T_check_many m_MOST_ORDERS) T_known_far (ok_known (k := 36) T_known_far T_far_by_swap T_far_by_spot T_far_by_shift (ok_swap (k := 35) T_far_by_swap T_seats_in (ok_seats (k := 33) T_seats_in T_places_in B) B) (ok_spot (k := 35) T_far_by_spot B) (ok_shift (k := 35) T_far_by_shift T_seats_in (ok_seats (k := 33) T_seats_in T_places_in B) B)) T_Lister_change_to (ok_changeL (k := 36) T_Lister_change_to T_Lister) B)) (ok_comeR (k := 37) T_Lister_come T_Lister T_check_order (ok_chk (k := 36) T_check_order T_is_order (ok_isOrdD (k := 34) T_is_order T_is_whole B m_MOST_THINGS) X_NoOrder) T_check_many (ok_manyX (k := 36) T_check_many m_MOST_ORDERS X_TooMany) T_known_far (ok_known (k := 36) T_known_far T_far_by_swap T_far_by_spot T_far_by_shift (ok_swap (k := 35) T_far_by_swap T_seats_in (ok_seats (k := 33) T_seats_in T_places_in B) B) (ok_spot (k := 35) T_far_by_spot B) (ok_shift (k := 35) T_far_by_shift T_seats_in (ok_seats (k := 33) T_seats_in T_places_in B) B)) T_Lister_change_to (ok_changeL (k := 36) T_Lister_change_to T_Lister) X_NoFit B)) (fn_or (fn_up (ok_dropL (k := 37) T_Lister_drop T_Lister T_check_order (ok_check (k := 34) T_check_order T_is_order T_is_whole B m_MOST_THINGS) T_Lister_change_to (ok_changeL (k := 36) T_Lister_change_to T_Lister) B)) (ok_dropR (k := 37) T_Lister_drop T_Lister T_check_order (ok_chk (k := 36) T_check_order T_is_order (ok_isOrdD (k := 34) T_is_order T_is_whole B m_MOST_THINGS) X_NoOrder) T_Lister_change_to (ok_changeL (k := 36) T_Lister_change_to T_Lister) X_NoFit B)) (ok_undoL (k := 37) T_Lister_undo T_Lister X_NoNumber B) (ok_wordY (k := 37) (c := cls9 C_NoOrder C_NoWay C_NoFit C_NoPlace C_NoNumber C_TooMany C_NoText C_NoName C_NoRow) T__law_word g_NoOrder g_NoWay g_NoFit g_NoPlace g_NoNumber g_TooMany g_NoText g_NoName g_NoRow B) (fun i hi => by rcases hi with rfl | rfl | rfl | rfl <;> first | exact kd_NoOrder | exact kd_NoFit | exact kd_NoNumber | exact kd_TooMany) g_OrderError (fun i hi => by rcases hi with rfl | rfl | rfl | rfl <;> first | exact xm_NoOrder | exact xm_NoFit | exact xm_NoNumber | exact xm_TooMany) B) (ok_gone74 (k := 38) (c := cls9 C_NoOrder C_NoWay C_NoFit C_NoPlace C_NoNumber C_TooMany C_NoText C_NoName C_NoRow) T__law_gone_right T_Lister T__law_next T__law_room_right T__law_said T_Lister_orders (ok_next (k := 36) T__law_next T__law_stir B) (ok_room74 (k := 37) T__law_room_right T_Lister T_Lister_how_many_more T_Lister_first_more (ok_moreL (k := 36) T_Lister_how_many_more T_Lister T_check_few (ok_few (k := 35) T_check_few) T_all_orders (ok_all_orders (k := 34) T_all_orders T_orders_with B) T_is_far (ok_isFar (k := 34) T_is_far TB_is_far T_known_far (ok_known (k := 33) T_known_far T_far_by_swap T_far_by_spot T_far_by_shift (ok_swap (k := 32) T_far_by_swap T_seats_in (ok_seats (k := 30) T_seats_in T_places_in B) B) (ok_spot (k := 32) T_far_by_spot B) (ok_shift (k := 32) T_far_by_shift T_seats_in (ok_seats (k := 30) T_seats_in T_places_in B) B)) B) B m_MOST_LISTED) (ok_firstL (k := 36) T_Lister_first_more T_Lister T_check_few (ok_few (k := 35) T_check_few) T_all_orders (ok_all_orders (k := 34) T_all_orders T_orders_with B) T_is_far (ok_isFar (k := 34) T_is_far TB_is_far T_known_far (ok_known (k := 33) T_known_far T_far_by_swap T_far_by_spot T_far_by_shift (ok_swap (k := 32) T_far_by_swap T_seats_in (ok_seats (k := 30) T_seats_in T_places_in B) B) (ok_spot (k := 32) T_far_by_spot B) (ok_shift (k := 32) T_far_by_shift T_seats_in (ok_seats (k := 30) T_seats_in T_places_in B) B)) B) B m_MOST_LISTED) B) (ok_saidL (k := 37) (c := cls9 C_NoOrder C_NoWay C_NoFit C_NoPlace C_NoNumber C_TooMany C_NoText C_NoName C_NoRow) T__law_said T_Lister T_Lister_come T_Lister_drop T_Lister_undo T__law_word (fn_or (fn_up (ok_comeL (k := 36) T_Lister_come T_Lister T_check_order (ok_check (k := 33) T_check_order T_is_order T_is_whole B m_MOST_THINGS) T_check_many (ok_manyOk (k := 35) T_check_many m_MOST_ORDERS) T_known_far (ok_known (k := 35) T_known_far T_far_by_swap T_far_by_spot T_far_by_shift (ok_swap (k := 34) T_far_by_swap T_seats_in (ok_seats (k := 32) T_seats_in T_places_in B) B) (ok_spot (k := 34) T_far_by_spot B) (ok_shift (k := 34) T_far_by_shift T_seats_in (ok_seats (k := 32) T_seats_in T_places_in B) B)) T_Lister_change_to (ok_changeL (k := 35) T_Lister_change_to T_Lister) B)) (ok_comeR (k := 36) T_Lister_come T_Lister T_check_order (ok_chk (k := 35) T_check_order T_is_order (ok_isOrdD (k := 33) T_is_order T_is_whole B m_MOST_THINGS) X_NoOrder) T_check_many (ok_manyX (k := 35) T_check_many m_MOST_ORDERS X_TooMany) T_known_far (ok_known (k := 35) T_known_far T_far_by_swap T_far_by_spot T_far_by_shift (ok_swap (k := 34) T_far_by_swap T_seats_in (ok_seats (k := 32) T_seats_in T_places_in B) B) (ok_spot (k := 34) T_far_by_spot B) (ok_shift (k := 34) T_far_by_shift T_seats_in (ok_seats (k := 32) T_seats_in T_places_in B) B)) T_Lister_change_to (ok_changeL (k := 35) T_Lister_change_to T_Lister) X_NoFit B)) (fn_or (fn_up (ok_dropL (k := 36) T_Lister_drop T_Lister T_check_order (ok_check (k := 33) T_check_order T_is_order T_is_whole B m_MOST_THINGS) T_Lister_change_to (ok_changeL (k := 35) T_Lister_change_to T_Lister) B)) (ok_dropR (k := 36) T_Lister_drop T_Lister T_check_order (ok_chk (k := 35) T_check_order T_is_order (ok_isOrdD (k := 33) T_is_order T_is_whole B m_MOST_THINGS) X_NoOrder) T_Lister_change_to (ok_changeL (k := 35) T_Lister_change_to T_Lister) X_NoFit B)) (ok_undoL (k := 36) T_Lister_undo T_Lister X_NoNumber B) (ok_wordY (k := 36) (c := cls9 C_NoOrder C_NoWay C_NoFit C_NoPlace C_NoNumber C_TooMany C_NoText C_NoName C_NoRow) T__law_word g_NoOrder g_NoWay g_NoFit g_NoPlace g_NoNumber g_TooMany g_NoText g_NoName g_NoRow B) (fun i hi => by rcases hi with rfl | rfl | rfl | rfl <;> first | exact kd_NoOrder | exact kd_NoFit | exact kd_NoNumber | exact kd_TooMany) g_OrderError (fun i hi => by rcases hi with rfl | rfl | rfl | rfl <;> first | exact xm_NoOrder | exact xm_NoFit | exact xm_NoNumber | exact xm_TooMany) B) (ok_ordersL (k := 37) T_Lister_orders T_Lister B) B) (ok_least74 (k := 38) T__law_least_right T_Lister T_Lister_least_apart T__law_far T__law_whole (ok_leastL (k := 37) T_Lister_least_apart T_Lister T_known_far (ok_known (k := 36) T_known_far T_far_by_swap T_far_by_spot T_far_by_shift (ok_swap (k := 35) T_far_by_swap T_seats_in (ok_seats (k := 33) T_seats_in T_places_in B) B) (ok_spot (k := 35) T_far_by_spot B) (ok_shift (k := 35) T_far_by_shift T_seats_in (ok_seats (k := 33) T_seats_in T_places_in B) B)) B) (ok_lfar (k := 37) T__law_far T__law_places (ok_pld (k := 36) T__law_places B) B) (ok_lwhole (k := 37) T__law_whole B) B) (ok_und74 (k := 38) (c := cls9 C_NoOrder C_NoWay C_NoFit C_NoPlace C_NoNumber C_TooMany C_NoText C_NoName C_NoRow) T__law_undone_right T_Lister T__law_next T__law_said T_Lister_orders (ok_next (k := 36) T__law_next T__law_stir B) (ok_saidL (k := 37) (c := cls9 C_NoOrder C_NoWay C_NoFit C_NoPlace C_NoNumber C_TooMany C_NoText C_NoName C_NoRow) T__law_said T_Lister T_Lister_come T_Lister_drop T_Lister_undo T__law_word (fn_or (fn_up (ok_comeL (k := 36) T_Lister_come T_Lister T_check_order (ok_check (k := 33) T_check_order T_is_order T_is_whole B m_MOST_THINGS) T_check_many (ok_manyOk (k := 35) T_check_many m_MOST_ORDERS) T_known_far (ok_known (k := 35) T_known_far T_far_by_swap T_far_by_spot T_far_by_shift (ok_swap (k := 34) T_far_by_swap T_seats_in (ok_seats (k := 32) T_seats_in T_places_in B) B) (ok_spot (k := 34) T_far_by_spot B) (ok_shift (k := 34) T_far_by_shift T_seats_in (ok_seats (k := 32) T_seats_in T_places_in B) B)) T_Lister_change_to (ok_changeL (k := 35) T_Lister_change_to T_Lister) B)) (ok_comeR (k := 36) T_Lister_come T_Lister T_check_order (ok_chk (k := 35) T_check_order T_is_order (ok_isOrdD (k := 33) T_is_order T_is_whole B m_MOST_THINGS) X_NoOrder) T_check_many (ok_manyX (k := 35) T_check_many m_MOST_ORDERS X_TooMany) T_known_far (ok_known (k := 35) T_known_far T_far_by_swap T_far_by_spot T_far_by_shift (ok_swap (k := 34) T_far_by_swap T_seats_in (ok_seats (k := 32) T_seats_in T_places_in B) B) (ok_spot (k := 34) T_far_by_spot B) (ok_shift (k := 34) T_far_by_shift T_seats_in (ok_seats (k := 32) T_seats_in T_places_in B) B)) T_Lister_change_to (ok_changeL (k := 35) T_Lister_change_to T_Lister) X_NoFit B)) (fn_or (fn_up (ok_dropL (k := 36) T_Lister_drop T_Lister T_check_order (ok_check (k := 33) T_check_order T_is_order T_is_whole B m_MOST_THINGS) T_Lister_change_to (ok_changeL (k := 35) T_Lister_change_to T_Lister) B)) (ok_dropR (k := 36) T_Lister_drop T_Lister T_check_order (ok_chk (k := 35) T_check_order T_is_order (ok_isOrdD (k := 33) T_is_order T_is_whole B m_MOST_THINGS) X_NoOrder) T_Lister_change_to (ok_changeL (k := 35) T_Lister_change_to T_Lister) X_NoFit B)) (ok_undoL (k := 36) T_Lister_undo T_Lister X_NoNumber B) (ok_wordY (k := 36) (c := cls9 C_NoOrder C_NoWay C_NoFit C_NoPlace C_NoNumber C_TooMany C_NoText C_NoName C_NoRow) T__law_word g_NoOrder g_NoWay g_NoFit g_NoPlace g_NoNumber g_TooMany g_NoText g_NoName g_NoRow B) (fun i hi => by rcases hi with rfl | rfl | rfl | rfl <;> first | exact kd_NoOrder | exact kd_NoFit | exact kd_NoNumber | exact kd_TooMany) g_OrderError (fun i hi => by rcases hi with rfl | rfl | rfl | rfl <;> first | exact xm_NoOrder | exact xm_NoFit | exact xm_NoNumber | exact xm_TooMany) B) (ok_ordersL (k := 37) T_Lister_orders T_Lister B) B) B
end Fo
open PySem PySem.W PyProof.Rows
set_option maxRecDepth 100000 in
set_option maxHeartbeats 0 in
theorem PySem.Challenge.cw_farorders_k74_listers_that_are_full_holds : PySem.Challenge.rw_farorders_k74_listers_that_are_full.Holds := by
  w_on; o_law; k_head; (case hw => w_witness2)
  k_fill
  refine Fo.walk_tab (l := PySem.Challenge.rw_farorders_k74_listers_that_are_full) (n := 63) (k := 40) (x := "script") (CX := fun _ => L2.CX0) rfl (by decide) rfl ⟨rfl, by decide, by decide⟩ (fun w h Y => PySem.W.kIn_of Y) ?F (fun _ _ _ _ _ h => h)
  case F =>
    intro w mg fa h KX G hmg tabs
    replace hmg : mg "law" = some (Value.ref fa) := hmg
    refine' Fo.all_mk KX G hmg ?a0 ?l0 ?c0 ?k0 ?a1 ?l1 ?c1 ?k1 ?a2 ?l2 ?c2 ?k2 ?a3 ?l3 ?c3 ?k3 ?a4 ?l4 ?c4 ?k4 ?a5 ?l5 ?c5 ?k5 ?a6 ?l6 ?c6 ?k6 ?a7 ?l7 ?c7 ?k7 ?a8 ?l8 ?c8 ?k8 ?a9 ?l9 ?c9 ?k9 ?a10 ?l10 ?c10 ?k10 ?a11 ?l11 ?c11 ?k11 ?a12 ?l12 ?c12 ?k12 ?a13 ?l13 ?c13 ?k13 ?a14 ?l14 ?c14 ?k14 ?a15 ?l15 ?c15 ?k15 ?a16 ?l16 ?c16 ?k16 ?a17 ?l17 ?c17 ?k17 ?a18 ?l18 ?c18 ?k18 ?a19 ?l19 ?c19 ?k19 ?a20 ?l20 ?c20 ?k20 ?a21 ?l21 ?c21 ?k21 ?a22 ?l22 ?c22 ?k22 ?a23 ?l23 ?c23 ?k23 ?a24 ?l24 ?c24 ?k24 ?a25 ?l25 ?c25 ?k25 ?a26 ?l26 ?c26 ?k26 ?a27 ?l27 ?c27 ?k27 ?a28 ?l28 ?c28 ?k28 ?a29 ?l29 ?c29 ?k29 ?a30 ?l30 ?c30 ?k30 ?a31 ?l31 ?c31 ?k31 ?a32 ?l32 ?c32 ?k32 ?a33 ?l33 ?c33 ?k33 ?a34 ?l34 ?c34 ?k34 ?a35 ?l35 ?c35 ?k35 ?a36 ?l36 ?c36 ?k36 ?g_MOST_THINGS ?g_MOST_LISTED ?g_MOST_ORDERS ?g_MOST_KEPT ?g_WAYS ?l_WAYS ?aC_Lister ?am0 ?im0 ?lm0 ?cm0 ?km0 ?am1 ?im1 ?lm1 ?cm1 ?km1 ?am2 ?im2 ?lm2 ?cm2 ?km2 ?am3 ?im3 ?lm3 ?cm3 ?km3 ?am4 ?im4 ?lm4 ?cm4 ?km4 ?am5 ?im5 ?lm5 ?cm5 ?km5 ?am6 ?im6 ?lm6 ?cm6 ?km6 ?am7 ?im7 ?lm7 ?cm7 ?km7 ?am8 ?im8 ?lm8 ?cm8 ?km8 ?pgC ?hdC ?poC ?saC ?mkC ?kcC ?nf_way ?nf_n ?nf_d ?nf_taken ?nf_earlier ?gc_OrderError ?gc_NoOrder ?gc_NoWay ?gc_NoFit ?gc_NoPlace ?gc_NoNumber ?gc_TooMany ?gc_NoText ?gc_NoName ?gc_NoRow ?xq_NoOrder ?xk_NoOrder ?xt_NoOrder ?xm_NoOrder ?xv_NoOrder ?xehg_NoOrder ?xehk_NoOrder ?xehs_NoOrder ?xehd_NoOrder ?xeha_NoOrder ?xehn_NoOrder ?xeht_NoOrder ?xehm_NoOrder ?xy_NoOrder_NoOrder ?xy_NoOrder_NoWay ?xy_NoOrder_NoFit ?xy_NoOrder_NoPlace ?xy_NoOrder_NoNumber ?xy_NoOrder_TooMany ?xy_NoOrder_NoText ?xy_NoOrder_NoName ?xy_NoOrder_NoRow ?xq_NoWay ?xk_NoWay ?xt_NoWay ?xm_NoWay ?xv_NoWay ?xehg_NoWay ?xehk_NoWay ?xehs_NoWay ?xehd_NoWay ?xeha_NoWay ?xehn_NoWay ?xeht_NoWay ?xehm_NoWay ?xy_NoWay_NoOrder ?xy_NoWay_NoWay ?xy_NoWay_NoFit ?xy_NoWay_NoPlace ?xy_NoWay_NoNumber ?xy_NoWay_TooMany ?xy_NoWay_NoText ?xy_NoWay_NoName ?xy_NoWay_NoRow ?xq_NoFit ?xk_NoFit ?xt_NoFit ?xm_NoFit ?xv_NoFit ?xehg_NoFit ?xehk_NoFit ?xehs_NoFit ?xehd_NoFit ?xeha_NoFit ?xehn_NoFit ?xeht_NoFit ?xehm_NoFit ?xy_NoFit_NoOrder ?xy_NoFit_NoWay ?xy_NoFit_NoFit ?xy_NoFit_NoPlace ?xy_NoFit_NoNumber ?xy_NoFit_TooMany ?xy_NoFit_NoText ?xy_NoFit_NoName ?xy_NoFit_NoRow ?xq_NoNumber ?xk_NoNumber ?xt_NoNumber ?xm_NoNumber ?xv_NoNumber ?xehg_NoNumber ?xehk_NoNumber ?xehs_NoNumber ?xehd_NoNumber ?xeha_NoNumber ?xehn_NoNumber ?xeht_NoNumber ?xehm_NoNumber ?xy_NoNumber_NoOrder ?xy_NoNumber_NoWay ?xy_NoNumber_NoFit ?xy_NoNumber_NoPlace ?xy_NoNumber_NoNumber ?xy_NoNumber_TooMany ?xy_NoNumber_NoText ?xy_NoNumber_NoName ?xy_NoNumber_NoRow ?xq_TooMany ?xk_TooMany ?xt_TooMany ?xm_TooMany ?xv_TooMany ?xehg_TooMany ?xehk_TooMany ?xehs_TooMany ?xehd_TooMany ?xeha_TooMany ?xehn_TooMany ?xeht_TooMany ?xehm_TooMany ?xy_TooMany_NoOrder ?xy_TooMany_NoWay ?xy_TooMany_NoFit ?xy_TooMany_NoPlace ?xy_TooMany_NoNumber ?xy_TooMany_TooMany ?xy_TooMany_NoText ?xy_TooMany_NoName ?xy_TooMany_NoRow ?z_ValueError ?z_abs ?z_all ?z_bool ?z_enumerate ?z_int ?z_isinstance ?z_len ?z_list ?z_max ?z_min ?z_range ?z_sorted ?z_str ?z_tuple ?z_zip ?e_is_far ?u_is_far ?v_is_far ?n_is_far (fun y hy c P ht => tabs y c P ?tabn ht)
    (case a0 => k_is); (case l0 => k_is); (case c0 => k_is); (case k0 => k_is); (case a1 => k_is); (case l1 => k_is); (case c1 => k_is); (case k1 => k_is); (case a2 => k_is); (case l2 => k_is); (case c2 => k_is); (case k2 => k_is); (case a3 => k_is); (case l3 => k_is); (case c3 => k_is); (case k3 => k_is); (case a4 => k_is); (case l4 => k_is); (case c4 => k_is); (case k4 => k_is); (case a5 => k_is); (case l5 => k_is); (case c5 => k_is); (case k5 => k_is); (case a6 => k_is); (case l6 => k_is); (case c6 => k_is); (case k6 => k_is); (case a7 => k_is); (case l7 => k_is); (case c7 => k_is); (case k7 => k_is); (case a8 => k_is); (case l8 => k_is); (case c8 => k_is); (case k8 => k_is); (case a9 => k_is); (case l9 => k_is); (case c9 => k_is); (case k9 => k_is); (case a10 => k_is); (case l10 => k_is); (case c10 => k_is); (case k10 => k_is); (case a11 => k_is); (case l11 => k_is); (case c11 => k_is); (case k11 => k_is); (case a12 => k_is); (case l12 => k_is); (case c12 => k_is); (case k12 => k_is); (case a13 => k_is); (case l13 => k_is); (case c13 => k_is); (case k13 => k_is); (case a14 => k_is); (case l14 => k_is); (case c14 => k_is); (case k14 => k_is); (case a15 => k_is); (case l15 => k_is); (case c15 => k_is); (case k15 => k_is); (case a16 => k_is); (case l16 => k_is); (case c16 => k_is); (case k16 => k_is); (case a17 => k_is); (case l17 => k_is); (case c17 => k_is); (case k17 => k_is); (case a18 => k_is); (case l18 => k_is); (case c18 => k_is); (case k18 => k_is); (case a19 => k_is); (case l19 => k_is); (case c19 => k_is); (case k19 => k_is); (case a20 => k_is); (case l20 => k_is); (case c20 => k_is); (case k20 => k_is); (case a21 => k_is); (case l21 => k_is); (case c21 => k_is); (case k21 => k_is); (case a22 => k_is); (case l22 => k_is); (case c22 => k_is); (case k22 => k_is); (case a23 => k_is); (case l23 => k_is); (case c23 => k_is); (case k23 => k_is); (case a24 => k_is); (case l24 => k_is); (case c24 => k_is); (case k24 => k_is); (case a25 => k_is); (case l25 => k_is); (case c25 => k_is); (case k25 => k_is); (case a26 => k_is); (case l26 => k_is); (case c26 => k_is); (case k26 => k_is); (case a27 => k_is); (case l27 => k_is); (case c27 => k_is); (case k27 => k_is); (case a28 => k_is); (case l28 => k_is); (case c28 => k_is); (case k28 => k_is); (case a29 => k_is); (case l29 => k_is); (case c29 => k_is); (case k29 => k_is); (case a30 => k_is); (case l30 => k_is); (case c30 => k_is); (case k30 => k_is); (case a31 => k_is); (case l31 => k_is); (case c31 => k_is); (case k31 => k_is); (case a32 => k_is); (case l32 => k_is); (case c32 => k_is); (case k32 => k_is); (case a33 => k_is); (case l33 => k_is); (case c33 => k_is); (case k33 => k_is); (case a34 => k_is); (case l34 => k_is); (case c34 => k_is); (case k34 => k_is); (case a35 => k_is); (case l35 => k_is); (case c35 => k_is); (case k35 => k_is); (case a36 => k_is); (case l36 => k_is); (case c36 => k_is); (case k36 => k_is); (case g_MOST_THINGS => k_is); (case g_MOST_LISTED => k_is); (case g_MOST_ORDERS => k_is); (case g_MOST_KEPT => k_is); (case g_WAYS => k_is); (case l_WAYS => k_is); (case aC_Lister => k_is); (case am0 => k_is); (case im0 => k_is); (case lm0 => k_is); (case cm0 => k_is); (case km0 => k_is); (case am1 => k_is); (case im1 => k_is); (case lm1 => k_is); (case cm1 => k_is); (case km1 => k_is); (case am2 => k_is); (case im2 => k_is); (case lm2 => k_is); (case cm2 => k_is); (case km2 => k_is); (case am3 => k_is); (case im3 => k_is); (case lm3 => k_is); (case cm3 => k_is); (case km3 => k_is); (case am4 => k_is); (case im4 => k_is); (case lm4 => k_is); (case cm4 => k_is); (case km4 => k_is); (case am5 => k_is); (case im5 => k_is); (case lm5 => k_is); (case cm5 => k_is); (case km5 => k_is); (case am6 => k_is); (case im6 => k_is); (case lm6 => k_is); (case cm6 => k_is); (case km6 => k_is); (case am7 => k_is); (case im7 => k_is); (case lm7 => k_is); (case cm7 => k_is); (case km7 => k_is); (case am8 => k_is); (case im8 => k_is); (case lm8 => k_is); (case cm8 => k_is); (case km8 => k_is); (case pgC => k_is); (case hdC => k_is); (case poC => k_is); (case saC => k_is); (case mkC => k_is); (case kcC => k_is); (case nf_way => k_is); (case nf_n => k_is); (case nf_d => k_is); (case nf_taken => k_is); (case nf_earlier => k_is); (case z_ValueError => k_is); (case z_abs => k_is); (case z_all => k_is); (case z_bool => k_is); (case z_enumerate => k_is); (case z_int => k_is); (case z_isinstance => k_is); (case z_len => k_is); (case z_list => k_is); (case z_max => k_is); (case z_min => k_is); (case z_range => k_is); (case z_sorted => k_is); (case z_str => k_is); (case z_tuple => k_is); (case z_zip => k_is)
    (case gc_OrderError => first | k_is | rfl | kernel_rfl); (case gc_NoOrder => first | k_is | rfl | kernel_rfl); (case gc_NoWay => first | k_is | rfl | kernel_rfl); (case gc_NoFit => first | k_is | rfl | kernel_rfl); (case gc_NoPlace => first | k_is | rfl | kernel_rfl); (case gc_NoNumber => first | k_is | rfl | kernel_rfl); (case gc_TooMany => first | k_is | rfl | kernel_rfl); (case gc_NoText => first | k_is | rfl | kernel_rfl); (case gc_NoName => first | k_is | rfl | kernel_rfl); (case gc_NoRow => first | k_is | rfl | kernel_rfl); (case xq_NoOrder => first | k_is | rfl | kernel_rfl); (case xk_NoOrder => first | k_is | rfl | kernel_rfl); (case xt_NoOrder => first | k_is | rfl | kernel_rfl); (case xm_NoOrder => first | k_is | rfl | kernel_rfl); (case xv_NoOrder => first | k_is | rfl | kernel_rfl); (case xehg_NoOrder => first | k_is | rfl | kernel_rfl); (case xehk_NoOrder => first | k_is | rfl | kernel_rfl); (case xehs_NoOrder => first | k_is | rfl | kernel_rfl); (case xehd_NoOrder => first | k_is | rfl | kernel_rfl); (case xeha_NoOrder => first | k_is | rfl | kernel_rfl); (case xehn_NoOrder => first | k_is | rfl | kernel_rfl); (case xeht_NoOrder => first | k_is | rfl | kernel_rfl); (case xehm_NoOrder => first | k_is | rfl | kernel_rfl); (case xy_NoOrder_NoOrder => first | k_is | rfl | kernel_rfl); (case xy_NoOrder_NoWay => first | k_is | rfl | kernel_rfl); (case xy_NoOrder_NoFit => first | k_is | rfl | kernel_rfl); (case xy_NoOrder_NoPlace => first | k_is | rfl | kernel_rfl); (case xy_NoOrder_NoNumber => first | k_is | rfl | kernel_rfl); (case xy_NoOrder_TooMany => first | k_is | rfl | kernel_rfl); (case xy_NoOrder_NoText => first | k_is | rfl | kernel_rfl); (case xy_NoOrder_NoName => first | k_is | rfl | kernel_rfl); (case xy_NoOrder_NoRow => first | k_is | rfl | kernel_rfl); (case xq_NoWay => first | k_is | rfl | kernel_rfl); (case xk_NoWay => first | k_is | rfl | kernel_rfl); (case xt_NoWay => first | k_is | rfl | kernel_rfl); (case xm_NoWay => first | k_is | rfl | kernel_rfl); (case xv_NoWay => first | k_is | rfl | kernel_rfl); (case xehg_NoWay => first | k_is | rfl | kernel_rfl); (case xehk_NoWay => first | k_is | rfl | kernel_rfl); (case xehs_NoWay => first | k_is | rfl | kernel_rfl); (case xehd_NoWay => first | k_is | rfl | kernel_rfl); (case xeha_NoWay => first | k_is | rfl | kernel_rfl); (case xehn_NoWay => first | k_is | rfl | kernel_rfl); (case xeht_NoWay => first | k_is | rfl | kernel_rfl); (case xehm_NoWay => first | k_is | rfl | kernel_rfl); (case xy_NoWay_NoOrder => first | k_is | rfl | kernel_rfl); (case xy_NoWay_NoWay => first | k_is | rfl | kernel_rfl); (case xy_NoWay_NoFit => first | k_is | rfl | kernel_rfl); (case xy_NoWay_NoPlace => first | k_is | rfl | kernel_rfl); (case xy_NoWay_NoNumber => first | k_is | rfl | kernel_rfl); (case xy_NoWay_TooMany => first | k_is | rfl | kernel_rfl); (case xy_NoWay_NoText => first | k_is | rfl | kernel_rfl); (case xy_NoWay_NoName => first | k_is | rfl | kernel_rfl); (case xy_NoWay_NoRow => first | k_is | rfl | kernel_rfl); (case xq_NoFit => first | k_is | rfl | kernel_rfl); (case xk_NoFit => first | k_is | rfl | kernel_rfl); (case xt_NoFit => first | k_is | rfl | kernel_rfl); (case xm_NoFit => first | k_is | rfl | kernel_rfl); (case xv_NoFit => first | k_is | rfl | kernel_rfl); (case xehg_NoFit => first | k_is | rfl | kernel_rfl); (case xehk_NoFit => first | k_is | rfl | kernel_rfl); (case xehs_NoFit => first | k_is | rfl | kernel_rfl); (case xehd_NoFit => first | k_is | rfl | kernel_rfl); (case xeha_NoFit => first | k_is | rfl | kernel_rfl); (case xehn_NoFit => first | k_is | rfl | kernel_rfl); (case xeht_NoFit => first | k_is | rfl | kernel_rfl); (case xehm_NoFit => first | k_is | rfl | kernel_rfl); (case xy_NoFit_NoOrder => first | k_is | rfl | kernel_rfl); (case xy_NoFit_NoWay => first | k_is | rfl | kernel_rfl); (case xy_NoFit_NoFit => first | k_is | rfl | kernel_rfl); (case xy_NoFit_NoPlace => first | k_is | rfl | kernel_rfl); (case xy_NoFit_NoNumber => first | k_is | rfl | kernel_rfl); (case xy_NoFit_TooMany => first | k_is | rfl | kernel_rfl); (case xy_NoFit_NoText => first | k_is | rfl | kernel_rfl); (case xy_NoFit_NoName => first | k_is | rfl | kernel_rfl); (case xy_NoFit_NoRow => first | k_is | rfl | kernel_rfl); (case xq_NoNumber => first | k_is | rfl | kernel_rfl); (case xk_NoNumber => first | k_is | rfl | kernel_rfl); (case xt_NoNumber => first | k_is | rfl | kernel_rfl); (case xm_NoNumber => first | k_is | rfl | kernel_rfl); (case xv_NoNumber => first | k_is | rfl | kernel_rfl); (case xehg_NoNumber => first | k_is | rfl | kernel_rfl); (case xehk_NoNumber => first | k_is | rfl | kernel_rfl); (case xehs_NoNumber => first | k_is | rfl | kernel_rfl); (case xehd_NoNumber => first | k_is | rfl | kernel_rfl); (case xeha_NoNumber => first | k_is | rfl | kernel_rfl); (case xehn_NoNumber => first | k_is | rfl | kernel_rfl); (case xeht_NoNumber => first | k_is | rfl | kernel_rfl); (case xehm_NoNumber => first | k_is | rfl | kernel_rfl); (case xy_NoNumber_NoOrder => first | k_is | rfl | kernel_rfl); (case xy_NoNumber_NoWay => first | k_is | rfl | kernel_rfl); (case xy_NoNumber_NoFit => first | k_is | rfl | kernel_rfl); (case xy_NoNumber_NoPlace => first | k_is | rfl | kernel_rfl); (case xy_NoNumber_NoNumber => first | k_is | rfl | kernel_rfl); (case xy_NoNumber_TooMany => first | k_is | rfl | kernel_rfl); (case xy_NoNumber_NoText => first | k_is | rfl | kernel_rfl); (case xy_NoNumber_NoName => first | k_is | rfl | kernel_rfl); (case xy_NoNumber_NoRow => first | k_is | rfl | kernel_rfl); (case xq_TooMany => first | k_is | rfl | kernel_rfl); (case xk_TooMany => first | k_is | rfl | kernel_rfl); (case xt_TooMany => first | k_is | rfl | kernel_rfl); (case xm_TooMany => first | k_is | rfl | kernel_rfl); (case xv_TooMany => first | k_is | rfl | kernel_rfl); (case xehg_TooMany => first | k_is | rfl | kernel_rfl); (case xehk_TooMany => first | k_is | rfl | kernel_rfl); (case xehs_TooMany => first | k_is | rfl | kernel_rfl); (case xehd_TooMany => first | k_is | rfl | kernel_rfl); (case xeha_TooMany => first | k_is | rfl | kernel_rfl); (case xehn_TooMany => first | k_is | rfl | kernel_rfl); (case xeht_TooMany => first | k_is | rfl | kernel_rfl); (case xehm_TooMany => first | k_is | rfl | kernel_rfl); (case xy_TooMany_NoOrder => first | k_is | rfl | kernel_rfl); (case xy_TooMany_NoWay => first | k_is | rfl | kernel_rfl); (case xy_TooMany_NoFit => first | k_is | rfl | kernel_rfl); (case xy_TooMany_NoPlace => first | k_is | rfl | kernel_rfl); (case xy_TooMany_NoNumber => first | k_is | rfl | kernel_rfl); (case xy_TooMany_TooMany => first | k_is | rfl | kernel_rfl); (case xy_TooMany_NoText => first | k_is | rfl | kernel_rfl); (case xy_TooMany_NoName => first | k_is | rfl | kernel_rfl); (case xy_TooMany_NoRow => first | k_is | rfl | kernel_rfl)
    (case e_is_far => exact rfl); (case u_is_far => k_is); (case v_is_far => exact rfl); (case n_is_far => kernel_rfl)
    case tabn =>
      simp only [List.mem_cons, List.not_mem_nil, or_false] at hy
      rcases hy with rfl <;> decide +kernel

