import PyProof.Rows.All
import Wide.All
import OpenK.AllK
import Wide.FinOn
import HandS.ForMost
import HandS.IsInst
import HandS.Conv
import HandS.Style
import HandS.More
import HandS.Evl
import HandS.Zip
import HandS.SetFor
import HandS.Sort
import HandS.Wide
import HandS.Deep
import KE.SortData
import PyProof.ReprRoads
import HandS.Exc
import HandS.ExcIs
import HandS.ExcValue
import HandS.Small
import HandS.FStr
import HandS.WordsExc
import KE.KDictZip
import HandS.Text
import HandS.RaiseMore
import HandS.ExcOwn
import HandS.Comp
import KE.GoesRaise
import HandS.Walk
import HandS.SortInts
import HandS.ReplaceLit
import HandS.More
import PySem.Challenge.RW_farorders_k78_texts_of_no_orders
set_option Elab.async false
set_option linter.all false
set_option maxRecDepth 100000
namespace Fo
open PySem PySem.Spec PyProof.Rows L2
/-! ### lists and orders -/
def rg (n : Nat) : List Int := (List.range n).map fun k => ((k : Nat) : Int)
def IsOrd (n : Nat) (ns : List Int) : Prop := ns.Perm (rg n)
theorem rg_len (n : Nat) : (rg n).length = n := by
  unfold rg
  rw [List.length_map, List.length_range]
theorem rg_mem {n : Nat} {x : Int} : x ∈ rg n ↔ 0 ≤ x ∧ x < n := by
  unfold rg
  rw [List.mem_map]
  constructor
  · rintro ⟨k, hk, rfl⟩
    have := List.mem_range.mp hk
    omega
  · rintro ⟨h0, h1⟩
    exact ⟨x.toNat, List.mem_range.mpr (by omega), by omega⟩
theorem rg_nodup (n : Nat) : (rg n).Nodup := by
  unfold rg
  exact List.Pairwise.map _ (fun a b h e => h (by omega)) List.nodup_range
theorem rg_sorted (n : Nat) : (rg n).Pairwise (· ≤ ·) := by
  unfold rg
  exact List.Pairwise.map _ (fun a b h => by omega) List.pairwise_lt_range
theorem rg_V (n : Nat) : rgV 0 (n : Int) = (rg n).map V.int := by
  unfold rgV rg
  rw [List.map_map, show ((n : Int) - 0).toNat = n by omega]
  apply List.map_congr_left
  intro a _
  show V.int (0 + (a : Int)) = V.int (a : Int)
  rw [Int.zero_add]
theorem IsOrd.len {n : Nat} {ns : List Int} (h : IsOrd n ns) : ns.length = n := (List.Perm.length_eq h).trans (rg_len n)
theorem IsOrd.mem {n : Nat} {ns : List Int} (h : IsOrd n ns) {x : Int} (m : x ∈ ns) : 0 ≤ x ∧ x < n := rg_mem.mp ((List.Perm.mem_iff h).mp m)
theorem IsOrd.nodup {n : Nat} {ns : List Int} (h : IsOrd n ns) : ns.Nodup := (List.Perm.nodup_iff h).mpr (rg_nodup n)
/-- two sorted lists of the same things are one -/
theorem sorted_eq : ∀ {a b : List Int}, a.Perm b → a.Pairwise (· ≤ ·) → b.Pairwise (· ≤ ·) → a = b := by
  intro a b hp ha hb
  exact List.Perm.eq_of_pairwise (fun x y _ _ h1 h2 => by omega) ha hb hp
/-- the things at p and p + 1 change places -/
def sw (xs : List Int) (p : Nat) : List Int := (xs.set p (xs.getD (p + 1) 0)).set (p + 1) (xs.getD p 0)
theorem split2 : ∀ {xs : List Int} {p : Nat}, p + 1 < xs.length → ∃ A a b B, xs = A ++ a :: b :: B ∧ A.length = p
  | [], p, h => by simp at h
  | [_], p, h => by simp at h
  | a :: b :: r, 0, _ => ⟨[], a, b, r, rfl, rfl⟩
  | a :: b :: r, p + 1, h => by
    obtain ⟨A, x, y, B, e, l⟩ := split2 (xs := b :: r) (p := p) (by simpa using h)
    exact ⟨a :: A, x, y, B, by rw [e]; rfl, by rw [List.length_cons, l]⟩
theorem sw_at : ∀ (A : List Int) (a b : Int) (B : List Int), sw (A ++ a :: b :: B) A.length = A ++ b :: a :: B
  | [], a, b, B => rfl
  | x :: A, a, b, B => by
    have ih := sw_at A a b B
    unfold sw at ih ⊢
    show x :: _ = x :: _
    exact congrArg (x :: ·) ih
theorem sw_perm {xs : List Int} {p : Nat} (h : p + 1 < xs.length) : (sw xs p).Perm xs := by
  obtain ⟨A, a, b, B, rfl, rfl⟩ := split2 h
  rw [sw_at]
  exact List.Perm.append_left A (List.Perm.swap a b B)
theorem sw_len (xs : List Int) (p : Nat) : (sw xs p).length = xs.length := by
  unfold sw
  rw [List.length_set, List.length_set]
theorem sw_ord {n : Nat} {xs : List Int} {p : Nat} (o : IsOrd n xs) (h : p + 1 < n) : IsOrd n (sw xs p) :=
  (sw_perm (by rw [o.len]; exact h)).trans o
theorem sw_V {xs : List Int} {p : Nat} {a b : Int} (ha : xs[p]? = some a) (hb : xs[p + 1]? = some b) : ((xs.map V.int).set p (V.int b)).set (p + 1) (V.int a) = (sw xs p).map V.int := by
  unfold sw
  rw [List.getD_eq_getElem?_getD, List.getD_eq_getElem?_getD, ha, hb, List.map_set, List.map_set]
  rfl
theorem pop_ins {xs : List Int} {p : Nat} {a : Int} (h : p + 1 < xs.length) (ha : xs[p]? = some a) : (xs.eraseIdx p).take (p + 1) ++ [a] ++ (xs.eraseIdx p).drop (p + 1) = sw xs p := by
  obtain ⟨A, x, y, B, rfl, rfl⟩ := split2 h
  have ex : x = a := by
    rw [List.getElem?_append_right (Nat.le_refl _), Nat.sub_self] at ha
    exact Option.some.inj ha
  subst ex
  rw [sw_at, List.eraseIdx_append_of_length_le (Nat.le_refl _), Nat.sub_self]
  show (A ++ y :: B).take (A.length + 1) ++ [x] ++ (A ++ y :: B).drop (A.length + 1) = _
  rw [List.take_append, List.drop_append]
  have t : A.length + 1 - A.length = 1 := by omega
  rw [t, List.take_of_length_le (by omega), List.drop_of_length_le (by omega)]
  simp
/-- the order at a walk's end -/
def wEnd (xs : List Int) (ws : List Int) : List Int := ws.foldl (fun x p => sw x p.toNat) xs
theorem wEnd_more {xs ws : List Int} {i : Nat} {p : Int} (h : ws[i]? = some p) : wEnd xs (ws.take (i + 1)) = sw (wEnd xs (ws.take i)) p.toNat := by
  unfold wEnd
  rw [List.take_add_one, h, List.foldl_append]
  rfl
theorem wEnd_ord {n : Nat} {xs : List Int} (o : IsOrd n xs) : ∀ {ws : List Int}, (∀ p ∈ ws, 0 ≤ p ∧ p + 1 < n) → IsOrd n (wEnd xs ws) := by
  intro ws
  induction ws generalizing xs with
  | nil => intro _; exact o
  | cons p ws ih =>
    intro h
    have hp := h p List.mem_cons_self
    exact ih (sw_ord o (by omega)) fun q hq => h q (List.mem_cons_of_mem _ hq)
theorem nodup_len : ∀ {l m : List Int}, l.Nodup → (∀ x ∈ l, x ∈ m) → l.length ≤ m.length
  | [], m, _, _ => Nat.zero_le _
  | a :: l, m, hn, hs => by
    obtain ⟨h1, h2⟩ := List.nodup_cons.mp hn
    have ha := hs a List.mem_cons_self
    have ih := nodup_len (l := l) (m := m.erase a) h2 fun x hx => by
      have ne : x ≠ a := fun e => h1 (by rw [← e]; exact hx)
      exact (List.mem_erase_of_ne ne).mpr (hs x (List.mem_cons_of_mem _ hx))
    rw [List.length_erase_of_mem ha] at ih
    have : 0 < m.length := List.length_pos_of_mem ha
    rw [List.length_cons]
    omega
theorem int_at {ns : List Int} {i : Nat} {x : Int} (h : ns[i]? = some x) : (ns.map V.int)[i]? = some (V.int x) := by
  rw [List.getElem?_map, h]
  rfl
theorem int_at_inv {ns : List Int} {i : Nat} {v : V} (h : (ns.map V.int)[i]? = some v) : ∃ x, ns[i]? = some x ∧ v = V.int x := by
  rw [List.getElem?_map] at h
  cases e : ns[i]? with
  | none => rw [e] at h; cases h
  | some x => rw [e] at h; exact ⟨x, rfl, (Option.some.inj h).symm⟩
theorem line_small {n : Nat} (h : n ≤ 16777216) : n ≤ sizeLine := by rw [sizeLine_eq]; exact h
theorem line_lt {n : Nat} (h : n < 16777216) : n < sizeLine := by rw [sizeLine_eq]; exact h
/-! ### data of ints -/
theorem dp_ints {K : PySem.W.Frag} {H : Hp} : ∀ ns : List Int, DpAll K H (ns.map V.int) (ns.map PyData.int)
  | [] => .nil
  | n :: r => .cons (.int n) (dp_ints r)
theorem dp_list {K : PySem.W.Frag} {H : Hp} {a : Addr} {ns : List Int} (h : H a = some (.lst (ns.map V.int))) : Dp K H (.ref a) (.list (ns.map PyData.int)) := .lst (SqL.of h) (dp_ints ns)
theorem eqv_int (i j : Int) : PyData.eqv (.int i) (.int j) = (i == j) := rfl
end Fo
namespace Fo
open PySem PySem.Spec PyProof.Rows L2
abbrev dI (ns : List Int) : List PyData := ns.map PyData.int
abbrev dL (ns : List Int) : PyData := .list (dI ns)
abbrev dLL (l : List (List Int)) : PyData := .list (l.map dL)
theorem lay_ints : ∀ ns : List Int, PyData.canLayAll0 (dI ns) = true
  | [] => rfl
  | n :: r => by
    show (PyData.canLay0 (.int n) && PyData.canLayAll0 (dI r)) = true
    rw [lay_ints r]
    rfl
theorem depth_ints : ∀ ns : List Int, PyData.depthAll (dI ns) = 0
  | [] => by simp [PyData.depthAll]
  | n :: r => by
    show PyData.depthAll (.int n :: dI r) = 0
    rw [PyData.depthAll, depth_ints r]
    simp [PyData.depth]
theorem lay_list (ns : List Int) : PyData.canLay0 (dL ns) = true := by
  rw [PyData.canLay0]
  exact lay_ints ns
theorem depth_list (ns : List Int) : PyData.depth (dL ns) = 1 := by
  rw [PyData.depth, depth_ints]
theorem shaped_list (ns : List Int) : SeqAt.shaped (dL ns) = true := by
  unfold SeqAt.shaped
  rw [lay_list, depth_list]
  rfl
theorem lay_lists : ∀ l : List (List Int), PyData.canLayAll0 (l.map dL) = true
  | [] => rfl
  | n :: r => by
    show (PyData.canLay0 (dL n) && PyData.canLayAll0 (r.map dL)) = true
    rw [lay_lists r, lay_list]
    rfl
theorem depth_lists : ∀ l : List (List Int), PyData.depthAll (l.map dL) ≤ 1
  | [] => by simp [PyData.depthAll]
  | n :: r => by
    show PyData.depthAll (dL n :: r.map dL) ≤ 1
    rw [PyData.depthAll, depth_list]
    have := depth_lists r
    omega
theorem shaped_lists (l : List (List Int)) : SeqAt.shaped (dLL l) = true := by
  unfold SeqAt.shaped
  rw [Bool.and_eq_true_iff]
  constructor
  · rw [PyData.canLay0]
    exact lay_lists l
  · apply decide_eq_true
    rw [PyData.depth]
    have := depth_lists l
    omega
theorem eqv_list (ns : List Int) : PyData.eqv (dL ns) (dL ns) = true := SeqAt.eqv_refl _ (lay_list ns)
theorem eqv_lists (l : List (List Int)) : PyData.eqv (dLL l) (dLL l) = true := SeqAt.eqv_refl _ (SeqAt.canLay_of_shaped (shaped_lists l))
theorem eqvAll_ints : ∀ a b : List Int, PyData.eqvAll (dI a) (dI b) = decide (a = b)
  | [], [] => by simp [PyData.eqvAll]
  | [], _ :: _ => by simp [PyData.eqvAll]
  | _ :: _, [] => by simp [PyData.eqvAll]
  | x :: a, y :: b => by
    show PyData.eqvAll (.int x :: dI a) (.int y :: dI b) = _
    rw [PyData.eqvAll, eqvAll_ints a b]
    show ((x == y) && decide (a = b)) = decide (x :: a = y :: b)
    by_cases h : x = y
    · subst h
      simp
    · simp [h]
theorem eqv_ints (a b : List Int) : PyData.eqv (dL a) (dL b) = decide (a = b) := by
  rw [PyData.eqv]
  exact eqvAll_ints a b
end Fo
namespace Fo
open PySem PySem.Spec PyProof.Rows L2
/-! ### slices of ints -/
def cutI (ws : List Int) (lo hi : Option Int) : List Int := (ws.drop (HT.sIx ws.length 0 lo)).take (HT.sIx ws.length ws.length hi - HT.sIx ws.length 0 lo)
theorem cut_ints (ws : List Int) (lo hi : Option Int) : cutV (ws.map V.int) lo hi = (cutI ws lo hi).map V.int := by
  unfold cutV cutI
  rw [List.length_map, List.map_take, List.map_drop]
theorem cutI_mem {ws : List Int} {lo hi : Option Int} {x : Int} (h : x ∈ cutI ws lo hi) : x ∈ ws := List.mem_of_mem_drop (List.mem_of_mem_take h)
theorem cutI_len (ws : List Int) (lo hi : Option Int) : (cutI ws lo hi).length ≤ ws.length := by
  unfold cutI
  rw [List.length_take, List.length_drop]
  omega
theorem cutI_head (ws : List Int) (k : Nat) : cutI ws none (some (k : Int)) = ws.take k := by
  unfold cutI
  rw [HT.sIx_none, HT.sIx_nat, List.drop_zero, Nat.sub_zero]
  by_cases h : k ≤ ws.length
  · rw [Nat.min_eq_left h]
  · rw [Nat.min_eq_right (by omega), List.take_length, List.take_of_length_le (by omega)]
theorem cutI_tail (ws : List Int) (k : Nat) : cutI ws (some (k : Int)) none = ws.drop k := by
  unfold cutI
  rw [HT.sIx_none, HT.sIx_nat]
  by_cases h : k ≤ ws.length
  · rw [Nat.min_eq_left h, List.take_of_length_le (by rw [List.length_drop]; exact Nat.le_refl _)]
  · rw [Nat.min_eq_right (by omega), List.drop_of_length_le (Nat.le_refl _), List.drop_of_length_le (by omega), List.take_nil]
end Fo
namespace Fo
open PySem PySem.Spec PyProof.Rows L2
/-! ### the text -/
def topS (i : Nat) : Stmt := PySem.Challenge.pw_farorders_k78_texts_of_no_orders.main.body.getD i (.Pass ⟨0, 0, 0, 0⟩)
abbrev s_OrderError : Stmt := topS 1
abbrev s_NoOrder : Stmt := topS 2
abbrev s_NoWay : Stmt := topS 3
abbrev s_NoFit : Stmt := topS 4
abbrev s_NoPlace : Stmt := topS 5
abbrev s_NoNumber : Stmt := topS 6
abbrev s_TooMany : Stmt := topS 7
abbrev s_NoText : Stmt := topS 8
abbrev s_NoName : Stmt := topS 9
abbrev s_NoRow : Stmt := topS 10
abbrev s_is_whole : Stmt := topS 12
abbrev s_is_order : Stmt := topS 15
abbrev s_check_order : Stmt := topS 16
abbrev s_is_order_list : Stmt := topS 17
abbrev s_show_order : Stmt := topS 20
abbrev s_written : Stmt := topS 21
abbrev s_show_orders : Stmt := topS 22
abbrev s_read_order : Stmt := topS 23
abbrev s_check_text : Stmt := topS 24
abbrev s_number_in : Stmt := topS 25
abbrev s_read_orders : Stmt := topS 26
abbrev s_law_pool : Stmt := topS 28
abbrev s_law_draw : Stmt := topS 29
abbrev s_law_order : Stmt := topS 30
abbrev s_law_near : Stmt := topS 31
abbrev s_law_written : Stmt := topS 32
abbrev s_law_list_written : Stmt := topS 33
abbrev s_law_asked : Stmt := topS 34
abbrev s_law_number : Stmt := topS 35
abbrev s_law_read : Stmt := topS 36
abbrev s_law_read_list : Stmt := topS 37
abbrev s_law_changed : Stmt := topS 38
abbrev s_law_odd : Stmt := topS 39
abbrev s_law_texts_right : Stmt := topS 40
abbrev s_law : Stmt := topS 41
/-- a def of the text, where it stands -/
structure Df (K : PySem.W.Frag) (mg : Str → Option Value) (x : Str) (st : Stmt) (ps : List Str) (f : Addr) (fd : FuncData) : Prop where
  F : Fun K x x st f fd
  b : Binds K fd ps []
  g : mg x = some (.ref f)
/-- the built-in names as they were -/
structure Bi (mg : Str → Option Value) : Prop where
  ValueError : mg "ValueError" = none
  all : mg "all" = none
  bool : mg "bool" = none
  int : mg "int" = none
  isinstance : mg "isinstance" = none
  len : mg "len" = none
  list : mg "list" = none
  max : mg "max" = none
  min : mg "min" = none
  range : mg "range" = none
  sorted : mg "sorted" = none
  str : mg "str" = none
end Fo
namespace Fo
open PySem PySem.Spec PyProof.Rows L2
theorem same_new {H : Hp} {p : Addr} {o : HO} (h : H p = none) : Same H (upd H p o) := fun b x e => by
  rw [upd_ne (ne_of_none e h)]
  exact e
theorem at2_0 {x y : V} : atI [x, y] 0 = some x := rfl
theorem at2_1 {x y : V} : atI [x, y] 1 = some y := rfl
end Fo
namespace Fo
open PySem PySem.Spec PyProof.Rows L2
theorem pop_perm : ∀ {xs : List Int} {k : Nat} {y : Int}, xs[k]? = some y → (y :: xs.eraseIdx k).Perm xs
  | [], k, y, h => by simp at h
  | a :: r, 0, y, h => by
    have e : a = y := Option.some.inj h
    subst e
    exact List.Perm.refl _
  | a :: r, k + 1, y, h => by
    have ih := pop_perm (xs := r) (k := k) (y := y) h
    show (y :: a :: r.eraseIdx k).Perm (a :: r)
    exact (List.Perm.swap a y _).trans (List.Perm.cons a ih)
theorem map_erase : ∀ (xs : List Int) (k : Nat), (xs.map V.int).eraseIdx k = (xs.eraseIdx k).map V.int
  | [], k => rfl
  | a :: r, 0 => rfl
  | a :: r, k + 1 => congrArg (V.int a :: ·) (map_erase r k)
/-- what len asks of a list or a tuple -/
abbrev rLenS (K : PySem.W.Frag) : List V → Hp → VK → Prop := fun xs H Q => ∃ p ys, xs = [.ref p] ∧ (SqL K H p ys ∨ SqT K H p ys) ∧ Q (.int ys.length) H
theorem seq_ix {i : Int} {k n : Nat} (e : i = (k : Int)) (h : k < n) : seqIndex? i n = some k := by
  subst e
  unfold seqIndex?
  have h1 : ¬ ((k : Int) < 0) := by omega
  simp only [h1, if_false]
  have h2 : (decide ((0 : Int) ≤ (k : Int)) && decide ((k : Int) < (n : Int))) = true := by
    simp
    omega
  rw [if_pos h2, Int.toNat_natCast]
theorem ix_n {i : Int} {k n : Nat} (e : i = (k : Int)) (h : k < n) : ixN n i = some k := by
  subst e
  unfold ixN
  rw [if_pos (by omega), if_pos (by omega), Int.toNat_natCast]
end Fo
namespace Fo
open PySem PySem.Spec PyProof.Rows L2
abbrev rMax2 : List V → Hp → VK → Prop := fun xs H Q => ∃ i j, xs = [.int i, .int j] ∧ Q (.int (if j > i then j else i)) H
abbrev rMin2 : List V → Hp → VK → Prop := fun xs H Q => ∃ i j, xs = [.int i, .int j] ∧ Q (.int (if j < i then j else i)) H
abbrev rInt1 : List V → Hp → VK → Prop := fun xs H Q => (∃ i, xs = [.int i] ∧ Q (.int i) H) ∨ ∃ k, xs = [.bl k] ∧ Q (.int (if k then 1 else 0)) H
theorem filter_more {l : List Int} {m : Nat} {x : Int} (p : Int → Bool) (h : l[m]? = some x) : (l.take (m + 1)).filter p = (l.take m).filter p ++ (if p x then [x] else []) := by
  rw [List.take_add_one, h, List.filter_append]
  show _ ++ List.filter p [x] = _
  rw [List.filter_cons]
  rfl
end Fo
namespace Fo
open PySem PySem.Spec PyProof.Rows L2
/-- what is tracked lies elsewhere than the table of modules -/
def SysAt (base : Heap) : Prop := ∃ o, base.get? sysModules = some o
/-! defs that ask repr: they want to know that no other repr is under way (A.guards) -/
structure FnG (P : Program) (w : World) (K : PySem.W.Frag) (mg : Str → Option Value) (base : Heap) (k : Nat) (f : Addr) (fd : FuncData) (ps : List Str) (sp : Sp) : Prop where
  len : ∀ vs H Q E, sp vs H Q E → vs.length = ps.length
  go : ∀ (A : Around) (outer : List Env) (s : Shared) (H : Hp) (args : Args) (us : List Value) (vs : List V) (Q : VK) (E : XK), A.guards = some [] → Room k A → Env0 P w K mg base A outer s H → BindsTo s fd args (ps.zip us) → Vals vs us → sp vs H Q E → codeAny (model P w) A (.call (.ref f) args) (CR CX0 outer P w H s Q E) s
section
variable {P : Program} {w : World} {K : PySem.W.Frag} {mg : Str → Option Value} {base : Heap}
/-- as Fun.ok -/
theorem okG {y qual : Str} {st : Stmt} {f : Addr} {fd : FuncData} {N ps : List Str} {k : Nat} {sp : Sp} (F : Fun K y qual st f fd) (S : FnScope N ps (defScope st)) (len : ∀ vs H Q E, sp vs H Q E → vs.length = ps.length)
    (body : ∀ (cdv : Value) (A : Around) (outer : List Env) (s : Shared) (H : Hp) (vs : List V) (Q : VK) (E : XK), A.guards = some [] → Room k (A.deeper (envOfC qual (defScope st) s.heap.objs.size f cdv)) → sp vs H Q E →
      ∃ t, PSs (cxOf CX0 P w K mg base N qual (defScope st) f cdv A outer s H E).nox (defBody st) t ∧ t { nx := fun _ H' => Q .non H', rt := Q } (start N vs) H) : FnG P w K mg base (k + 1) f fd ps sp := by
  obtain ⟨oc, od, kV, dc, pm, an, cdv, ct, osl, rfl, lk, hcd⟩ := F.ex
  refine ⟨len, fun A outer s H args us vs Q E gA rm ev bn rv h => ?_⟩
  have kin : K.In s.heap := ev.mod.kin.keeps fun b o e => (ev.bs b o e).1
  have nol : s.heap.NoLimit := ev.mod.nolimit.keeps fun b o e => (ev.bs b o e).1
  refine codeAny_call_function rm.depth (kin _ _ lk) rfl S.co S.gen rfl (PySem.W.codeRec_of kin hcd) (bn _ _ _ _ ?_)
  refine wpAny_newFunctionEnv_cells S.kind (fun yv hy => ?_) fun env he s1 inc => ?_
  · rcases S.par yv.1 (List.of_mem_zip hy).1 with z | z
    · exact .inl z
    · exact .inr ⟨z, PySem.W.cellsFrom_some _ _ _ (.inl z)⟩
  · subst he
    refine ⟨nol.keeps inc.toInCall.keep, codeAny_func ?_⟩
    obtain ⟨t, pt, qt⟩ := body cdv A outer s H vs Q E gA (rm.deeper _) h
    have J : Inv (cxOf CX0 P w K mg base N qual (defScope st) f cdv A outer s H E) [] (start N vs) H s1 := inv_start S rm.hd ev (len _ _ _ _ h) rv inc
    refine wpAny_mono (pt.nox.run [] s1 (start N vs) H _ J qt) (fun fl s' z => ?_) fun _ _ z => z
    cases fl with
    | brk => exact z.choose_spec.choose_spec.2.elim
    | cont => exact z.choose_spec.choose_spec.2.elim
    | next =>
      obtain ⟨σ', H', J', q⟩ := z
      exact ⟨V.non, H', J'.os, J'.bare, J'.base, J'.hok, rfl, q⟩
    | ret u =>
      obtain ⟨v, σ', H', J', r', q⟩ := z
      exact ⟨v, H', J'.os, J'.bare, J'.base, J'.hok, r', q⟩
end
section
variable {X : Cx}
/-- the call of such a def -/
theorem pe_callG {k : Nat} {f : Addr} {fd : FuncData} {ps : List Str} {sp : Sp} {y : Str} {p pos : Pos} {e : Expr} {es : List Expr} {t : TA} (F : FnG X.prog X.w X.K X.mg X.base k f fd ps sp) (gA : X.A.guards = some []) (hr : Room k X.A) (hg : Gl X y) (hm : X.mg y = some (.ref f)) (hk : PySem.W.keepIn X.K (.ref f) = true) (hb : Binds X.K fd ps [])
    (ha : PA X (e :: es) t) (hdb : (y == ("__debug__" : Str)) = false := by decide) (he : starEach (e :: es) X.env = (false, eval e X.env) :: starEach es X.env := by rfl) (hpl : (backTo pos (starEach es X.env)).any (·.1) = false := by rfl) :
    PE X (.Call (.Name y p) (e :: es) [] pos) (tCall sp [] E0 t) := by
  refine ⟨fun pins s σ H Q I h => wpAny_Call_Name_kw (ld_glob I hg hm (PySem.W.callWith_K (h₀ := X.base) I.ok.mod.kin hk (thn (ha.run pos pins s σ H _ I h) fun us s1 ⟨vs, H1, I1, r, q⟩ => ⟨I1.kIn, ?_⟩) he hpl) hdb)⟩
  have r2 : Vals (vs ++ []) (us ++ []) := r.append .nil
  have hl : (us ++ []).length = ps.length := by rw [← r2.length]; exact F.len _ _ _ _ q
  refine wpAny_call (codeAny_mono (F.go X.A X.stack s1 H1 ⟨us, []⟩ (us ++ []) (vs ++ []) Q E0 gA hr I1.env0 (hb s1 us I1.kIn hl) r2 q) fun rs s' hq => ?_)
  match rs, hq with
  | .error _, hq => exact hq.elim
  | .ok (.ret u), hq => exact I1.after hq
  | .ok .next, hq => exact False.elim hq
  | .ok .brk, hq => exact False.elim hq
  | .ok .cont, hq => exact False.elim hq
end
/-! the end of such a law -/
section
variable {P : Program} {w : World} {K : PySem.W.Frag} {mg mb : Str → Option Value} {k : Nat} {fa a : Addr} {fd : FuncData} {y : Str} {sp : Sp} {s : Shared} {us : List Value} {ns : List Int}
theorem lawG_at (kin : K.In s.heap) (ng : s.heap.Ns mainGlobals mg) (nb : s.heap.Ns builtinsNs mb) (eb : ∀ x : Str, x ≠ "__name__" → mb x = bootBuiltins x) (lim : s.heap.NoLimit) (eg : s.gens = #[]) (oa : s.heap.get? a = some { cls := .type "list", data := .seq us.toArray }) (rm : Room k callerA)
    (sy : ∃ m, s.heap.Ns sysModules m) (F : ∀ base : Heap, K.In base → base.Ns mainGlobals mg → SysAt base → FnG P w K mg base k fa fd [y] sp) (bn : ∀ (s : Shared) (u : Value), BindsTo s fd ⟨[u], []⟩ [(y, u)]) {H : Hp} (only : Only H) (hok : HOk P w H s.heap) (h1 : ∀ b, H b ≠ none → b = a) (h2 : H a ≠ none → K.lookup a = none) (h : sp [.ref a] H (fun v _ => v = .bl true) fun _ _ _ => False) :
    codeAny (model P w) callerA (.call (.ref fa) ⟨[.ref a], []⟩) (fun r s' => r = .ok (.ret (.bool true)) ∧ OldK s.heap s'.heap ∧ s'.os = s.os ∧ AllBare s'.gens) s := by
  have trk : ∀ {b : Addr} {u : HO}, H b = some u → b = a := fun {b u} e => h1 b (by rw [e]; exact fun z => nomatch z)
  have noD : ∀ {b : Addr} {o : Obj} {es : Array DictEntry} {ep : Nat}, s.heap.get? b = some o → o.data = .dict es ep → H b = none := fun {b o es ep} e dd => by
    cases q : H b with
    | none => rfl
    | some u =>
      have eq := trk q
      rw [eq, oa] at e
      cases e
      cases (show Data.seq us.toArray _ = Data.dict es ep from dd)
  have nsB : ∀ {b : Addr} {m : Str → Option Value}, s.heap.Ns b m → (hidT s.heap H).Ns b m := fun {b m} ⟨o, es, ep, e, dd, r⟩ => ⟨o, es, ep, hidT_get e (noD e dd), dd, r⟩
  have kinB : K.In (hidT s.heap H) := fun b o e => hidT_get (kin b o e) (by
    cases q : H b with
    | none => rfl
    | some u =>
      have eq := trk q
      rw [eq] at e q
      rw [h2 (by rw [q]; exact fun z => nomatch z)] at e
      cases e)
  have md : Mod K mg (hidT s.heap H) := ⟨kinB, nsB ng, ⟨mb, nsB nb, eb⟩, let ⟨mc, l1, l2⟩ := lim; ⟨mc, nsB l1, l2⟩⟩
  have noF : ∀ b : Addr, b ∉ ([] : List Addr) := fun b z => nomatch z
  have ev : Env0 P w K mg (hidT s.heap H) callerA [] s H := ⟨rfl, md, fun b o e => of_hidT e, Nat.le_of_eq (hidT_size _ _), trivial, fun b z => absurd (show b ∈ ([] : List Addr) from z) (noF b), hok, .of_eq eg⟩
  have sB : SysAt (hidT s.heap H) := by
    obtain ⟨m, z⟩ := sy
    obtain ⟨o, _, _, e, _⟩ := nsB z
    exact ⟨o, e⟩
  refine codeAny_mono ((F _ kinB (nsB ng) sB).go callerA [] s H ⟨[.ref a], []⟩ [.ref a] [.ref a] _ _ rfl rm ev (bn s (.ref a)) (.cons rfl .nil) h) fun rs s' z => ?_
  match rs, z with
  | .error _, z => exact z.elim
  | .ok .next, z => exact False.elim z
  | .ok .brk, z => exact False.elim z
  | .ok .cont, z => exact False.elim z
  | .ok (.ret u), z =>
    obtain ⟨v, H', os, ba, un, hok', rv, q⟩ := z
    obtain rfl : v = .bl true := q
    obtain rfl : u = Value.bool true := rv
    refine ⟨rfl, OldK.of_keep fun b o e => ?_, os, ba⟩
    rcases only b with z | ⟨ob, xs, z⟩
    · exact un.keep b o e z (fun y => absurd (show b ∈ ([] : List Addr) from y) (noF b)) (noF b)
    · obtain ⟨g1, _⟩ := hok b _ z
      obtain ⟨g2, _⟩ := hok' b _ (un.frzs b ob _ z)
      rw [e] at g1
      cases g1
      exact g2
theorem lawG (kin : K.In s.heap) (ng : s.heap.Ns mainGlobals mg) (nb : s.heap.Ns builtinsNs mb) (eb : ∀ x : Str, x ≠ "__name__" → mb x = bootBuiltins x) (lim : s.heap.NoLimit) (eg : s.gens = #[]) (oa : s.heap.get? a = some { cls := .type "list", data := .seq us.toArray }) (hi : IntsAre us ns) (hl : ns.length ≤ sizeLine) (rm : Room k callerA)
    (sy : ∃ m, s.heap.Ns sysModules m) (F : ∀ base : Heap, K.In base → base.Ns mainGlobals mg → SysAt base → FnG P w K mg base k fa fd [y] sp) (bn : ∀ (s : Shared) (u : Value), BindsTo s fd ⟨[u], []⟩ [(y, u)]) (hsp : ∀ H : Hp, Only H → SqL K H a (ns.map V.int) → sp [.ref a] H (fun v _ => v = .bl true) fun _ _ _ => False) :
    codeAny (model P w) callerA (.call (.ref fa) ⟨[.ref a], []⟩) (fun r s' => r = .ok (.ret (.bool true)) ∧ OldK s.heap s'.heap ∧ s'.os = s.os ∧ AllBare s'.gens) s := by
  have rv := vals_ints hi
  have el := hi.length
  cases hk : K.lookup a with
  | some o =>
    have e := kin a o hk
    rw [oa] at e
    cases e
    have o0 : Only (fun _ => none) := fun _ => .inl rfl
    exact lawG_at kin ng nb eb lim eg oa rm sy F bn o0 (fun b u z => absurd (show (none : Option HO) = some u from z) (fun y => nomatch y)) (fun b z => absurd rfl z) (fun z => absurd rfl z) (hsp _ o0 (.inr ⟨_, us.toArray, _, hk, rfl, rfl, rfl, by rw [List.size_toArray, el]; exact hl, by simpa using rv⟩))
  | none =>
    obtain ⟨ob, eo⟩ : ∃ ob : Obj, ob = { cls := .type "list", data := .seq us.toArray } := ⟨_, rfl⟩
    obtain ⟨H, eH⟩ : ∃ H : Hp, H = fun b => if b = a then some (.frz ob (.lst (ns.map V.int))) else none := ⟨_, rfl⟩
    have ha : H a = some (.frz ob (.lst (ns.map V.int))) := by rw [eH]; exact if_pos rfl
    have hb : ∀ b, b ≠ a → H b = none := fun b z => by rw [eH]; exact if_neg z
    have on : Only H := fun b => by
      by_cases z : b = a
      · rw [z]
        exact .inr ⟨_, _, ha⟩
      · exact .inl (hb b z)
    refine lawG_at kin ng nb eb lim eg oa rm sy F bn on (fun b u z => ?_) (fun b z => ?_) (fun _ => hk) (hsp H on (.inl (.inr ⟨ob, ha⟩)))
    · by_cases y : b = a
      · subst y
        rw [ha] at z
        cases z
        rw [eo]
        exact ⟨oa, by rw [List.length_map]; exact hl, us, _, rv, oa⟩
      · rw [hb b y] at z
        cases z
    · by_cases y : b = a
      · exact y
      · exact absurd (hb b y) z
end
theorem walkG {l : PySem.W.OpenLaw} {n k : Nat} {q : Program} {loose : List Str} {XP : (Str → Option Value) → Heap → Prop} {YP : World → Heap → Prop} {d : DefRec} {K : Params → PySem.W.Frag} {sp : World → Sp} {y : Str} (hn : l.most = some n) (hn2 : n ≤ sizeLine) (hdf : d.params.defaults = []) (rm : Room k callerA) (hY : ∀ (w : World) (h : Heap), YP w h → (K w.params).In h) (him : importsNone q = true)
    (F : ∀ (w : World) (mg : Str → Option Value) (fa : Addr) (h : Heap), (K w.params).In h → h.Ns mainGlobals mg → mg d.name = some (.ref fa) → ∃ fd : FuncData, (∀ (s : Shared) (u : Value), BindsTo s fd ⟨[u], []⟩ [(y, u)]) ∧ ∀ base : Heap, (K w.params).In base → base.Ns mainGlobals mg → SysAt base → FnG l.prog w (K w.params) mg base k fa fd [y] (sp w))
    (hsp : ∀ (w : World) (H : Hp) (a : Addr) (ns : List Int), ns.length ≤ n → Only H → SqL (K w.params) H a (ns.map V.int) → sp w [.ref a] H (fun v _ => v = .bl true) fun _ _ _ => False) : PySem.W.WalkO q loose XP YP l.row.toRowW d [] (fun f vs => PySem.call f vs) := by
  refine Att.attach_call hn hdf fun w sA sB mg mb fa o1 pm cd dc ad us ns G Y ho hd hcd hmg hob hin hle hge => ?_
  have KX := hY w _ Y
  obtain ⟨fd, hb, hF⟩ := F w mg fa _ KX G.T.g hmg
  obtain ⟨mm, sy, _⟩ := (G.T.seer him).mods
  exact lawG KX G.T.g G.T.b G.T.builtins G.T.nolimit hge hob hin (Nat.le_trans hle hn2) rm ⟨mm, sy⟩ hF hb fun H hH hS => hsp w H ad ns hle hH hS
end Fo
namespace Fo
open PySem PySem.Spec PyProof.Rows L2
/-! an error that was caught is known behind the try, too -/
def ExV (cls : Value) (d : Option Addr) (a : Addr) : HO := .ext fun h => ∃ oe : Obj, h.get? a = some oe ∧ Zc cls d oe ∧ ∃ vs, oe.data = .fields vs
theorem exV_ok {P : Program} {w : World} {H : Hp} {h : Heap} {a : Addr} {cls : Value} {d : Option Addr} {oe : Obj} (e : h.get? a = some oe) (z : Zc cls d oe) (f : ∃ vs, oe.data = .fields vs) : ObjOk P w H h a (ExV cls d a) :=
  ⟨⟨oe, e, z, f⟩, ⟨oe, e⟩, fun _ _ ⟨o, q, r⟩ k => ⟨o, k o q, r⟩⟩
theorem inv_track {X : Cx} {pins : List (Addr × Obj)} {σ : L2.St} {H : Hp} {s : Shared} {a : Addr} {o : HO} (I : Inv X pins σ H s) (na : H a = none) (n0 : X.s_0.heap.get? a = none) (nL : a ≠ X.env.locals) (nC : ∀ x c, X.env.cells.lookup x = some c → c ≠ a) (nP : ∀ p ∈ X.pn ++ pins, p.1 ≠ a) (new : ObjOk X.prog X.w (upd H a o) s.heap a o) :
    Inv X pins σ (upd H a o) s := by
  have n1 : ∀ b u, X.s_0.heap.get? b = some u → b ≠ a := fun b u e z => by rw [z, n0] at e; cases e
  refine ⟨I.ok, I.os, I.bare, ⟨I.base.keep, I.base.slot, fun b u e n hq => ?_, I.base.there, fun b xs e => ?_, fun b u xs e => ?_, fun b ps e => ?_⟩, I.loc, I.cell, ?_, fun x c e => ?_, fun p hp => ?_, I.hok.laidN (fun _ _ e => e) na new, I.len⟩
  · rw [upd_ne (n1 b u e)]
    exact I.base.free b u e n hq
  · have q := I.base.tups b xs e
    rw [upd_ne (ne_of_none q na)]
    exact q
  · have q := I.base.frzs b u xs e
    rw [upd_ne (ne_of_none q na)]
    exact q
  · obtain ⟨m, q⟩ := I.base.tbls b ps e
    exact ⟨m, by rw [upd_ne (ne_of_none q na)]; exact q⟩
  · rw [upd_ne (Ne.symm nL)]
    exact I.free
  · rw [upd_ne (nC x c e)]
    exact I.freeC x c e
  · obtain ⟨e, n, ne, nf, d⟩ := I.pin p hp
    exact ⟨e, by rw [upd_ne (nP p hp)]; exact n, ne, nf, d⟩
/-- what an «except x as n» wishes, the error known behind it -/
def wAsK (K : PySem.W.Frag) (c : Value) (i : Nat) (ts : Addr → Value → Option Addr → TS) (Wout : WX) (D : Ends) : WX := fun cls d σ H =>
  ∃ b, PySem.W.exmOne K cls c = some b ∧ (b = true → ∀ a, H a = none → ts a cls d ⟨fun σ' H' => D.nx (σ'.set i none) (upd H' a (ExV cls d a)), fun v H' => D.rt v (upd H' a (ExV cls d a)), fun σ' H' => D.bk (σ'.set i none) (upd H' a (ExV cls d a)), fun σ' H' => D.ct (σ'.set i none) (upd H' a (ExV cls d a))⟩ (σ.set i (some (.ref a))) H) ∧ (b = false → Wout cls d σ H)
section
variable {X : Cx} {x n : Str} {c : Value} {i : Nat} {body suite : List Stmt} {b₀ : Stmt} {np pos pos' : Pos} {tb : WX → TS} {ts : Addr → Value → Option Addr → TS} {Wout : WX}
theorem ps_try_k (hs : X.stack = X.env :: X.outer) (hf : X.env.frame = some X.env.locals) (hex : X.ex = []) (hN : X.N.Nodup) (hi : X.N[i]? = some n) (hln : X.env.kindOf n = some .local) (hc : Names X x c) (tk : Takes X Wout)
    (hb : ∀ (W : WX) (pn : List (Addr × Obj)) (xe : Value → Shared → Prop), Takes (X.tr pn xe) W → PassesOwn (model X.prog X.w) X.A X.env xe → PSs (X.tr pn xe) body (tb W)) (hsu : ∀ (a : Addr) (oe : Obj) (cls : Value) (d : Option Addr) (pn : List (Addr × Obj)), Zc cls d oe → (∃ vs, oe.data = .fields vs) → PSs (X.suite a ((a, oe) :: pn)) (b₀ :: suite) (ts a cls d)) : PS X (.Try body [.ExceptHandler (some (.Name x np)) (some n) (b₀ :: suite) pos'] [] [] pos) (fun D σ H => tb (wAsK X.K c i ts Wout D) D σ H) := by
  refine ⟨fun pins s σ H D I hw => ?_⟩
  have okX := I.ok
  have frX : X.A.frames = some (X.env :: X.outer) := by rw [okX.frames, hs]
  have lcN : Loc X.env.scope n := .inl hln
  refine wpAny_Try_except (wpAny_mono ((hb (wAsK X.K c i ts Wout D) (X.pn ++ pins) (fun e s₁ => wpAny (model X.prog X.w) X.A (noteFrame e X.env) (fun _ s₂ => wpAny (model X.prog X.w) X.A (setFlight e none) (fun _ s₃ => wpAny (model X.prog X.w) X.A (handleBy e X.env [.ExceptHandler (some (.Name x np)) (some n) (b₀ :: suite) pos']) (SP X pins D) X.xe s₃) X.xe s₂) X.xe s₁) (fun u s' xx => ?_) PassesOwn.looking).run [] s σ H D (I.toTry _) hw) (fun fl s1 hsp => ?_) (fun _ _ he => he))
  · obtain ⟨a, Bg, sI, pins', σ', H', cls, d, rfl, J', nb, up, sky, na, os, ag, b, hb1, hyes, hno⟩ := xx
    have Ja : Inv X pins σ' H' sI := J'.ofTry okX
    have skyE : Sky Bg (X.env :: X.outer) a (Zc cls d) X.env.locals s'.heap := by rw [← hs]; exact sky
    show wpAny (model X.prog X.w) X.A (noteFrame (.ref a) X.env) _ _ _
    refine Sky.land Zc.steady frX hf skyE fun h3 fl3 up3 => ?_
    have Jb : Inv X pins σ' H' { s' with heap := h3 } := Ja.landed nb fl3.1 (up.trans up3) os ag
    obtain ⟨oe3, vs3, he3, hz3, hd3⟩ := fl3.there
    have nfr : a ∉ frs (X.env :: X.outer) := fun hm => by
      obtain ⟨_, o', e', hnf⟩ := fl3.2.2.1.mem hm
      rw [he3] at e'
      cases e'
      exact hnf _ hd3
    have nL : a ≠ X.env.locals := fun z => nfr (List.mem_filterMap.mpr ⟨X.env, List.mem_cons_self, by rw [hf, z]⟩)
    have nF : a ∉ X.fs := fun hm => by
      obtain ⟨e, hem, q⟩ := List.mem_filterMap.mp hm
      exact nfr (List.mem_filterMap.mpr ⟨e, List.mem_cons_of_mem _ hem, q⟩)
    have nB : Bg.get? a = none := fl3.2.1
    have n0 : X.s_0.heap.get? a = none := by
      cases e : X.s_0.heap.get? a with
      | none => rfl
      | some o =>
        obtain ⟨o', q⟩ := Ja.base.there a o e (by rw [hex]; exact fun z => nomatch z)
        have z := nb a o' q (by rw [hs]; exact nfr)
        rw [nB] at z
        cases z
    have nP : ∀ p ∈ X.pn ++ pins, p.1 ≠ a := fun p hp z => by
      obtain ⟨e, _, ne, nf, _⟩ := Ja.pin p hp
      have q := nb p.1 p.2 e (fun hm => by
        rcases List.mem_cons.mp (Ja.stkSub p.1 hm) with y | y
        · exact ne y
        · exact nf y)
      rw [z, nB] at q
      cases q
    have Sb := Jb.suite he3 hd3 na nL nF
    refine wpAny_handleBy_cons (codeAny_handlers_test ?_) (by intro q; cases q)
    have tyA : PySem.W.Looks (model X.prog X.w) h3 (typeOf (.ref a)) cls := fun A Q E s k q => wpAny_typeOf_ref (k _ _ he3) (by rw [hz3.1]; exact q)
    have exA := PySem.W.exm_one (M := model X.prog X.w) (Jb.kIn) tyA hb1
    have nameA : ∀ {Q : Value → Shared → Prop} {E : Value → Shared → Prop}, Q c { s' with heap := h3 } → wpAny (model X.prog X.w) (X.A.mark (some (.ref a))) (eval (.Name x np) X.env) Q E { s' with heap := h3 } := fun {Q E} q => by
      rcases hc with ⟨hg, hdbg, hm | ⟨hm, hv, hnn⟩⟩
      · exact ld_glob (X := X.suite a ((a, oe3) :: (X.pn ++ pins))) Sb hg hm q hdbg
      · exact ld_blt (X := X.suite a ((a, oe3) :: (X.pn ++ pins))) Sb hg hm hv q hnn hdbg
    refine nameA (exA.here ?_)
    cases b with
    | false =>
      show wpAny _ X.A (handleBy (.ref a) X.env []) _ _ _
      refine wpAny_handleBy_nil ?_
      obtain ⟨k1, k2, k3, oe, vs, T, oT, ts', he, hz, hd, h1, hr⟩ := id fl3
      unfold PySem.passOn
      refine wpAny_bind (wpAny_field he hd h1 ?_)
      rw [if_neg (show ¬ ((Value.ref T == Value.none) = true) from by simp)]
      have out : wpAny (model X.prog X.w) X.A (setFlight (.ref a) X.env.frame) (fun _ s4 => wpAny (model X.prog X.w) X.A (throw (.ref a) : Sem Flow) (SP X pins D) X.xe s4) X.xe { s' with heap := h3 } := by
        rw [hf]
        exact HandSPX.setFlight_upZ fl3 fun h4 hh4 up4 => wpAny_throw (tk _ _ ⟨a, Bg, sI, pins, σ', H', cls, d, rfl, Ja, nb, (up.trans up3).trans up4, .inr (.inr (by rw [hs]; exact hh4)), na, os, ag, hno rfl⟩)
      first
        | exact wpAny_bind (wpAny_pure (wpAny_bind out))
        | exact wpAny_bind out
    | true =>
      refine codeAny_handlers_suite_as (HandSPX.lands_againZ fl3 fun h4 fl4 up4 => ?_)
      have Jc : Inv X pins σ' H' { s' with heap := h4 } := Ja.landed nb fl4.1 ((up.trans up3).trans up4) os ag
      obtain ⟨oe4, vs4, he4, hz4, hd4⟩ := fl4.there
      have Sc := Jc.suite he4 hd4 na nL nF
      refine store_ok (X := X.suite a ((a, oe4) :: (X.pn ++ pins))) (v := .ref a) Sc hN hi lcN rfl (fun s5 S5 => ?_) (.inr hln)
      refine wpAny_mono ((hsu a oe4 cls d (X.pn ++ pins) hz4 ⟨_, hd4⟩).run [] s5 _ H' _ S5 (hyes rfl a na)) (fun fl s6 hsp => ?_) (fun _ _ z => False.elim z)
      have fin : ∀ {σ6 : L2.St} {H6 : Hp} {Q : Shared → Prop}, Inv (X.suite a ((a, oe4) :: (X.pn ++ pins))) [] σ6 H6 s6 → (∀ s7, Inv X pins (σ6.set i none) (upd H6 a (ExV cls d a)) s7 → Q s7) → wpAny (model X.prog X.w) X.A (do bindName X.env n .none; unbindBehindTheSuite X.env n pos') (fun _ s7 => Q s7) X.xe s6 := fun {σ6 H6 Q} S6 hq =>
        gone_ok (X := X.suite a ((a, oe4) :: (X.pn ++ pins))) S6 hN hi hln fun s7 S7 => by
          obtain ⟨g7, n7, _, _, _⟩ := S7.pin (a, oe4) (List.mem_append.mpr (.inl List.mem_cons_self))
          have U7 : Inv X pins (σ6.set i none) H6 s7 := S7.unsuite okX
          refine hq s7 (inv_track U7 n7 n0 nL (fun y cc e z => ?_) nP (exV_ok g7 hz4 ⟨_, hd4⟩))
          obtain ⟨v, o, ho, hdo⟩ := U7.cell y cc e
          rw [z, show s7.heap.get? a = some oe4 from g7] at ho
          cases ho
          rw [hd4] at hdo
          cases hdo
      cases fl with
      | next => obtain ⟨σ6, H6, S6, q6⟩ := hsp; exact fin S6 fun s7 J7 => ⟨_, _, J7, q6⟩
      | brk => obtain ⟨σ6, H6, S6, q6⟩ := hsp; exact fin S6 fun s7 J7 => ⟨_, _, J7, q6⟩
      | cont => obtain ⟨σ6, H6, S6, q6⟩ := hsp; exact fin S6 fun s7 J7 => ⟨_, _, J7, q6⟩
      | ret u => obtain ⟨v6, σ6, H6, S6, r6, q6⟩ := hsp; exact fin S6 fun s7 J7 => ⟨_, _, _, J7, r6, q6⟩
  · cases fl with
    | next => obtain ⟨σ', H', J', q⟩ := hsp; exact wpAny_execs_nil ⟨σ', H', J'.ofTry okX, q⟩
    | brk => obtain ⟨σ', H', J', q⟩ := hsp; exact ⟨σ', H', J'.ofTry okX, q⟩
    | cont => obtain ⟨σ', H', J', q⟩ := hsp; exact ⟨σ', H', J'.ofTry okX, q⟩
    | ret u => obtain ⟨v, σ', H', J', r, q⟩ := hsp; exact ⟨v, σ', H', J'.ofTry okX, r, q⟩
end
/-! isinstance of such an error -/
theorem inst_of {X : Cx} {pins : List (Addr × Obj)} {σ : L2.St} {H : Hp} {s : Shared} {a C : Addr} (I : Inv X pins σ H s) (h : H a = some (ExV (.ref C) none a)) : ∃ oe, PySem.W.InstAt s.heap a oe C none := by
  obtain ⟨⟨oe, g, ⟨h1, h2⟩, vs, hv⟩, _, _⟩ := I.hok a _ h
  obtain ⟨oc, od, oda, osl⟩ := oe
  dsimp only at h1 h2 hv
  subst h1 h2 hv
  exact ⟨_, g, rfl, rfl, trivial⟩
/-- types, errors among them -/
inductive TyZ (K : PySem.W.Frag) (H : Hp) : V → Value → Prop where
  | x {v : V} {t : Value} (h : TyX K H v t) : TyZ K H v t
  | exc {a C : Addr} (h : H a = some (ExV (.ref C) none a)) (c : ExcC K C) : TyZ K H (.ref a) (.ref C)
theorem kitz_of {X : Cx} {pins : List (Addr × Obj)} {σ : L2.St} {H : Hp} {s : Shared} {v : V} {u t : Value} (I : Inv X pins σ H s) (rv : RelV v u) (ty : TyZ X.K H v t) : ∃ Pz : Heap → Prop, PySem.W.KitX X.K u t Pz ∧ Pz s.heap ∧ u ≠ .builtin "__main__.__loader__#opaque" := by
  cases ty with
  | x h => exact kit_of I rv h
  | @exc a C h c =>
    cases (show u = Value.ref a from rv)
    obtain ⟨oe, J⟩ := inst_of I h
    exact ⟨_, PySem.W.handS_kitx_exc c.hg c.hk c.hs c.hd c.ha c.hn c.ht c.hm, J, fun z => nomatch z⟩
def rIsZ (K : PySem.W.Frag) : List V → Hp → VK → Prop := fun xs H Q => ∃ (v c : V) (t u : Value) (b : Bool), xs = [v, c] ∧ ClsV c u ∧ TyZ K H v t ∧ PySem.W.kitOne K t u = some b ∧ Q (.bl b) H
def rIsZT (K : PySem.W.Frag) : List V → Hp → VK → Prop := fun xs H Q => ∃ (v : V) (tp : Addr) (cs : List V) (t : Value) (us : List Value) (b : Bool), xs = [v, .ref tp] ∧ H tp = some (.tup cs) ∧ Paired ClsV cs us ∧ TyZ K H v t ∧ PySem.W.kitAny K t us = some b ∧ Q (.bl b) H
theorem call_isZ {X : Cx} : CallR X (.builtin "isinstance") (rIsZ X.K) := by
  intro pins s σ H xs us Q I r h
  obtain ⟨v, c, t, u, b, rfl, k, ty, e, q⟩ := h
  obtain ⟨w1, w2, rfl, r1, r2⟩ := vals2 r
  obtain rfl := k.eq r2
  obtain ⟨Pz, Z, p, hx⟩ := kitz_of I r1 ty
  exact PySem.W.kia_one Z I.kIn p e hx fun tk => ⟨.bl b, H, I.tok tk, rfl, q⟩
theorem call_isZT {X : Cx} : CallR X (.builtin "isinstance") (rIsZT X.K) := by
  intro pins s σ H xs us Q I r h
  obtain ⟨v, tp, cs, t, ws, b, rfl, hT, k, ty, e, q⟩ := h
  obtain ⟨w1, w2, rfl, r1, r2⟩ := vals2 r
  cases (show w2 = Value.ref tp from r2)
  obtain ⟨Pz, Z, p, hx⟩ := kitz_of I r1 ty
  obtain ⟨_, its, rv, ob, h1, h2, n, h3⟩ := (show ObjOk X.prog X.w H s.heap tp (.tup cs) from I.hok tp _ hT)
  obtain rfl := ClsV.all k rv
  obtain ⟨oc, od, dt, sl⟩ := ob
  simp only at h2 h3
  subst h2 h3
  exact PySem.W.kia_tup Z I.kIn p h1 e hx fun tk => ⟨.bl b, H, I.tok tk, rfl, q⟩
end Fo
namespace Fo
open PySem PySem.Spec PyProof.Rows L2
/-! isinstance of the error that the suite holds, whatever class it has -/
def rIsP (K : PySem.W.Frag) (a : Addr) (cls : Value) (d : Option Addr) : List V → Hp → VK → Prop := fun xs H Q => ∃ (C : Addr) (c : V) (u : Value) (b : Bool), cls = .ref C ∧ d = none ∧ ExcC K C ∧ xs = [.ref a, c] ∧ ClsV c u ∧ PySem.W.kitOne K (.ref C) u = some b ∧ Q (.bl b) H
def rIsPT (K : PySem.W.Frag) (a : Addr) (cls : Value) (d : Option Addr) : List V → Hp → VK → Prop := fun xs H Q => ∃ (C : Addr) (tp : Addr) (cs : List V) (us : List Value) (b : Bool), cls = .ref C ∧ d = none ∧ ExcC K C ∧ xs = [.ref a, .ref tp] ∧ H tp = some (.tup cs) ∧ Paired ClsV cs us ∧ PySem.W.kitAny K (.ref C) us = some b ∧ Q (.bl b) H
theorem inst_pin {X : Cx} {pins pn : List (Addr × Obj)} {σ : L2.St} {H : Hp} {s : Shared} {a C : Addr} {oe : Obj} (I : Inv (X.suite a ((a, oe) :: pn)) pins σ H s) (hz : Zc (.ref C) none oe) (hf : ∃ vs, oe.data = .fields vs) : PySem.W.InstAt s.heap a oe C none := by
  obtain ⟨hget, _⟩ := I.pin (a, oe) (List.mem_append.mpr (.inl List.mem_cons_self))
  obtain ⟨vs, hv⟩ := hf
  obtain ⟨oc, od, oda, osl⟩ := oe
  obtain ⟨h1, h2⟩ := hz
  dsimp only at h1 h2 hv
  subst h1 h2 hv
  exact ⟨hget, rfl, rfl, trivial⟩
theorem call_isP {X : Cx} {a : Addr} {cls : Value} {d : Option Addr} {oe : Obj} {pn : List (Addr × Obj)} (hz : Zc cls d oe) (hf : ∃ vs, oe.data = .fields vs) : CallR (X.suite a ((a, oe) :: pn)) (.builtin "isinstance") (rIsP X.K a cls d) := by
  intro pins s σ H xs us Q I r h
  obtain ⟨C, c, u, b, rfl, rfl, ec, rfl, k, e, q⟩ := h
  obtain ⟨w1, w2, rfl, r1, r2⟩ := vals2 r
  obtain rfl := k.eq r2
  cases (show w1 = Value.ref a from r1)
  exact PySem.W.kia_one (PySem.W.handS_kitx_exc ec.hg ec.hk ec.hs ec.hd ec.ha ec.hn ec.ht ec.hm) I.kIn (inst_pin I hz hf) e (fun z => nomatch z) fun tk => ⟨.bl b, H, I.tok tk, rfl, q⟩
theorem call_isPT {X : Cx} {a : Addr} {cls : Value} {d : Option Addr} {oe : Obj} {pn : List (Addr × Obj)} (hz : Zc cls d oe) (hf : ∃ vs, oe.data = .fields vs) : CallR (X.suite a ((a, oe) :: pn)) (.builtin "isinstance") (rIsPT X.K a cls d) := by
  intro pins s σ H xs us Q I r h
  obtain ⟨C, tp, cs, ws, b, rfl, rfl, ec, rfl, hT, k, e, q⟩ := h
  obtain ⟨w1, w2, rfl, r1, r2⟩ := vals2 r
  cases (show w1 = Value.ref a from r1)
  cases (show w2 = Value.ref tp from r2)
  obtain ⟨_, its, rv, ob, h1, h2, n, h3⟩ := (show ObjOk _ _ H s.heap tp (.tup cs) from I.hok tp _ hT)
  obtain rfl := ClsV.all k rv
  obtain ⟨oc, od, dt, sl⟩ := ob
  simp only at h2 h3
  subst h2 h3
  exact PySem.W.kia_tup (PySem.W.handS_kitx_exc ec.hg ec.hk ec.hs ec.hd ec.ha ec.hn ec.ht ec.hm) I.kIn (inst_pin I hz hf) h1 e (fun z => nomatch z) fun tk => ⟨.bl b, H, I.tok tk, rfl, q⟩
theorem ix_listP {X : Cx} {a : Addr} {pn : List (Addr × Obj)} : IxR (X.suite a pn) (rIxL X.K) := ix_list
/-- none of several classes -/
theorem any_no {K : PySem.W.Frag} {t : Value} : ∀ {us : List Value}, (∀ u ∈ us, PySem.W.kitOne K t u = some false) → PySem.W.kitAny K t us = some false
  | [], _ => rfl
  | u :: r, h => by
    unfold PySem.W.kitAny
    rw [h u List.mem_cons_self]
    exact any_no fun x hx => h x (List.mem_cons_of_mem _ hx)
theorem any_yes {K : PySem.W.Frag} {t u : Value} : ∀ {us : List Value}, (∀ u ∈ us, ∃ b, PySem.W.kitOne K t u = some b) → u ∈ us → PySem.W.kitOne K t u = some true → PySem.W.kitAny K t us = some true
  | [], _, h, _ => absurd h List.not_mem_nil
  | w :: r, h, hu, e => by
    unfold PySem.W.kitAny
    obtain ⟨b, hb⟩ := h w List.mem_cons_self
    rw [hb]
    cases b with
    | true => rfl
    | false =>
      rcases List.mem_cons.mp hu with rfl | hu
      · rw [hb] at e
        cases e
      · exact any_yes (fun x hx => h x (List.mem_cons_of_mem _ hx)) hu e
end Fo
namespace Fo
open PySem PySem.Spec PyProof.Rows L2
/-! things of any kind, as data; repr of them -/
def keyD : Key → PyData
  | .inl i => .int i
  | .inr x => .str x
inductive Kvs : List (Key × V) → List (PyData × PyData) → Prop
  | nil : Kvs [] []
  | cons {k : Key} {i : Int} {r : List (Key × V)} {s : List (PyData × PyData)} : Kvs r s → Kvs ((k, .int i) :: r) ((keyD k, .int i) :: s)
mutual
inductive Dq (H : Hp) : V → PyData → Prop
  | non : Dq H .non .none
  | bl (b : Bool) : Dq H (.bl b) (.bool b)
  | int (i : Int) : Dq H (.int i) (.int i)
  | str (x : Str) : Dq H (.str x) (.str x)
  | lst {a : Addr} {xs : List V} {ds : List PyData} : H a = some (.lst xs) → DqAll H xs ds → Dq H (.ref a) (.list ds)
  | tup {a : Addr} {xs : List V} {ds : List PyData} : H a = some (.tup xs) → DqAll H xs ds → Dq H (.ref a) (.tuple ds)
  | dic {a : Addr} {kvs : List (Key × V)} {ks : List (PyData × PyData)} : H a = some (.dK kvs) → Kvs kvs ks → Dq H (.ref a) (.dict ks)
inductive DqAll (H : Hp) : List V → List PyData → Prop
  | nil : DqAll H [] []
  | cons {v : V} {vs : List V} {d : PyData} {ds : List PyData} : Dq H v d → DqAll H vs ds → DqAll H (v :: vs) (d :: ds)
end
mutual
theorem Dq.keep {H H' : Hp} (k : ∀ b o, H b = some o → H' b = some o) : ∀ (d : PyData) (v : V), Dq H v d → Dq H' v d
  | .none, _, h => by cases h; exact .non
  | .bool b, _, h => by cases h; exact .bl b
  | .int i, _, h => by cases h; exact .int i
  | .str x, _, h => by cases h; exact .str x
  | .list ds, _, h => by
    cases h with
    | lst e a => exact .lst (k _ _ e) (DqAll.keep k ds _ a)
  | .tuple ds, _, h => by
    cases h with
    | tup e a => exact .tup (k _ _ e) (DqAll.keep k ds _ a)
  | .dict ks, _, h => by
    cases h with
    | dic e a => exact .dic (k _ _ e) a
theorem DqAll.keep {H H' : Hp} (k : ∀ b o, H b = some o → H' b = some o) : ∀ (ds : List PyData) (vs : List V), DqAll H vs ds → DqAll H' vs ds
  | [], _, h => by cases h; exact .nil
  | d :: ds, _, h => by
    cases h with
    | cons h1 h2 => exact .cons (Dq.keep k d _ h1) (DqAll.keep k ds _ h2)
end
theorem Dq.same {H H' : Hp} {d : PyData} {v : V} (h : Dq H v d) (s : Same H H') : Dq H' v d := Dq.keep s d v h
theorem DqAll.same {H H' : Hp} {ds : List PyData} {vs : List V} (h : DqAll H vs ds) (s : Same H H') : DqAll H' vs ds := DqAll.keep s ds vs h
theorem DqAll.len {H : Hp} : ∀ {ds : List PyData} {vs : List V}, DqAll H vs ds → vs.length = ds.length
  | [], _, h => by cases h; rfl
  | d :: ds, _, h => by
    cases h with
    | cons h1 h2 => rw [List.length_cons, List.length_cons, DqAll.len h2]
theorem DqAll.get {H : Hp} : ∀ {ds : List PyData} {vs : List V} {i : Nat} {v : V}, DqAll H vs ds → vs[i]? = some v → ∃ d, ds[i]? = some d ∧ Dq H v d
  | [], _, i, v, h, e => by cases h; simp at e
  | d :: ds, _, 0, v, h, e => by
    cases h with
    | cons h1 h2 =>
      cases (Option.some.inj e)
      exact ⟨d, rfl, h1⟩
  | d :: ds, _, i + 1, v, h, e => by
    cases h with
    | cons h1 h2 => exact DqAll.get (i := i) h2 e
theorem DqAll.app {H : Hp} : ∀ {ds es : List PyData} {vs us : List V}, DqAll H vs ds → DqAll H us es → DqAll H (vs ++ us) (ds ++ es)
  | [], _, _, _, h, g => by cases h; exact g
  | d :: ds, _, _, _, h, g => by
    cases h with
    | cons h1 h2 => exact .cons h1 (DqAll.app h2 g)
theorem DqAll.take {H : Hp} : ∀ {ds : List PyData} {vs : List V} (n : Nat), DqAll H vs ds → DqAll H (vs.take n) (ds.take n)
  | [], _, n, h => by cases h; rw [List.take_nil, List.take_nil]; exact .nil
  | d :: ds, _, 0, h => .nil
  | d :: ds, _, n + 1, h => by
    cases h with
    | cons h1 h2 => exact .cons h1 (DqAll.take n h2)
theorem DqAll.drop {H : Hp} : ∀ {ds : List PyData} {vs : List V} (n : Nat), DqAll H vs ds → DqAll H (vs.drop n) (ds.drop n)
  | [], _, n, h => by cases h; rw [List.drop_nil, List.drop_nil]; exact .nil
  | d :: ds, _, 0, h => h
  | d :: ds, _, n + 1, h => by
    cases h with
    | cons h1 h2 => exact DqAll.drop n h2
theorem dq_ints {H : Hp} : ∀ ns : List Int, DqAll H (ns.map V.int) (ns.map PyData.int)
  | [] => .nil
  | n :: r => .cons (.int n) (dq_ints r)
theorem dq_list {H : Hp} {a : Addr} {ns : List Int} (h : H a = some (.lst (ns.map V.int))) : Dq H (.ref a) (.list (ns.map PyData.int)) := .lst h (dq_ints ns)
section
variable {X : Cx} {pins : List (Addr × Obj)} {σ : L2.St} {H : Hp} {s : Shared}
theorem not_sys (I : Inv X pins σ H s) (z : SysAt X.base) {a : Addr} {o : HO} (e : H a = some o) : sysModules ≠ a := fun q => by
  obtain ⟨ob, eb⟩ := z
  have := (I.env0.bs _ _ eb).2
  rw [q, e] at this
  cases this
theorem kvs_reads (h : Heap) : ∀ {kvs : List (Key × V)} {ks : List (PyData × PyData)} {vs : List (Key × Value)} {es : List DictEntry}, Kvs kvs ks → KV kvs vs → Pairs (mixKind X.prog X.w) es vs → ReadsAll h (es.map (·.key)) (ks.map (·.1)) [] ∧ ReadsAll h (es.map (·.val)) (ks.map (·.2)) []
  | [], _, _, _, q, r, p => by
    cases q
    cases r
    cases p
    exact ⟨.nil, .nil⟩
  | kv :: kvs, _, _, _, q, r, p => by
    cases q with
    | cons q' =>
      cases r with
      | cons r1 r2 =>
        cases p with
        | cons p1 p2 =>
          obtain ⟨hk, hv⟩ := r1
          obtain ⟨t1, t2⟩ := kvs_reads h q' r2 (by assumption)
          obtain ⟨tv, ev⟩ := hv
          rename_i kk ii ss bb l2 ee ees p3
          have e1 : ∃ u, Reads h ee.key (keyD kk) u ∧ u = [] := by
            have p1' : keyIs bb.1 ee.key = true := p1
            rw [← hk] at p1'
            rcases keyIs_shape p1' with ⟨i, t, a1, a2⟩ | ⟨x, t, a1, a2⟩
            · have a1 : kk = Sum.inl i := a1
              rw [a2, a1]
              exact ⟨_, .int i t, rfl⟩
            · have a1 : kk = Sum.inr x := a1
              rw [a2, a1]
              exact ⟨_, .str x t, rfl⟩
          obtain ⟨_, e1, rfl⟩ := e1
          refine ⟨ReadsAll.cons e1 t1, ReadsAll.cons (as := []) (d := .int ii) ?_ t2⟩
          show Reads h ee.val _ _
          rw [p2, ev]
          exact .int ii tv
mutual
theorem Dq.reads (I : Inv X pins σ H s) (z : SysAt X.base) : ∀ (d : PyData) (v : V) (u : Value), Dq H v d → RelV v u → ∃ as, Reads s.heap u d as ∧ sysModules ∉ as
  | .none, _, _, h, r => by
    cases h
    cases r
    exact ⟨_, .none, List.not_mem_nil⟩
  | .bool b, _, _, h, r => by
    cases h
    cases r
    exact ⟨_, .bool b, List.not_mem_nil⟩
  | .int i, _, _, h, r => by
    cases h
    obtain ⟨t, rfl⟩ := r
    exact ⟨_, .int i t, List.not_mem_nil⟩
  | .str x, _, _, h, r => by
    cases h
    obtain ⟨t, rfl⟩ := r
    exact ⟨_, .str x t, List.not_mem_nil⟩
  | .list ds, _, _, h, r => by
    cases h with
    | lst e ha =>
      cases r
      obtain ⟨its, rv, ⟨o, n, ho, hc, _, hd⟩, _⟩ := I.list (SqL.of e)
      obtain ⟨as, hr, hn⟩ := Dq.readsAll I z ds _ its ha rv
      exact ⟨_, .list ho hc hd hr, fun q => by
        rcases List.mem_cons.mp q with q | q
        · exact not_sys I z e q
        · exact hn q⟩
  | .tuple ds, _, _, h, r => by
    cases h with
    | tup e ha =>
      cases r
      obtain ⟨its, rv, ⟨o, ho, hc, n, hd⟩, _⟩ := I.tuple (SqT.of e)
      obtain ⟨as, hr, hn⟩ := Dq.readsAll I z ds _ its ha rv
      exact ⟨_, .tuple ho hc hd hr, hn⟩
  | .dict ks, _, _, h, r => by
    cases h with
    | dic e hk =>
      cases r
      obtain ⟨_, nsys, vs, rel, dof⟩ := dk_of I.hok e
      obtain ⟨ep, ob, es, ho, exd, hdat, hko, hpr, hnd⟩ := dof.dictAt
      obtain ⟨r1, r2⟩ := kvs_reads (X := X) s.heap hk rel hpr
      exact ⟨_, .dict ho exd.1 hdat r1 r2, fun q => by
        rcases List.mem_cons.mp q with q | q
        · exact not_sys I z e q
        · cases q⟩
theorem Dq.readsAll (I : Inv X pins σ H s) (z : SysAt X.base) : ∀ (ds : List PyData) (vs : List V) (us : List Value), DqAll H vs ds → Vals vs us → ∃ as, ReadsAll s.heap us ds as ∧ sysModules ∉ as
  | [], _, _, h, r => by
    cases h
    cases r
    exact ⟨_, .nil, List.not_mem_nil⟩
  | d :: ds, _, _, h, r => by
    cases h with
    | cons h1 h2 =>
      cases r with
      | cons r1 r2 =>
        obtain ⟨as, q1, n1⟩ := Dq.reads I z d _ _ h1 r1
        obtain ⟨bs, q2, n2⟩ := Dq.readsAll I z ds _ _ h2 r2
        exact ⟨_, .cons q1 q2, fun q => by
          rcases List.mem_append.mp q with q | q
          · exact n1 q
          · exact n2 q⟩
end
/-- fit to be shown -/
structure Rp (m : Nat) (d : PyData) : Prop where
  show' : d.showable = true
  len : d.shown.length ≤ m
  dep : d.depth ≤ 20
/-- repr of a thing -/
def rReprD : List V → Hp → VK → Prop := fun xs H Q => ∃ (v : V) (d : PyData) (m : Nat), xs = [v] ∧ Dq H v d ∧ Rp m d ∧ m ≤ 16777216 ∧ Q (.str d.shown) H
theorem call_reprD {k : Nat} (g : X.A.guards = some []) (rm : Room k X.A) (z : SysAt X.base) : CallR X (.builtin "repr") rReprD := by
  intro pins s σ H xs us Q I r h
  obtain ⟨v, d, m, rfl, hd, rp, hm, q⟩ := h
  obtain ⟨u, rfl, ru⟩ := vals1 r
  have hun := rm.un
  have hdp := rp.dep
  have hsz : d.shown.length ≤ sizeLine := by rw [sizeLine_eq]; exact Nat.le_trans rp.len hm
  obtain ⟨as, rd, ns⟩ := Dq.reads I z d v u hd ru
  have big : ∀ {a : Addr}, u = .ref a → wpAny (model X.prog X.w) X.A (PySem.call (.builtin "repr") [u]) (EP X pins σ Q) X.xe s := fun {a} e => by
    subst e
    exact repr_of_reads' rd rp.show' (fun _ => ns) g (by omega) (fun _ _ e => e) (fun h' tk' tk kp => ⟨.str d.shown, H, I.kept (t' := tk) kp, ⟨_, rfl⟩, q⟩) hsz
  cases hd with
  | non =>
    cases ru
    have e : PyData.shown .none = "None" := by rw [PyData.shown]
    rw [e] at q
    exact PySem.P.repr_of_none ⟨.str _, H, I.tok _, ⟨_, rfl⟩, q⟩
  | bl b =>
    cases ru
    have e : PyData.shown (.bool b) = (if b = true then Str.ofString "True" else Str.ofString "False") := by rw [PyData.shown]
    rw [e] at q
    exact PySem.P.repr_of_bool ⟨.str _, H, I.tok _, ⟨_, rfl⟩, q⟩
  | int i =>
    obtain ⟨t, rfl⟩ := ru
    have e : PyData.shown (.int i) = Str.ofString (toString i) := by rw [PyData.shown]
    rw [e] at q
    exact PySem.P.repr_of_int (by have := rp.show'; rw [PyData.showable] at this; exact of_decide_eq_true this) ⟨.str _, H, I.tok _, ⟨_, rfl⟩, q⟩
  | str x =>
    obtain ⟨t, rfl⟩ := ru
    have e : PyData.shown (.str x) = reprText x := by rw [PyData.shown]
    rw [e] at q hsz
    exact PySem.P.repr_of_str ⟨.str _, H, I.tok _, ⟨_, rfl⟩, q⟩ hsz
  | lst e _ => exact big ru
  | tup e _ => exact big ru
  | dic e _ => exact big ru
end
/-! how long the texts are -/
theorem textFrom_le : ∀ (ts : List Str) (k : Nat) (acc : Str), (textFrom k acc ts).length ≤ acc.length + piled ts
  | [], k, acc => by rw [textFrom]; exact Nat.le_add_right _ _
  | t :: ts, k, acc => by
    rw [textFrom, piled_cons]
    have := textFrom_le ts (k + 1) (acc ++ Str.ofString (if k > 0 then ", " else "") ++ t)
    have e : (Str.ofString (if k > 0 then ", " else "")).length ≤ 2 := by split <;> decide
    rw [strLen_append, strLen_append] at this
    omega
theorem listText_le (ts : List Str) : (listText ts).length ≤ piled ts + 2 := by
  unfold listText
  have := textFrom_le ts 0 (Str.ofString "[")
  rw [strLen_append]
  have e1 : (Str.ofString "[").length = 1 := rfl
  have e2 : (Str.ofString "]").length = 1 := rfl
  omega
theorem piled_le : ∀ {ts : List Str} {m : Nat}, (∀ t ∈ ts, t.length ≤ m) → piled ts ≤ ts.length * (m + 2)
  | [], m, _ => by rw [piled_nil]; exact Nat.zero_le _
  | t :: ts, m, h => by
    rw [piled_cons, List.length_cons, Nat.succ_mul]
    have h1 := piled_le (ts := ts) fun x hx => h x (List.mem_cons_of_mem _ hx)
    have h2 := h t List.mem_cons_self
    omega
theorem join_le (ts : List Str) : (Str.join ", " ts).length ≤ piled ts := by
  by_cases h : ts = []
  · subst h
    decide
  · have := join_length_add ts h
    omega
theorem shownAll_eq : ∀ xs : List PyData, PyData.shownAll xs = xs.map PyData.shown
  | [] => by rw [PyData.shownAll]; rfl
  | x :: xs => by rw [PyData.shownAll, shownAll_eq xs]; rfl
theorem showableAll_of : ∀ {xs : List PyData}, (∀ x ∈ xs, PyData.showable x = true) → PyData.showableAll xs = true
  | [], _ => by rw [PyData.showableAll]
  | x :: xs, h => by rw [PyData.showableAll, h x List.mem_cons_self, showableAll_of fun y hy => h y (List.mem_cons_of_mem _ hy)]; rfl
theorem depthAll_of : ∀ {xs : List PyData} {k : Nat}, (∀ x ∈ xs, PyData.depth x ≤ k) → PyData.depthAll xs ≤ k
  | [], _, _ => by rw [PyData.depthAll]; exact Nat.zero_le _
  | x :: xs, k, h => by
    rw [PyData.depthAll]
    have h1 := h x List.mem_cons_self
    have h2 := depthAll_of fun y hy => h y (List.mem_cons_of_mem _ hy)
    exact Nat.max_le.mpr ⟨h1, h2⟩
/-- shown in m signs, k deep -/
structure Rq (m k : Nat) (d : PyData) : Prop where
  s : d.showable = true
  l : d.shown.length ≤ m
  d : d.depth ≤ k
theorem Rq.rp {m k : Nat} {d : PyData} (h : Rq m k d) (hk : k ≤ 20) : Rp m d := ⟨h.s, h.l, Nat.le_trans h.d hk⟩
theorem Rq.mono {m k m' k' : Nat} {d : PyData} (h : Rq m k d) (hm : m ≤ m') (hk : k ≤ k') : Rq m' k' d := ⟨h.s, Nat.le_trans h.l hm, Nat.le_trans h.d hk⟩
theorem rq_none : Rq 110 0 .none := ⟨by rw [PyData.showable], by rw [PyData.shown]; decide, by rw [PyData.depth]; exact Nat.le_refl _⟩
theorem rq_bool (b : Bool) : Rq 110 0 (.bool b) := ⟨by rw [PyData.showable], by rw [PyData.shown]; cases b <;> decide, by rw [PyData.depth]; exact Nat.le_refl _⟩
theorem rq_int {i : Int} (h : i.natAbs.log2 < 100) : Rq 110 0 (.int i) := by
  refine ⟨by rw [PyData.showable]; exact decide_eq_true (by omega), ?_, by rw [PyData.depth]; exact Nat.le_refl _⟩
  rw [PyData.shown]
  have := int_text_length_le (k := 100) (by decide) h
  show (Str.ofString (toString i)).length ≤ 110
  rw [PySem.ofString_length]
  omega
theorem rq_str {x : Str} (h : (reprText x).length ≤ 110) : Rq 110 0 (.str x) := ⟨by rw [PyData.showable], by rw [PyData.shown]; exact h, by rw [PyData.depth]; exact Nat.le_refl _⟩
theorem rq_list {xs : List PyData} {m k n : Nat} (h : ∀ x ∈ xs, Rq m k x) (hn : xs.length ≤ n) : Rq (n * (m + 2) + 2) (k + 1) (.list xs) := by
  refine ⟨by rw [PyData.showable]; exact showableAll_of fun x hx => (h x hx).s, ?_, by rw [PyData.depth]; exact Nat.succ_le_succ (depthAll_of fun x hx => (h x hx).d)⟩
  rw [PyData.shown, shownAll_eq]
  have h1 := listText_le (xs.map PyData.shown)
  have h2 := piled_le (ts := xs.map PyData.shown) (m := m) fun t ht => by
    obtain ⟨x, hx, rfl⟩ := List.mem_map.mp ht
    exact (h x hx).l
  rw [List.length_map] at h2
  have h3 := Nat.mul_le_mul_right (m + 2) hn
  omega
theorem rq_tup {xs : List PyData} {m k n : Nat} (h : ∀ x ∈ xs, Rq m k x) (hn : xs.length ≤ n) : Rq (n * (m + 2) + 3) (k + 1) (.tuple xs) := by
  refine ⟨by rw [PyData.showable]; exact showableAll_of fun x hx => (h x hx).s, ?_, by rw [PyData.depth]; exact Nat.succ_le_succ (depthAll_of fun x hx => (h x hx).d)⟩
  rw [PyData.shown, shownAll_eq]
  unfold tupleText
  rw [strLen_append, strLen_append]
  have h1 := join_le (xs.map PyData.shown)
  have h2 := piled_le (ts := xs.map PyData.shown) (m := m) fun t ht => by
    obtain ⟨x, hx, rfl⟩ := List.mem_map.mp ht
    exact (h x hx).l
  rw [List.length_map] at h2
  have h3 := Nat.mul_le_mul_right (m + 2) hn
  have e1 : (Str.ofString "(").length = 1 := rfl
  have e2 : (Str.ofString (if ((xs.map PyData.shown).length == 1) = true then ",)" else ")")).length ≤ 2 := by split <;> decide
  omega
theorem showableKv_of : ∀ {ks : List (PyData × PyData)}, (∀ p ∈ ks, PyData.showable p.1 = true ∧ PyData.showable p.2 = true) → PyData.showableKv ks = true
  | [], _ => by rw [PyData.showableKv]
  | (a, b) :: ks, h => by
    obtain ⟨h1, h2⟩ := h (a, b) List.mem_cons_self
    rw [PyData.showableKv, h1, h2, showableKv_of fun y hy => h y (List.mem_cons_of_mem _ hy)]
    rfl
theorem depthKv_of : ∀ {ks : List (PyData × PyData)} {k : Nat}, (∀ p ∈ ks, PyData.depth p.1 ≤ k ∧ PyData.depth p.2 ≤ k) → PyData.depthKv ks ≤ k
  | [], _, _ => by rw [PyData.depthKv]; exact Nat.zero_le _
  | (a, b) :: ks, k, h => by
    rw [PyData.depthKv]
    obtain ⟨h1, h3⟩ := h (a, b) List.mem_cons_self
    exact Nat.max_le.mpr ⟨Nat.max_le.mpr ⟨h1, h3⟩, depthKv_of fun y hy => h y (List.mem_cons_of_mem _ hy)⟩
theorem shownKv_map : ∀ ks : List (PyData × PyData), PyData.shownKv ks = ks.map fun p => p.1.shown ++ Str.ofString ": " ++ p.2.shown
  | [] => by rw [PyData.shownKv]; rfl
  | (a, b) :: ks => by rw [PyData.shownKv, shownKv_map ks]; rfl
theorem rq_dict {ks : List (PyData × PyData)} {m k n : Nat} (h : ∀ p ∈ ks, Rq m k p.1 ∧ Rq m k p.2) (hn : ks.length ≤ n) : Rq (n * (2 * m + 4) + 2) (k + 1) (.dict ks) := by
  refine ⟨by rw [PyData.showable]; exact showableKv_of fun p hp => ⟨(h p hp).1.s, (h p hp).2.s⟩, ?_, by rw [PyData.depth]; exact Nat.succ_le_succ (depthKv_of fun p hp => ⟨(h p hp).1.d, (h p hp).2.d⟩)⟩
  rw [PyData.shown, shownKv_map]
  unfold dictText
  rw [strLen_append, strLen_append]
  have h1 := join_le (ks.map fun p => p.1.shown ++ Str.ofString ": " ++ p.2.shown)
  have h2 := piled_le (ts := ks.map fun p => p.1.shown ++ Str.ofString ": " ++ p.2.shown) (m := 2 * m + 2) fun t ht => by
    obtain ⟨p, hp, rfl⟩ := List.mem_map.mp ht
    have a1 := (h p hp).1.l
    have a2 := (h p hp).2.l
    have e3 : (Str.ofString ": ").length = 2 := rfl
    rw [strLen_append, strLen_append]
    omega
  rw [List.length_map, show 2 * m + 2 + 2 = 2 * m + 4 by omega] at h2
  have h3 := Nat.mul_le_mul_right (2 * m + 4) hn
  have e1 : (Str.ofString "{").length = 1 := rfl
  have e2 : (Str.ofString "}").length = 1 := rfl
  omega
end Fo
namespace Fo
open PySem PySem.Spec PyProof.Rows L2
/-! dict(enumerate(xs)) of a list of ints -/
def enumKV : Nat → List Int → List (Key × V)
  | _, [] => []
  | i, x :: r => (.inl (i : Int), .int x) :: enumKV (i + 1) r
theorem enumKV_len : ∀ (i : Nat) (ns : List Int), (enumKV i ns).length = ns.length
  | _, [] => rfl
  | i, x :: r => by rw [enumKV, List.length_cons, List.length_cons, enumKV_len (i + 1) r]
def enumD : Nat → List Int → List (PyData × PyData)
  | _, [] => []
  | i, x :: r => (.int (i : Int), .int x) :: enumD (i + 1) r
theorem enumD_len : ∀ (i : Nat) (ns : List Int), (enumD i ns).length = ns.length
  | _, [] => rfl
  | i, x :: r => by rw [enumD, List.length_cons, List.length_cons, enumD_len (i + 1) r]
theorem enum_kvs : ∀ (i : Nat) (ns : List Int), Kvs (enumKV i ns) (enumD i ns)
  | _, [] => .nil
  | i, x :: r => .cons (k := .inl (i : Int)) (enum_kvs (i + 1) r)
theorem enumD_mem : ∀ {i : Nat} {ns : List Int} {p : PyData × PyData}, p ∈ enumD i ns → ∃ (j : Nat) (x : Int), p = (.int (j : Int), .int x) ∧ j < i + ns.length ∧ x ∈ ns
  | _, [], _, h => absurd h List.not_mem_nil
  | i, x :: r, p, h => by
    rcases List.mem_cons.mp h with h | h
    · exact ⟨i, x, h, by rw [List.length_cons]; omega, List.mem_cons_self⟩
    · obtain ⟨j, y, e, hj, hy⟩ := enumD_mem h
      exact ⟨j, y, e, by rw [List.length_cons]; omega, List.mem_cons_of_mem _ hy⟩
theorem merge_enum : ∀ (ns : List Int) (acc : List (Key × V)) (i : Nat), (∀ p ∈ acc, ∃ j : Nat, p.1 = .inl (j : Int) ∧ j < i) → mergeK acc (enumKV i ns) = acc ++ enumKV i ns
  | [], acc, i, _ => by
    rw [enumKV, List.append_nil]
    rfl
  | x :: r, acc, i, h => by
    have e : valV acc (.inl (i : Int)) = none := by
      unfold valV
      rw [Option.map_eq_none_iff, List.find?_eq_none]
      intro p hp hd
      obtain ⟨j, ej, hj⟩ := h p hp
      have := of_decide_eq_true hd
      rw [ej] at this
      injection this with this
      omega
    show mergeK (putK acc (.inl (i : Int)) (.int x)) (enumKV (i + 1) r) = _
    rw [putK_new _ e, merge_enum r _ (i + 1) (fun p hp => ?_), List.append_assoc]
    · rfl
    · rcases List.mem_append.mp hp with hp | hp
      · obtain ⟨j, ej, hj⟩ := h p hp
        exact ⟨j, ej, by omega⟩
      · rw [List.mem_singleton.mp hp]
        exact ⟨i, rfl, by omega⟩
/-- what the dict holds, by the list's own values -/
def enumV : Nat → List Value → List (Key × Value)
  | _, [] => []
  | i, x :: r => (.inl (i : Int), x) :: enumV (i + 1) r
theorem enumV_len : ∀ (i : Nat) (us : List Value), (enumV i us).length = us.length
  | _, [] => rfl
  | i, x :: r => by rw [enumV, List.length_cons, List.length_cons, enumV_len (i + 1) r]
theorem enumV_at : ∀ {j i : Nat} {us : List Value} {v : Value}, us[j]? = some v → (enumV i us)[j]? = some (.inl ((i + j : Nat) : Int), v)
  | _, _, [], _, h => by simp at h
  | 0, i, x :: r, v, h => by
    cases (Option.some.inj h)
    rfl
  | j + 1, i, x :: r, v, h => by
    have := enumV_at (j := j) (i := i + 1) (us := r) h
    rw [show i + (j + 1) = i + 1 + j by omega]
    exact this
theorem enumV_rel : ∀ {i : Nat} {ns : List Int} {us : List Value}, Vals (ns.map V.int) us → KV (enumKV i ns) (enumV i us)
  | _, [], _, h => by cases h; exact .nil
  | i, x :: r, _, h => by
    cases h with
    | cons h1 h2 => exact .cons ⟨rfl, h1⟩ (enumV_rel h2)
section
variable {X : Cx}
def tDictEnum (K : PySem.W.Frag) (te : TE) : TE := fun σ H Q => te σ H fun x H1 => ∃ (a : Addr) (ns : List Int), x = .ref a ∧ SqL K H1 a (ns.map V.int) ∧ ∀ p, H1 p = none → Q (.ref p) (upd H1 p (.dK (enumKV 0 ns)))
theorem pe_dictEnum {e : Expr} {te : TE} {p q pos qos : Pos} (calm : X.calm = true) (gd : Gl X "dict") (md : X.mg "dict" = none) (ge : Gl X "enumerate") (me : X.mg "enumerate" = none) (he : PE X e te)
    (st : starEach [Expr.Call (.Name "enumerate" q) [e] [] qos] X.env = [(false, eval (Expr.Call (.Name "enumerate" q) [e] [] qos) X.env)] := by rfl) (su : starEach [e] X.env = [(false, eval e X.env)] := by rfl) :
    PE X (.Call (.Name "dict" p) [.Call (.Name "enumerate" q) [e] [] qos] [] pos) (tDictEnum X.K te) := by
  refine ⟨fun pins s σ H Q I h => ?_⟩
  refine wpAny_Call_Name_kw (ld_blt I gd md (u := .type "dict") (by decide +kernel) ?_ (by decide +kernel) (by decide +kernel))
  rw [st]
  refine PySem.callWith_type1 ?_
  refine wpAny_Call_Name_kw (ld_blt I ge me (u := .type "enumerate") (by decide +kernel) ?_ (by decide +kernel) (by decide +kernel))
  rw [su]
  refine PySem.callWith_type1 (thn (he.run pins s σ H _ I h) fun u s1 ⟨x, H1, I1, r1, a, ns, ex, sq, qk⟩ => ?_)
  subst ex
  obtain rfl : u = Value.ref a := r1
  obtain ⟨its, rv, pl, hz⟩ := I1.list sq
  have hlt := Heap.lt_size pl.isList.choose_spec.1
  refine call_enumerate_list pl.isList fun h' en it sz kp => ?_
  have I2 : Inv X pins σ H1 { s1 with heap := h' } := I1.kept (t' := s1.toks) kp
  have lis : h'.IsList a its.toArray := pl.isList.at fun o e => kp _ _ e
  have ln : its.length = ns.length := by rw [← rv.length, List.length_map]
  have hzn : ns.length ≤ sizeLine := by rw [List.length_map] at hz; exact hz
  refine PySem.call_dict_pairs (knd := mixKind X.prog X.w) (kvs := enumV 0 its) (PairArg.enumerate (s1.heap.objs.size + 1) s1.heap.objs.size a (Nat.succ_ne_self _) (Nat.ne_of_lt (Nat.lt_succ_of_lt hlt)) (Nat.ne_of_lt hlt) its.toArray) (I.ok.hd calm) ⟨⟨_, en⟩, it, lis⟩ ⟨by rw [enumV_len]; simp, fun i key v hr => ?_⟩ (by simp only [List.size_toArray]; omega) fun h2 tk hd2 kp2 => ?_
  · obtain ⟨⟨t, rfl⟩, hv⟩ := hr
    refine ⟨.inl (i : Int), ?_, ?_⟩
    · have := enumV_at (j := i) (i := 0) (us := its) (v := v) (by simpa using hv)
      rw [Nat.zero_add] at this
      exact this
    · show Value.isInt (i : Int) (.int (i : Int) t) = true
      simp [Value.isInt]
  · have em : KV (enumKV 0 ns) (merged [] (enumV 0 its)) := by
      have := KV.merge (enumV_rel (i := 0) rv) (.nil : KV (κ := Key) [] [])
      rw [merge_enum ns [] 0 (fun p hp => absurd hp List.not_mem_nil)] at this
      exact this
    have nn : H1 h'.objs.size = none := I2.hok.fresh (Nat.le_refl _)
    refine ⟨.ref h'.objs.size, upd H1 h'.objs.size (.dK (enumKV 0 ns)), I1.laid (t' := tk) (fun b o e => kp2 b o (fun z => ?_) (kp b o e)) (by rw [sz]; omega) (show ObjOk X.prog X.w _ _ _ (.dK (enumKV 0 ns)) from ⟨by rw [enumKV_len]; exact hzn, beq_eq_false_iff_ne.mpr (Nat.ne_of_gt I2.big), merged [] (enumV 0 its), em, hd2⟩), rfl, qk _ nn⟩
    have := Heap.lt_size e
    simp only [List.mem_cons, List.not_mem_nil, or_false] at z
    rcases z with z | z
    · rw [z] at this
      exact absurd this (Nat.not_lt.mpr (Nat.le_succ _))
    · rw [z] at this
      exact absurd this (Nat.lt_irrefl _)
end
end Fo
namespace Fo
open PySem PySem.Spec PyProof.Rows L2
/-! kinds of things -/
def tyD : PyData → String
  | .none => "NoneType"
  | .bool _ => "bool"
  | .int _ => "int"
  | .str _ => "str"
  | .list _ => "list"
  | .tuple _ => "tuple"
  | .dict _ => "dict"
theorem dq_ty {K : PySem.W.Frag} {H : Hp} {v : V} {d : PyData} (h : Dq H v d) : TyX K H v (.type (tyD d)) := by
  cases h with
  | non => exact .base .non
  | bl b => exact .base (.bl b)
  | int i => exact .base (.int i)
  | str x => exact .base (.str x)
  | lst e _ => exact .base (.lst e)
  | tup e _ => exact .base (.tup e)
  | dic e _ => exact .base (.dK e)
def isIntD : PyData → Bool
  | .int _ => true
  | .bool _ => true
  | _ => false
def isBoolD : PyData → Bool
  | .bool _ => true
  | _ => false
def isListD : PyData → Bool
  | .list _ => true
  | _ => false
def isStrD : PyData → Bool
  | .str _ => true
  | _ => false
theorem kit_intD {K : PySem.W.Frag} : ∀ d : PyData, PySem.W.kitOne K (.type (tyD d)) (.type "int") = some (isIntD d)
  | .none => show PySem.W.kitOne K (.type "NoneType") (.type "int") = some false from kit_ty (by decide +kernel)
  | .bool _ => show PySem.W.kitOne K (.type "bool") (.type "int") = some true from kit_ty (by decide +kernel)
  | .int _ => show PySem.W.kitOne K (.type "int") (.type "int") = some true from kit_ty (by decide +kernel)
  | .str _ => show PySem.W.kitOne K (.type "str") (.type "int") = some false from kit_ty (by decide +kernel)
  | .list _ => show PySem.W.kitOne K (.type "list") (.type "int") = some false from kit_ty (by decide +kernel)
  | .tuple _ => show PySem.W.kitOne K (.type "tuple") (.type "int") = some false from kit_ty (by decide +kernel)
  | .dict _ => show PySem.W.kitOne K (.type "dict") (.type "int") = some false from kit_ty (by decide +kernel)
theorem kit_boolD {K : PySem.W.Frag} : ∀ d : PyData, PySem.W.kitOne K (.type (tyD d)) (.type "bool") = some (isBoolD d)
  | .none => show PySem.W.kitOne K (.type "NoneType") (.type "bool") = some false from kit_ty (by decide +kernel)
  | .bool _ => show PySem.W.kitOne K (.type "bool") (.type "bool") = some true from kit_ty (by decide +kernel)
  | .int _ => show PySem.W.kitOne K (.type "int") (.type "bool") = some false from kit_ty (by decide +kernel)
  | .str _ => show PySem.W.kitOne K (.type "str") (.type "bool") = some false from kit_ty (by decide +kernel)
  | .list _ => show PySem.W.kitOne K (.type "list") (.type "bool") = some false from kit_ty (by decide +kernel)
  | .tuple _ => show PySem.W.kitOne K (.type "tuple") (.type "bool") = some false from kit_ty (by decide +kernel)
  | .dict _ => show PySem.W.kitOne K (.type "dict") (.type "bool") = some false from kit_ty (by decide +kernel)
theorem kit_listD {K : PySem.W.Frag} : ∀ d : PyData, PySem.W.kitOne K (.type (tyD d)) (.type "list") = some (isListD d)
  | .none => show PySem.W.kitOne K (.type "NoneType") (.type "list") = some false from kit_ty (by decide +kernel)
  | .bool _ => show PySem.W.kitOne K (.type "bool") (.type "list") = some false from kit_ty (by decide +kernel)
  | .int _ => show PySem.W.kitOne K (.type "int") (.type "list") = some false from kit_ty (by decide +kernel)
  | .str _ => show PySem.W.kitOne K (.type "str") (.type "list") = some false from kit_ty (by decide +kernel)
  | .list _ => show PySem.W.kitOne K (.type "list") (.type "list") = some true from kit_ty (by decide +kernel)
  | .tuple _ => show PySem.W.kitOne K (.type "tuple") (.type "list") = some false from kit_ty (by decide +kernel)
  | .dict _ => show PySem.W.kitOne K (.type "dict") (.type "list") = some false from kit_ty (by decide +kernel)
theorem kit_strD {K : PySem.W.Frag} : ∀ d : PyData, PySem.W.kitOne K (.type (tyD d)) (.type "str") = some (isStrD d)
  | .none => show PySem.W.kitOne K (.type "NoneType") (.type "str") = some false from kit_ty (by decide +kernel)
  | .bool _ => show PySem.W.kitOne K (.type "bool") (.type "str") = some false from kit_ty (by decide +kernel)
  | .int _ => show PySem.W.kitOne K (.type "int") (.type "str") = some false from kit_ty (by decide +kernel)
  | .str _ => show PySem.W.kitOne K (.type "str") (.type "str") = some true from kit_ty (by decide +kernel)
  | .list _ => show PySem.W.kitOne K (.type "list") (.type "str") = some false from kit_ty (by decide +kernel)
  | .tuple _ => show PySem.W.kitOne K (.type "tuple") (.type "str") = some false from kit_ty (by decide +kernel)
  | .dict _ => show PySem.W.kitOne K (.type "dict") (.type "str") = some false from kit_ty (by decide +kernel)
def wholeD : PyData → Bool
  | .int _ => true
  | _ => false
def GoodD (d : PyData) : Prop := ∃ ns : List Int, d = .list (ns.map PyData.int) ∧ IsOrd ns.length ns ∧ 1 ≤ ns.length ∧ ns.length ≤ 12
theorem all_ints : ∀ {ds : List PyData}, ds.all wholeD = true → ∃ ns : List Int, ds = ns.map PyData.int
  | [], _ => ⟨[], rfl⟩
  | d :: ds, h => by
    rw [List.all_cons, Bool.and_eq_true] at h
    obtain ⟨ns, e⟩ := all_ints h.2
    cases d with
    | int i => exact ⟨i :: ns, by rw [e]; rfl⟩
    | _ => cases h.1
theorem dq_intsV {H : Hp} : ∀ {ns : List Int} {vs : List V}, DqAll H vs (ns.map PyData.int) → vs = ns.map V.int
  | [], _, h => by cases h; rfl
  | n :: r, _, h => by
    rw [List.map_cons] at h
    cases h with
    | cons h1 h2 =>
      cases h1
      rw [dq_intsV h2]
      rfl
theorem intD_inj : ∀ {a b : List Int}, a.map PyData.int = b.map PyData.int → a = b
  | [], [], _ => rfl
  | [], _ :: _, h => by cases h
  | _ :: _, [], h => by cases h
  | x :: a, y :: b, h => by
    rw [List.map_cons, List.map_cons] at h
    injection h with h1 h2
    injection h1 with h1
    rw [h1, intD_inj h2]
theorem good_all {ds : List PyData} (h : GoodD (.list ds)) : ds.all wholeD = true := by
  obtain ⟨ns, e, _⟩ := h
  injection e with e
  rw [e, List.all_eq_true]
  intro x hx
  obtain ⟨i, _, rfl⟩ := List.mem_map.mp hx
  rfl
def spWholeD : Sp := fun vs H Q _ => ∃ (v : V) (d : PyData), vs = [v] ∧ Dq H v d ∧ Q (.bl (wholeD d)) H
def spIsOrdD : Sp := fun vs H Q _ => ∃ (v : V) (d : PyData), vs = [v] ∧ Dq H v d ∧ ∀ (b : Bool) (H' : Hp), (b = true ↔ GoodD d) → Same H H' → Q (.bl b) H'
def spGoodL : Sp := fun vs H Q _ => ∃ (v : V) (d : PyData), vs = [v] ∧ Dq H v d ∧ ∀ (b : Bool) (H' : Hp), (b = true ↔ GoodD d) → Same H H' → Q (.bl b) H'
theorem not_good {d : PyData} (h : isListD d = false) : (false = true ↔ GoodD d) := by
  refine ⟨fun z => absurd z Bool.false_ne_true, fun z => ?_⟩
  obtain ⟨ns, e, _⟩ := z
  rw [e] at h
  cases h
theorem not_good_len {ds : List PyData} (h : ds.length < 1 ∨ 12 < ds.length) : (false = true ↔ GoodD (.list ds)) := by
  refine ⟨fun z => absurd z Bool.false_ne_true, fun z => ?_⟩
  obtain ⟨ns, e, _, h1, h2⟩ := z
  injection e with e
  rw [e, List.length_map] at h
  omega
theorem not_good_all {ds : List PyData} (h : ds.all wholeD = false) : (false = true ↔ GoodD (.list ds)) := ⟨fun z => absurd z Bool.false_ne_true, fun z => by rw [good_all z] at h; cases h⟩
theorem all_map_id (ds : List PyData) : (ds.map wholeD).all id = ds.all wholeD := by
  rw [List.all_map]
  rfl
theorem perm_sub : ∀ {a b : List Int}, a.Nodup → (∀ x ∈ a, x ∈ b) → b.length ≤ a.length → a.Perm b
  | [], b, _, _, h => by
    have : b = [] := List.eq_nil_of_length_eq_zero (Nat.le_zero.mp h)
    rw [this]
  | x :: a, b, nd, sub, h => by
    have hx := sub x List.mem_cons_self
    have nx := (List.nodup_cons.mp nd).1
    have h1 := List.length_erase_of_mem hx
    rw [List.length_cons] at h
    refine List.Perm.trans (List.Perm.cons x (perm_sub (b := b.erase x) (List.nodup_cons.mp nd).2 (fun y hy => ?_) (by omega))) (List.perm_cons_erase hx).symm
    exact (List.mem_erase_of_ne (fun z => nx (by rw [← z]; exact hy))).mpr (sub y (List.mem_cons_of_mem _ hy))
theorem ord_of {ns : List Int} (nd : ns.Nodup) (h : ∀ x ∈ ns, 0 ≤ x ∧ x < (ns.length : Int)) : IsOrd ns.length ns := by
  have sub : ∀ x ∈ ns, x ∈ rg ns.length := fun x hx => rg_mem.mpr (h x hx)
  exact perm_sub nd sub (by rw [rg_len]; exact Nat.le_refl _)
theorem inV_ints (t : Int) : ∀ row : List Int, inV (.int t) (row.map V.int) = decide (t ∈ row)
  | [] => rfl
  | x :: r => by
    have ih := inV_ints t r
    unfold inV at ih ⊢
    have eqI : eqV (.int x) (.int t) = decide (x = t) := by
      unfold eqV
      by_cases e : x = t
      · subst e
        simp
      · simp [e]
    rw [List.map_cons, List.any_cons, ih, eqI]
    by_cases e : x = t
    · subst e
      simp
    · have e1 : ¬ t = x := fun z => e z.symm
      simp [e, e1]
theorem flatI (row : List Int) : (row.map V.int).all flatV = true := by
  rw [List.all_eq_true]
  intro x hx
  obtain ⟨i, _, rfl⟩ := List.mem_map.mp hx
  rfl
section
variable {P : Program} {w : World} {K : PySem.W.Frag} {mg : Str → Option Value} {base : Heap}
theorem scWholeD : FnScope ["thing"] ["thing"] (defScope s_is_whole) := ⟨rfl, rfl, rfl, by decide +kernel, rfl, by decide +kernel, by decide +kernel⟩
theorem ok_wholeD {f : Addr} {fd : FuncData} {k : Nat} (T : Df K mg "is_whole" s_is_whole ["thing"] f fd) (B : Bi mg) : FnOk P w K mg base CX0 (k + 1) f fd ["thing"] spWholeD := by
  refine T.F.ok scWholeD (fun vs H Q E h => ?_) (fun cdv A outer s H vs Q E hr h => ?_)
  · obtain ⟨v, d, rfl, _⟩ := h
    rfl
  · obtain ⟨v, d, rfl, hd, q⟩ := h
    refine ⟨_, 
      (pss_one (ps_ret (pe_and (pe_callB call_isi (by rfl) B.isinstance (by decide +kernel) (pa_cons (pv 0) (pa_cons (pe_bltn (v := .ty "int") (by rfl) B.int (by decide +kernel) rfl) pa_nil))) (pe_one (pe_not (pe_callB call_isi (by rfl) B.isinstance (by decide +kernel) (pa_cons (pv 0) (pa_cons (pe_bltn (v := .ty "bool") (by rfl) B.bool (by decide +kernel) rfl) pa_nil)))))))), ?_⟩
    refine ⟨_, rfl, _, _, _, _, isIntD d, rfl, .ty _, dq_ty hd, kit_intD d, _, rfl, ?_⟩
    cases d with
    | int i => exact iteT ⟨_, rfl, _, _, _, _, false, rfl, .ty _, dq_ty hd, kit_boolD _, false, rfl, q⟩
    | bool b => exact iteT ⟨_, rfl, _, _, _, _, true, rfl, .ty _, dq_ty hd, kit_boolD _, true, rfl, q⟩
    | _ => exact iteF q
theorem scIsOrdD : FnScope ["thing", "number"] ["thing"] (defScope s_is_order) := ⟨rfl, rfl, rfl, by decide +kernel, rfl, by decide +kernel, by decide +kernel⟩
set_option maxHeartbeats 2000000 in
theorem ok_isOrdD {f fW : Addr} {fd fdW : FuncData} {k : Nat} {t : Tok} (T : Df K mg "is_order" s_is_order ["thing"] f fd) (T_is_whole : Df K mg "is_whole" s_is_whole ["thing"] fW fdW) (B : Bi mg) (mM : mg "MOST_THINGS" = some (.int 12 t)) : FnOk P w K mg base CX0 (k + 2) f fd ["thing"] spIsOrdD := by
  have G_is_whole : FnOk P w K mg base CX0 (k + 1) fW fdW ["thing"] spWholeD := ok_wholeD T_is_whole B
  refine T.F.ok scIsOrdD (fun vs H Q E h => ?_) (fun cdv A outer s H vs Q E hr h => ?_)
  · obtain ⟨v, d, rfl, _⟩ := h
    rfl
  · obtain ⟨v, d, rfl, hd, q⟩ := h
    refine ⟨_, 
      (pss_cons (ps_if (PW.pt (pw_or (pt_not (pt_val (pe_callB call_isi (by rfl) B.isinstance (by decide +kernel) (pa_cons (pv 0) (pa_cons (pe_bltn (v := .ty "list") (by rfl) B.list (by decide +kernel) rfl) pa_nil))))) (pw_or (pt_cmpR op_lt (pe_callB call_len_seq (by rfl) B.len PySem.boot_len (pa_cons (pv 0) pa_nil)) pe_int (nomark _)) (pw_or1 (pt_cmpR op_gt (pe_callB call_len_seq (by rfl) B.len PySem.boot_len (pa_cons (pv 0) pa_nil)) (pe_glob (v := .int 12) (by rfl) mM ⟨_, rfl⟩) (nomark _))))))
        (pss_one (ps_ret pe_bl))
        pss_nil)
      (pss_cons (ps_if (pt_not (pt_val (pe_callB (cr_all rfl) (by rfl) B.all (by decide +kernel) (pa_cons (pe_lc (own := [("number", 1)]) (g := (gName 1)) (tt := tYes) (te := (tCall spWholeD [] E0 (tCons (tVar 1) tNil))) rfl scIsOrdD.nd (pi_list (pv 0)) (blkOk_by (N := ["thing", "number"]) (sc := defScope s_is_order) (by decide +kernel)) (fun _ _ _ _ _ => (pg_name (i := 1) scIsOrdD.nd rfl (.inl rfl))) (fun _ _ _ _ _ => pts_nil) (fun _ _ _ _ _ => (pe_call G_is_whole hr (by rfl) T_is_whole.g T_is_whole.F.kp T_is_whole.b .nil pass0 (pa_cons (pv 1) pa_nil)))) pa_nil))))
        (pss_one (ps_ret pe_bl))
        pss_nil)
      (pss_one (ps_ret (pe_cmpR (op_eqD hr.units) (pe_callB cr_sorted (by rfl) B.sorted (by decide +kernel) (pa_cons (pv 0) pa_nil)) (pe_listRg rfl (by rfl) B.list (prg_1 (by rfl) B.range (pe_callB call_len_seq (by rfl) B.len PySem.boot_len (pa_cons (pv 0) pa_nil)))) (nomark _)))))), ?_⟩
    refine ⟨_, rfl, _, _, _, _, isListD d, rfl, .ty _, dq_ty hd, kit_listD d, _, rfl, ?_⟩
    cases hl : isListD d with
    | false => exact iteT (iteT (q _ _ (not_good hl) (Same.refl _)))
    | true =>
      cases hd with
      | @lst a xs ds e al =>
        have hlen := al.len
        refine iteF ?_
        refine ⟨_, rfl, a, _, rfl, .inl (SqL.of e), _, 1, rfl, rfl, _, rfl, ite2 (fun c => ?_) (fun c => ?_)⟩
        · exact iteT (q _ _ (not_good_len (.inl (by have := of_decide_eq_true c; omega))) (Same.refl _))
        have c1 : 1 ≤ ds.length := by
          by_cases z : ds.length < 1
          · exact absurd (decide_eq_true (show ((xs.length : Nat) : Int) < 1 by omega)) c
          · omega
        refine ⟨_, rfl, a, _, rfl, .inl (SqL.of e), _, 12, rfl, rfl, _, rfl, ite2 (fun c => ?_) (fun c => ?_)⟩
        · exact q _ _ (not_good_len (.inr (by have := of_decide_eq_true c; omega))) (Same.refl _)
        have c2 : ds.length ≤ 12 := by
          by_cases z : 12 < ds.length
          · exact absurd (decide_eq_true (show (12 : Int) < ((xs.length : Nat) : Int) by omega)) c
          · omega
        refine ⟨_, rfl, a, rfl, ⟨_, SqL.of e⟩, fun p np => ?_⟩
        refine lc_list (K := K) (a := a) (xs := xs) (fun i H3 => H3 p = some (.lst (((ds.take i).map wholeD).map V.bl)) ∧ Same H H3) ⟨upd_same, same_new np⟩ (fun i H3 _ hP => SqL.of (hP.2 _ _ e)) (fun i x H3 hx hP => ?_) (fun H3 hP => ?_)
        · obtain ⟨hp3, sm⟩ := hP
          obtain ⟨d, ed, hd⟩ := al.get hx
          have hi := (List.getElem?_eq_some_iff.mp ed).1
          refine ⟨rfl, _, rfl, x, d, rfl, hd.same sm, _, hp3, line_lt (by rw [List.length_map, List.length_map, List.length_take]; omega), ?_, fun b o eb => ?_⟩
          · rw [upd_same, List.take_add_one, ed, List.map_append, List.map_append]
            rfl
          · rw [upd_ne (ne_of_none eb np)]
            exact sm _ _ eb
        · obtain ⟨hp3, sm⟩ := hP
          rw [hlen, List.take_length] at hp3
          have e3 := sm _ _ e
          refine ⟨p, _, rfl, SqL.of hp3, _, rfl, ?_⟩
          rw [all_map_id]
          cases ha : ds.all wholeD with
          | false => exact iteT (q _ _ (not_good_all ha) sm)
          | true =>
            obtain ⟨ns, ens⟩ := all_ints ha
            subst ens
            have exs := dq_intsV al
            subst exs
            rw [List.length_map] at c1 c2 hlen
            refine iteF ?_
            refine ⟨_, rfl, a, ns, rfl, SqL.of e3, by omega, fun ns' s1 hperm hsrt ns1 => ?_⟩
            have e4 := same_new (o := .lst (ns'.map V.int)) ns1 _ _ e3
            refine ⟨_, rfl, a, _, rfl, .inl (SqL.of e4), _, rfl, RgOk.of_le (by omega) (by rw [List.length_map]; omega) (by omega) (by omega), fun s2 ns2 => ?_⟩
            rw [List.length_map]
            have h1 : (upd (upd H3 s1 (.lst (ns'.map V.int))) s2 (.lst (rgV 0 (ns.length : Int)))) s1 = some (.lst (ns'.map V.int)) := same_new ns2 _ _ upd_same
            have h2 : (upd (upd H3 s1 (.lst (ns'.map V.int))) s2 (.lst (rgV 0 (ns.length : Int)))) s2 = some (.lst ((rg ns.length).map V.int)) := by rw [upd_same, rg_V]
            refine ⟨_, _, dp_list h1, dp_list h2, shaped_list _, shaped_list _, ?_⟩
            rw [show PyData.eqv (.list (ns'.map PyData.int)) (.list ((rg ns.length).map PyData.int)) = decide (ns' = rg ns.length) from eqv_ints _ _]
            refine q _ _ ⟨fun z => ?_, fun z => ?_⟩ ((sm.trans (same_new ns1)).trans (same_new ns2))
            · have z := of_decide_eq_true z
              rw [z] at hperm
              exact ⟨ns, rfl, hperm.symm, c1, c2⟩
            · obtain ⟨ms, em, ho, _⟩ := z
              injection em with em
              have em := intD_inj em
              subst em
              exact decide_eq_true (sorted_eq (hperm.trans ho) hsrt (rg_sorted _))
      | _ => cases hl
end
end Fo
namespace Fo
open PySem PySem.Spec PyProof.Rows L2
def KeepD (d : Addr) (H H' : Hp) : Prop := ∀ b o, H b = some o → b ≠ d → H' b = some o
theorem KeepD.refl (d : Addr) (H : Hp) : KeepD d H H := fun _ _ e _ => e
theorem KeepD.trans {d : Addr} {H H1 H2 : Hp} (a : KeepD d H H1) (b : KeepD d H1 H2) : KeepD d H H2 := fun c o e f => b c o (a c o e f) f
theorem KeepD.of_same {d : Addr} {H H' : Hp} (h : Same H H') : KeepD d H H' := fun b o e _ => h b o e
theorem KeepD.new {d : Addr} {H : Hp} {p : Addr} {o : HO} (e : H p = none) : KeepD d H (upd H p o) := KeepD.of_same (same_new e)
theorem KeepD.none {d : Addr} {H H1 : Hp} (k : KeepD d H H1) {p : Addr} (np : H1 p = none) (nf : p ≠ d) : H p = none := by
  cases e : H p with
  | none => rfl
  | some o =>
    have z := k p o e nf
    rw [np] at z
    cases z
theorem mod_b (x : Int) {m : Int} (h : 0 < m) : 0 ≤ x % m ∧ x % m < m := ⟨Int.emod_nonneg x (by omega), Int.emod_lt_of_pos x h⟩
theorem ins_perm (xs : List Int) (k : Nat) (y : Int) : (xs.take k ++ [y] ++ xs.drop k).Perm (y :: xs) := by
  rw [List.append_assoc]
  have h1 : (xs.take k ++ ([y] ++ xs.drop k)).Perm ([y] ++ (xs.take k ++ xs.drop k)) := by
    rw [← List.append_assoc, ← List.append_assoc]
    exact List.Perm.append_right _ List.perm_append_comm
  rw [List.take_append_drop] at h1
  exact h1
theorem set2_perm {xs : List Int} {p q : Nat} {a b : Int} (ha : xs[p]? = some a) (hb : xs[q]? = some b) : ((xs.set p b).set q a).Perm xs := by
  obtain ⟨h1, e1⟩ := List.getElem?_eq_some_iff.mp ha
  obtain ⟨h2, e2⟩ := List.getElem?_eq_some_iff.mp hb
  rw [← e1, ← e2]
  exact List.set_set_perm h1 h2
theorem set2_V (xs : List Int) (p q : Nat) (a b : Int) : ((xs.map V.int).set p (V.int b)).set q (V.int a) = ((xs.set p b).set q a).map V.int := by
  rw [List.map_set, List.map_set]
end Fo
namespace Fo
open PySem PySem.Spec PyProof.Rows L2
/-! ### lists of lists -/
def LL (H : Hp) : List Addr → List (List Int) → Prop
  | [], [] => True
  | a :: as, r :: rs => H a = some (.lst (r.map V.int)) ∧ LL H as rs
  | _, _ => False
theorem LL.len {H : Hp} : ∀ {as : List Addr} {rs : List (List Int)}, LL H as rs → as.length = rs.length
  | [], [], _ => rfl
  | [], _ :: _, h => h.elim
  | _ :: _, [], h => h.elim
  | a :: as, r :: rs, h => by rw [List.length_cons, List.length_cons, LL.len h.2]
theorem LL.keep {H H' : Hp} : ∀ {as : List Addr} {rs : List (List Int)}, LL H as rs → (∀ a ∈ as, ∀ o, H a = some o → H' a = some o) → LL H' as rs
  | [], [], _, _ => trivial
  | [], _ :: _, h, _ => h.elim
  | _ :: _, [], h, _ => h.elim
  | a :: as, r :: rs, h, k => ⟨k a List.mem_cons_self _ h.1, LL.keep h.2 fun b hb => k b (List.mem_cons_of_mem _ hb)⟩
theorem LL.same {H H' : Hp} {as : List Addr} {rs : List (List Int)} (h : LL H as rs) (s : Same H H') : LL H' as rs := h.keep fun a _ o e => s a o e
theorem LL.get {H : Hp} : ∀ {as : List Addr} {rs : List (List Int)} {i : Nat} {a : Addr}, LL H as rs → as[i]? = some a → ∃ r, rs[i]? = some r ∧ H a = some (.lst (r.map V.int))
  | [], [], _, _, _, e => by simp at e
  | [], _ :: _, _, _, h, _ => h.elim
  | _ :: _, [], _, _, h, _ => h.elim
  | a :: as, r :: rs, 0, b, h, e => by
    have e2 : a = b := Option.some.inj e
    subst e2
    exact ⟨r, rfl, h.1⟩
  | a :: as, r :: rs, i + 1, b, h, e => LL.get (i := i) h.2 e
theorem LL.tracked {H : Hp} {as : List Addr} {rs : List (List Int)} (h : LL H as rs) {a : Addr} (ha : a ∈ as) : ∃ o, H a = some o := by
  obtain ⟨i, hi⟩ := List.mem_iff_getElem?.mp ha
  obtain ⟨r, _, e⟩ := h.get hi
  exact ⟨_, e⟩
theorem LL.snoc {H : Hp} : ∀ {as : List Addr} {rs : List (List Int)} {a : Addr} {r : List Int}, LL H as rs → H a = some (.lst (r.map V.int)) → LL H (as ++ [a]) (rs ++ [r])
  | [], [], _, _, _, e => ⟨e, trivial⟩
  | [], _ :: _, _, _, h, _ => h.elim
  | _ :: _, [], _, _, h, _ => h.elim
  | b :: as, s :: rs, _, _, h, e => ⟨h.1, LL.snoc h.2 e⟩
theorem LL.drop {H : Hp} : ∀ {as : List Addr} {rs : List (List Int)} (k : Nat), LL H as rs → LL H (as.drop k) (rs.drop k)
  | as, rs, 0, h => h
  | [], [], k + 1, _ => trivial
  | [], _ :: _, _ + 1, h => h.elim
  | _ :: _, [], _ + 1, h => h.elim
  | _ :: as, _ :: rs, k + 1, h => LL.drop k h.2
theorem dp_LL {K : PySem.W.Frag} {H : Hp} : ∀ {as : List Addr} {rs : List (List Int)}, LL H as rs → DpAll K H (as.map V.ref) (rs.map dL)
  | [], [], _ => .nil
  | [], _ :: _, h => h.elim
  | _ :: _, [], h => h.elim
  | _ :: _, _ :: _, h => .cons (dp_list h.1) (dp_LL h.2)
theorem dp_lists {K : PySem.W.Frag} {H : Hp} {l : Addr} {as : List Addr} {rs : List (List Int)} (hl : H l = some (.lst (as.map V.ref))) (h : LL H as rs) : Dp K H (.ref l) (dLL rs) := .lst (SqL.of hl) (dp_LL h)
theorem ref_at {as : List Addr} {i : Nat} {a : Addr} (h : as[i]? = some a) : (as.map V.ref)[i]? = some (V.ref a) := by
  rw [List.getElem?_map, h]
  rfl
theorem ref_at_inv {as : List Addr} {i : Nat} {v : V} (h : (as.map V.ref)[i]? = some v) : ∃ a, as[i]? = some a ∧ v = V.ref a := by
  rw [List.getElem?_map] at h
  cases e : as[i]? with
  | none => rw [e] at h; cases h
  | some x => rw [e] at h; exact ⟨x, rfl, (Option.some.inj h).symm⟩
theorem cutV_tail (xs : List V) (k : Nat) : cutV xs (some (k : Int)) none = xs.drop k := by
  unfold cutV
  rw [HT.sIx_none, HT.sIx_nat]
  by_cases h : k ≤ xs.length
  · rw [Nat.min_eq_left h, List.take_of_length_le (by rw [List.length_drop]; exact Nat.le_refl _)]
  · rw [Nat.min_eq_right (by omega), List.drop_of_length_le (Nat.le_refl _), List.drop_of_length_le (by omega), List.take_nil]
end Fo
namespace Fo
open PySem PySem.Spec PyProof.Rows L2
/-! ### a slice with a step that is reckoned, 1 or -1 -/
theorem pick_one (items : Array Value) : slicePick items none none (some 1) = items := by
  have e : slicePick items none none (some 1) = slicePick items none none none := rfl
  rw [e, PySem.W.kmk_pick_nat (a := 0) (b := items.size) items rfl, List.drop_zero, Nat.sub_zero, ← Array.length_toList, List.take_length]
def tStepL (K : PySem.W.Frag) (te ts : TE) : TE := fun σ H Q => te σ H fun x H1 => ∃ a, x = .ref a ∧ tPart ts σ H1 fun o H2 => ∃ xs, SqL K H2 a xs ∧
  ((o = some 1 ∧ ∀ p, H2 p = none → Q (.ref p) (upd H2 p (.lst xs))) ∨ (o = some (-1) ∧ ∀ p, H2 p = none → Q (.ref p) (upd H2 p (.lst xs.reverse))))
theorem pe_stepL {X : Cx} {e st : Expr} {te ts : TE} {p3 pos : Pos} (he : PE X e te) (hst : PE X st ts)
    (hsub : ∀ u : Value, ∀ r : Addr, subscripted (.Slice none none (some st) p3) false u (.ref r) = operate [u, .ref r] (getItem u (.ref r)) := by intro _ _; with_unfolding_all rfl) : PE X (.Subscript e (.Slice none none (some st) p3) pos) (tStepL X.K te ts) := by
  refine ⟨fun pins s σ H Q I h => ?_⟩
  refine Subscript_ (thn (he.run pins s σ H _ I h) fun v s1 z1 => ?_)
  obtain ⟨x, H1, I1, r1, a, ex, q1⟩ := z1
  subst ex
  cases r1
  refine wpAny_Slice (thn (po_none.run pins s1 σ H1 (fun o H2 => o = none ∧ H2 = H1) I1 ⟨rfl, rfl⟩) fun vl s2 z2 => ?_)
  obtain ⟨l, H2, I2, pl, el, e2⟩ := z2
  subst el e2
  refine thn (po_none.run pins s2 σ H2 (fun o H3 => o = none ∧ H3 = H2) I2 ⟨rfl, rfl⟩) fun vu s3 z3 => ?_
  obtain ⟨u, H3, I3, pu, eu, e3⟩ := z3
  subst eu e3
  refine thn ((po_some hst).run pins s3 σ H3 _ I3 q1) fun vs s4 z4 => ?_
  obtain ⟨o, H4, I4, ps, xs, hx, q⟩ := z4
  have I5 : Inv X pins σ H4 { s4 with heap := s4.heap.push { cls := .type "slice", data := .fields #[vl, vu, vs] } } := I4.kept (t' := s4.toks) fun b ob w => Heap.get?_push_of_some _ w
  obtain ⟨its, r, ht, hz⟩ := I5.list hx
  have hlen := r.length
  show wpAny (model X.prog X.w) X.A (subscriptTail e (.Slice none none (some st) p3) (.ref a) (.ref s4.heap.objs.size)) (EP X pins σ Q) X.xe _
  refine tail_any (ops := [.ref a, .ref s4.heap.objs.size]) ht.isList.typeIs (PySem.slot_list_getitem.lookup) ?_ (hsub _ _)
  rcases q with ⟨eo, q⟩ | ⟨eo, q⟩
  · subst eo
    refine wpAny_getItem_list_slice ht.isList (Heap.IsSliceOf.new _ vl vu vs) pl pu ps (by decide) ?_ (by rw [List.size_toArray]; omega)
    rw [pick_one]
    refine ⟨.ref _, _, I5.laid (t' := s4.toks) (o := .lst xs) (fun b ob w => Heap.get?_push_of_some _ w) (Nat.le_refl _) ?_, rfl, q _ (I5.hok.fresh (Nat.le_refl _))⟩
    exact ⟨hz, _, 0, r, Heap.get?_push_size _ rfl⟩
  · subst eo
    refine wpAny_getItem_list_slice ht.isList (Heap.IsSliceOf.new _ vl vu vs) pl pu ps (by decide) ?_ (by rw [List.size_toArray]; omega)
    rw [PySem.W.krv_pick]
    refine ⟨.ref _, _, I5.laid (t' := s4.toks) (o := .lst xs.reverse) (fun b ob w => Heap.get?_push_of_some _ w) (Nat.le_refl _) ?_, rfl, q _ (I5.hok.fresh (Nat.le_refl _))⟩
    exact ⟨by rw [List.length_reverse]; exact hz, _, 0, r.reverse, Heap.get?_push_size _ rfl⟩
end Fo
namespace Fo
open PySem PySem.Spec PyProof.Rows L2
/-- a loop over enumerate of a list that stands still -/
theorem for_enumL {K : PySem.W.Frag} {a : Addr} {xs : List V} {g : TG} {tb : TS} {D : Ends} {σ : L2.St} {H : Hp} (Pv : Nat → L2.St → Hp → Prop) (h0 : Pv 0 σ H) (hq : ∀ i σ H, Pv i σ H → SqL K H a xs)
    (hs : ∀ (i : Nat) (x : V) (T : Addr) (σ : L2.St) (H : Hp), xs[i]? = some x → Pv i σ H → H T = none → g (.ref T) σ (upd H T (.tup [.int (i : Nat), x])) fun σ2 H2 => tb { D with nx := Pv (i + 1), ct := Pv (i + 1), bk := D.nx } σ2 H2) (hd : ∀ σ H, Pv xs.length σ H → D.nx σ H) :
    ∃ W : Nat → Nat → L2.St → Hp → Prop, (∃ m, W 0 m σ H) ∧ ∀ i m σ H, W i m σ H →
      ((Ite K a).stop i H ∧ D.nx σ H) ∨ ((Ite K a).go i H ∧ ∃ N : L2.St → Hp → Prop, (∀ σ' H', N σ' H' → ∃ m', m' < m ∧ W (i + 1) m' σ' H') ∧ ∀ v H', (Ite K a).yld i H v H' → g v σ H' fun σ2 H2 => tb { D with nx := N, ct := N, bk := D.nx } σ2 H2) := by
  refine ⟨fun i m σ H => m = xs.length - i ∧ i ≤ xs.length ∧ Pv i σ H, ⟨xs.length, rfl, Nat.zero_le _, h0⟩, ?_⟩
  rintro i m σ H ⟨rfl, hi, p⟩
  have qx := hq i σ H p
  by_cases hlt : i < xs.length
  · have hx : xs[i]? = some xs[i] := List.getElem?_eq_getElem hlt
    refine .inr ⟨⟨xs, _, qx, hx⟩, Pv (i + 1), fun σ' H' p' => ⟨xs.length - (i + 1), by omega, rfl, hlt, p'⟩, fun v H' y => ?_⟩
    obtain ⟨T, x', rfl, hT, rfl, f1⟩ := y
    exact hs i x' T σ H (f1 xs qx) p hT
  · have e : i = xs.length := by omega
    subst e
    exact .inl ⟨⟨xs, qx, Nat.le_refl _⟩, hd σ H p⟩
/-- a comprehension over enumerate of a list that stands still -/
theorem lc_enumL {K : PySem.W.Frag} {a : Addr} {xs : List V} {g : TG} {tt : TT} {te : TE} {vs : List Nat} {σ : L2.St} {H1 : Hp} {D : Addr} {Qd : Hp → Prop} (Pv : Nat → Hp → Prop) (h0 : Pv 0 (upd H1 D (.lst []))) (hl : ∀ i H, i ≤ xs.length → Pv i H → SqL K H a xs)
    (hs : ∀ (i : Nat) (x : V) (T : Addr) (H : Hp), xs[i]? = some x → Pv i H → H T = none → g (.ref T) (wipe σ vs) (upd H T (.tup [.int (i : Nat), x])) fun σ2 H2 => wipe σ2 vs = wipe σ vs ∧ tt σ2 H2 fun b H3 =>
      if b = true then te σ2 H3 fun y H4 => ∃ acc, H4 D = some (.lst acc) ∧ acc.length < sizeLine ∧ Pv (i + 1) (upd H4 D (.lst (acc ++ [y]))) else Pv (i + 1) H3) (hd : ∀ H, Pv xs.length H → Qd H) :
    ∃ W : Nat → Nat → Hp → Prop, (∃ m, W 0 m (upd H1 D (.lst []))) ∧ ∀ i m H, W i m H →
      ((Ite K a).stop i H ∧ Qd H) ∨ ((Ite K a).go i H ∧ ∃ Nx : Hp → Prop, (∀ H', Nx H' → ∃ m', m' < m ∧ W (i + 1) m' H') ∧ ∀ x H', (Ite K a).yld i H x H' → g x (wipe σ vs) H' fun σ2 H2 => wipe σ2 vs = wipe σ vs ∧ tt σ2 H2 fun b H3 =>
        if b = true then te σ2 H3 fun y H4 => ∃ acc, H4 D = some (.lst acc) ∧ acc.length < sizeLine ∧ Nx (upd H4 D (.lst (acc ++ [y]))) else Nx H3) := by
  refine ⟨fun i m H => m = xs.length - i ∧ i ≤ xs.length ∧ Pv i H, ⟨xs.length, by simp, Nat.zero_le _, h0⟩, ?_⟩
  rintro i m H ⟨rfl, hi, p⟩
  have q := hl i H hi p
  by_cases hlt : i < xs.length
  · refine .inr ⟨⟨xs, xs[i], q, by simp [hlt]⟩, Pv (i + 1), fun H' p' => ⟨xs.length - (i + 1), by omega, rfl, hlt, p'⟩, fun x H' y => ?_⟩
    obtain ⟨T, x', rfl, hT, rfl, f1⟩ := y
    exact hs i x' T H (f1 xs q) p hT
  · have e : i = xs.length := by omega
    subst e
    exact .inl ⟨⟨xs, q, Nat.le_refl _⟩, hd H p⟩
/-! ### the back of an order -/
def IsBack (ns ps : List Int) : Prop := ps.length = ns.length ∧ ∀ (j : Nat) (x : Int), ns[j]? = some x → ps[x.toNat]? = some (j : Int)
theorem ord_at {n : Nat} {ns : List Int} (o : IsOrd n ns) {t : Nat} (h : t < n) : ∃ j : Nat, j < n ∧ ns[j]? = some (t : Int) := by
  have m : (t : Int) ∈ ns := (List.Perm.mem_iff o).mpr (rg_mem.mpr ⟨by omega, by omega⟩)
  obtain ⟨j, hj⟩ := List.mem_iff_getElem?.mp m
  exact ⟨j, by have := (List.getElem?_eq_some_iff.mp hj).1; rw [o.len] at this; exact this, hj⟩
theorem ord_ix {n : Nat} {ns : List Int} (o : IsOrd n ns) {j : Nat} (h : j < n) : ∃ x : Int, ns[j]? = some x ∧ 0 ≤ x ∧ x < n := by
  have hj : j < ns.length := by rw [o.len]; exact h
  exact ⟨ns[j], List.getElem?_eq_getElem hj, o.mem (List.getElem_mem hj)⟩
theorem back_eq {n : Nat} {ns a b : List Int} (o : IsOrd n ns) (ha : IsBack ns a) (hb : IsBack ns b) : a = b := by
  apply List.ext_getElem?
  intro t
  by_cases h : t < n
  · obtain ⟨j, _, hj⟩ := ord_at o h
    have h1 := ha.2 j _ hj
    have h2 := hb.2 j _ hj
    rw [Int.toNat_natCast] at h1 h2
    rw [h1, h2]
  · rw [List.getElem?_eq_none (by rw [ha.1, o.len]; omega), List.getElem?_eq_none (by rw [hb.1, o.len]; omega)]
def behindL (ns ms : List Int) : List Int := ms.map fun p => ns.getD p.toNat 0
theorem behind_at {ns ms : List Int} {i : Nat} {p x : Int} (hp : ms[i]? = some p) (hx : ns[p.toNat]? = some x) : (behindL ns ms)[i]? = some x := by
  unfold behindL
  rw [List.getElem?_map, hp]
  show some (ns.getD p.toNat 0) = some x
  rw [List.getD_eq_getElem?_getD, hx]
  rfl
theorem behind_len (ns ms : List Int) : (behindL ns ms).length = ms.length := by
  unfold behindL
  rw [List.length_map]
theorem take_more {l : List Int} {i : Nat} {x : Int} (h : l[i]? = some x) : l.take (i + 1) = l.take i ++ [x] := by
  rw [List.take_add_one, h]
  rfl
theorem flat_ints : ∀ ns : List Int, (ns.map V.int).all flatV = true
  | [] => rfl
  | n :: r => by
    show (flatV (V.int n) && (r.map V.int).all flatV) = true
    rw [flat_ints r]
    rfl
theorem eqV_int (i j : Int) : eqV (.int i) (.int j) = (i == j) := rfl
end Fo
namespace Fo
open PySem PySem.Spec PyProof.Rows L2
/-! a list of anything held against the empty one -/
abbrev rNilEq (K : PySem.W.Frag) : R2 := fun x y H Q => ∃ a b xs, x = .ref a ∧ y = .ref b ∧ SqL K H a xs ∧ SqL K H b [] ∧ Q (.bl xs.isEmpty) H
abbrev rNilNe (K : PySem.W.Frag) : R2 := fun x y H Q => ∃ a b xs, x = .ref a ∧ y = .ref b ∧ SqL K H a xs ∧ SqL K H b [] ∧ Q (.bl (!xs.isEmpty)) H
section
variable {X : Cx}
theorem op_eqNilL (hu : X.A.units + 64 < cLine) : OpR X (compareOp .Eq) (rNilEq X.K) := by
  intro pins s σ H x y v u Q I rx ry h
  obtain ⟨a, b, xs, rfl, rfl, ha, hb, q⟩ := h
  cases (show v = Value.ref a from rx)
  cases (show u = Value.ref b from ry)
  obtain ⟨us, r1, p1, _⟩ := I.list ha
  obtain ⟨ws, r2, p2, _⟩ := I.list hb
  have e2 : ws.length = 0 := r2.length.symm
  have e1 : us.length = xs.length := r1.length.symm
  cases xs with
  | nil =>
    refine SeqAt.eq_listAt (e := fun _ => true) p1.isList p2.isList ?_ (by omega) (fun j h1 h2 => ?_) ?_
    · rw [List.size_toArray, List.size_toArray, e1, e2]
      rfl
    · rw [List.size_toArray, e2] at h2
      omega
    · rw [show ((List.range us.toArray.size).all fun _ => true) = true from List.all_eq_true.mpr fun _ _ => rfl]
      exact ⟨.bl true, H, I, rfl, q⟩
  | cons x r =>
    refine SeqAt.eq_list_lengthsAt p1.isList p2.isList ?_ (by omega) ⟨.bl false, H, I, rfl, q⟩
    rw [List.size_toArray, List.size_toArray, e1, e2]
    rfl
theorem op_neNilL (hu : X.A.units + 64 < cLine) : OpR X (compareOp .NotEq) (rNilNe X.K) := by
  intro pins s σ H x y v u Q I rx ry h
  obtain ⟨a, b, xs, rfl, rfl, ha, hb, q⟩ := h
  cases (show v = Value.ref a from rx)
  cases (show u = Value.ref b from ry)
  obtain ⟨us, r1, p1, _⟩ := I.list ha
  obtain ⟨ws, r2, p2, _⟩ := I.list hb
  have e2 : ws.length = 0 := r2.length.symm
  have e1 : us.length = xs.length := r1.length.symm
  cases xs with
  | nil =>
    refine SeqAt.RcNeAt.lists (e := fun _ => true) p1.isList p2.isList ?_ (by omega) (fun j h1 h2 => ?_) _ _ _ _ ?_
    · rw [List.size_toArray, List.size_toArray, e1, e2]
      rfl
    · rw [List.size_toArray, e2] at h2
      omega
    · rw [show ((List.range us.toArray.size).all fun _ => true) = true from List.all_eq_true.mpr fun _ _ => rfl]
      exact ⟨.bl false, H, I, rfl, q⟩
  | cons x r =>
    refine SeqAt.RcNeAt.lists_lengths p1.isList p2.isList ?_ (by omega) _ _ _ _ ⟨.bl true, H, I, rfl, q⟩
    rw [List.size_toArray, List.size_toArray, e1, e2]
    rfl
end
end Fo
namespace Fo
open PySem PySem.Spec PyProof.Rows L2
/-! ### a pool: three numbers, of which others are drawn -/
def PoolAt (H : Hp) (d : Addr) : Prop := ∃ a b s : Int, H d = some (.lst [.int a, .int b, .int s])
theorem PoolAt.same {H H' : Hp} {d : Addr} (h : PoolAt H d) (s : Same H H') : PoolAt H' d := by
  obtain ⟨a, b, t, e⟩ := h
  exact ⟨a, b, t, s _ _ e⟩
theorem PoolAt.ne {H : Hp} {d : Addr} (h : PoolAt H d) {p : Addr} (e : H p = none) : p ≠ d := by
  obtain ⟨a, b, t, e1⟩ := h
  exact (ne_of_none e1 e).symm
theorem PoolAt.upd {H : Hp} {d : Addr} (h : PoolAt H d) {p : Addr} {o : HO} (n1 : p ≠ d) : PoolAt (upd H p o) d := by
  obtain ⟨a, b, t, e⟩ := h
  exact ⟨a, b, t, by rw [upd_ne n1.symm]; exact e⟩
theorem PoolAt.new {H : Hp} {d : Addr} (h : PoolAt H d) {p : Addr} {o : HO} (e : H p = none) : PoolAt (L2.upd H p o) d := h.upd (h.ne e)
def spPool (K : PySem.W.Frag) : Sp := fun vs H Q _ => ∃ (a : Addr) (ns : List Int) (k : Nat), vs = [.ref a, .int k] ∧ SqL K H a (ns.map V.int) ∧ ∀ (d : Addr) (H' : Hp), H d = none → PoolAt H' d → Same H H' → Q (.ref d) H'
def spDrawP : Sp := fun vs H Q _ => ∃ (d : Addr) (many : Int), vs = [.ref d, .int many] ∧ PoolAt H d ∧ 0 < many ∧ many ≤ 100000000000000000000000000 ∧ ∀ (v : Int) (H' : Hp), 0 ≤ v → v < many → PoolAt H' d → KeepD d H H' → Q (.int v) H'
def spOrderP : Sp := fun vs H Q _ => ∃ (d : Addr) (n : Nat), vs = [.ref d, .int n] ∧ PoolAt H d ∧ n ≤ 12 ∧
  ∀ (ns : List Int) (l : Addr) (H' : Hp), IsOrd n ns → H l = none → H' l = some (.lst (ns.map V.int)) → l ≠ d → PoolAt H' d → KeepD d H H' → Q (.ref l) H'
def spNearP : Sp := fun vs H Q _ => ∃ (d o : Addr) (n : Nat) (ns : List Int), vs = [.ref d, .ref o] ∧ PoolAt H d ∧ H o = some (.lst (ns.map V.int)) ∧ IsOrd n ns ∧ 1 ≤ n ∧ n ≤ 12 ∧
  ∀ (ms : List Int) (l : Addr) (H' : Hp), IsOrd n ms → H l = none → H' l = some (.lst (ms.map V.int)) → l ≠ d → PoolAt H' d → KeepD d H H' → Q (.ref l) H'
theorem at3_0 {x y z : V} : atI [x, y, z] 0 = some x := rfl
theorem at3_1 {x y z : V} : atI [x, y, z] 1 = some y := rfl
theorem at3_2 {x y z : V} : atI [x, y, z] 2 = some z := rfl
section
variable {P : Program} {w : World} {K : PySem.W.Frag} {mg : Str → Option Value} {base : Heap}
theorem scDrawP : FnScope ["pool", "many", "found", "x"] ["pool", "many"] (defScope s_law_draw) := ⟨rfl, rfl, rfl, by decide +kernel, rfl, by decide +kernel, by decide +kernel⟩
set_option maxHeartbeats 1000000 in
theorem ok_drawP {f : Addr} {fd : FuncData} {k : Nat} (T : Df K mg "_law_draw" s_law_draw ["pool", "many"] f fd) (B : Bi mg) : FnOk P w K mg base CX0 (k + 1) f fd ["pool", "many"] spDrawP := by
  refine T.F.ok scDrawP (fun vs H Q E h => ?_) (fun cdv A outer s H vs Q E hr h => ?_)
  · obtain ⟨d, m, rfl, _⟩ := h
    rfl
  · obtain ⟨d, m, rfl, ⟨a, b, st, hd⟩, hm, hm2, q⟩ := h
    refine ⟨_, 
      (pss_cons (ps_if (pt_cmpR op_eq (pe_ix ix_list (pv 0) pe_int (fun _ _ => rfl)) pe_int (nomark _))
        (pss_cons (ps_set (i := 2) scDrawP.nd rfl (.inl rfl) (pe_op op_mod (pe_ix ix_list (pv 0) pe_int (fun _ _ => rfl)) (pv 1)))
        (pss_cons (ps_asg (pe_op op_fdivW (pe_ix ix_list (pv 0) pe_int (fun _ _ => rfl)) (pv 1)) (pg_sub (pv 0) pe_int set_list))
        (pss_one (ps_ret (pv 2)))))
        pss_nil)
      (pss_cons (ps_asg (pe_op op_add (pe_ix ix_list (pv 0) pe_int (fun _ _ => rfl)) pe_int) (pg_sub (pv 0) pe_int set_list))
      (Evl.pss_cut (ps_set (i := 3) scDrawP.nd rfl (.inl rfl) (pe_op op_mod (pe_op op_add (pe_op op_mod (pe_ix ix_list (pv 0) pe_int (fun _ _ => rfl)) pe_int) (pe_op op_mul pe_int (pe_ix ix_list (pv 0) pe_int (fun _ _ => rfl)))) pe_int))
      (Evl.pss_cut (ps_set (i := 3) scDrawP.nd rfl (.inl rfl) (pe_op op_mod (pe_op op_mul (pv 3) (pv 3)) pe_int))
      (Evl.pss_cut (ps_set (i := 3) scDrawP.nd rfl (.inl rfl) (pe_op op_mod (pe_op op_mul (pe_op op_add (pv 3) pe_int) (pv 3)) pe_int))
      (pss_one (ps_ret (pe_op op_mod (pe_op op_fdiv (pv 3) pe_int) (pv 1))))))))), ?_⟩
    refine ⟨_, rfl, d, _, 1, _, rfl, rfl, SqL.of hd, at3_1, rfl, _, rfl, ite2 (fun _ => ?_) (fun _ => ?_)⟩
    · refine ⟨_, rfl, d, _, 0, _, rfl, rfl, SqL.of hd, at3_0, _, rfl, a, m, rfl, rfl, hm, ?_⟩
      refine ⟨_, rfl, d, _, 0, _, rfl, rfl, SqL.of hd, at3_0, _, rfl, a, m, rfl, rfl, wide_div (b := 100) hm (by show m.natAbs < 1267650600228229401496703205376; omega) (by decide) (by decide), _, rfl, d, _, 0, 0, rfl, rfl, hd, rfl, ?_⟩
      obtain ⟨c1, c2⟩ := mod_b a hm
      exact ⟨_, rfl, q _ _ c1 c2 ⟨a / m, b, st, upd_same⟩ fun b o e nb => by rw [upd_ne nb]; exact e⟩
    · refine ⟨_, rfl, d, _, 2, _, rfl, rfl, SqL.of hd, at3_2, st, 1, rfl, rfl, _, rfl, d, _, 2, 2, rfl, rfl, hd, rfl, ?_⟩
      have hd1 : (upd H d (.lst (([.int a, .int b, .int st] : List V).set 2 (.int (st + 1))))) d = some (.lst [.int a, .int b, .int (st + 1)]) := upd_same
      have kp : KeepD d H (upd H d (.lst (([.int a, .int b, .int st] : List V).set 2 (.int (st + 1))))) := fun b o e nb => by rw [upd_ne nb]; exact e
      refine ⟨fun τ G => ∃ x : Int, 0 ≤ x ∧ x < 999999999989 ∧ τ = [some (.ref d), some (.int m), none, some (.int x)] ∧ G = upd H d (.lst (([.int a, .int b, .int st] : List V).set 2 (.int (st + 1)))), ?_, fun τ G hM => ?_⟩
      · have z := mod_b (a % 999999999989 + 440023 * (st + 1)) (m := 999999999989) (by decide)
        exact ⟨_, rfl, d, _, 0, _, rfl, rfl, SqL.of hd1, at3_0, _, 999999999989, rfl, rfl, (show (0 : Int) < 999999999989 by decide), _, rfl, d, _, 2, _, rfl, rfl, SqL.of hd1, at3_2, 440023, _, rfl, rfl, .inl ⟨by decide, by decide⟩, _, _, rfl, rfl, _, 999999999989, rfl, rfl, (show (0 : Int) < 999999999989 by decide), _, z.1, z.2, rfl, rfl⟩
      obtain ⟨x, x0, x1, rfl, e1⟩ := hM
      subst e1
      generalize upd H d (.lst (([.int a, .int b, .int st] : List V).set 2 (.int (st + 1)))) = G at hd1 kp ⊢
      refine ⟨fun τ G' => ∃ y : Int, 0 ≤ y ∧ y < 1000000000039 ∧ τ = [some (.ref d), some (.int m), none, some (.int y)] ∧ G' = G, ?_, fun τ G' hM => ?_⟩
      · exact ⟨_, rfl, _, rfl, x, x, rfl, rfl, .inl ⟨by omega, by omega⟩, _, 1000000000039, rfl, rfl, (show (0 : Int) < 1000000000039 by decide), _, (mod_b _ (by decide)).1, (mod_b _ (by decide)).2, rfl, rfl⟩
      obtain ⟨y, y0, y1, rfl, e1⟩ := hM
      subst e1
      refine ⟨fun τ G'' => ∃ z : Int, 0 ≤ z ∧ z < 999999999961 ∧ τ = [some (.ref d), some (.int m), none, some (.int z)] ∧ G'' = G', ?_, fun τ G'' hM => ?_⟩
      · exact ⟨_, rfl, y, 710009, rfl, rfl, _, rfl, _, y, rfl, rfl, .inr ⟨by omega, by omega⟩, _, 999999999961, rfl, rfl, (show (0 : Int) < 999999999961 by decide), _, (mod_b _ (by decide)).1, (mod_b _ (by decide)).2, rfl, rfl⟩
      obtain ⟨z, z0, z1, rfl, e1⟩ := hM
      subst e1
      obtain ⟨c1, c2⟩ := mod_b (z / 7) hm
      exact ⟨_, rfl, _, 7, rfl, rfl, ⟨by decide, by decide⟩, _, rfl, _, m, rfl, rfl, hm, q _ _ c1 c2 ⟨a, b, st + 1, hd1⟩ kp⟩
theorem scPool : FnScope ["script", "k", "cell"] ["script", "k"] (defScope s_law_pool) := ⟨rfl, rfl, rfl, by decide +kernel, rfl, by decide +kernel, by decide +kernel⟩
theorem ok_pool {f : Addr} {fd : FuncData} {k : Nat} (T : Df K mg "_law_pool" s_law_pool ["script", "k"] f fd) (B : Bi mg) : FnOk P w K mg base CX0 (k + 1) f fd ["script", "k"] (spPool K) := by
  refine T.F.ok scPool (fun vs H Q E h => ?_) (fun cdv A outer s H vs Q E hr h => ?_)
  · obtain ⟨a, ns, k, rfl, _⟩ := h
    rfl
  · obtain ⟨a, ns, k, rfl, hS, q⟩ := h
    refine ⟨_, 
      (pss_cons (ps_set (i := 2) scPool.nd rfl (.inl rfl) pe_int)
      (Evl.pss_cut (ps_if (pt_cmpR op_lt (pv 1) (pe_callB call_len_seq (by rfl) B.len PySem.boot_len (pa_cons (pv 0) pa_nil)) (nomark _))
        (pss_one (ps_set (i := 2) scPool.nd rfl (.inl rfl) (pe_ix ix_list (pv 0) (pv 1) (fun _ _ => rfl))))
        pss_nil)
      (pss_one (ps_ret (pe_lst (pa_cons (pv 2) (pa_cons (pe_callTy call_int1 (by rfl) B.int (by decide +kernel) (pa_cons (pe_cmpR op_ge (pv 2) (pe_op op_pow pe_int pe_int) (nomark _)) pa_nil)) (pa_cons (pe_op op_mul pe_int (pv 1)) pa_nil)))))))), ?_⟩
    refine ⟨fun τ G => ∃ x : Int, τ = [some (.ref a), some (.int k), some (.int x)] ∧ G = H, ?_, fun τ G hM => ?_⟩
    · refine ⟨_, rfl, _, rfl, a, _, rfl, .inl hS, (k : Int), _, rfl, rfl, _, rfl, ite2 (fun c => ?_) (fun _ => ⟨0, rfl, rfl⟩)⟩
      have hl : (k : Int) < (((ns.map V.int).length : Nat) : Int) := of_decide_eq_true c
      rw [List.length_map] at hl
      exact ⟨_, rfl, _, rfl, a, _, _, _, rfl, rfl, hS, at_of (j := k) rfl (int_at (List.getElem?_eq_getElem (show k < ns.length by omega))), _, rfl, rfl⟩
    obtain ⟨x, rfl, rfl⟩ := hM
    refine ⟨_, rfl, _, rfl, 10, 18, rfl, rfl, ⟨by decide, by decide, by decide⟩, x, _, rfl, rfl, .inr ⟨_, rfl, _, rfl, 37, (k : Int), rfl, rfl, .inl ⟨by decide, by decide⟩, line_small (by show 3 ≤ 16777216; decide), fun d nd => ?_⟩⟩
    exact q d _ nd ⟨_, _, _, upd_same⟩ (same_new nd)
theorem scOrderP : FnScope ["pool", "n", "left", "k"] ["pool", "n"] (defScope s_law_order) := ⟨rfl, rfl, rfl, by decide +kernel, rfl, by decide +kernel, by decide +kernel⟩
set_option maxHeartbeats 4000000 in
theorem ok_ordP {f fD : Addr} {fd fdD : FuncData} {k : Nat} (T : Df K mg "_law_order" s_law_order ["pool", "n"] f fd) (T__law_draw : Df K mg "_law_draw" s_law_draw ["pool", "many"] fD fdD) (G__law_draw : FnOk P w K mg base CX0 k fD fdD ["pool", "many"] spDrawP) (B : Bi mg) : FnOk P w K mg base CX0 (k + 1) f fd ["pool", "n"] spOrderP := by
  refine T.F.ok scOrderP (fun vs H Q E h => ?_) (fun cdv A outer s H vs Q E hr h => ?_)
  · obtain ⟨D, n, rfl, _⟩ := h
    rfl
  · obtain ⟨d, n, rfl, hD, hn2, q⟩ := h
    refine ⟨_, 
      (pss_cons (ps_set (i := 2) scOrderP.nd rfl (.inr rfl) (pe_listRg rfl (by rfl) B.list (prg_1 (by rfl) B.range (pv 1))))
      (pss_one (ps_ret (pe_lc (own := [("k", 3)]) (g := (gName 3)) (tt := tYes) (te := (tBM K "list" rPopAt (tVar 2) (tCons (tCall spDrawP [] E0 (tCons (tVar 0) (tCons (tCB (rLenS K) (tCons (tVar 2) tNil)) tNil))) tNil))) rfl scOrderP.nd (pi_range1 (by rfl) B.range (pa_cons (pv 1) pa_nil)) (blkOk_by (N := ["pool", "n", "left", "k"]) (sc := defScope s_law_order) (by decide +kernel)) (fun _ _ _ _ _ => (pg_name (i := 3) scOrderP.nd rfl (.inl rfl))) (fun _ _ _ _ _ => pts_nil) (fun _ _ _ _ _ => (pe_bm PySem.F.plainAttrs_list PySem.F.slot_list_pop PySem.F.type_list_pop mt_popAt (pv 2) (pa_cons (pe_call G__law_draw hr (by rfl) T__law_draw.g T__law_draw.F.kp T__law_draw.b .nil pass0 (pa_cons (pv 0) (pa_cons (pe_callB call_len_seq (by rfl) B.len PySem.boot_len (pa_cons (pv 2) pa_nil)) pa_nil))) pa_nil))))))), ?_⟩
    refine ⟨_, rfl, n, rfl, RgOk.of_le (by omega) (by omega) (by omega) (by omega), fun l nl => ?_⟩
    have hl0 : (upd H l (.lst (rgV 0 (n : Int)))) l = some (.lst ((rg n).map V.int)) := by rw [upd_same, rg_V]
    have D0 := hD.new (o := .lst (rgV 0 (n : Int))) nl
    have nf := hD.ne nl
    have k0 : KeepD d H (upd H l (.lst (rgV 0 (n : Int)))) := KeepD.new nl
    refine ⟨_, rfl, n, rfl, by omega, by omega, ?_⟩
    rw [Int.toNat_natCast]
    intro p np
    have npf := D0.ne np
    have lp : l ≠ p := ne_of_none hl0 np
    refine lc_range (lo := 0) (n := n) (fun i H3 => ∃ (rest acc : List Int), (acc ++ rest).Perm (rg n) ∧ acc.length = i ∧ H3 l = some (.lst (rest.map V.int)) ∧ H3 p = some (.lst (acc.map V.int)) ∧ PoolAt H3 d ∧ ∀ b o, H b = some o → b ≠ d → H3 b = some o)
      ⟨rg n, [], List.Perm.refl _, rfl, by rw [upd_ne lp]; exact hl0, upd_same, D0.new np, fun b o e f => by rw [upd_ne (ne_of_none (k0 b o e f) np)]; exact k0 b o e f⟩ (fun i H3 hi hP => ?_) (fun H3 hP => ?_)
    · obtain ⟨rest, acc, hperm, el, hl3, hp3, D3, kp3⟩ := hP
      have hlen : rest.length = n - i := by
        have := List.Perm.length_eq hperm
        rw [List.length_append, rg_len] at this
        omega
      have hlm : (rest.map V.int).length = rest.length := List.length_map _
      refine ⟨rfl, ?_⟩
      refine ⟨_, rfl, .inl ⟨rfl, _, SqL.of hl3⟩, _, rfl, _, rfl, l, _, rfl, .inl (SqL.of hl3), d, _, rfl, D3, by rw [hlm]; omega, by rw [hlm]; omega, fun v H4 v0 v1 D4 k4 => ?_⟩
      have hl4 := k4 l _ hl3 nf
      have hp4 := k4 p _ hp3 npf
      rw [hlm] at v1
      obtain ⟨j, ej⟩ : ∃ j : Nat, v = (j : Int) := ⟨v.toNat, by omega⟩
      subst ej
      obtain ⟨y, ey⟩ : ∃ y, rest[j]? = some y := ⟨rest[j]'(by omega), List.getElem?_eq_getElem (by omega)⟩
      refine ⟨l, _, _, j, _, rfl, rfl, hl4, by omega, by omega, seq_ix rfl (by rw [hlm]; omega), int_at ey, ?_⟩
      refine ⟨acc.map V.int, by rw [upd_ne lp.symm]; exact hp4, line_lt (by rw [List.length_map]; omega), rest.eraseIdx j, acc ++ [y], ?_, by rw [List.length_append, el]; rfl, ?_, by rw [upd_same, List.map_append]; rfl, ?_, fun b o e f => ?_⟩
      · rw [List.append_assoc]
        exact (List.Perm.append_left acc (pop_perm ey)).trans hperm
      · rw [upd_ne lp, upd_same, map_erase]
      · exact (D4.upd nf).upd npf
      · have e4 := k4 b o (kp3 b o e f) f
        have nbl : b ≠ l := ne_of_none e nl
        have nbp : b ≠ p := ne_of_none (k0 b o e f) np
        rw [upd_ne nbp, upd_ne nbl]
        exact e4
    · obtain ⟨rest, acc, hperm, el, hl3, hp3, D3, kp3⟩ := hP
      have hr0 : rest = [] := by
        have := List.Perm.length_eq hperm
        rw [List.length_append, rg_len] at this
        exact List.eq_nil_of_length_eq_zero (by omega)
      subst hr0
      rw [List.append_nil] at hperm
      exact q acc p H3 hperm (k0.none np npf) hp3 npf D3 kp3
theorem scNearP : FnScope ["pool", "order", "found", "turn", "p", "q"] ["pool", "order"] (defScope s_law_near) := ⟨rfl, rfl, rfl, by decide +kernel, rfl, by decide +kernel, by decide +kernel⟩
set_option maxHeartbeats 4000000 in
theorem ok_nearP {f fD : Addr} {fd fdD : FuncData} {k : Nat} (T : Df K mg "_law_near" s_law_near ["pool", "order"] f fd) (T__law_draw : Df K mg "_law_draw" s_law_draw ["pool", "many"] fD fdD) (G__law_draw : FnOk P w K mg base CX0 k fD fdD ["pool", "many"] spDrawP) (B : Bi mg) : FnOk P w K mg base CX0 (k + 1) f fd ["pool", "order"] spNearP := by
  refine T.F.ok scNearP (fun vs H Q E h => ?_) (fun cdv A outer s H vs Q E hr h => ?_)
  · obtain ⟨D, o, n, ns, rfl, _⟩ := h
    rfl
  · obtain ⟨d, o, n, ns, rfl, hD, h0, ho, hn1, hn2, q⟩ := h
    refine ⟨_, 
      (pss_cons (ps_set (i := 2) scNearP.nd rfl (.inl rfl) (pe_callTy call_list_of (by rfl) B.list (by decide +kernel) (pa_cons (pv 1) pa_nil)))
      (pss_cons (ps_for PassesOwn.never rfl (pi_range1 (by rfl) B.range (pa_cons (pe_ix ix_list (pe_lst (pa_cons pe_int (pa_cons pe_int (pa_cons pe_int (pa_cons pe_int (pa_cons pe_int pa_nil)))))) (pe_call G__law_draw hr (by rfl) T__law_draw.g T__law_draw.F.kp T__law_draw.b .nil pass0 (pa_cons (pv 0) (pa_cons pe_int pa_nil))) (fun _ _ => rfl)) pa_nil)) (pg_name (i := 3) scNearP.nd rfl (.inl rfl))
        (pss_cons (ps_set (i := 4) scNearP.nd rfl (.inl rfl) (pe_call G__law_draw hr (by rfl) T__law_draw.g T__law_draw.F.kp T__law_draw.b .nil pass0 (pa_cons (pv 0) (pa_cons (pe_callB call_len_seq (by rfl) B.len PySem.boot_len (pa_cons (pv 2) pa_nil)) pa_nil))))
        (pss_cons (ps_set (i := 5) scNearP.nd rfl (.inl rfl) (pe_ix ix_list (pe_lst (pa_cons (pe_op op_mod (pe_op op_add (pv 4) pe_int) (pe_callB call_len_seq (by rfl) B.len PySem.boot_len (pa_cons (pv 2) pa_nil))) (pa_cons (pe_call G__law_draw hr (by rfl) T__law_draw.g T__law_draw.F.kp T__law_draw.b .nil pass0 (pa_cons (pv 0) (pa_cons (pe_callB call_len_seq (by rfl) B.len PySem.boot_len (pa_cons (pv 2) pa_nil)) pa_nil))) pa_nil))) (pe_call G__law_draw hr (by rfl) T__law_draw.g T__law_draw.F.kp T__law_draw.b .nil pass0 (pa_cons (pv 0) (pa_cons pe_int pa_nil))) (fun _ _ => rfl)))
        (pss_one (ps_asg (pe_tup (pa_cons (pe_ix ix_list (pv 2) (pv 5) (fun _ _ => rfl)) (pa_cons (pe_ix ix_list (pv 2) (pv 4) (fun _ _ => rfl)) pa_nil))) (pg_tup (by rfl) (pgs_cons (pg_sub (pv 2) (pv 4) set_list) (pgs_cons (pg_sub (pv 2) (pv 5) set_list) pgs_nil))))))))
      (pss_one (ps_ret (pv 2))))), ?_⟩
    refine ⟨_, rfl, o, _, rfl, .inl (SqL.of h0), fun l nl => ?_⟩
    have s0 := same_new (o := .lst (ns.map V.int)) nl
    have D0 := hD.new (o := .lst (ns.map V.int)) nl
    have nf := hD.ne nl
    refine ⟨line_small (by show 5 ≤ 16777216; decide), fun t nt => ?_⟩
    have D1 := D0.new (o := .lst [.int 0, .int 0, .int 1, .int 2, .int 3]) nt
    have ntd := D0.ne nt
    have hl1 := same_new (o := .lst [.int 0, .int 0, .int 1, .int 2, .int 3]) nt _ _ (upd_same (H := H) (a := l) (o := .lst (ns.map V.int)))
    have s1 := s0.trans (same_new (o := .lst [.int 0, .int 0, .int 1, .int 2, .int 3]) nt)
    refine ⟨_, rfl, d, 5, rfl, D1, by decide, by decide, fun v H2 v0 v1 D2 k2 => ?_⟩
    have ht2 := k2 t _ upd_same ntd
    have kk2 : KeepD d H H2 := (KeepD.of_same s1).trans k2
    have hl2 := k2 l _ hl1 nf
    obtain ⟨m, em, hm⟩ : ∃ m : Nat, atI [V.int 0, V.int 0, V.int 1, V.int 2, V.int 3] v = some (.int m) ∧ m ≤ 3 := by
      have : v = 0 ∨ v = 1 ∨ v = 2 ∨ v = 3 ∨ v = 4 := by omega
      rcases this with rfl | rfl | rfl | rfl | rfl
      · exact ⟨0, rfl, by decide⟩
      · exact ⟨0, rfl, by decide⟩
      · exact ⟨1, rfl, by decide⟩
      · exact ⟨2, rfl, by decide⟩
      · exact ⟨3, rfl, by decide⟩
    refine ⟨t, _, _, _, rfl, rfl, SqL.of ht2, em, m, rfl, by omega, by omega, ?_⟩
    rw [Int.toNat_natCast]
    refine for_range (n := m) (fun i σ H3 => ∃ (y3 y4 y5 : Option V) (xs : List Int), σ = [some (.ref d), some (.ref o), some (.ref l), y3, y4, y5] ∧ IsOrd n xs ∧ H3 l = some (.lst (xs.map V.int)) ∧ PoolAt H3 d ∧ KeepD d H H3)
      ⟨none, none, none, ns, rfl, ho, hl2, D2, kk2⟩ (fun i σ H3 hi hP => ?_) (fun σ H3 hP => ?_)
    · obtain ⟨y3, y4, y5, xs, rfl, o3, hl3, D3, k3⟩ := hP
      have hxl := o3.len
      have hxm : (xs.map V.int).length = n := by rw [List.length_map]; exact hxl
      refine ⟨_, rfl, _, rfl, l, _, rfl, .inl (SqL.of hl3), d, _, rfl, D3, by rw [hxm]; omega, by rw [hxm]; omega, fun p H4 p0 p1 D4 k4 => ?_⟩
      rw [hxm] at p1
      have hl4 := k4 l _ hl3 nf
      obtain ⟨pn, rfl⟩ : ∃ pn : Nat, p = (pn : Int) := ⟨p.toNat, by omega⟩
      refine ⟨_, rfl, (pn : Int), 1, rfl, rfl, _, rfl, l, _, rfl, .inl (SqL.of hl4), _, _, rfl, rfl, by rw [hxm]; omega, ?_⟩
      refine ⟨_, rfl, _, rfl, l, _, rfl, .inl (SqL.of hl4), d, _, rfl, D4, by rw [hxm]; omega, by rw [hxm]; omega, fun u H5 u0 u1 D5 k5 => ?_⟩
      rw [hxm] at u1
      have hl5 := k5 l _ hl4 nf
      refine ⟨line_small (by show 2 ≤ 16777216; decide), fun t2 nt2 => ?_⟩
      have s6 := same_new (o := .lst [.int (((pn : Int) + 1) % (((xs.map V.int).length : Nat) : Int)), .int u]) nt2
      have hl6 := s6 _ _ hl5
      have nt2d := D5.ne nt2
      refine ⟨_, rfl, d, 2, rfl, D5.new nt2, by decide, by decide, fun c H6 c0 c1 D6 k6 => ?_⟩
      have ht6 := k6 t2 _ upd_same nt2d
      have hl7 := k6 l _ hl6 nf
      have kk6 : KeepD d H H6 := (((k3.trans k4).trans k5).trans (KeepD.of_same s6)).trans k6
      obtain ⟨z, ez, hz⟩ : ∃ z : Nat, atI [V.int (((pn : Int) + 1) % (((xs.map V.int).length : Nat) : Int)), V.int u] c = some (.int z) ∧ z < n := by
        have : c = 0 ∨ c = 1 := by omega
        rcases this with rfl | rfl
        · have h1 := mod_b ((pn : Int) + 1) (m := (((xs.map V.int).length : Nat) : Int)) (by rw [hxm]; omega)
          refine ⟨(((pn : Int) + 1) % (((xs.map V.int).length : Nat) : Int)).toNat, ?_, by rw [hxm] at h1 ⊢; omega⟩
          rw [Int.toNat_of_nonneg h1.1]
          rfl
        · refine ⟨u.toNat, ?_, by omega⟩
          rw [Int.toNat_of_nonneg u0]
          rfl
      refine ⟨t2, _, _, _, rfl, rfl, SqL.of ht6, ez, ?_⟩
      obtain ⟨a, ea⟩ : ∃ a, xs[pn]? = some a := ⟨xs[pn]'(by omega), List.getElem?_eq_getElem (by omega)⟩
      obtain ⟨b, eb⟩ : ∃ b, xs[z]? = some b := ⟨xs[z]'(by omega), List.getElem?_eq_getElem (by omega)⟩
      refine ⟨_, rfl, _, rfl, l, _, _, _, rfl, rfl, SqL.of hl7, at_of (j := z) rfl (int_at eb), _, rfl, _, rfl, l, _, _, _, rfl, rfl, SqL.of hl7, at_of (j := pn) rfl (int_at ea), line_small (by show 2 ≤ 16777216; decide), fun t3 nt3 => ?_⟩
      have hl8 := same_new (o := .tup [.int b, .int a]) nt3 _ _ hl7
      refine ⟨t3, _, rfl, .inl (.inl upd_same), rfl, _, _, rfl, _, rfl, _, rfl, l, _, _, pn, rfl, rfl, hl8, ix_n rfl (by rw [List.length_map]; omega), ?_⟩
      refine ⟨_, _, rfl, _, rfl, _, rfl, l, _, _, z, rfl, rfl, upd_same, ix_n rfl (by rw [List.length_set, List.length_map]; omega), ?_⟩
      refine ⟨rfl, _, _, _, (xs.set pn b).set z a, rfl, (set2_perm ea eb).trans o3, by rw [upd_same, set2_V], ((D6.new nt3).upd nf).upd nf, fun c x e f => ?_⟩
      have nc : c ≠ l := ne_of_none e nl
      rw [upd_ne nc, upd_ne nc]
      exact same_new nt3 _ _ (kk6 c x e f)
    · obtain ⟨y3, y4, y5, xs, rfl, o3, hl3, D3, k3⟩ := hP
      exact ⟨_, rfl, q xs l H3 o3 nl hl3 nf D3 k3⟩
end
end Fo
namespace Fo
open PySem PySem.Spec PyProof.Rows L2
/-! how long a thing is, shown: added up -/
mutual
def wt : PyData → Nat
  | .none => 4
  | .bool _ => 5
  | .int i => (Str.ofString (toString i)).length
  | .str x => (reprText x).length
  | .list xs => wtL xs + 2
  | .tuple xs => wtL xs + 3
  | .dict kvs => wtK kvs + 2
def wtL : List PyData → Nat
  | [] => 0
  | x :: xs => wt x + 2 + wtL xs
def wtK : List (PyData × PyData) → Nat
  | [] => 0
  | (k, v) :: r => wt k + wt v + 4 + wtK r
end
theorem kvLen {k v : Str} : (k ++ Str.ofString ": " ++ v).length = k.length + v.length + 2 := by
  rw [strLen_append, strLen_append, show (Str.ofString ": ").length = 2 from rfl]
  omega
mutual
theorem shown_le : ∀ d : PyData, d.shown.length ≤ wt d
  | .none => by rw [PyData.shown, wt]; decide
  | .bool b => by rw [PyData.shown, wt]; cases b <;> decide
  | .int i => by rw [PyData.shown, wt]; exact Nat.le_refl _
  | .str x => by rw [PyData.shown, wt]; exact Nat.le_refl _
  | .list xs => by
    rw [PyData.shown, wt]
    have h1 := listText_le (PyData.shownAll xs)
    have h2 := piled_shown xs
    omega
  | .tuple xs => by
    rw [PyData.shown, wt]
    unfold tupleText
    rw [strLen_append, strLen_append]
    have h1 := join_le (PyData.shownAll xs)
    have h2 := piled_shown xs
    have e1 : (Str.ofString "(").length = 1 := rfl
    have e2 : (Str.ofString (if ((PyData.shownAll xs).length == 1) = true then ",)" else ")")).length ≤ 2 := by split <;> decide
    omega
  | .dict kvs => by
    rw [PyData.shown, wt]
    unfold dictText
    rw [strLen_append, strLen_append]
    have h1 := join_le (PyData.shownKv kvs)
    have h2 := piled_kv kvs
    have e1 : (Str.ofString "{").length = 1 := rfl
    have e2 : (Str.ofString "}").length = 1 := rfl
    omega
theorem piled_shown : ∀ xs : List PyData, piled (PyData.shownAll xs) ≤ wtL xs
  | [] => by rw [PyData.shownAll, piled_nil]; exact Nat.zero_le _
  | x :: xs => by
    rw [PyData.shownAll, piled_cons, wtL]
    have h1 := shown_le x
    have h2 := piled_shown xs
    omega
theorem piled_kv : ∀ ks : List (PyData × PyData), piled (PyData.shownKv ks) ≤ wtK ks
  | [] => by rw [PyData.shownKv, piled_nil]; exact Nat.zero_le _
  | (a, b) :: ks => by
    rw [PyData.shownKv, piled_cons, wtK]
    have h1 := shown_le a
    have h2 := shown_le b
    have h3 := piled_kv ks
    have e : (PyData.shown a ++ ": " ++ PyData.shown b).length = (PyData.shown a).length + (PyData.shown b).length + 2 := kvLen
    omega
end
/-- fit to be shown, in m signs, k deep -/
structure Rw (m k : Nat) (d : PyData) : Prop where
  s : d.showable = true
  l : wt d ≤ m
  d : d.depth ≤ k
structure Rws (m k : Nat) (ds : List PyData) : Prop where
  s : PyData.showableAll ds = true
  l : wtL ds ≤ m
  d : PyData.depthAll ds ≤ k
theorem Rw.rp {m k : Nat} {d : PyData} (h : Rw m k d) (hk : k ≤ 20) : Rp m d := ⟨h.s, Nat.le_trans (shown_le d) h.l, Nat.le_trans h.d hk⟩
theorem Rw.mono {m k m' k' : Nat} {d : PyData} (h : Rw m k d) (hm : m ≤ m') (hk : k ≤ k') : Rw m' k' d := ⟨h.s, Nat.le_trans h.l hm, Nat.le_trans h.d hk⟩
theorem Rws.mono {m k m' k' : Nat} {d : List PyData} (h : Rws m k d) (hm : m ≤ m') (hk : k ≤ k') : Rws m' k' d := ⟨h.s, Nat.le_trans h.l hm, Nat.le_trans h.d hk⟩
theorem rw_none : Rw 4 0 .none := ⟨by rw [PyData.showable], by rw [wt]; exact Nat.le_refl _, by rw [PyData.depth]; exact Nat.le_refl _⟩
theorem rw_bool (b : Bool) : Rw 5 0 (.bool b) := ⟨by rw [PyData.showable], by rw [wt]; exact Nat.le_refl _, by rw [PyData.depth]; exact Nat.le_refl _⟩
theorem log2_100 {i : Int} (h1 : -100000000000000000000000000 ≤ i) (h2 : i ≤ 100000000000000000000000000) : i.natAbs.log2 < 100 := by
  by_cases z : i.natAbs = 0
  · rw [z]
    decide
  · rw [Nat.log2_lt z]
    have : (2 : Nat) ^ 100 = 1267650600228229401496703205376 := by decide
    omega
theorem rw_int {i : Int} (h1 : -100000000000000000000000000 ≤ i) (h2 : i ≤ 100000000000000000000000000) : Rw 110 0 (.int i) := by
  have h := log2_100 h1 h2
  refine ⟨by rw [PyData.showable]; exact decide_eq_true (by omega), ?_, by rw [PyData.depth]; exact Nat.le_refl _⟩
  rw [wt]
  have := int_text_length_le (k := 100) (by decide) h
  rw [PySem.ofString_length]
  omega
theorem rw_str {x : Str} {n : Nat} (h : (reprText x).length ≤ n) : Rw n 0 (.str x) := ⟨by rw [PyData.showable], by rw [wt]; exact h, by rw [PyData.depth]; exact Nat.le_refl _⟩
theorem rws_nil {k : Nat} : Rws 0 k [] := ⟨by rw [PyData.showableAll], by rw [wtL]; exact Nat.le_refl _, by rw [PyData.depthAll]; exact Nat.zero_le _⟩
theorem rws_cons {a b k : Nat} {d : PyData} {ds : List PyData} (h : Rw a k d) (g : Rws b k ds) : Rws (a + 2 + b) k (d :: ds) :=
  ⟨by rw [PyData.showableAll, h.s, g.s]; rfl, by rw [wtL]; have := h.l; have := g.l; omega, by rw [PyData.depthAll]; exact Nat.max_le.mpr ⟨h.d, g.d⟩⟩
theorem rws_ints {b : Nat} : ∀ {ns : List Int}, (∀ x ∈ ns, -100000000000000000000000000 ≤ x ∧ x ≤ 100000000000000000000000000) → Rws (ns.length * 112) b (ns.map PyData.int)
  | [], _ => by rw [List.map_nil, List.length_nil, Nat.zero_mul]; exact rws_nil
  | x :: r, h => by
    have h1 := h x List.mem_cons_self
    have h2 := rws_cons ((rw_int h1.1 h1.2).mono (Nat.le_refl _) (Nat.zero_le b)) (rws_ints (b := b) (ns := r) fun y hy => h y (List.mem_cons_of_mem _ hy))
    exact h2.mono (by rw [List.length_cons, Nat.succ_mul]; omega) (Nat.le_refl _)
theorem rw_list {m k : Nat} {ds : List PyData} (h : Rws m k ds) : Rw (m + 2) (k + 1) (.list ds) := ⟨by rw [PyData.showable]; exact h.s, by rw [wt]; have := h.l; omega, by rw [PyData.depth]; exact Nat.succ_le_succ h.d⟩
theorem rw_tup {m k : Nat} {ds : List PyData} (h : Rws m k ds) : Rw (m + 3) (k + 1) (.tuple ds) := ⟨by rw [PyData.showable]; exact h.s, by rw [wt]; have := h.l; omega, by rw [PyData.depth]; exact Nat.succ_le_succ h.d⟩
theorem wtL_app : ∀ a b : List PyData, wtL (a ++ b) = wtL a + wtL b
  | [], b => by rw [List.nil_append, wtL, Nat.zero_add]
  | x :: a, b => by
    rw [List.cons_append, wtL, wtL, wtL_app a b]
    omega
theorem showAll_app : ∀ a b : List PyData, PyData.showableAll (a ++ b) = (PyData.showableAll a && PyData.showableAll b)
  | [], b => by rw [List.nil_append, PyData.showableAll, Bool.true_and]
  | x :: a, b => by rw [List.cons_append, PyData.showableAll, PyData.showableAll, showAll_app a b, Bool.and_assoc]
theorem depAll_app : ∀ a b : List PyData, PyData.depthAll (a ++ b) = max (PyData.depthAll a) (PyData.depthAll b)
  | [], b => by rw [List.nil_append, PyData.depthAll, Nat.zero_max]
  | x :: a, b => by
    rw [List.cons_append, PyData.depthAll, PyData.depthAll, depAll_app a b]
    omega
theorem Rws.app {m n k : Nat} {a b : List PyData} (h : Rws m k a) (g : Rws n k b) : Rws (m + n) k (a ++ b) :=
  ⟨by rw [showAll_app, h.s, g.s]; rfl, by rw [wtL_app]; have := h.l; have := g.l; omega, by rw [depAll_app]; exact Nat.max_le.mpr ⟨h.d, g.d⟩⟩
theorem Rws.left {m k : Nat} {a b : List PyData} (h : Rws m k (a ++ b)) : Rws m k a := by
  have h1 := h.s
  have h2 := h.l
  have h3 := h.d
  rw [showAll_app, Bool.and_eq_true] at h1
  rw [wtL_app] at h2
  rw [depAll_app] at h3
  exact ⟨h1.1, by omega, by omega⟩
theorem Rws.right {m k : Nat} {a b : List PyData} (h : Rws m k (a ++ b)) : Rws m k b := by
  have h1 := h.s
  have h2 := h.l
  have h3 := h.d
  rw [showAll_app, Bool.and_eq_true] at h1
  rw [wtL_app] at h2
  rw [depAll_app] at h3
  exact ⟨h1.2, by omega, by omega⟩
theorem Rws.take {m k : Nat} {a : List PyData} (h : Rws m k a) (n : Nat) : Rws m k (a.take n) := Rws.left (b := a.drop n) (by rw [List.take_append_drop]; exact h)
theorem Rws.drop {m k : Nat} {a : List PyData} (h : Rws m k a) (n : Nat) : Rws m k (a.drop n) := Rws.right (a := a.take n) (by rw [List.take_append_drop]; exact h)
theorem Rws.mem {m k : Nat} {x : PyData} : ∀ {a : List PyData}, Rws m k a → x ∈ a → Rw m k x
  | [], _, h => absurd h List.not_mem_nil
  | y :: a, h, hx => by
    have h1 := h.s
    have h2 := h.l
    have h3 := h.d
    rw [PyData.showableAll, Bool.and_eq_true] at h1
    rw [wtL] at h2
    rw [PyData.depthAll] at h3
    rcases List.mem_cons.mp hx with rfl | hx
    · exact ⟨h1.1, by omega, by omega⟩
    · exact Rws.mem (a := a) ⟨h1.2, by omega, by omega⟩ hx
theorem Rw.lst {m k : Nat} {ds : List PyData} (h : Rw m k (.list ds)) : ∃ j, j + 1 = k ∧ Rws m j ds := by
  have h1 := h.s
  have h2 := h.l
  have h3 := h.d
  rw [PyData.showable] at h1
  rw [wt] at h2
  rw [PyData.depth] at h3
  exact ⟨k - 1, by omega, h1, by omega, by omega⟩
theorem Rw.lsts {m k : Nat} {ds : List PyData} (h : Rw m k (.list ds)) : Rws m k ds := by
  obtain ⟨j, e, h⟩ := h.lst
  exact h.mono (Nat.le_refl _) (by omega)
theorem rw_cat {m n k : Nat} {a b : List PyData} (h : Rw m k (.list a)) (g : Rw n k (.list b)) : Rw (m + n) k (.list (a ++ b)) := by
  have h1 := h.s
  have h2 := h.l
  have h3 := h.d
  have g1 := g.s
  have g2 := g.l
  have g3 := g.d
  rw [PyData.showable] at h1 g1
  rw [wt] at h2 g2
  rw [PyData.depth] at h3 g3
  exact ⟨by rw [PyData.showable, showAll_app, h1, g1]; rfl, by rw [wt, wtL_app]; omega, by rw [PyData.depth, depAll_app]; omega⟩
theorem rw_take {m k : Nat} {a : List PyData} (h : Rw m k (.list a)) (n : Nat) : Rw m k (.list (a.take n)) := by
  have h1 := h.s
  have h2 := h.l
  have h3 := h.d
  rw [PyData.showable] at h1
  rw [wt] at h2
  rw [PyData.depth] at h3
  obtain ⟨g1, g2, g3⟩ := Rws.take ⟨h1, Nat.le_refl _, Nat.le_refl _⟩ n
  exact ⟨by rw [PyData.showable]; exact g1, by rw [wt]; omega, by rw [PyData.depth]; omega⟩
theorem rw_drop {m k : Nat} {a : List PyData} (h : Rw m k (.list a)) (n : Nat) : Rw m k (.list (a.drop n)) := by
  have h1 := h.s
  have h2 := h.l
  have h3 := h.d
  rw [PyData.showable] at h1
  rw [wt] at h2
  rw [PyData.depth] at h3
  obtain ⟨g1, g2, g3⟩ := Rws.drop ⟨h1, Nat.le_refl _, Nat.le_refl _⟩ n
  exact ⟨by rw [PyData.showable]; exact g1, by rw [wt]; omega, by rw [PyData.depth]; omega⟩
theorem rw_mem {m k : Nat} {a : List PyData} {x : PyData} (h : Rw m k (.list a)) (hx : x ∈ a) : Rw m k x := h.lsts.mem hx
theorem rw_totup {m k : Nat} {a : List PyData} (h : Rw m k (.list a)) : Rw (m + 1) k (.tuple a) := by
  have h1 := h.s
  have h2 := h.l
  have h3 := h.d
  rw [PyData.showable] at h1
  rw [wt] at h2
  rw [PyData.depth] at h3
  exact ⟨by rw [PyData.showable]; exact h1, by rw [wt]; omega, by rw [PyData.depth]; omega⟩
theorem rw_repl {m k : Nat} {x : PyData} (h : Rw m k x) : ∀ n : Nat, Rws (n * (m + 2)) k (List.replicate n x)
  | 0 => rws_nil.mono (Nat.zero_le _) (Nat.le_refl _)
  | n + 1 => by
    rw [List.replicate_succ]
    exact (rws_cons h (rw_repl h n)).mono (by rw [Nat.succ_mul]; omega) (Nat.le_refl _)
theorem rw_dict1 {m n : Nat} {k v : PyData} (h : Rw m 0 k) (g : Rw n 0 v) : Rw (m + n + 6) 1 (.dict [(k, v)]) :=
  ⟨by rw [PyData.showable, PyData.showableKv, h.s, g.s, PyData.showableKv]; rfl, by rw [wt, wtK, wtK]; have := h.l; have := g.l; omega, by
    rw [PyData.depth, PyData.depthKv, PyData.depthKv]
    have := h.d
    have := g.d
    omega⟩
theorem rw_dict0 : Rw 2 1 (.dict []) := ⟨by rw [PyData.showable, PyData.showableKv], by rw [wt, wtK]; decide, by rw [PyData.depth, PyData.depthKv]; decide⟩
end Fo
namespace Fo
open PySem PySem.Spec PyProof.Rows L2
/-! expressions that make things of any kind: what they are, and how long they are shown -/
/-- what draws numbers, and what stays while it draws -/
structure Src where
  At : Hp → Prop
  Kp : Hp → Hp → Prop
  cut : Hp → Hp
  refl : ∀ H, Kp H H
  trans : ∀ {a b c}, Kp a b → Kp b c → Kp a c
  kp : ∀ {H H'}, Kp H H' → Same (cut H) (cut H')
  le : ∀ H, Same (cut H) H
  same : ∀ {H H'}, At H → Same H H' → At H' ∧ Kp H H'
  put : ∀ {H H1 p} (o : HO), At H → Kp H H1 → At H1 → H p = none → At (upd H1 p o) ∧ Kp H (upd H1 p o) ∧ (cut (upd H1 p o)) p = some o ∧ ∀ b, b ≠ p → cut (upd H1 p o) b = cut H1 b
theorem Src.new (S : Src) {H : Hp} {p : Addr} (o : HO) (h : S.At H) (np : H p = none) : (S.cut (upd H p o)) p = some o := (S.put o h (S.refl H) h np).2.2.1
def Od (S : Src) (m k : Nat) (B : PyData → Prop) (H : Hp) (v : V) : Prop := ∃ d, Dq (S.cut H) v d ∧ Rw m k d ∧ B d
theorem Od.kp {S : Src} {m k : Nat} {B : PyData → Prop} {H H' : Hp} {v : V} (h : Od S m k B H v) (e : S.Kp H H') : Od S m k B H' v := by
  obtain ⟨d, h1, h2, h3⟩ := h
  exact ⟨d, h1.same (S.kp e), h2, h3⟩
theorem Od.mono {S : Src} {m k m' k' : Nat} {B C : PyData → Prop} {H : Hp} {v : V} (h : Od S m k B H v) (hm : m ≤ m') (hk : k ≤ k') (i : ∀ d, B d → C d) : Od S m' k' C H v := by
  obtain ⟨d, h1, h2, h3⟩ := h
  exact ⟨d, h1, h2.mono hm hk, i d h3⟩
abbrev bT : PyData → Prop := fun _ => True
abbrev oL (A : List PyData → Prop) : PyData → Prop := fun d => ∃ ds, d = .list ds ∧ A ds
abbrev oT (A : List PyData → Prop) : PyData → Prop := fun d => ∃ ds, d = .tuple ds ∧ A ds
abbrev oI (A : Int → Prop) : PyData → Prop := fun d => ∃ i, d = .int i ∧ A i
abbrev oS (A : Str → Prop) : PyData → Prop := fun d => ∃ x, d = .str x ∧ A x
def OE (S : Src) (t : TE) (σ : L2.St) (H : Hp) (m k : Nat) (B : PyData → Prop) : Prop := ∀ H1 Q, S.Kp H H1 → S.At H1 → (∀ v H2, S.Kp H1 H2 → S.At H2 → Od S m k B H2 v → Q v H2) → t σ H1 Q
def OA (S : Src) (t : TA) (σ : L2.St) (H : Hp) (m k : Nat) (A : List PyData → Prop) : Prop := ∀ H1 Q, S.Kp H H1 → S.At H1 → (∀ vs H2, S.Kp H1 H2 → S.At H2 → (∃ ds, DqAll (S.cut H2) vs ds ∧ Rws m k ds ∧ A ds) → Q vs H2) → t σ H1 Q
def OO (S : Src) (t : TO) (σ : L2.St) (H : Hp) (P : Option Int → Prop) : Prop := ∀ H1 Q, S.Kp H H1 → S.At H1 → (∀ o H2, S.Kp H1 H2 → S.At H2 → P o → Q o H2) → t σ H1 Q
section
variable {S : Src} {σ : L2.St} {H : Hp} {m k a b : Nat} {B C : PyData → Prop} {t u : TE}
theorem OE.kp (h : OE S t σ H m k B) {H' : Hp} (e : S.Kp H H') : OE S t σ H' m k B := fun H1 Q e1 at1 q => h H1 Q (S.trans e e1) at1 q
theorem OE.mono (h : OE S t σ H m k B) {m' k' : Nat} (hm : m ≤ m') (hk : k ≤ k') (i : ∀ d, B d → C d) : OE S t σ H m' k' C := fun H1 Q e1 at1 q => h H1 Q e1 at1 fun v H2 e2 at2 o => q v H2 e2 at2 (o.mono hm hk i)
theorem OE.imp (h : OE S t σ H m k B) (i : ∀ d, B d → C d) : OE S t σ H m k C := h.mono (Nat.le_refl _) (Nat.le_refl _) i
theorem oe_var {i : Nat} {v : V} (e : σ[i]? = some (some v)) (o : Od S m a B H v) (hk : a ≤ k) : OE S (tVar i) σ H m k B := fun H1 _ e1 at1 q => ⟨v, e, q v H1 (S.refl _) at1 ((o.kp e1).mono (Nat.le_refl _) hk fun _ h => h)⟩
theorem oe_v {i : Nat} {v : V} (e : σ[i]? = some (some v)) (o : Od S m k B H v) : OE S (tVar i) σ H m k B := fun H1 _ e1 at1 q => ⟨v, e, q v H1 (S.refl _) at1 (o.kp e1)⟩
theorem oe_c {v : V} {d : PyData} (h : ∀ G, Dq G v d) (r : Rw m 0 d) : OE S (tC v) σ H m 0 (fun x => x = d) := fun H1 _ _ at1 q => q v H1 (S.refl _) at1 ⟨d, h _, r, rfl⟩
theorem oe_non : OE S (tC .non) σ H 4 0 (fun x => x = .none) := oe_c (fun _ => .non) rw_none
theorem oe_bl (x : Bool) : OE S (tC (.bl x)) σ H 5 0 (fun d => d = .bool x) := oe_c (fun _ => .bl x) (rw_bool x)
theorem oe_int {i : Int} (h : -100000000000000000000000000 ≤ i ∧ i ≤ 100000000000000000000000000) : OE S (tC (.int i)) σ H 110 0 (fun d => d = .int i) := oe_c (fun _ => .int i) (rw_int h.1 h.2)
theorem oe_intI {i : Int} (h : -100000000000000000000000000 ≤ i ∧ i ≤ 100000000000000000000000000) : OE S (tC (.int i)) σ H 110 0 (oI fun j => j = i) := (oe_int h).imp fun _ e => ⟨i, e, rfl⟩
theorem oe_str {x : Str} (n : Nat) (h : (reprText x).length ≤ n) : OE S (tC (.str x)) σ H n 0 (fun d => d = .str x) := oe_c (fun _ => .str x) (rw_str h)
theorem oa_nil : OA S tNil σ H 0 0 (fun ds => ds = []) := fun H1 _ _ at1 q => q [] H1 (S.refl _) at1 ⟨[], .nil, rws_nil, rfl⟩
theorem oa_nilN (C : PyData → Prop) : OA S tNil σ H 0 0 (fun ds => ds.length = 0 ∧ ∀ x ∈ ds, C x) := fun H1 _ _ at1 q => q [] H1 (S.refl _) at1 ⟨[], .nil, rws_nil, rfl, fun _ h => absurd h List.not_mem_nil⟩
theorem oa_cons {r : TA} {k2 : Nat} {A : List PyData → Prop} (h : OE S t σ H a k B) (g : OA S r σ H b k2 A) : OA S (tCons t r) σ H (a + 2 + b) (max k k2) (fun ds => ∃ x y, ds = x :: y ∧ B x ∧ A y) := fun H1 Q e1 at1 q =>
  h H1 _ e1 at1 fun v H2 e2 at2 o => g H2 _ (S.trans e1 e2) at2 fun vs H3 e3 at3 p => by
    obtain ⟨x, h1, h2, h3⟩ := o.kp e3
    obtain ⟨y, g1, g2, g3⟩ := p
    exact q (v :: vs) H3 (S.trans e2 e3) at3 ⟨x :: y, .cons h1 g1, rws_cons (h2.mono (Nat.le_refl _) (Nat.le_max_left _ _)) (g2.mono (Nat.le_refl _) (Nat.le_max_right _ _)), x, y, rfl, h3, g3⟩
theorem oa_consN {r : TA} {n k2 : Nat} {C : PyData → Prop} (h : OE S t σ H a k B) (i : ∀ d, B d → C d) (g : OA S r σ H b k2 (fun ds => ds.length = n ∧ ∀ x ∈ ds, C x)) : OA S (tCons t r) σ H (a + 2 + b) (max k k2) (fun ds => ds.length = n + 1 ∧ ∀ x ∈ ds, C x) := fun H1 Q e1 at1 q =>
  oa_cons h g H1 Q e1 at1 fun vs H2 e2 at2 o => by
    obtain ⟨_, h1, h2, x, y, rfl, h3, h4, h5⟩ := o
    refine q vs H2 e2 at2 ⟨x :: y, h1, h2, by rw [List.length_cons, h4], fun z hz => ?_⟩
    rcases List.mem_cons.mp hz with rfl | hz
    · exact i _ h3
    · exact h5 z hz
theorem wtL_len : ∀ ds : List PyData, ds.length ≤ wtL ds
  | [] => Nat.zero_le _
  | d :: ds => by
    rw [wtL, List.length_cons]
    have := wtL_len ds
    omega
theorem oe_lst {r : TA} {A : List PyData → Prop} (h : OA S r σ H m k A) (hm : m ≤ 16777216) : OE S (tLst r) σ H (m + 2) (k + 1) (oL A) := fun H1 Q e1 at1 q =>
  h H1 _ e1 at1 fun vs H2 e2 at2 o => by
    obtain ⟨ds, h1, h2, h3⟩ := o
    have hl := wtL_len ds
    have := h2.l
    refine ⟨line_small (by rw [h1.len]; omega), fun p np => ?_⟩
    obtain ⟨at3, e3⟩ := S.same at2 (same_new (o := .lst vs) np)
    exact q _ _ (S.trans e2 e3) at3 ⟨.list ds, .lst (S.new _ at2 np) (h1.same (S.kp e3)), rw_list h2, ds, rfl, h3⟩
theorem oe_tup {r : TA} {A : List PyData → Prop} (h : OA S r σ H m k A) (hm : m ≤ 16777216) : OE S (tTup r) σ H (m + 3) (k + 1) (oT A) := fun H1 Q e1 at1 q =>
  h H1 _ e1 at1 fun vs H2 e2 at2 o => by
    obtain ⟨ds, h1, h2, h3⟩ := o
    have hl := wtL_len ds
    have := h2.l
    refine ⟨line_small (by rw [h1.len]; omega), fun p np => ?_⟩
    obtain ⟨at3, e3⟩ := S.same at2 (same_new (o := .tup vs) np)
    exact q _ _ (S.trans e2 e3) at3 ⟨.tuple ds, .tup (S.new _ at2 np) (h1.same (S.kp e3)), rw_tup h2, ds, rfl, h3⟩
theorem dq_lst {G : Hp} {v : V} {ds : List PyData} (h : Dq G v (.list ds)) : ∃ p xs, v = .ref p ∧ G p = some (.lst xs) ∧ DqAll G xs ds := by
  cases h with
  | @lst p xs _ e al => exact ⟨p, xs, rfl, e, al⟩
theorem dq_tupI {G : Hp} {v : V} {ds : List PyData} (h : Dq G v (.tuple ds)) : ∃ p xs, v = .ref p ∧ G p = some (.tup xs) ∧ DqAll G xs ds := by
  cases h with
  | @tup p xs _ e al => exact ⟨p, xs, rfl, e, al⟩
theorem dq_intI {G : Hp} {v : V} {i : Int} (h : Dq G v (.int i)) : v = .int i := by
  cases h with
  | int => rfl
theorem dq_strI {G : Hp} {v : V} {x : Str} (h : Dq G v (.str x)) : v = .str x := by
  cases h with
  | str => rfl
theorem rw_len {ds : List PyData} (h : Rw m k (.list ds)) : ds.length ≤ m := by
  have h2 := h.l
  rw [wt] at h2
  have := wtL_len ds
  omega
theorem oe_cat {k2 : Nat} {A A' : List PyData → Prop} (h : OE S t σ H a k (oL A)) (g : OE S u σ H b k2 (oL A')) (hm : a + b ≤ 16777216) : OE S (tOp rCat t u) σ H (a + b) (max k k2) (oL fun ds => ∃ x y, ds = x ++ y ∧ A x ∧ A' y) := fun H1 Q e1 at1 q =>
  h H1 _ e1 at1 fun v H2 e2 at2 o => g H2 _ (S.trans e1 e2) at2 fun w H3 e3 at3 o' => by
    obtain ⟨_, h1, h2, x, rfl, h3⟩ := o.kp e3
    obtain ⟨_, g1, g2, y, rfl, g3⟩ := o'
    obtain ⟨p, xs, rfl, hp, ax⟩ := dq_lst h1
    obtain ⟨r, ys, rfl, hr, ay⟩ := dq_lst g1
    have l1 := rw_len h2
    have l2 := rw_len g2
    refine ⟨p, r, xs, ys, rfl, rfl, S.le _ _ _ hp, S.le _ _ _ hr, line_small (by rw [ax.len, ay.len]; omega), fun c nc => ?_⟩
    obtain ⟨at4, e4⟩ := S.same at3 (same_new (o := .lst (xs ++ ys)) nc)
    exact q _ _ (S.trans (S.trans e2 e3) e4) at4 ⟨.list (x ++ y), .lst (S.new _ at3 nc) ((ax.app ay).same (S.kp e4)), rw_cat (h2.mono (Nat.le_refl _) (Nat.le_max_left _ _)) (g2.mono (Nat.le_refl _) (Nat.le_max_right _ _)), x ++ y, rfl, x, y, rfl, h3, g3⟩
theorem oe_catN {n1 n2 k2 : Nat} (h : OE S t σ H a k (oL fun ds => ds.length = n1 ∧ ∀ x ∈ ds, C x)) (g : OE S u σ H b k2 (oL fun ds => ds.length = n2 ∧ ∀ x ∈ ds, C x)) (hm : a + b ≤ 16777216) : OE S (tOp rCat t u) σ H (a + b) (max k k2) (oL fun ds => ds.length = n1 + n2 ∧ ∀ x ∈ ds, C x) :=
  (oe_cat h g hm).imp fun d hd => by
    obtain ⟨_, rfl, x, y, rfl, ⟨h1, h2⟩, g1, g2⟩ := hd
    refine ⟨_, rfl, by rw [List.length_append, h1, g1], fun z hz => ?_⟩
    rcases List.mem_append.mp hz with hz | hz
    · exact h2 z hz
    · exact g2 z hz
/-- a slice of anything -/
def cutG {α : Type} (xs : List α) (lo hi : Option Int) : List α := (xs.drop (HT.sIx xs.length 0 lo)).take (HT.sIx xs.length xs.length hi - HT.sIx xs.length 0 lo)
theorem DqAll.cut {G : Hp} {vs : List V} {ds : List PyData} (h : DqAll G vs ds) (lo hi : Option Int) : DqAll G (cutV vs lo hi) (cutG ds lo hi) := by
  unfold cutV cutG
  rw [h.len]
  exact (h.drop _).take _
theorem oo_none : OO S tNoPart σ H (fun o => o = none) := fun H1 _ _ at1 q => q none H1 (S.refl _) at1 rfl
theorem oo_some {A : Int → Prop} (h : OE S t σ H m k (oI A)) : OO S (tPart t) σ H (fun o => ∃ i, o = some i ∧ A i) := fun H1 _ e1 at1 q => h H1 _ e1 at1 fun v H2 e2 at2 o => by
  obtain ⟨_, h1, _, i, rfl, h3⟩ := o
  exact ⟨i, dq_intI h1, q _ _ e2 at2 ⟨i, rfl, h3⟩⟩
theorem oe_sl {K : PySem.W.Frag} {A : List PyData → Prop} {tl th : TO} {P R : Option Int → Prop} (h : OE S t σ H m k (oL A)) (hl : OO S tl σ H P) (hh : OO S th σ H R) : OE S (tSl (rSlL K) t tl th) σ H m k (oL fun ds => ∃ x l u, ds = cutG x l u ∧ A x ∧ P l ∧ R u) := fun H1 Q e1 at1 q =>
  h H1 _ e1 at1 fun v H2 e2 at2 o => hl H2 _ (S.trans e1 e2) at2 fun l H3 e3 at3 pl => hh H3 _ (S.trans e1 (S.trans e2 e3)) at3 fun u H4 e4 at4 pu => by
    obtain ⟨_, h1, h2, x, rfl, h3⟩ := o.kp (S.trans e3 e4)
    obtain ⟨p, xs, rfl, hp, ax⟩ := dq_lst h1
    refine ⟨p, xs, rfl, SqL.of (S.le _ _ _ hp), fun c nc => ?_⟩
    obtain ⟨at5, e5⟩ := S.same at4 (same_new (o := .lst (cutV xs l u)) nc)
    exact q _ _ (S.trans (S.trans (S.trans e2 e3) e4) e5) at5 ⟨.list (cutG x l u), .lst (S.new _ at4 nc) ((ax.cut l u).same (S.kp e5)), rw_take (rw_drop h2 _) _, _, rfl, x, l, u, rfl, h3, pl, pu⟩
theorem oe_add {A A' : Int → Prop} (h : OE S t σ H m a (oI A)) (g : OE S u σ H m b (oI A')) (hb : ∀ i j, A i → A' j → -100000000000000000000000000 ≤ i + j ∧ i + j ≤ 100000000000000000000000000) : OE S (tOp (rI0 fun i j => .int (i + j)) t u) σ H 110 0 (oI fun z => ∃ i j, z = i + j ∧ A i ∧ A' j) := fun H1 Q e1 at1 q =>
  h H1 _ e1 at1 fun v H2 e2 at2 o => g H2 _ (S.trans e1 e2) at2 fun w H3 e3 at3 o' => by
    obtain ⟨_, h1, _, i, rfl, h3⟩ := o.kp e3
    obtain ⟨_, g1, _, j, rfl, g3⟩ := o'
    have hz := hb i j h3 g3
    exact ⟨i, j, dq_intI h1, dq_intI g1, q _ _ (S.trans e2 e3) at3 ⟨.int (i + j), .int _, rw_int hz.1 hz.2, _, rfl, i, j, rfl, h3, g3⟩⟩
theorem oe_sub {A A' : Int → Prop} (h : OE S t σ H m a (oI A)) (g : OE S u σ H m b (oI A')) (hb : ∀ i j, A i → A' j → -100000000000000000000000000 ≤ i - j ∧ i - j ≤ 100000000000000000000000000) : OE S (tOp (rI0 fun i j => .int (i - j)) t u) σ H 110 0 (oI fun z => ∃ i j, z = i - j ∧ A i ∧ A' j) := fun H1 Q e1 at1 q =>
  h H1 _ e1 at1 fun v H2 e2 at2 o => g H2 _ (S.trans e1 e2) at2 fun w H3 e3 at3 o' => by
    obtain ⟨_, h1, _, i, rfl, h3⟩ := o.kp e3
    obtain ⟨_, g1, _, j, rfl, g3⟩ := o'
    have hz := hb i j h3 g3
    exact ⟨i, j, dq_intI h1, dq_intI g1, q _ _ (S.trans e2 e3) at3 ⟨.int (i - j), .int _, rw_int hz.1 hz.2, _, rfl, i, j, rfl, h3, g3⟩⟩
theorem oe_neg {A : Int → Prop} (h : OE S t σ H m a (oI A)) (hb : ∀ i, A i → -100000000000000000000000000 ≤ -i ∧ -i ≤ 100000000000000000000000000) : OE S (tUn (rU fun i => .int (-i)) t) σ H 110 0 (oI fun z => ∃ i, z = -i ∧ A i) := fun H1 Q e1 at1 q =>
  h H1 _ e1 at1 fun v H2 e2 at2 o => by
    obtain ⟨_, h1, _, i, rfl, h3⟩ := o
    have hz := hb i h3
    exact ⟨i, dq_intI h1, q _ _ e2 at2 ⟨.int (-i), .int _, rw_int hz.1 hz.2, _, rfl, i, rfl, h3⟩⟩
theorem oe_pow {i j : Int} (hc : CPow i j) (hb : -100000000000000000000000000 ≤ i ^ j.toNat ∧ i ^ j.toNat ≤ 100000000000000000000000000) : OE S (tOp (rI CPow fun i j => .int (i ^ j.toNat)) (tC (.int i)) (tC (.int j))) σ H 110 0 (oI fun z => z = i ^ j.toNat) := fun H1 Q e1 at1 q =>
  ⟨i, j, rfl, rfl, hc, q _ _ (S.refl _) at1 ⟨.int (i ^ j.toNat), .int _, rw_int hb.1 hb.2, _, rfl, rfl⟩⟩
theorem oe_ix {K : PySem.W.Frag} {n : Nat} {A : Int → Prop} (h : OE S t σ H m k (oL fun ds => ds.length = n ∧ ∀ x ∈ ds, B x)) (g : OE S u σ H a b (oI A)) (hi : ∀ i, A i → 0 ≤ i ∧ i < (n : Int)) : OE S (tOp (rIxL K) t u) σ H m k B := fun H1 Q e1 at1 q =>
  h H1 _ e1 at1 fun v H2 e2 at2 o => g H2 _ (S.trans e1 e2) at2 fun w H3 e3 at3 o' => by
    obtain ⟨_, h1, h2, x, rfl, h3, h4⟩ := o.kp e3
    obtain ⟨_, g1, _, i, rfl, gi⟩ := o'
    obtain ⟨i0, i1⟩ := hi i gi
    obtain ⟨p, xs, rfl, hp, ax⟩ := dq_lst h1
    have hl := ax.len
    have hi : i.toNat < xs.length := by omega
    have ev : xs[i.toNat]? = some xs[i.toNat] := List.getElem?_eq_getElem hi
    obtain ⟨d, ed, hd⟩ := ax.get ev
    have md := List.mem_of_getElem? ed
    refine ⟨p, xs, i, xs[i.toNat], rfl, dq_intI g1, SqL.of (S.le _ _ _ hp), at_of (j := i.toNat) (Int.toNat_of_nonneg i0).symm ev, ?_⟩
    exact q _ _ (S.trans e2 e3) at3 ⟨d, hd, rw_mem h2 md, h4 d md⟩
theorem oe_ixI {K : PySem.W.Frag} {ns : List Int} {A : Int → Prop} (h : OE S t σ H m k (oL fun ds => ds = ns.map PyData.int)) (g : OE S u σ H a b (oI A)) (hi : ∀ i, A i → 0 ≤ i ∧ i < (ns.length : Int)) : OE S (tOp (rIxL K) t u) σ H m k (oI fun z => z ∈ ns) :=
  oe_ix (n := ns.length) (h.imp fun d hd => by obtain ⟨ds, rfl, rfl⟩ := hd; exact ⟨_, rfl, List.length_map _, fun x hx => by obtain ⟨y, hy, rfl⟩ := List.mem_map.mp hx; exact ⟨y, rfl, hy⟩⟩) g hi
theorem oe_lenI {K : PySem.W.Frag} {ns : List Int} (h : OE S t σ H m a (oL fun ds => ds = ns.map PyData.int)) (hn : ns.length ≤ 10000) : OE S (tCB (rLenS K) (tCons t tNil)) σ H 110 0 (oI fun z => z = (ns.length : Int)) := fun H1 Q e1 at1 q =>
  h H1 _ e1 at1 fun v H2 e2 at2 o => by
    obtain ⟨_, h1, h2, x, rfl, rfl⟩ := o
    obtain ⟨p, xs, rfl, hp, ax⟩ := dq_lst h1
    refine ⟨p, xs, rfl, .inl (SqL.of (S.le _ _ _ hp)), ?_⟩
    rw [ax.len, List.length_map]
    exact q _ _ e2 at2 ⟨.int (ns.length : Int), .int _, rw_int (by omega) (by omega), _, rfl, rfl⟩
theorem od_isI {i : Int} (h : Od S m k B H (.int i)) : Od S m k (oI fun j => j = i) H (.int i) := by
  obtain ⟨d, h1, h2, _⟩ := h
  cases h1 with
  | int => exact ⟨_, .int i, h2, i, rfl, rfl⟩
theorem oe_len {K : PySem.W.Frag} {A : List PyData → Prop} (h : OE S t σ H m a (oL A)) (hm : m ≤ 16777216) : OE S (tCB (rLenS K) (tCons t tNil)) σ H 110 0 (oI fun z => ∃ ds : List PyData, z = ds.length ∧ A ds ∧ ds.length ≤ m) := fun H1 Q e1 at1 q =>
  h H1 _ e1 at1 fun v H2 e2 at2 o => by
    obtain ⟨_, h1, h2, x, rfl, h3⟩ := o
    obtain ⟨p, xs, rfl, hp, ax⟩ := dq_lst h1
    have hl := rw_len h2
    refine ⟨p, xs, rfl, .inl (SqL.of (S.le _ _ _ hp)), ?_⟩
    rw [ax.len]
    exact q _ _ e2 at2 ⟨.int (x.length : Int), .int _, rw_int (by omega) (by omega), _, rfl, x, rfl, h3, hl⟩
theorem oe_tupOf {K : PySem.W.Frag} {A : List PyData → Prop} (h : OE S t σ H m k (oL A)) : OE S (tCB (fun xs H Q => ∃ p ys, xs = [.ref p] ∧ ((SqL K H p ys ∧ ∀ l, H l = none → Q (.ref l) (upd H l (.tup ys))) ∨ (SqT K H p ys ∧ Q (.ref p) H))) (tCons t tNil)) σ H (m + 1) k (oT A) := fun H1 Q e1 at1 q =>
  h H1 _ e1 at1 fun v H2 e2 at2 o => by
    obtain ⟨_, h1, h2, x, rfl, h3⟩ := o
    obtain ⟨p, xs, rfl, hp, ax⟩ := dq_lst h1
    refine ⟨p, xs, rfl, .inl ⟨SqL.of (S.le _ _ _ hp), fun c nc => ?_⟩⟩
    obtain ⟨at3, e3⟩ := S.same at2 (same_new (o := .tup xs) nc)
    exact q _ _ (S.trans e2 e3) at3 ⟨.tuple x, .tup (S.new _ at2 nc) (ax.same (S.kp e3)), rw_totup h2, x, rfl, h3⟩
theorem oe_listOf {K : PySem.W.Frag} {A : List PyData → Prop} (h : OE S t σ H m k (oL A)) : OE S (tCB (fun xs H Q => ∃ p ys, xs = [.ref p] ∧ (SqL K H p ys ∨ SqT K H p ys) ∧ ∀ l, H l = none → Q (.ref l) (upd H l (.lst ys))) (tCons t tNil)) σ H m k (oL A) := fun H1 Q e1 at1 q =>
  h H1 _ e1 at1 fun v H2 e2 at2 o => by
    obtain ⟨_, h1, h2, x, rfl, h3⟩ := o
    obtain ⟨p, xs, rfl, hp, ax⟩ := dq_lst h1
    refine ⟨p, xs, rfl, .inl (SqL.of (S.le _ _ _ hp)), fun c nc => ?_⟩
    obtain ⟨at3, e3⟩ := S.same at2 (same_new (o := .lst xs) nc)
    exact q _ _ (S.trans e2 e3) at3 ⟨.list x, .lst (S.new _ at2 nc) (ax.same (S.kp e3)), h2, x, rfl, h3⟩
theorem flat_rep {α : Type} (x : α) : ∀ n : Nat, (List.replicate n [x]).flatten = List.replicate n x
  | 0 => rfl
  | n + 1 => by
    rw [List.replicate_succ, List.flatten_cons, flat_rep x n]
    rfl
theorem DqAll.repl {G : Hp} {v : V} {d : PyData} (h : Dq G v d) : ∀ n : Nat, DqAll G (List.replicate n v) (List.replicate n d)
  | 0 => .nil
  | n + 1 => by
    rw [List.replicate_succ, List.replicate_succ]
    exact .cons h (DqAll.repl h n)
/-- [x] * n -/
theorem oe_rep1 {n : Nat} (h : OE S t σ H m k B) (hn : n ≤ 1000) (hm : m ≤ 10000) : OE S (tOp rRep (tLst (tCons t tNil)) (tC (.int (n : Int)))) σ H (n * (m + 2) + 2) (k + 1) (oL fun ds => ∃ x, ds = List.replicate n x ∧ B x) := fun H1 Q e1 at1 q =>
  oe_lst (oa_cons h oa_nil) (by omega) H1 _ e1 at1 fun v H2 e2 at2 o => by
    rw [Nat.max_eq_left (Nat.zero_le k)] at o
    obtain ⟨_, h1, h2, _, rfl, x, _, rfl, h3, rfl⟩ := o
    obtain ⟨p, xs, rfl, hp, ax⟩ := dq_lst h1
    cases ax with
    | @cons v _ _ _ hv an =>
      cases an
      refine ⟨p, (n : Int), [v], rfl, rfl, S.le _ _ _ hp, by omega, by omega, line_small (by rw [Int.toNat_natCast]; show 1 * n ≤ _; omega), fun c nc => ?_⟩
      rw [Int.toNat_natCast, flat_rep]
      obtain ⟨at3, e3⟩ := S.same at2 (same_new (o := .lst (List.replicate n v)) nc)
      obtain ⟨j, ej, h4⟩ := h2.lst
      have h5 := rw_repl (h4.mem List.mem_cons_self) n
      refine q _ _ (S.trans e2 e3) at3 ⟨.list (List.replicate n x), .lst (S.new _ at2 nc) ((DqAll.repl hv n).same (S.kp e3)), ?_, _, rfl, x, rfl, h3⟩
      have h6 : Rw m k x := by
        have s1 := h4.s
        have s2 := h4.l
        have s3 := h4.d
        have t2 := h2.l
        have t3 := h2.d
        rw [PyData.showableAll, Bool.and_eq_true] at s1
        rw [wt, wtL, wtL] at t2
        rw [PyData.depth, PyData.depthAll] at t3
        exact ⟨s1.1, by omega, by omega⟩
      exact rw_list (rw_repl h6 n)
theorem oe_d0 : OE S (fun _ H1 Q => ∀ d, H1 d = none → Q (.ref d) (upd H1 d (.dK []))) σ H 2 1 (fun d => d = .dict []) := fun H1 Q e1 at1 q => fun c nc => by
  obtain ⟨at3, e3⟩ := S.same at1 (same_new (o := .dK []) nc)
  exact q _ _ e3 at3 ⟨.dict [], .dic (S.new _ at1 nc) .nil, rw_dict0, rfl⟩
/-! statements -/
theorem os_set {i : Nat} {v : TS} {D : Ends} (at1 : S.At H) (h : OE S t σ H m k B) (q : ∀ x H', S.Kp H H' → S.At H' → Od S m k B H' x → v D (σ.set i (some x)) H') : tSeq (tAsg t (gName i)) v D σ H := h H _ (S.refl _) at1 q
theorem os_ret {D : Ends} (at1 : S.At H) (h : OE S t σ H m k B) (q : ∀ x H', S.Kp H H' → S.At H' → Od S m k B H' x → D.rt x H') : tRet t D σ H := h H _ (S.refl _) at1 q
end
end Fo
namespace Fo
open PySem PySem.Spec PyProof.Rows L2
/-! comprehensions whose values are flat; ranges; the store as a source -/
def flatD : PyData → Bool
  | .none => true
  | .bool _ => true
  | .int _ => true
  | .str _ => true
  | _ => false
theorem dq_flat {G G' : Hp} {v : V} {d : PyData} (h : Dq G v d) (f : flatD d = true) : Dq G' v d := by
  cases h with
  | non => exact .non
  | bl b => exact .bl b
  | int i => exact .int i
  | str x => exact .str x
  | _ => cases f
theorem dqAll_flat {G G' : Hp} : ∀ {vs : List V} {ds : List PyData}, DqAll G vs ds → (∀ d ∈ ds, flatD d = true) → DqAll G' vs ds
  | _, [], h, _ => by cases h; exact .nil
  | _, d :: ds, h, f => by
    cases h with
    | cons h1 h2 => exact .cons (dq_flat h1 (f d List.mem_cons_self)) (dqAll_flat h2 fun x hx => f x (List.mem_cons_of_mem _ hx))
/-- two lists, one by one -/
inductive Two2 {α β : Type} (R : α → β → Prop) : List α → List β → Prop
  | nil : Two2 R [] []
  | snoc {xs : List α} {ys : List β} {x : α} {y : β} : Two2 R xs ys → R x y → Two2 R (xs ++ [x]) (ys ++ [y])
theorem Two2.len {α β : Type} {R : α → β → Prop} {xs : List α} {ys : List β} (h : Two2 R xs ys) : xs.length = ys.length := by
  induction h with
  | nil => rfl
  | snoc _ _ ih => rw [List.length_append, List.length_append, ih]; rfl
theorem Two2.memR {α β : Type} {R : α → β → Prop} {xs : List α} {ys : List β} (h : Two2 R xs ys) : ∀ y ∈ ys, ∃ x ∈ xs, R x y := by
  induction h with
  | nil => exact fun _ h => absurd h List.not_mem_nil
  | snoc h r ih =>
    intro y hy
    rcases List.mem_append.mp hy with hy | hy
    · obtain ⟨x, hx, hr⟩ := ih y hy
      exact ⟨x, List.mem_append_left _ hx, hr⟩
    · rw [List.mem_singleton.mp hy]
      exact ⟨_, List.mem_append_right _ List.mem_cons_self, r⟩
theorem Two2.memL {α β : Type} {R : α → β → Prop} {xs : List α} {ys : List β} (h : Two2 R xs ys) : ∀ x ∈ xs, ∃ y ∈ ys, R x y := by
  induction h with
  | nil => exact fun _ h => absurd h List.not_mem_nil
  | snoc h r ih =>
    intro x hx
    rcases List.mem_append.mp hx with hx | hx
    · obtain ⟨y, hy, hr⟩ := ih x hx
      exact ⟨y, List.mem_append_left _ hy, hr⟩
    · rw [List.mem_singleton.mp hx]
      exact ⟨_, List.mem_append_right _ List.mem_cons_self, r⟩
theorem rws_snoc {a b k : Nat} {d : PyData} {ds : List PyData} (g : Rws b k ds) (h : Rw a k d) : Rws (b + (a + 2)) k (ds ++ [d]) := (g.app (rws_cons h rws_nil)).mono (by omega) (Nat.le_refl _)
theorem DqAll.snoc {G : Hp} {vs : List V} {ds : List PyData} {v : V} {d : PyData} (h : DqAll G vs ds) (g : Dq G v d) : DqAll G (vs ++ [v]) (ds ++ [d]) := h.app (.cons g .nil)
section
variable {S : Src} {σ : L2.St} {H : Hp} {m k a b : Nat} {B C : PyData → Prop} {t u : TE}
theorem oe_lcF {K : PySem.W.Frag} {j : Nat} {vs : List Nat} {A : List PyData → Prop} {R : PyData → PyData → Prop} {me ke n : Nat} {te : TE} (h : OE S t σ H m a (oL A)) (hn : ∀ ds, A ds → ds.length ≤ n) (hz : n * (me + 2) ≤ 16777216)
    (hw : ∀ x : V, wipe ((wipe σ vs).set j (some x)) vs = wipe σ vs) (he : ∀ ds x v H', A ds → x ∈ ds → S.Kp H H' → S.At H' → Dq (S.cut H') v x → OE S te ((wipe σ vs).set j (some v)) H' me ke (R x)) (hf : ∀ x y, R x y → flatD y = true) :
    OE S (tLc (iList K t) (gName j) tYes te vs) σ H (n * (me + 2) + 2) (ke + 1) (oL fun ys => ∃ xs, A xs ∧ Two2 R xs ys) := fun H1 Q e1 at1 q =>
  h H1 _ e1 at1 fun v H2 e2 at2 o => by
    obtain ⟨_, h1, h2, ds, rfl, h3⟩ := o
    obtain ⟨p, xs, rfl, hp, ax⟩ := dq_lst h1
    refine ⟨p, rfl, ⟨xs, SqL.of (S.le _ _ _ hp)⟩, fun D nD => ?_⟩
    have hD0 := S.put (.lst []) at2 (S.refl _) at2 nD
    have hpD : p ≠ D := fun z => by rw [z] at hp; have := S.le _ _ _ hp; rw [nD] at this; cases this
    refine lc_list (K := K) (a := p) (xs := xs) (fun i H3 => ∃ acc ys, H3 D = some (.lst acc) ∧ S.cut H3 D = some (.lst acc) ∧ acc.length = i ∧ DqAll H3 acc ys ∧ (∀ d ∈ ys, flatD d = true) ∧ Rws (i * (me + 2)) ke ys ∧ Two2 R (ds.take i) ys ∧ S.Kp H2 H3 ∧ S.At H3)
      ⟨[], [], upd_same, hD0.2.2.1, rfl, .nil, fun _ h => absurd h List.not_mem_nil, rws_nil.mono (Nat.zero_le _) (Nat.le_refl _), by rw [List.take_zero]; exact .nil, hD0.2.1, hD0.1⟩
      (fun i H3 _ hP => by obtain ⟨_, _, _, _, _, _, _, _, _, k3, _⟩ := hP; exact SqL.of (S.le _ _ _ (S.kp k3 _ _ hp))) (fun i x H3 hx hP => ?_) (fun H3 hP => ?_)
    · obtain ⟨acc, ys, hD, hcD, la, ay, fy, ry, ty, k3, at3⟩ := hP
      obtain ⟨d, ed, hd⟩ := (ax.same (S.kp k3)).get hx
      have hi := (List.getElem?_eq_some_iff.mp ed).1
      have hin := hn ds h3
      refine ⟨hw x, ?_⟩
      refine (he ds d x H3 h3 (List.mem_of_getElem? ed) (S.trans e1 (S.trans e2 k3)) at3 hd) H3 _ (S.refl _) at3 fun y H4 k4 at4 o4 => ?_
      obtain ⟨z, hz4, rz, bz⟩ := o4
      have hD4 : H4 D = some (.lst acc) := S.le _ _ _ (S.kp k4 _ _ hcD)
      have pD := S.put (.lst (acc ++ [y])) at2 (S.trans k3 k4) at4 nD
      refine ⟨acc, hD4, line_small (by
        have : i * 2 ≤ 16777216 := by
          have a1 : i * (me + 2) ≤ n * (me + 2) := Nat.mul_le_mul_right _ (by omega)
          have a2 : i * 2 ≤ i * (me + 2) := Nat.mul_le_mul_left _ (by omega)
          omega
        omega), acc ++ [y], ys ++ [z], upd_same, pD.2.2.1, by rw [List.length_append, la]; rfl, (dqAll_flat ay fy).snoc (dq_flat hz4 (hf _ _ bz)), fun w hw => ?_, ?_, ?_, pD.2.1, pD.1⟩
      · rcases List.mem_append.mp hw with hw | hw
        · exact fy w hw
        · rw [List.mem_singleton.mp hw]
          exact hf _ _ bz
      · rw [Nat.succ_mul]
        exact rws_snoc ry rz
      · rw [List.take_add_one, ed]
        exact ty.snoc bz
    · obtain ⟨acc, ys, hD, hcD, la, ay, fy, ry, ty, k3, at3⟩ := hP
      rw [ax.len, List.take_length] at ty
      have hin := hn ds h3
      exact q _ _ (S.trans e2 k3) at3 ⟨.list ys, .lst hcD (dqAll_flat ay fy), rw_list (ry.mono (Nat.mul_le_mul_right _ (by rw [ax.len]; exact hin)) (Nat.le_refl _)), ys, rfl, ds, h3, ty⟩
theorem od_int {A : Int → Prop} {v : V} (h : Od S m k (oI A) H v) : ∃ i, v = .int i ∧ A i := by
  obtain ⟨_, h1, _, i, rfl, h3⟩ := h
  exact ⟨i, dq_intI h1, h3⟩
theorem od_of_int {i : Int} {A : Int → Prop} (h : -100000000000000000000000000 ≤ i ∧ i ≤ 100000000000000000000000000) (g : A i) : Od S 110 0 (oI A) H (.int i) := ⟨.int i, .int i, rw_int h.1 h.2, i, rfl, g⟩
theorem dqAll_intsG {G : Hp} : ∀ {ns : List Int}, DqAll G (ns.map V.int) (ns.map PyData.int)
  | [] => .nil
  | n :: r => .cons (.int n) dqAll_intsG
theorem od_ints {a : Addr} {ns : List Int} {n : Nat} (h : S.cut H a = some (.lst (ns.map V.int))) (hb : ∀ x ∈ ns, -100000000000000000000000000 ≤ x ∧ x ≤ 100000000000000000000000000) (hn : ns.length ≤ n) : Od S (n * 112 + 2) 1 (oL fun ds => ds = ns.map PyData.int) H (.ref a) :=
  ⟨.list (ns.map PyData.int), .lst h dqAll_intsG, rw_list ((rws_ints hb).mono (Nat.mul_le_mul_right _ hn) (Nat.le_refl 0)), _, rfl, rfl⟩
theorem od_str {x : Str} {A : Str → Prop} {n : Nat} (h : (reprText x).length ≤ n) (g : A x) : Od S n 0 (oS A) H (.str x) := ⟨.str x, .str x, rw_str h, x, rfl, g⟩
end
end Fo
namespace Fo
open PySem PySem.Spec PyProof.Rows L2
/-! short texts -/
structure TxOk (m : Nat) (x : Str) : Prop where
  l : x.length ≤ m
  c : ∀ c ∈ x.cps.toList, c < 16 ^ 8
theorem TxOk.app {m n : Nat} {x y : Str} (a : TxOk m x) (b : TxOk n y) : TxOk (m + n) (x ++ y) := by
  refine ⟨?_, fun c hc => ?_⟩
  · rw [strLen_append]
    have := a.l
    have := b.l
    omega
  · have e : (x ++ y).cps.toList = x.cps.toList ++ y.cps.toList := by
      show (x.cps ++ y.cps).toList = _
      simp
    rw [e] at hc
    rcases List.mem_append.mp hc with h | h
    · exact a.c c h
    · exact b.c c h
theorem TxOk.cut {m : Nat} {x : Str} (a : TxOk m x) (lo hi : Option Int) : TxOk m (cutS x lo hi) := by
  refine ⟨?_, fun c hc => ?_⟩
  · have := a.l
    show (((x.cps.toList.drop _).take _).toArray).size ≤ m
    rw [List.size_toArray, List.length_take, List.length_drop, Array.length_toList]
    have e : x.length = x.cps.size := rfl
    omega
  · have hc : c ∈ (x.cps.toList.drop _).take _ := hc
    exact a.c c (List.mem_of_mem_drop (List.mem_of_mem_take hc))
theorem TxOk.mono {m n : Nat} {x : Str} (a : TxOk m x) (h : m ≤ n) : TxOk n x := ⟨Nat.le_trans a.l h, a.c⟩
theorem TxOk.rw {m : Nat} {x : Str} (a : TxOk m x) : Rw (10 * m + 2) 0 (.str x) := rw_str (by
  have h1 := StrLaws.reprText_len x a.c
  have h2 := a.l
  omega)
theorem tx_one {c : Nat} (h : c < 16 ^ 8) : TxOk 1 ⟨#[c]⟩ := ⟨Nat.le_refl _, fun d hd => by
  have : d = c := List.mem_singleton.mp hd
  rw [this]
  exact h⟩
theorem at_memG {α : Type} {xs : List α} {i : Int} (h0 : 0 ≤ i) (h1 : i < (xs.length : Int)) : ∃ v, atI xs i = some v ∧ v ∈ xs := by
  have hl : i.toNat < xs.length := by omega
  refine ⟨xs[i.toNat], ?_, List.getElem_mem hl⟩
  unfold atI ixN
  rw [if_pos h0, if_pos h1]
  exact List.getElem?_eq_getElem hl
abbrev oX (m : Nat) (A : Str → Prop) : PyData → Prop := oS fun x => TxOk m x ∧ A x
section
variable {S : Src} {σ : L2.St} {H : Hp} {m n k a b : Nat} {t u : TE} {A A' : Str → Prop}
theorem oe_tx {x : Str} (n : Nat) (h : TxOk n x) : OE S (tC (.str x)) σ H (10 * n + 2) 0 (oX n fun y => y = x) := (oe_c (fun _ => .str x) h.rw).imp fun _ e => ⟨x, e, h, rfl⟩
theorem od_tx {v : V} (h : Od S a k (oX m A) H v) : ∃ x, v = .str x ∧ TxOk m x ∧ A x := by
  obtain ⟨_, h1, _, x, rfl, h3⟩ := h
  exact ⟨x, dq_strI h1, h3⟩
theorem od_of_tx {x : Str} (h : TxOk m x) (g : A x) : Od S (10 * m + 2) 0 (oX m A) H (.str x) := ⟨.str x, .str x, h.rw, x, rfl, h, g⟩
theorem oe_catS (h : OE S t σ H a k (oX m A)) (g : OE S u σ H b k (oX n A')) (hm : m + n ≤ 16777216) : OE S (tOp (fun x y H Q => ∃ i j, x = .str i ∧ y = .str j ∧ i.length + j.length ≤ sizeLine ∧ Q (.str (i ++ j)) H) t u) σ H (10 * (m + n) + 2) 0 (oX (m + n) fun z => ∃ x y, z = x ++ y ∧ A x ∧ A' y) := fun H1 Q e1 at1 q =>
  h H1 _ e1 at1 fun v H2 e2 at2 o => g H2 _ (S.trans e1 e2) at2 fun w H3 e3 at3 o' => by
    obtain ⟨x, rfl, x1, x2⟩ := od_tx o
    obtain ⟨y, rfl, y1, y2⟩ := od_tx o'
    have l1 := x1.l
    have l2 := y1.l
    exact ⟨x, y, rfl, rfl, line_small (by omega), q _ _ (S.trans e2 e3) at3 (od_of_tx (x1.app y1) ⟨x, y, rfl, x2, y2⟩)⟩
theorem oe_slS {tl th : TO} {P R : Option Int → Prop} (h : OE S t σ H a k (oX m A)) (hl : OO S tl σ H P) (hh : OO S th σ H R) (hm : m ≤ 16777216) : OE S (tSl rSlS t tl th) σ H (10 * m + 2) 0 (oX m fun z => ∃ x l u, z = cutS x l u ∧ A x ∧ P l ∧ R u) := fun H1 Q e1 at1 q =>
  h H1 _ e1 at1 fun v H2 e2 at2 o => hl H2 _ (S.trans e1 e2) at2 fun l H3 e3 at3 pl => hh H3 _ (S.trans e1 (S.trans e2 e3)) at3 fun u H4 e4 at4 pu => by
    obtain ⟨x, rfl, x1, x2⟩ := od_tx o
    have l1 := x1.l
    exact ⟨x, rfl, line_small (by omega), q _ _ (S.trans (S.trans e2 e3) e4) at4 (od_of_tx (x1.cut l u) ⟨x, l, u, rfl, x2, pl, pu⟩)⟩
theorem oe_ixS {z : Str} {B : Int → Prop} (hl : z.length = n) (hz : n ≤ 16777216) (hc : ∀ c ∈ z.cps.toList, c < 16 ^ 8) (g : OE S u σ H a b (oI B)) (hi : ∀ i, B i → 0 ≤ i ∧ i < (n : Int)) : OE S (tOp rIxS (tC (.str z)) u) σ H 12 0 (oX 1 fun y => ∃ c ∈ z.cps.toList, y = ⟨#[c]⟩) := fun H1 Q e1 at1 q =>
  g H1 _ e1 at1 fun w H3 e3 at3 o' => by
    obtain ⟨i, rfl, gi⟩ := od_int o'
    obtain ⟨i0, i1⟩ := hi i gi
    obtain ⟨c, ec, mc⟩ := at_memG (xs := z.cps.toList) i0 (by rw [Array.length_toList]; show i < ((z.length : Nat) : Int); rw [hl]; exact i1)
    exact ⟨z, i, c, rfl, rfl, line_small (by rw [hl]; exact hz), ec, q _ _ e3 at3 ((od_of_tx (tx_one (hc c mc)) ⟨c, mc, rfl⟩))⟩
theorem oe_upper (h : OE S t σ H a b (oX m A)) (hm : m ≤ 5592405) (hu : ∀ x, A x → TxOk n (Txt.upper x)) : OE S (tM0 (fun x xs H Q => ∃ a, x = .str a ∧ xs = [] ∧ a.length ≤ 5592405 ∧ Q (.str (Txt.upper a)) H) t) σ H (10 * n + 2) 0 (oX n fun z => ∃ x, z = Txt.upper x ∧ A x) := fun H1 Q e1 at1 q =>
  h H1 _ e1 at1 fun v H2 e2 at2 o => by
    obtain ⟨x, rfl, x1, x2⟩ := od_tx o
    have l1 := x1.l
    exact ⟨⟨x, rfl⟩, x, rfl, rfl, by omega, q _ _ e2 at2 (od_of_tx (hu x x2) ⟨x, rfl, x2⟩)⟩
theorem oe_lenS (h : OE S t σ H a b (oX m A)) (hm : m ≤ 16777216) : OE S (tCB (fun xs H Q => ∃ z, xs = [.str z] ∧ z.length ≤ sizeLine ∧ Q (.int z.length) H) (tCons t tNil)) σ H 110 0 (oI fun i => ∃ x : Str, i = (x.length : Int) ∧ A x) := fun H1 Q e1 at1 q =>
  h H1 _ e1 at1 fun v H2 e2 at2 o => by
    obtain ⟨x, rfl, x1, x2⟩ := od_tx o
    have l1 := x1.l
    exact ⟨x, rfl, line_small (by omega), q _ _ e2 at2 (od_of_int ⟨by omega, by omega⟩ ⟨x, rfl, x2⟩)⟩
/-- {text: number} -/
theorem oe_d1 {i : Nat} {z : Str} {y : Int} (e : σ[i]? = some (some (.str z))) (h : TxOk m z) (hy : -100 ≤ y ∧ y ≤ 100) : OE S (tDisp [(tVar i, tC (.int y))]) σ H (10 * m + 2 + 110 + 6) 1 (fun d => d = .dict [(.str z, .int y)]) := fun H1 Q e1 at1 q => fun p np => by
  refine ⟨_, e, upd_same, [(.inr z, .int y)], rfl, (by show 1 ≤ 15; decide), ?_⟩
  have p1 := S.put (.dK []) at1 (S.refl _) at1 np
  have p2 := S.put (.dK (mergeK [] [(.inr z, .int y)])) at1 p1.2.1 p1.1 np
  exact q _ _ p2.2.1 p2.1 ⟨.dict [(.str z, .int y)], .dic p2.2.2.1 (.cons .nil), rw_dict1 (m := 10 * m + 2) (n := 110) h.rw (rw_int (i := y) (by omega) (by omega)), rfl⟩
/-- list(range(n)) -/
theorem oe_lrg {n : Nat} (hn : n ≤ 1000) (h : OE S t σ H a b (oI fun i => i = (n : Int))) : OE S (tLstRg (tRg1 t)) σ H (n * 112 + 2) 1 (oL fun ds => ds = (rg n).map PyData.int) := fun H1 Q e1 at1 q =>
  h H1 _ e1 at1 fun v H2 e2 at2 o => by
    obtain ⟨i, rfl, rfl⟩ := od_int o
    refine ⟨_, rfl, ⟨by omega, by omega, by omega, by omega, by omega⟩, fun p np => ?_⟩
    obtain ⟨at3, e3⟩ := S.same at2 (same_new (o := .lst (rgV 0 (n : Int))) np)
    have hb : ∀ x ∈ rg n, -100000000000000000000000000 ≤ x ∧ x ≤ 100000000000000000000000000 := fun x hx => by
      have := rg_mem.mp hx
      omega
    refine q _ _ (S.trans e2 e3) at3 ⟨.list ((rg n).map PyData.int), .lst (by rw [S.new _ at2 np, rg_V]) dqAll_intsG, ?_, _, rfl, rfl⟩
    exact (rw_list (rws_ints (b := 0) hb)).mono (by rw [rg_len]; exact Nat.le_refl _) (Nat.le_refl _)
end
end Fo
namespace Fo
open PySem PySem.Spec PyProof.Rows L2
theorem oe_strI {S : Src} {σ : L2.St} {H : Hp} {m a : Nat} {t : TE} {A : Int → Prop} (h : OE S t σ H m a (oI A)) (hb : ∀ i, A i → -100000000000000000000000000 ≤ i ∧ i ≤ 100000000000000000000000000) : OE S (tCB (fun xs H Q => ∃ i, xs = [.int i] ∧ i.natAbs.log2 < 1920 ∧ Q (.str (toString i)) H) (tCons t tNil)) σ H 1102 0 (oX 110 fun x => ∃ i : Int, x = toString i ∧ A i) := fun H1 Q e1 at1 q =>
  h H1 _ e1 at1 fun v H2 e2 at2 o => by
    obtain ⟨i, rfl, hi⟩ := od_int o
    obtain ⟨b1, b2⟩ := hb i hi
    have hl := log2_100 b1 b2
    have ht : TxOk 110 (Str.ofString (toString i)) := ⟨by
      have := int_text_length_le (k := 100) (by decide) hl
      rw [PySem.ofString_length]
      omega, fun c hc => by
      rw [PyProof.Rows.signs_ofString] at hc
      obtain ⟨ch, _, rfl⟩ := List.mem_map.mp hc
      exact ch.val.toNat_lt⟩
    exact ⟨i, rfl, by omega, q _ _ e2 at2 (od_of_tx ht ⟨i, rfl, hi⟩)⟩
end Fo
namespace Fo
open PySem PySem.Spec PyProof.Rows L2
/-! loops over lists of anything -/
section
variable {S : Src} {σ : L2.St} {H : Hp} {m k a b : Nat} {B C : PyData → Prop} {t u : TE}
theorem of_list {K : PySem.W.Frag} {A : List PyData → Prop} {g : TG} {tb : TS} {D : Ends} (at1 : S.At H) (h : OE S t σ H m k (oL A)) (Pv : L2.St → Hp → Prop) (h0 : ∀ H', S.Kp H H' → S.At H' → Pv σ H')
    (hs : ∀ σ' H' x d (N : L2.St → Hp → Prop), Pv σ' H' → S.Kp H H' → S.At H' → Dq (S.cut H') x d → Rw m k d → (∃ ds, A ds ∧ d ∈ ds) → (∀ s h, Pv s h → S.Kp H' h → S.At h → N s h) → g x σ' H' fun σ2 H2 => tb { D with nx := N, ct := N, bk := D.nx } σ2 H2) (hd : ∀ σ' H', Pv σ' H' → S.Kp H H' → S.At H' → D.nx σ' H') : tFor (iList K t) g tb D σ H :=
  h H _ (S.refl H) at1 fun v H2 e2 at2 o => by
    obtain ⟨_, h1, h2, ds, rfl, h3⟩ := o
    obtain ⟨p, xs, rfl, hp, ax⟩ := dq_lst h1
    refine ⟨p, rfl, ⟨xs, SqL.of (S.le _ _ _ hp)⟩, ?_⟩
    refine for_list (xs := xs) (fun _ s h => (Pv s h ∧ S.Kp H h ∧ S.At h) ∧ S.Kp H2 h) ⟨⟨h0 H2 e2 at2, e2, at2⟩, S.refl _⟩ (fun i s h _ w => SqL.of (S.le _ _ _ (S.kp w.2 _ _ hp))) (fun i x s h hx w => ?_) (fun s h w => hd s h w.1.1 w.1.2.1 w.1.2.2)
    obtain ⟨d, ed, hdq⟩ := (ax.same (S.kp w.2)).get hx
    have md := List.mem_of_getElem? ed
    exact hs s h x d _ w.1.1 w.1.2.1 w.1.2.2 hdq (rw_mem h2 md) ⟨ds, h3, md⟩ fun s' h' p k at' => ⟨⟨p, S.trans w.1.2.1 k, at'⟩, S.trans w.2 k⟩
theorem og_pair {K : PySem.W.Frag} {x : V} {p q : PyData} {i j : Nat} {Q : L2.St → Hp → Prop} (h : Dq (S.cut H) x (.tuple [p, q])) (c : ∀ v w, Dq (S.cut H) v p → Dq (S.cut H) w q → Q ((σ.set i (some v)).set j (some w)) H) : gTup K 2 (gCons (gName i) (gCons (gName j) gNil)) x σ H Q := by
  obtain ⟨a, xs, rfl, e, al⟩ := dq_tupI h
  cases al with
  | cons h1 al =>
    cases al with
    | cons h2 al =>
      cases al
      exact ⟨a, _, rfl, SqT.of (S.le _ _ _ e), rfl, _, _, rfl, _, _, rfl, rfl, c _ _ h1 h2⟩
end
end Fo
namespace Fo
open PySem PySem.Spec PyProof.Rows L2
section
variable {S : Src} {σ : L2.St} {H : Hp} {m k : Nat} {B : PyData → Prop} {t : TE}
theorem of_run {K : PySem.W.Frag} {A : List PyData → Prop} {g : TG} {tb : TS} {D : Ends} (at1 : S.At H) (h : OE S t σ H m k (oL A)) (q : ∀ p xs H', S.Kp H H' → S.At H' → S.cut H' p = some (.lst xs) → (∃ ds, DqAll (S.cut H') xs ds ∧ Rw m k (.list ds) ∧ A ds) → ∃ W : Nat → Nat → L2.St → Hp → Prop, (∃ m, W 0 m σ H') ∧ ∀ i m σ H, W i m σ H →
      ((Itl K p).stop i H ∧ D.nx σ H) ∨ ((Itl K p).go i H ∧ ∃ N : L2.St → Hp → Prop, (∀ σ' H', N σ' H' → ∃ m', m' < m ∧ W (i + 1) m' σ' H') ∧ ∀ x H', (Itl K p).yld i H x H' → g x σ H' fun σ2 H2 => tb { D with nx := N, ct := N, bk := D.nx } σ2 H2)) : tFor (iList K t) g tb D σ H :=
  h H _ (S.refl H) at1 fun v H2 e2 at2 o => by
    obtain ⟨_, h1, h2, ds, rfl, h3⟩ := o
    obtain ⟨p, xs, rfl, hp, ax⟩ := dq_lst h1
    exact ⟨p, rfl, ⟨xs, SqL.of (S.le _ _ _ hp)⟩, q p xs H2 e2 at2 hp ⟨ds, ax, h2, h3⟩⟩
theorem oa_one {Q : List V → Hp → Prop} (at1 : S.At H) (h : OE S t σ H m k B) (q : ∀ v H', S.Kp H H' → S.At H' → Od S m k B H' v → Q [v] H') : tCons t tNil σ H Q := h H _ (S.refl H) at1 q
end
end Fo
namespace Fo
open PySem PySem.Spec PyProof.Rows L2
/-! sources: none, and one that stands at one address -/
def src0 : Src where
  At := fun _ => True
  Kp := Same
  cut := fun H => H
  refl := Same.refl
  trans := Same.trans
  kp := fun k => k
  le := Same.refl
  same := fun _ s => ⟨trivial, s⟩
  put := fun {H H1 p} o _ k _ np => ⟨trivial, fun b x e => by rw [upd_ne (ne_of_none e np)]; exact k b x e, upd_same, fun b hb => upd_ne hb⟩
open Classical in
noncomputable def cut1 (d : Addr) (H : Hp) : Hp := fun b => if b = d then none else H b
theorem cut1_ne {d : Addr} {H : Hp} {b : Addr} (h : b ≠ d) : cut1 d H b = H b := by
  unfold cut1
  rw [if_neg h]
theorem cut1_of {d : Addr} {H : Hp} {b : Addr} {o : HO} (h : cut1 d H b = some o) : H b = some o ∧ b ≠ d := by
  unfold cut1 at h
  split at h
  · cases h
  · exact ⟨h, by assumption⟩
noncomputable def src1 (d : Addr) (X : HO → Prop) : Src where
  At := fun H => ∃ o, H d = some o ∧ X o
  Kp := fun H H' => ∀ b o, H b = some o → b ≠ d → H' b = some o
  cut := cut1 d
  refl := fun _ _ _ e _ => e
  trans := fun k l b o e n => l b o (k b o e n) n
  kp := fun k b o e => by
    obtain ⟨e1, e2⟩ := cut1_of e
    rw [cut1_ne e2]
    exact k b o e1 e2
  le := fun _ _ _ e => (cut1_of e).1
  same := fun h s => ⟨by obtain ⟨o, e, x⟩ := h; exact ⟨o, s _ _ e, x⟩, fun b o e _ => s b o e⟩
  put := fun {H H1 p} o h k h1 np => by
    obtain ⟨q, e, x⟩ := h
    have n1 : p ≠ d := fun z => by rw [z, e] at np; cases np
    refine ⟨by obtain ⟨q1, e1, x1⟩ := h1; exact ⟨q1, by rw [upd_ne n1.symm]; exact e1, x1⟩, fun b x e f => ?_, by rw [cut1_ne n1]; exact upd_same, fun b hb => ?_⟩
    · rw [upd_ne (ne_of_none e np)]
      exact k b x e f
    · unfold cut1
      split
      · rfl
      · exact upd_ne hb
theorem os_put1 {d : Addr} {X : HO → Prop} {H : Hp} {o : HO} (x : X o) : (src1 d X).At (upd H d o) ∧ (src1 d X).Kp H (upd H d o) := ⟨⟨o, upd_same, x⟩, fun b q e n => by rw [upd_ne n]; exact e⟩
/-- the whole list made a source: it is added to -/
theorem od_1 {d : Addr} {X : HO → Prop} {m k : Nat} {B : PyData → Prop} {H H' : Hp} {v : V} (h : Od src0 m k B H v) (e : ∀ b o, H b = some o → (src1 d X).cut H' b = some o) : Od (src1 d X) m k B H' v := by
  obtain ⟨x, h1, h2, h3⟩ := h
  exact ⟨x, h1.same e, h2, h3⟩
end Fo
namespace Fo
open PySem PySem.Spec PyProof.Rows L2
/-! defs that refuse -/
section
variable {P : Program} {w : World} {K : PySem.W.Frag} {mg : Str → Option Value} {base : Heap} {k : Nat} {f : Addr} {fd : FuncData} {ps : List Str}
theorem fn_up {sp : Sp} (F : FnOk P w K mg base CX0 k f fd ps sp) : FnOk P w K mg base (L2.CX P w) k f fd ps sp :=
  ⟨F.len, fun A outer s H args us vs Q E hr e0 hb hv hs => codeAny_mono (F.run A outer s H args us vs Q E hr e0 hb hv hs) fun r s' h => match r, h with
    | .error _, h => h.elim
    | .ok (.ret _), h => h
    | .ok .next, h => h
    | .ok .brk, h => h
    | .ok .cont, h => h⟩
theorem fn_or {CX : CXT} {sp sp' : Sp} (F : FnOk P w K mg base CX k f fd ps sp) (G : FnOk P w K mg base CX k f fd ps sp') : FnOk P w K mg base CX k f fd ps (fun vs H Q E => sp vs H Q E ∨ sp' vs H Q E) :=
  ⟨fun vs H Q E h => h.elim (F.len vs H Q E) (G.len vs H Q E), fun A outer s H args us vs Q E hr e0 hb hv hs => hs.elim (F.run A outer s H args us vs Q E hr e0 hb hv) (G.run A outer s H args us vs Q E hr e0 hb hv)⟩
def spNever : Sp := fun _ _ _ _ => False
theorem fn_never {CX : CXT} : FnOk P w K mg base CX k f fd ps spNever := ⟨fun _ _ _ _ h => h.elim, fun _ _ _ _ _ _ _ _ _ _ _ _ _ h => h.elim⟩
end
/-- an error class of the program, over ValueError -/
structure ExK (K : PySem.W.Frag) (mg : Str → Option Value) (x : Str) (C : Addr) : Prop where
  g : mg x = some (.ref C)
  q : PySem.W.excIn K C [.type "ValueError", .type "Exception", .type "BaseException", .type "object"] "ValueError.__new__" = true
  kp : PySem.W.keepIn K (.ref C) = true
  sb : PySem.W.subIn K (.ref C) (.type "BaseException") = some true
  ty : PySem.W.typeIn K (.ref C) = some (.type "type")
  ec : ExcC K C
section
variable {X : Cx}
theorem ps_raiseK {W : WX} {x m : Str} {C : Addr} {j : Nat} {p p2 pos pos' : Pos} (hc : X.calm = true) (tk : Takes X W) (c : ExK X.K X.mg x C) (hg : Gl X x) (hdb : (x == ("__debug__" : Str)) = false := by decide) :
    PS X (.Raise (some (.Call (.Name x p) [.Constant (.str m) j p2] [] pos)) none pos') (fun _ σ H => W (.ref C) none σ H) :=
  ps_raise hc tk (pmk_own PySem.F.excBase_ValueError c.q c.g c.kp (raises_own c.sb c.ty) hg hdb)
theorem ps_raiseA {W : WX} {x : Str} {C : Addr} {e : Expr} {ta : TE} {p pos pos' : Pos} (hc : X.calm = true) (tk : Takes X W) (c : ExK X.K X.mg x C) (hg : Gl X x) (he : PE X e ta) (hdb : (x == ("__debug__" : Str)) = false := by decide)
    (hs : starEach [e] X.env = (false, eval e X.env) :: starEach [] X.env := by rfl) :
    PS X (.Raise (some (.Call (.Name x p) [e] [] pos)) none pos') (fun _ σ H => ta σ H fun _ H1 => W (.ref C) none σ H1) :=
  ps_raise hc tk (SkE.pmk_own1 PySem.F.excBase_ValueError c.q c.g c.kp (raises_own c.sb c.ty) hg he hs hdb)
end
end Fo
namespace Fo
open PySem PySem.Spec PyProof.Rows L2
/-! what is no order is refused -/
def lenD : PyData → Nat
  | .list ds => ds.length
  | _ => 0
theorem good_at {H : Hp} {v : V} {d : PyData} (h : Dq H v d) (g : GoodD d) : ∃ (a : Addr) (ns : List Int), v = .ref a ∧ H a = some (.lst (ns.map V.int)) ∧ IsOrd ns.length ns ∧ 1 ≤ ns.length ∧ ns.length ≤ 12 ∧ lenD d = ns.length := by
  obtain ⟨ns, rfl, h1, h2, h3⟩ := g
  cases h with
  | @lst a xs _ e al =>
    have := dq_intsV al
    subst this
    exact ⟨a, ns, rfl, e, h1, h2, h3, List.length_map _⟩
def spChk (cO : Addr) : Sp := fun vs H Q E => ∃ (v : V) (d : PyData), vs = [v] ∧ Dq H v d ∧ (GoodD d → ∀ H', Same H H' → Q .non H') ∧ (¬ GoodD d → ∀ H', Same H H' → E (.ref cO) none H')
section
variable {P : Program} {w : World} {K : PySem.W.Frag} {mg : Str → Option Value} {base : Heap}
theorem scChk : FnScope ["thing"] ["thing"] (defScope s_check_order) := ⟨rfl, rfl, rfl, by decide +kernel, rfl, by decide +kernel, by decide +kernel⟩
theorem ok_chk {f f1 cO : Addr} {fd d1 : FuncData} {k : Nat} (T : Df K mg "check_order" s_check_order ["thing"] f fd) (T_is_order : Df K mg "is_order" s_is_order ["thing"] f1 d1) (G_is_order : FnOk P w K mg base CX0 k f1 d1 ["thing"] spIsOrdD) (X_NoOrder : ExK K mg "NoOrder" cO) : FnOk P w K mg base (L2.CX P w) (k + 1) f fd ["thing"] (spChk cO) := by
  refine T.F.okX scChk (fun vs H Q E h => ?_) (fun cdv A outer s H vs Q E hr h => ?_)
  · obtain ⟨v, d, rfl, _⟩ := h
    rfl
  · obtain ⟨v, d, rfl, hd, q1, q2⟩ := h
    refine ⟨_, 
      (pss_one (ps_if (pt_not (pt_val (pe_call G_is_order hr (by rfl) T_is_order.g T_is_order.F.kp T_is_order.b .nil pass0 (pa_cons (pv 0) pa_nil))))
        (pss_one (ps_raiseK rfl (takes_of rfl rfl rfl rfl) X_NoOrder (by rfl)))
        pss_nil)), ?_⟩
    refine ⟨_, rfl, v, d, rfl, hd, fun b H1 hb s1 => ?_⟩
    refine ⟨_, rfl, ?_⟩
    cases b with
    | true => exact iteF (q1 (hb.mp rfl) _ s1)
    | false => exact iteT (q2 (fun z => absurd (hb.mpr z) Bool.false_ne_true) _ s1)
end
end Fo
namespace Fo
open PySem PySem.Spec PyProof.Rows L2
/-- C is the i-th of the nine error classes, and none of the others -/
structure KdY (K : PySem.W.Frag) (c : Nat → Addr) (C : Addr) (i : Nat) : Prop where
  ec : ExcC K C
  ks : ∀ j, j < 9 → PySem.W.kitOne K (.ref C) (.ref (c j)) = some (decide (j = i))
  ve : PySem.W.kitOne K (.ref C) (.type "ValueError") = some true
  lt : i < 9
def cls9 (a0 a1 a2 a3 a4 a5 a6 a7 a8 : Addr) : Nat → Addr
  | 0 => a0
  | 1 => a1
  | 2 => a2
  | 3 => a3
  | 4 => a4
  | 5 => a5
  | 6 => a6
  | 7 => a7
  | _ => a8
theorem kd_mk9 {K : PySem.W.Frag} {C a0 a1 a2 a3 a4 a5 a6 a7 a8 : Addr} {i : Nat} (ec : ExcC K C) (h0 : PySem.W.kitOne K (.ref C) (.ref a0) = some (decide (0 = i))) (h1 : PySem.W.kitOne K (.ref C) (.ref a1) = some (decide (1 = i))) (h2 : PySem.W.kitOne K (.ref C) (.ref a2) = some (decide (2 = i))) (h3 : PySem.W.kitOne K (.ref C) (.ref a3) = some (decide (3 = i))) (h4 : PySem.W.kitOne K (.ref C) (.ref a4) = some (decide (4 = i))) (h5 : PySem.W.kitOne K (.ref C) (.ref a5) = some (decide (5 = i))) (h6 : PySem.W.kitOne K (.ref C) (.ref a6) = some (decide (6 = i))) (h7 : PySem.W.kitOne K (.ref C) (.ref a7) = some (decide (7 = i))) (h8 : PySem.W.kitOne K (.ref C) (.ref a8) = some (decide (8 = i))) (ve : PySem.W.kitOne K (.ref C) (.type "ValueError") = some true) (lt : i < 9) : KdY K (cls9 a0 a1 a2 a3 a4 a5 a6 a7 a8) C i := by
  refine ⟨ec, fun j hj => ?_, ve, lt⟩
  rcases (show j = 0 ∨ j = 1 ∨ j = 2 ∨ j = 3 ∨ j = 4 ∨ j = 5 ∨ j = 6 ∨ j = 7 ∨ j = 8 by omega) with rfl | rfl | rfl | rfl | rfl | rfl | rfl | rfl | rfl
  · exact h0
  · exact h1
  · exact h2
  · exact h3
  · exact h4
  · exact h5
  · exact h6
  · exact h7
  · exact h8
def spKindsY (K : PySem.W.Frag) (c : Nat → Addr) : Sp := fun vs H Q _ => ∃ (a C : Addr) (i : Nat), vs = [.ref a, .int i] ∧ H a = some (ExV (.ref C) none a) ∧ KdY K c C i ∧ ∀ H', Same H H' → Q (.bl true) H'
abbrev dB (bs : List Bool) : PyData := .list (bs.map PyData.bool)
theorem dp_bools {K : PySem.W.Frag} {H : Hp} : ∀ bs : List Bool, DpAll K H (bs.map V.bl) (bs.map PyData.bool)
  | [] => .nil
  | b :: r => .cons (.bl b) (dp_bools r)
theorem dp_boolL {K : PySem.W.Frag} {H : Hp} {a : Addr} {bs : List Bool} (h : H a = some (.lst (bs.map V.bl))) : Dp K H (.ref a) (dB bs) := .lst (SqL.of h) (dp_bools bs)
theorem lay_bools : ∀ bs : List Bool, PyData.canLayAll0 (bs.map PyData.bool) = true
  | [] => rfl
  | b :: r => by
    show (PyData.canLay0 (.bool b) && PyData.canLayAll0 (r.map PyData.bool)) = true
    rw [lay_bools r]
    rfl
theorem depth_bools : ∀ bs : List Bool, PyData.depthAll (bs.map PyData.bool) = 0
  | [] => by simp [PyData.depthAll]
  | b :: r => by
    show PyData.depthAll (.bool b :: r.map PyData.bool) = 0
    rw [PyData.depthAll, depth_bools r]
    simp [PyData.depth]
theorem shaped_bools (bs : List Bool) : SeqAt.shaped (dB bs) = true := by
  unfold SeqAt.shaped
  rw [Bool.and_eq_true_iff]
  constructor
  · rw [PyData.canLay0]
    exact lay_bools bs
  · apply decide_eq_true
    rw [PyData.depth, depth_bools]
    decide
theorem eqv_bools (bs : List Bool) : PyData.eqv (dB bs) (dB bs) = true := SeqAt.eqv_refl _ (SeqAt.canLay_of_shaped (shaped_bools bs))
/-- bools and a new list of them -/
theorem nb (bs : List Bool) {H : Hp} {p : Addr} (np : H p = none) : Same H (upd H p (.lst (bs.map V.bl))) ∧ (upd H p (.lst (bs.map V.bl))) p = some (.lst (bs.map V.bl)) := ⟨same_new np, upd_same⟩
section
variable {P : Program} {w : World} {K : PySem.W.Frag} {mg : Str → Option Value} {base : Heap}
end
end Fo
namespace Fo
open PySem PySem.Spec PyProof.Rows L2 TL
/-! ### writings -/
abbrev decT (i : Int) : Str := Str.ofString (toString i)
def wrT (xs : List Int) : Str := Txt.join " " (xs.map decT)
def wrL (rs : List (List Int)) : Str := if rs = [] then "-" else Txt.join ", " (rs.map wrT)
theorem dec_sign : ∀ k < 12, ∀ c ∈ tl (decT ((k : Nat) : Int)), 48 ≤ c ∧ c ≤ 57 := by decide +kernel
theorem dec_len : ∀ k < 12, (decT ((k : Nat) : Int)).length ≤ 2 := by decide +kernel
theorem dec_inj : ∀ k < 12, ∀ j < 12, decT ((k : Nat) : Int) = decT ((j : Nat) : Int) → k = j := by decide +kernel
theorem mem_joinL {S : List Nat} {c : Nat} : ∀ {ps : List (List Nat)}, c ∈ joinL S ps → c ∈ S ∨ ∃ p ∈ ps, c ∈ p
  | [], h => absurd h List.not_mem_nil
  | [p], h => .inr ⟨p, List.mem_singleton.mpr rfl, h⟩
  | p :: q :: r, h => by
    rcases List.mem_append.mp h with h | h
    · exact .inr ⟨p, List.mem_cons_self, h⟩
    rcases List.mem_append.mp h with h | h
    · exact .inl h
    rcases mem_joinL h with h | ⟨u, hu, h⟩
    · exact .inl h
    · exact .inr ⟨u, List.mem_cons_of_mem _ hu, h⟩
theorem len_joinL {S : List Nat} : ∀ (ps : List (List Nat)), (joinL S ps).length ≤ (ps.map List.length).sum + ps.length * S.length
  | [] => Nat.zero_le _
  | [p] => by
    show p.length ≤ (p.length + 0) + 1 * S.length
    omega
  | p :: q :: r => by
    have ih := len_joinL (S := S) (q :: r)
    show (p ++ (S ++ joinL S (q :: r))).length ≤ (p.length + ((q :: r).map List.length).sum) + ((q :: r).length + 1) * S.length
    rw [List.length_append, List.length_append, Nat.add_mul]
    omega
theorem tl_joinT (y : Str) (ps : List Str) : tl (Txt.join y ps) = joinL (tl y) (ps.map tl) := by rw [join_eq, tl_join]
theorem ord_nat {n : Nat} {xs : List Int} (o : IsOrd n xs) (hn : n ≤ 12) {x : Int} (h : x ∈ xs) : ∃ k : Nat, k < 12 ∧ x = (k : Int) := by
  have := o.mem h
  exact ⟨x.toNat, by omega, by omega⟩
theorem dec_at {n : Nat} {xs : List Int} (o : IsOrd n xs) (hn : n ≤ 12) {s : Str} (h : s ∈ xs.map decT) : ∃ k : Nat, k < 12 ∧ s = decT (k : Int) := by
  obtain ⟨x, hx, rfl⟩ := List.mem_map.mp h
  obtain ⟨k, hk, rfl⟩ := ord_nat o hn hx
  exact ⟨k, hk, rfl⟩
theorem wr_sign {n : Nat} {xs : List Int} (o : IsOrd n xs) (hn : n ≤ 12) {c : Nat} (h : c ∈ tl (wrT xs)) : c = 32 ∨ (48 ≤ c ∧ c ≤ 57) := by
  unfold wrT at h
  rw [tl_joinT] at h
  rcases mem_joinL h with h | ⟨p, hp, h⟩
  · exact .inl (List.mem_singleton.mp h)
  · obtain ⟨s, hs, rfl⟩ := List.mem_map.mp hp
    obtain ⟨k, hk, rfl⟩ := dec_at o hn hs
    exact .inr (dec_sign k hk c h)
theorem sum_le {l : List Nat} {b : Nat} (h : ∀ x ∈ l, x ≤ b) : l.sum ≤ l.length * b := by
  induction l with
  | nil => simp
  | cons a r ih =>
    have h1 := h a List.mem_cons_self
    have h2 := ih fun x hx => h x (List.mem_cons_of_mem _ hx)
    rw [List.sum_cons, List.length_cons, Nat.add_mul]
    omega
theorem dec_sum {n : Nat} {xs : List Int} (o : IsOrd n xs) (hn : n ≤ 12) : ((xs.map decT).map (·.length)).sum ≤ 24 := by
  have := sum_le (l := (xs.map decT).map (·.length)) (b := 2) fun x hx => by
    obtain ⟨s, hs, rfl⟩ := List.mem_map.mp hx
    obtain ⟨k, hk, rfl⟩ := dec_at o hn hs
    exact dec_len k hk
  rw [List.length_map, List.length_map, o.len] at this
  omega
theorem len_tl' (x : Str) : x.length = (tl x).length := by simp [Str.length]
theorem wr_len {n : Nat} {xs : List Int} (o : IsOrd n xs) (hn : n ≤ 12) : (wrT xs).length ≤ 36 := by
  rw [len_tl']
  unfold wrT
  rw [tl_joinT]
  refine Nat.le_trans (len_joinL _) ?_
  have h1 := dec_sum o hn
  have h2 : (((xs.map decT).map tl).map List.length) = (xs.map decT).map (·.length) := by
    rw [List.map_map]
    apply List.map_congr_left
    intro s _
    exact (len_tl' s).symm
  rw [h2, List.length_map, List.length_map, o.len]
  show _ + n * 1 ≤ 36
  omega
theorem wr_sum {n : Nat} {rs : List (List Int)} (o : ∀ r ∈ rs, IsOrd n r) (hn : n ≤ 12) : ((rs.map wrT).map (·.length)).sum ≤ rs.length * 36 := by
  have := sum_le (l := (rs.map wrT).map (·.length)) (b := 36) fun x hx => by
    obtain ⟨s, hs, rfl⟩ := List.mem_map.mp hx
    obtain ⟨r, hr, rfl⟩ := List.mem_map.mp hs
    exact wr_len (o r hr) hn
  rw [List.length_map, List.length_map] at this
  exact this
theorem wrL_len {n : Nat} {rs : List (List Int)} (o : ∀ r ∈ rs, IsOrd n r) (hn : n ≤ 12) : (wrL rs).length ≤ rs.length * 38 + 1 := by
  unfold wrL
  by_cases c : rs = []
  · rw [if_pos c]
    show 1 ≤ _
    omega
  · rw [if_neg c, len_tl', tl_joinT]
    refine Nat.le_trans (len_joinL _) ?_
    have h1 := wr_sum o hn
    have h2 : (((rs.map wrT).map tl).map List.length) = (rs.map wrT).map (·.length) := by
      rw [List.map_map]
      apply List.map_congr_left
      intro s _
      exact (len_tl' s).symm
    rw [h2, List.length_map, List.length_map]
    show _ + rs.length * 2 ≤ _
    omega
theorem split_wr {n : Nat} {xs : List Int} (o : IsOrd n xs) (hn1 : 1 ≤ n) (hn : n ≤ 12) : Txt.split (wrT xs) " " = xs.map decT := by
  refine split_join (y := " ") (s := 32) (S := []) rfl (by decide +kernel) (fun e => ?_) fun p hp hc => ?_
  · have := congrArg List.length e
    rw [List.length_map, o.len] at this
    simp at this
    omega
  · obtain ⟨k, hk, rfl⟩ := dec_at o hn hp
    have := dec_sign k hk 32 hc
    omega
theorem split_wrL {n : Nat} {rs : List (List Int)} (o : ∀ r ∈ rs, IsOrd n r) (hn : n ≤ 12) (hne : rs ≠ []) : Txt.split (wrL rs) ", " = rs.map wrT := by
  unfold wrL
  rw [if_neg hne]
  refine split_join (y := ", ") (s := 44) (S := [32]) rfl (by decide +kernel) (fun e => hne (List.map_eq_nil_iff.mp e)) fun p hp hc => ?_
  obtain ⟨r, hr, rfl⟩ := List.mem_map.mp hp
  have := wr_sign (o r hr) hn hc
  omega
theorem wrL_dash {n : Nat} {rs : List (List Int)} (o : ∀ r ∈ rs, IsOrd n r) (hn : n ≤ 12) (hne : rs ≠ []) : wrL rs ≠ "-" := by
  intro e
  have h : (45 : Nat) ∈ tl (wrL rs) := by
    rw [e]
    decide +kernel
  unfold wrL at h
  rw [if_neg hne, tl_joinT] at h
  rcases mem_joinL h with h | ⟨p, hp, h⟩
  · exact absurd h (by decide +kernel)
  · obtain ⟨s, hs, rfl⟩ := List.mem_map.mp hp
    obtain ⟨r, hr, rfl⟩ := List.mem_map.mp hs
    have := wr_sign (o r hr) hn h
    omega
theorem map_inj_dec {n m : Nat} : ∀ {xs ys : List Int}, (∀ x ∈ xs, ∃ k : Nat, k < 12 ∧ x = (k : Int)) → (∀ x ∈ ys, ∃ k : Nat, k < 12 ∧ x = (k : Int)) → xs.map decT = ys.map decT → xs = ys
  | [], [], _, _, _ => rfl
  | [], _ :: _, _, _, e => by cases e
  | _ :: _, [], _, _, e => by cases e
  | x :: xs, y :: ys, hx, hy, e => by
    have e1 := List.head_eq_of_cons_eq e
    have e2 := List.tail_eq_of_cons_eq e
    obtain ⟨k, hk, rfl⟩ := hx x List.mem_cons_self
    obtain ⟨j, hj, rfl⟩ := hy y List.mem_cons_self
    rw [dec_inj k hk j hj e1, map_inj_dec (n := n) (m := m) (fun z hz => hx z (List.mem_cons_of_mem _ hz)) (fun z hz => hy z (List.mem_cons_of_mem _ hz)) e2]
theorem wr_inj {n m : Nat} {xs ys : List Int} (ox : IsOrd n xs) (oy : IsOrd m ys) (h1 : 1 ≤ n) (h2 : n ≤ 12) (h3 : 1 ≤ m) (h4 : m ≤ 12) (e : wrT xs = wrT ys) : xs = ys := by
  have a := split_wr ox h1 h2
  rw [e, split_wr oy h3 h4] at a
  exact map_inj_dec (n := n) (m := m) (fun x hx => ord_nat ox h2 hx) (fun x hx => ord_nat oy h4 hx) a.symm
theorem map_inj_wr {n : Nat} (hn1 : 1 ≤ n) (hn : n ≤ 12) : ∀ {rs ss : List (List Int)}, (∀ r ∈ rs, IsOrd n r) → (∀ r ∈ ss, IsOrd n r) → rs.map wrT = ss.map wrT → rs = ss
  | [], [], _, _, _ => rfl
  | [], _ :: _, _, _, e => by cases e
  | _ :: _, [], _, _, e => by cases e
  | x :: xs, y :: ys, hx, hy, e => by
    have e1 := List.head_eq_of_cons_eq e
    have e2 := List.tail_eq_of_cons_eq e
    rw [wr_inj (hx x List.mem_cons_self) (hy y List.mem_cons_self) hn1 hn hn1 hn e1, map_inj_wr hn1 hn (fun z hz => hx z (List.mem_cons_of_mem _ hz)) (fun z hz => hy z (List.mem_cons_of_mem _ hz)) e2]
theorem wrL_inj {n : Nat} (hn1 : 1 ≤ n) (hn : n ≤ 12) {rs ss : List (List Int)} (o1 : ∀ r ∈ rs, IsOrd n r) (o2 : ∀ r ∈ ss, IsOrd n r) (e : wrL rs = wrL ss) : rs = ss := by
  by_cases c : rs = []
  · by_cases c2 : ss = []
    · rw [c, c2]
    · exfalso
      apply wrL_dash o2 hn c2
      rw [← e, c]
      rfl
  · by_cases c2 : ss = []
    · exfalso
      apply wrL_dash o1 hn c
      rw [e, c2]
      rfl
    · have a := split_wrL o1 hn c
      rw [e, split_wrL o2 hn c2] at a
      exact map_inj_wr hn1 hn o1 o2 a.symm
theorem wrL_one (r : List Int) : wrL [r] = wrT r := by
  unfold wrL
  rw [if_neg (by simp)]
  show Txt.join ", " [wrT r] = wrT r
  rw [join_eq]
  rfl
end Fo
namespace Fo
open PySem PySem.Spec PyProof.Rows L2
/-! lists of orders, asked of anything -/
def OLd (d : PyData) : Prop := ∃ ds, d = .list ds ∧ (∀ x ∈ ds, GoodD x) ∧ ∀ x ∈ ds, ∀ y ∈ ds, lenD x = lenD y
def spOLD : Sp := fun vs H Q _ => ∃ (v : V) (d : PyData), vs = [v] ∧ Dq H v d ∧ (∀ ds, d = .list ds → ds.length ≤ 10000) ∧ ∀ (b : Bool) (H' : Hp), (b = true ↔ OLd d) → Same H H' → Q (.bl b) H'
theorem all_snoc (bs : List Bool) (b : Bool) : (bs ++ [b]).all id = true ↔ bs.all id = true ∧ b = true := by
  rw [List.all_append, Bool.and_eq_true]
  simp
theorem take_all {ds : List PyData} {i : Nat} {d : PyData} (e : ds[i]? = some d) {p : PyData → Prop} : (∀ x ∈ ds.take (i + 1), p x) ↔ (∀ x ∈ ds.take i, p x) ∧ p d := by
  rw [List.take_add_one, e]
  constructor
  · intro h
    exact ⟨fun x m => h x (List.mem_append_left _ m), h d (List.mem_append_right _ List.mem_cons_self)⟩
  · rintro ⟨h1, h2⟩ x m
    rcases List.mem_append.mp m with m | m
    · exact h1 x m
    · rw [List.mem_singleton.mp m]
      exact h2
section
variable {P : Program} {w : World} {K : PySem.W.Frag} {mg : Str → Option Value} {base : Heap}
theorem scOLD : FnScope ["thing", "each", "order"] ["thing"] (defScope s_is_order_list) := ⟨rfl, rfl, rfl, by decide +kernel, rfl, by decide +kernel, by decide +kernel⟩
set_option maxHeartbeats 2000000 in
theorem ok_olD {f f1 : Addr} {fd d1 : FuncData} {k : Nat} (T : Df K mg "is_order_list" s_is_order_list ["thing"] f fd) (T_is_order : Df K mg "is_order" s_is_order ["thing"] f1 d1) (G_is_order : FnOk P w K mg base CX0 k f1 d1 ["thing"] spIsOrdD) (B : Bi mg) : FnOk P w K mg base CX0 (k + 1) f fd ["thing"] spOLD := by
  refine T.F.ok scOLD (fun vs H Q E h => ?_) (fun cdv A outer s H vs Q E hr h => ?_)
  · obtain ⟨v, d, rfl, _⟩ := h
    rfl
  · obtain ⟨v, d, rfl, hd, hlen, q⟩ := h
    refine ⟨_, 
      (pss_cons (ps_if (PW.pt (pw_or (pt_not (pt_val (pe_callB call_isi (by rfl) B.isinstance (by decide +kernel) (pa_cons (pv 0) (pa_cons (pe_bltn (v := .ty "list") (by rfl) B.list (by decide +kernel) rfl) pa_nil))))) (pw_or1 (pt_not (pt_val (pe_callB (cr_all rfl) (by rfl) B.all (by decide +kernel) (pa_cons (pe_lc (own := [("each", 1)]) (g := (gName 1)) (tt := tYes) (te := (tCall spIsOrdD [] E0 (tCons (tVar 1) tNil))) rfl scOLD.nd (pi_list (pv 0)) (blkOk_by (N := ["thing", "each", "order"]) (sc := defScope s_is_order_list) (by decide +kernel)) (fun _ _ _ _ _ => (pg_name (i := 1) scOLD.nd rfl (.inl rfl))) (fun _ _ _ _ _ => pts_nil) (fun _ _ _ _ _ => (pe_call G_is_order hr (by rfl) T_is_order.g T_is_order.F.kp T_is_order.b .nil pass0 (pa_cons (pv 1) pa_nil)))) pa_nil)))))))
        (pss_one (ps_ret pe_bl))
        pss_nil)
      (pss_one (ps_ret (pe_callB (cr_all rfl) (by rfl) B.all (by decide +kernel) (pa_cons (pe_lc (own := [("order", 2)]) (g := (gName 2)) (tt := tYes) (te := (tOp rEq (tCB (rLenS K) (tCons (tVar 2) tNil)) (tCB (rLenS K) (tCons (tOp (rIxL K) (tVar 0) (tC (.int 0))) tNil)))) rfl scOLD.nd (pi_list (pv 0)) (blkOk_by (N := ["thing", "each", "order"]) (sc := defScope s_is_order_list) (by decide +kernel)) (fun _ _ _ _ _ => (pg_name (i := 2) scOLD.nd rfl (.inl rfl))) (fun _ _ _ _ _ => pts_nil) (fun _ _ _ _ _ => (pe_cmpR op_eq (pe_callB call_len_seq (by rfl) B.len PySem.boot_len (pa_cons (pv 2) pa_nil)) (pe_callB call_len_seq (by rfl) B.len PySem.boot_len (pa_cons (pe_ix ix_list (pv 0) pe_int (fun _ _ => rfl)) pa_nil)) (nomark _)))) pa_nil))))), ?_⟩
    refine ⟨_, rfl, _, _, _, _, isListD d, rfl, .ty _, dq_ty hd, kit_listD d, _, rfl, ?_⟩
    cases hl : isListD d with
    | false =>
      refine iteT (iteT (q _ _ ⟨fun z => absurd z Bool.false_ne_true, fun z => ?_⟩ (Same.refl _)))
      obtain ⟨ds, e, _⟩ := z
      rw [e] at hl
      cases hl
    | true =>
      cases hd with
      | @lst a xs ds e al =>
        have hl1 := al.len
        have hl2 := hlen ds rfl
        refine iteF ?_
        refine ⟨_, rfl, a, rfl, ⟨_, SqL.of e⟩, fun p np => ?_⟩
        refine lc_list (K := K) (a := a) (xs := xs) (fun i H3 => (∃ bs : List Bool, H3 p = some (.lst (bs.map V.bl)) ∧ bs.length = i ∧ (bs.all id = true ↔ ∀ x ∈ ds.take i, GoodD x)) ∧ Same H H3) ⟨⟨[], upd_same, rfl, by simp⟩, same_new np⟩ (fun i H3 _ hP => SqL.of (hP.2 _ _ e)) (fun i x H3 hx hP => ?_) (fun H3 hP => ?_)
        · obtain ⟨⟨bs, hp3, hb, hg⟩, sm⟩ := hP
          obtain ⟨d, ed, hd⟩ := al.get hx
          have hi := (List.getElem?_eq_some_iff.mp ed).1
          refine ⟨rfl, _, rfl, x, d, rfl, hd.same sm, fun b H4 hb4 s4 => ⟨_, s4 _ _ hp3, line_lt (by rw [List.length_map]; omega), ⟨bs ++ [b], by rw [upd_same, List.map_append]; rfl, by rw [List.length_append, hb]; rfl, ?_⟩, fun b o eb => ?_⟩⟩
          · rw [all_snoc, hg, hb4, take_all ed]
          · rw [upd_ne (ne_of_none eb np)]
            exact s4 _ _ (sm _ _ eb)
        · obtain ⟨⟨bs, hp3, hb, hg⟩, sm⟩ := hP
          rw [hl1, List.take_length] at hg
          have e3 := sm _ _ e
          refine ⟨p, _, rfl, SqL.of hp3, _, rfl, ?_⟩
          have hno : bs.all id = false → (false = true ↔ OLd (.list ds)) := fun z => ⟨fun y => absurd y Bool.false_ne_true, fun y => by
            obtain ⟨ds', e', g', _⟩ := y
            injection e' with e'
            subst e'
            rw [hg.mpr g'] at z
            exact absurd z (by decide)⟩
          cases ha : bs.all id with
          | false => exact iteT (q _ _ (hno ha) sm)
          | true =>
            have good := hg.mp ha
            refine iteF ?_
            refine ⟨_, rfl, a, rfl, ⟨_, SqL.of e3⟩, fun p2 np2 => ?_⟩
            refine lc_list (K := K) (a := a) (xs := xs) (fun i H5 => (∃ cs : List Bool, H5 p2 = some (.lst (cs.map V.bl)) ∧ cs.length = i ∧ (cs.all id = true ↔ ∀ x ∈ ds.take i, ∀ y, ds[0]? = some y → lenD x = lenD y)) ∧ Same H3 H5) ⟨⟨[], upd_same, rfl, by simp⟩, same_new np2⟩ (fun i H5 _ hP => SqL.of (hP.2 _ _ e3)) (fun i x H5 hx hP => ?_) (fun H5 hP => ?_)
            · obtain ⟨⟨cs, hp5, hc, hg5⟩, sm5⟩ := hP
              have al5 := al.same (sm.trans sm5)
              obtain ⟨d, ed, hd⟩ := al5.get hx
              have hi := (List.getElem?_eq_some_iff.mp ed).1
              have g1 := good d (List.mem_of_getElem? ed)
              obtain ⟨a1, ns1, rfl, h1, o1, _, _, l1⟩ := good_at hd g1
              obtain ⟨x0, ex0⟩ : ∃ x0, xs[0]? = some x0 := ⟨xs[0]'(by omega), List.getElem?_eq_getElem (by omega)⟩
              obtain ⟨d0, ed0, hd0⟩ := al5.get ex0
              obtain ⟨a0, ns0, rfl, h0, o0, _, _, l0⟩ := good_at hd0 (good d0 (List.mem_of_getElem? ed0))
              refine ⟨rfl, _, rfl, a1, _, rfl, .inl (SqL.of h1), _, rfl, a, _, 0, _, rfl, rfl, SqL.of (sm5 _ _ e3), at_of (j := 0) rfl ex0, a0, _, rfl, .inl (SqL.of h0), rfl, ?_⟩
              refine ⟨_, hp5, line_lt (by rw [List.length_map]; omega), ⟨cs ++ [decide (lenD d = lenD d0)], ?_, by rw [List.length_append, hc]; rfl, ?_⟩, fun b o eb => ?_⟩
              · have e1 : decide (V.int (((ns1.map V.int).length : Nat) : Int) = V.int (((ns0.map V.int).length : Nat) : Int)) = decide (lenD d = lenD d0) := by
                  rw [List.length_map, List.length_map, l1, l0, decide_eq_decide]
                  exact ⟨fun z => by injection z with z; omega, fun z => by rw [z]⟩
                rw [upd_same, List.map_append, ← e1]
                rfl
              · rw [all_snoc, hg5, take_all ed, decide_eq_true_iff]
                refine and_congr Iff.rfl ⟨fun z y ey => ?_, fun z => z d0 ed0⟩
                rw [ed0] at ey
                rw [← Option.some.inj ey]
                exact z
              · rw [upd_ne (ne_of_none eb np2)]
                exact sm5 _ _ eb
            · obtain ⟨⟨cs, hp5, hc, hg5⟩, sm5⟩ := hP
              rw [hl1, List.take_length] at hg5
              refine ⟨p2, _, rfl, SqL.of hp5, ?_⟩
              refine q _ _ ?_ (sm.trans sm5)
              rw [hg5]
              constructor
              · intro h
                refine ⟨ds, rfl, good, fun x mx y my => ?_⟩
                cases ds with
                | nil => exact absurd mx List.not_mem_nil
                | cons d0 r => rw [h x mx d0 rfl, h y my d0 rfl]
              · rintro ⟨ds', e', _, h⟩
                injection e' with e'
                subst e'
                exact fun x mx y ey => h x mx y (List.mem_of_getElem? ey)
      | _ => cases hl
end
end Fo
namespace Fo
open PySem PySem.Spec PyProof.Rows L2
/-! a comprehension whose element may raise (out of a call) -/
abbrev blkX (X : Cx) (s : Shared) (H : Hp) (scope : Scope) (cenv : Env) (fp : List Addr) (E : Value → Shared → Prop) : Cx := (X.blk s H scope cenv fp).wish E
section
variable {X : Cx} {pins : List (Addr × Obj)} {σ : L2.St} {H : Hp} {s : Shared}
/-- what a call in the element lets out leaves the def's own frame -/
theorem comp_out {s3 s9 s' : Shared} {H3 H9 : Hp} {scope : Scope} {ce : Env} {fp : List Addr} {E1 : Value → Shared → Prop} {pins9 : List (Addr × Obj)} {σ9 : L2.St} {W : XK} {u : Value}
    (hs : X.stack = X.env :: X.outer) (hfr : X.env.frame = some X.env.locals) (hcf : ce.frame = X.env.frame) (cL : ce.locals = s3.heap.objs.size)
    (I3 : Inv X pins σ H3 s3) (f3 : ∀ b ∈ fp, FpOk X pins H3 b ∧ b < s3.heap.objs.size) (I9 : Inv (blkX X s3 H3 scope ce fp E1) pins9 σ9 H9 s9) (tk : Takes X fun cls d _ H => W cls d H) (c : L2.CX X.prog X.w X.stack H9 s9 W u s') :
    notedBy (model X.prog X.w) X.A ce (CompFails (model X.prog X.w) X.A X.xe ce) u s' := by
  obtain ⟨a, B, H', cls, d, rfl, fl, hok, ub, na, os, ag, hE⟩ := c
  -- the block's names stand in the ground
  obtain ⟨m9, hn9, _⟩ := I9.loc
  have hn9 : s9.heap.Ns ce.locals m9 := hn9
  have hC9 : H9 ce.locals = none := I9.free
  have hCf : ce.locals ∉ frs X.stack := fun hm => by
    rcases List.mem_cons.mp (I3.stkSub _ hm) with z | z
    · exact absurd z (by rw [cL]; exact Nat.ne_of_gt I3.lt)
    · exact (I3.nofs (Nat.le_of_eq cL.symm)) z
  obtain ⟨oC, esC, epC, hoC, hdC, rC⟩ := hn9
  have hCB : B.get? ce.locals = some oC := ub.keep _ _ hoC hC9 hCf
  have hC' : H' ce.locals = none := ub.free _ _ hoC hC9
  have hfrm : X.A.frames = some (X.env :: X.outer) := by rw [I3.ok.frames, hs]
  have hfl : HandSPX.FlyingZ B (X.env :: X.outer) a (Zc cls d) s'.heap := by rw [← hs]; exact fl
  show wpAny _ _ (noteFrame (.ref a) ce) _ _ s'
  rw [noteFrame_env _ hcf]
  refine HandSPX.looks_onZ Zc.steady hfrm hfr hfl fun h1 hh up1 => ?_
  obtain ⟨g1, g2, g3, oe, vs, Tb, oT, ts, he, hz, hd, h1', hnT, hTe, hT, hdT, h3⟩ := hh
  have hC1 : h1.get? ce.locals = some oC := g1 _ _ hCB
  refine ⟨m9, ⟨oC, esC, epC, hC1, hdC, rC⟩, fun h2 m2 hn2 hs2 => ?_⟩
  have aC : a ≠ ce.locals := fun z => by rw [z, hC1] at he; cases he; rw [hdC] at hd; cases hd
  have TC : Tb ≠ ce.locals := fun z => by rw [z, hC1] at hT; cases hT; rw [hdC] at hdT; cases hdT
  -- the ground without them
  let B' := PySem.W.hideAll B [ce.locals]
  have b2 : B'.StaysIn h2 := fun b o e => by
    have e1 := PySem.W.of_hideAll _ e
    have nb : b ≠ ce.locals := fun z => by
      rw [z] at e
      rw [show B'.get? ce.locals = none from PySem.W.hideAll_none _ (List.mem_singleton.mpr rfl)] at e
      cases e
    exact (hs2.2 b nb).trans (g1 b o e1)
  have sub : ∀ b, B.get? b = none → B'.get? b = none := fun b e => by
    cases q : B'.get? b with
    | none => rfl
    | some o => rw [PySem.W.of_hideAll _ q] at e; cases e
  have f2 : h2.FunFrames B' (X.env :: X.outer) := funFrames_none (Heap.FunFrames.sameBut hs2 hn2 g3) fun b hb => sub b (g3.mem hb).1
  have t2 : HandSPX.HeldZ B' (X.env :: X.outer) a (Zc cls d) X.env.locals h2 :=
    ⟨b2, sub a g2, f2, oe, vs, Tb, oT, ts, (hs2.2 a aC).trans he, hz, hd, h1', sub Tb hnT, hTe, (hs2.2 Tb TC).trans hT, hdT, h3⟩
  unfold PySem.passOn
  refine wpAny_bind (wpAny_field ((hs2.2 a aC).trans he) hd h1' ?_)
  rw [if_neg (show ¬ ((Value.ref Tb == Value.none) = true) from by simp), hcf, hfr]
  refine wpAny_bind (HandSPX.setFlight_onZ (s := { s' with heap := h2 }) t2 fun h3' t3 up3 => ?_)
  refine wpAny_throw (tk _ _ ?_)
  -- the def's own state, without the exception
  obtain ⟨G, q1, q2⟩ := restrict s'.heap fun b => (B'.get? b).isSome || decide (b ∈ frs X.stack)
  have st : B.StaysIn s'.heap := fl.1
  have stB : ∀ b o, B'.get? b = some o → s'.heap.get? b = some o := fun b o e => st b o (PySem.W.of_hideAll _ e)
  have gB : ∀ b o, B'.get? b = some o → G.get? b = some o := fun b o e => by
    rw [q1 b (by simp [e])]
    exact stB b o e
  have gF : ∀ b, b ∈ frs X.stack → G.get? b = s'.heap.get? b := fun b hb => q1 b (by simp [hb])
  have og : ∀ b o, G.get? b = some o → s'.heap.get? b = some o ∧ ((B'.get? b).isSome = true ∨ b ∈ frs X.stack) := fun b o e => by
    cases q : ((B'.get? b).isSome || decide (b ∈ frs X.stack)) with
    | false => rw [q2 b q] at e; cases e
    | true =>
      rw [q1 b q] at e
      exact ⟨e, by simpa [Bool.or_eq_true] using q⟩
  have hidB : ∀ b o, B.get? b = some o → b ≠ ce.locals → B'.get? b = some o := fun b o e n => PySem.W.hideAll_get _ e fun m => n (List.mem_singleton.mp m)
  have hokB : HOk X.prog X.w H' B' := fun b o q => (hok b o q).stay (fun c u hc r => hidB c u r fun z => by
    rcases hc with hc | hc
    · rw [z] at hc; rw [← hc, hC'] at q; cases q
    · rw [z, hC'] at hc; cases hc) (fun _ r => r) fun _ _ r => r
  have u1 : Un (frs X.stack) (ce.locals :: fp) H9 H' s9.heap G := by
    refine ⟨fun b o e n hb hx => gB b o (hidB b o (ub.keep b o e n hb) fun z => hx (by rw [z]; exact List.mem_cons_self)), fun b o e n hb hx => ?_, fun b o e n _ => ub.free b o e n, fun b o e hx => ?_, ub.tups, ub.frzs, ub.tbls⟩
    · obtain ⟨sl, q⟩ := ub.slot b o e hb
      exact ⟨sl, by rw [gF b hb]; exact q⟩
    · by_cases hb : b ∈ frs X.stack
      · obtain ⟨sl, q⟩ := ub.slot b o e hb
        exact ⟨_, by rw [gF b hb]; exact q⟩
      · obtain ⟨o', q⟩ := ub.there b o e hb
        exact ⟨o', gB b o' (hidB b o' q fun z => hx (by rw [z]; exact List.mem_cons_self))⟩
  have u0 : Un (frs X.stack) (ce.locals :: fp) H3 H9 s3.heap s9.heap := Un.mono I9.base (fun b hb => hb) fun b hb => List.mem_cons_of_mem _ hb
  have nC3 : H' s3.heap.objs.size = none := by rw [← cL]; exact hC'
  have J := I3.call (g' := s'.gens) (t' := s'.toks) (d' := s'.drawn) (u0.trans u1) (hokB.kept gB) ag fun b hb => by
    rcases List.mem_cons.mp hb with z | hb
    · have := I3.fpOk (Nat.le_refl _) nC3
      rw [z, cL]
      exact ⟨this.2.2.2.1, this.2.1, this.2.2.2.2.1, this.2.2.2.2.2⟩
    · exact ⟨(f3 b hb).1.2.2.2.1, (f3 b hb).1.2.1, (f3 b hb).1.2.2.2.2.1, (f3 b hb).1.2.2.2.2.2⟩
  refine ⟨a, B', _, pins, σ, H', cls, d, rfl, J, fun b o e hb => ?_, fun b o e hnf => ?_, .inr (.inr ?_), na, ?_, ag, hE⟩
  · obtain ⟨e', h⟩ := og b o e
    rcases h with h | h
    · obtain ⟨o', q⟩ := Option.isSome_iff_exists.mp h
      have z := stB b o' q
      rw [e'] at z; cases z
      exact q
    · exact absurd h hb
  · obtain ⟨e', h⟩ := og b o e
    have nb : b ≠ ce.locals := fun z => by
      rcases h with h | h
      · rw [z, show B'.get? ce.locals = none from PySem.W.hideAll_none _ (List.mem_singleton.mpr rfl)] at h
        cases h
      · exact hCf (by rw [← z]; exact h)
    obtain ⟨sl, e1⟩ := up1 b o e' hnf
    have e2 := (hs2.2 b nb).trans e1
    obtain ⟨sl2, e3⟩ := up3 b _ e2 hnf
    exact ⟨sl2, e3⟩
  · rw [hs]
    exact t3
  · show s'.os = s3.os
    rw [os]
    exact I9.os
theorem lc_coreX {Q : VK} {elt tg iter : Expr} {scope : Scope} {own : List (Str × Nat)} {pos pos' : Pos} {wi : TI} {g : TG} {te : TE} {use : Option (Value → Sem Unit)} {Qf : Value → Shared → Prop} {W : XK}
    (hst : X.stack = X.env :: X.outer) (hfr : X.env.frame = some X.env.locals) (tk : Takes X fun cls d _ H => W cls d H)
    (hc : X.calm = true) (hN : X.N.Nodup) (I : Inv X pins σ H s) (hi : PI X tg iter wi) (ok : BlkOk X.N X.env.scope scope own)
    (hg : ∀ (s : Shared) (H : Hp) (C : Addr) (cl : List (Str × Addr)) (fp : List Addr) (E : Value → Shared → Prop), PG (blkX X s H scope (compEnvC scope cl C X.env) fp E) tg g)
    (he : ∀ (s : Shared) (H : Hp) (C : Addr) (cl : List (Str × Addr)) (fp : List Addr) (E : Value → Shared → Prop), (∀ σ', PassesAt (L2.CX X.prog X.w) (blkX X s H scope (compEnvC scope cl C X.env) fp E) σ' W) → PE (blkX X s H scope (compEnvC scope cl C X.env) fp E) elt te) (hs : ∀ x, foldedSetIterable iter X.env x = pure x)
    (h : tLc wi g tYes te (own.map (·.2)) σ H Q)
    (hRR : ∀ D C s' m H', Inv X pins σ H' s' → Q (.ref D) H' → s'.heap.Ns C m → FpOk X pins H' C → compPost (model X.prog X.w) X.A X.xe use Qf (.ref D) C (.ok .next) s') :
    wpAny (model X.prog X.w) X.A (comprehension (.ListComp elt [⟨tg, iter, [], 0⟩] scope pos) scope X.env pos' (newList []) false (eval iter X.env) use) Qf X.xe s := by
  have hfree : ∀ y ∈ scope.names, y.2 = .free → ∃ c, X.env.cells.lookup y.1 = some c := fun y hy e => I.ok.has _ ((ok.free y hy e).elim .inl .inr)
  refine comprehension_at (use := use) rfl hs (closure_ok hfree) ok.kind (fun y hy e => by rw [ok.uniq y hy, e])
    (thn (hi.run pins s σ H _ I h) fun xv s1 hx => thn hx fun itv s2 h2 => ?_)
  obtain ⟨it, fp, tn, J, H2, rfl, I2, T, st2, f2, q⟩ := h2
  refine wpAny_newObj_type (newEnv_comp ?_) (by show 0 ≤ sizeLine; decide)
  generalize hD : s2.heap.objs.size = D
  obtain ⟨W0, ⟨m0, w0⟩, turn⟩ := q D (I2.hok.fresh (Nat.le_of_eq hD))
  generalize hs3 : ({ s2 with heap := s2.heap.push { cls := .type "list", data := .seq ([] : List Value).toArray } } : Shared) = s3
  have h3 : s3.heap = s2.heap.push { cls := .type "list", data := .seq ([] : List Value).toArray } := by rw [← hs3]
  have I3 : Inv X pins σ (upd H2 D (.lst [])) s3 := by
    rw [← hs3]
    exact I2.laid (t' := s2.toks) (fun b o e => Heap.get?_push_of_some _ e) (Nat.le_of_eq hD) ⟨Nat.zero_le _, [], 0, .nil, by rw [← hD]; exact Heap.get?_push_size _ rfl⟩
  have f3 : ∀ b ∈ fp, FpOk X pins (upd H2 D (.lst [])) b ∧ b < s3.heap.objs.size := fun b hb => by
    obtain ⟨o, e, _⟩ := T.obj _ _ st2 b hb
    have hlt := Heap.lt_size e
    exact ⟨⟨by rw [upd_ne (by rw [← hD]; exact Nat.ne_of_lt hlt)]; exact (f2 b hb).1, (f2 b hb).2⟩, by rw [h3, Heap.size_push]; exact Nat.lt_succ_of_lt hlt⟩
  have st3 : tn 0 s3.heap := T.keep _ _ _ st2 fun b _ o e => by rw [h3]; exact Heap.get?_push_of_some _ e
  have I4 := block_start I3 ok hN f3
  have pg := hg s3 (upd H2 D (.lst [])) s3.heap.objs.size (cellsFrom (s3.heap.objs.size + 1) scope.names (cloFrom X.env.cells scope.names [])) fp
  have pe := he s3 (upd H2 D (.lst [])) s3.heap.objs.size (cellsFrom (s3.heap.objs.size + 1) scope.names (cloFrom X.env.cells scope.names [])) fp
  show codeAny _ _ (.compStart (.ListComp elt [⟨tg, iter, [], 0⟩] scope pos) 0 (.ref it) (.ref D) (compEnvC scope (cellsFrom (s3.heap.objs.size + 1) scope.names (cloFrom X.env.cells scope.names [])) s3.heap.objs.size X.env)) (compEnds (model X.prog X.w) X.A X.xe use Qf (.ref D) (compEnvC scope (cellsFrom (s3.heap.objs.size + 1) scope.names (cloFrom X.env.cells scope.names [])) s3.heap.objs.size X.env)) { s3 with heap := pushCells (s3.heap.push { cls := .type "dict", data := .dict #[] }) scope.names }
  have hce : (compEnvC scope (cellsFrom (s3.heap.objs.size + 1) scope.names (cloFrom X.env.cells scope.names [])) s3.heap.objs.size X.env).frame = X.env.frame := rfl
  have cL : (compEnvC scope (cellsFrom (s3.heap.objs.size + 1) scope.names (cloFrom X.env.cells scope.names [])) s3.heap.objs.size X.env).locals = s3.heap.objs.size := rfl
  generalize compEnvC scope (cellsFrom (s3.heap.objs.size + 1) scope.names (cloFrom X.env.cells scope.names [])) s3.heap.objs.size X.env = ce at I4 pg pe hce cL ⊢
  generalize upd H2 D (.lst []) = H3 at I3 I4 pg pe w0 f3
  generalize hs4 : ({ s3 with heap := pushCells (s3.heap.push { cls := .type "dict", data := .dict #[] }) scope.names } : Shared) = s4 at I4 ⊢
  have st4 : tn 0 s4.heap := T.keep _ _ _ st3 fun b _ o e => by rw [← hs4]; exact pushCells_keeps _ _ _ _ (Heap.get?_push_of_some _ e)
  -- what is let out of the block
  obtain ⟨E0, hE0⟩ : ∃ E0 : Value → Shared → Prop, E0 = notedBy (model X.prog X.w) X.A ce fun e s' => compEnds (model X.prog X.w) X.A X.xe use Qf (.ref D) ce (.error e) s' := ⟨_, rfl⟩
  have hE : ∀ σ', PassesAt (L2.CX X.prog X.w) (blkX X s3 H3 scope ce fp E0) σ' W := fun σ' pins9 H9 s9 u s' I9 c => by
    have z := comp_out (W := W) hst hfr hce cL I3 f3 I9 tk c
    show E0 u s'
    rw [hE0]
    cases use with
    | none => exact z
    | some _ => exact z
  have pg := pg E0
  have pe := pe E0 hE
  clear hE
  have I4 : Inv (blkX X s3 H3 scope ce fp E0) [] (wipe σ (own.map (·.2))) H3 s4 := I4.wish E0
  have stat : ∀ {σ' : L2.St} {H' : Hp} {s' : Shared}, Inv (blkX X s3 H3 scope ce fp E0) [] σ' H' s' → (∀ b ∈ fp, H' b = none) → ∀ b ∈ fp, FpOk (blkX X s3 H3 scope ce fp E0) [] H' b := fun {σ' H' s'} I' hn b hb =>
    ⟨hn b hb, (I'.ok.exf b hb).1, I'.ok.exfs b hb, .inl hb, fun x c e => (I'.ok.exf b hb).2 x c e, fun p hp => absurd (show p ∈ ([] : List (Addr × Obj)) ++ [] from hp) (by simp)⟩
  subst hE0
  have loop : codeAny (model X.prog X.w) X.A (.compLoop (.ListComp elt [⟨tg, iter, [], 0⟩] scope pos) 0 (.ref it) (.ref D) ce) (compEnds (model X.prog X.w) X.A X.xe use Qf (.ref D) ce) s4 := by
    refine compLoop_any (fun n s' => ∃ i H', Inv (blkX X s3 H3 scope ce fp (notedBy (model X.prog X.w) X.A ce fun e s' => compEnds (model X.prog X.w) X.A X.xe use Qf (.ref D) ce (.error e) s')) [] (wipe σ (own.map (·.2))) H' s' ∧ tn i s'.heap ∧ (∀ b ∈ fp, H' b = none) ∧ W0 i n H') ?_ m0 ⟨0, H3, I4, st4, fun b hb => (f3 b hb).1.1, w0⟩
    rintro n s5 ⟨i, H5, I5, st5, n5, w5⟩
    rcases turn i n H5 w5 with ⟨stop, qq⟩ | ⟨go, Nx, hNx, step⟩
    · refine thnF (T.done (blkX X s3 H3 scope ce fp _) rfl rfl rfl hc i [] s5 _ H5 (fun _ _ => False) I5 (stat I5 n5) st5 stop) fun r s6 ⟨hr, I6⟩ => ?_
      subst hr
      have I7 : Inv X pins σ H5 s6 := I3.call' (ch := fp) I6.os I6.base I6.hok I6.bare fun b hb => ⟨(f3 b hb).1.2.2.2.1, (f3 b hb).1.2.1, (f3 b hb).1.2.2.2.2.1, (f3 b hb).1.2.2.2.2.2⟩
      have nC : H5 s3.heap.objs.size = none := by rw [← cL]; exact I6.free
      obtain ⟨m, hn, _⟩ := I6.loc
      have hn : s6.heap.Ns ce.locals m := hn
      have z := hRR D ce.locals s6 m H5 I7 qq hn (by rw [cL]; exact I3.fpOk (Nat.le_refl _) nC)
      show compEnds _ _ _ _ _ _ _ _ _
      cases use with
      | none => exact z
      | some _ => exact z
    · refine thnF (T.item (blkX X s3 H3 scope ce fp _) rfl rfl rfl hc i [] s5 _ H5 (fun _ _ => False) I5 (stat I5 n5) st5 go) fun r s6 ⟨u, hr, h6⟩ => ?_
      subst hr
      refine thnF h6 fun _ s7 ⟨x, H7, I7, r7, y7, st7, n7⟩ => ?_
      refine thn (pg.run _ s7 _ H7 x u _ (I7.pinned (stat I7 n7) (T.obj _ _ st7)) r7 (step x H7 y7)) fun _ s8 ⟨σ8, H8, I8, hw8, q8⟩ => ?_
      refine wpAny_tests_nil ?_
      simp only [if_true]
      have q8 : te σ8 H8 fun y H4 => ∃ acc, H4 D = some (.lst acc) ∧ acc.length < sizeLine ∧ Nx (upd H4 D (.lst (acc ++ [y]))) := q8
      refine thn (pe.run _ s8 σ8 H8 _ I8 q8) fun z s10 ⟨yv, H10, I10, r10, acc, hD10, hz10, nx⟩ => ?_
      refine app_ok (X := blkX X s3 H3 scope ce fp _) I10 hD10 hz10 r10 fun s' I' => ?_
      obtain ⟨m', hm, w'⟩ := hNx _ nx
      have pin' : ∀ b ∈ fp, ∀ o, s7.heap.get? b = some o → s'.heap.get? b = some o ∧ (upd H10 D (.lst (acc ++ [yv]))) b = none := fun b hb o e =>
        let z := I'.pin (b, o) (List.mem_append_right _ (List.mem_append_right _ (mem_pinsAt hb e)))
        ⟨z.1, z.2.1⟩
      have hl : (wipe σ (own.map (·.2))).length = σ8.length := by rw [← hw8, wipe_length]
      refine ⟨m', hm, i + 1, _, (I'.unpinned (pins := [])).weak hl (fun j v e => ?_), T.keep _ _ _ st7 fun b hb o e => (pin' b hb o e).1, fun b hb => ?_, w'⟩
      · rw [← hw8] at e
        exact (wipe_some e).1
      · obtain ⟨o, e, _⟩ := T.obj _ _ st7 b hb
        exact (pin' b hb o e).2
  exact codeAny_compStart_list loop (T.self X.A 0 _ _ _ st4 loop)
/-- name = [..] whose element may raise -/
theorem ps_setLcX {i : Nat} {y : Str} {py : Pos} {elt tg iter : Expr} {scope : Scope} {own : List (Str × Nat)} {pos spos : Pos} {wi : TI} {g : TG} {te : TE} {W : XK}
    (hst : X.stack = X.env :: X.outer) (hfr : X.env.frame = some X.env.locals) (tk : Takes X fun cls d _ H => W cls d H)
    (hc : X.calm = true) (hN : X.N.Nodup) (hy : X.N[i]? = some y) (hyl : X.env.scope.names.lookup y = some .local)
    (hsw : swapsWith (.ListComp elt [⟨tg, iter, [], 0⟩] scope pos) (some (.Name y py)) spos.line X.env = pure true) (hi : PI X tg iter wi) (ok : BlkOk X.N X.env.scope scope own)
    (hg : ∀ (s : Shared) (H : Hp) (C : Addr) (cl : List (Str × Addr)) (fp : List Addr) (E : Value → Shared → Prop), PG (blkX X s H scope (compEnvC scope cl C X.env) fp E) tg g)
    (he : ∀ (s : Shared) (H : Hp) (C : Addr) (cl : List (Str × Addr)) (fp : List Addr) (E : Value → Shared → Prop), (∀ σ', PassesAt (L2.CX X.prog X.w) (blkX X s H scope (compEnvC scope cl C X.env) fp E) σ' W) → PE (blkX X s H scope (compEnvC scope cl C X.env) fp E) elt te) (hs : ∀ x, foldedSetIterable iter X.env x = pure x := by intro _; rfl) :
    PS X (.Assign [.Name y py] (.ListComp elt [⟨tg, iter, [], 0⟩] scope pos) spos) (tAsg (tLc wi g tYes te (own.map (·.2))) (gName i)) := by
  refine ⟨fun pins s σ H D I h => ?_⟩
  rw [exec_Assign_Name_used _ _ _ _ hsw]
  refine wpAny_bind (wpAny_standAt (wpAny_bind ?_))
  have h : tLc wi g tYes te (own.map (·.2)) σ H (fun x H1 => gName i x σ H1 D.nx) := h
  refine wpAny_bind (thn (lc_coreX (Qf := fun _ s' => SP X pins D .next s') hst hfr tk hc hN I hi ok hg he hs h fun L C s' m H' I' q hn f => ?_) fun _ s' hq => wpAny_pure (wpAny_pure hq))
  show wpAny _ _ (assign (.Name y py) X.env (.ref L)) _ _ _
  refine wpAny_assign_Name (store_ok2 (v := V.ref L) I' hN hy (.inl hyl) rfl (fun s2 I2 ⟨a, sb, ha⟩ => ?_) (.inr hyl))
  obtain ⟨f0, f1, f2, f3, f4, f5⟩ := f
  have haC : C ≠ a := ha.elim (fun z => by rw [z]; exact f1) (fun z e => f4 y a z e.symm)
  exact ⟨m, hn.sameBut sb haC, fun h3 sb3 => ⟨_, H', I2.turned (t' := s2.toks) (fun b o hb e => (sb3.2 b hb).trans e) f0 f1 f3 f4 f5, q⟩⟩
end
end Fo
namespace Fo
open PySem PySem.Spec PyProof.Rows L2 TL
/-! what is no text of orders is refused -/
abbrev rStrI : List V → Hp → VK → Prop := fun xs H Q => ∃ i, xs = [.int i] ∧ i.natAbs.log2 < 1920 ∧ Q (.str (toString i)) H
theorem str_at_inv {ys : List Str} {i : Nat} {v : V} (h : (ys.map V.str)[i]? = some v) : ∃ x, ys[i]? = some x ∧ v = V.str x := by
  rw [List.getElem?_map] at h
  cases e : ys[i]? with
  | none => rw [e] at h; cases h
  | some x => rw [e] at h; exact ⟨x, rfl, (Option.some.inj h).symm⟩
theorem log_small {x : Int} (h0 : 0 ≤ x) (h1 : x < 12) : x.natAbs.log2 < 1920 := by
  have : x.natAbs < 12 := by omega
  have h2 : ∀ k < 12, Nat.log2 k < 1920 := by decide +kernel
  exact h2 _ this
/-- the number that a word writes, or none -/
def numP (w : Str) : Option Nat := (List.range 12).find? fun k : Nat => decide (w = decT (k : Int))
def optV : Option Nat → V
  | none => .non
  | some k => .int k
def optD : Option Nat → PyData
  | none => .none
  | some k => .int k
def spNumD : Sp := fun vs H Q _ => ∃ (w : Str), vs = [.str w, .int 12] ∧ Q (optV (numP w)) H
def spTxtX (cT : Addr) : Sp := fun vs H Q E => ∃ (v : V) (d : PyData), vs = [v] ∧ Dq H v d ∧ (isStrD d = true → Q .non H) ∧ (isStrD d = false → ∀ H', Same H H' → E (.ref cT) none H')
/-- the order that a text writes -/
def RdP (s : Str) (xs : List Int) : Prop := (Txt.split s " ").map (fun w => optD (numP w)) = xs.map PyData.int ∧ IsOrd xs.length xs ∧ 1 ≤ xs.length ∧ xs.length ≤ 12
def RdD (d : PyData) (xs : List Int) : Prop := ∃ s, d = .str s ∧ RdP s xs
def ShortT (d : PyData) : Prop := ∀ s, d = .str s → s.length ≤ 1000000
def spReadX (cT : Addr) : Sp := fun vs H Q E => ∃ (v : V) (d : PyData), vs = [v] ∧ Dq H v d ∧ ShortT d ∧ (∀ xs, RdD d xs → ∀ (l : Addr) (H' : Hp), H l = none → H' l = some (.lst (xs.map V.int)) → Same H H' → Q (.ref l) H') ∧
  ((¬ ∃ xs, RdD d xs) → ∀ H', Same H H' → E (.ref cT) none H')
def RdL (s : Str) (rs : List (List Int)) : Prop := (s = "-" ∧ rs = []) ∨ (s ≠ "-" ∧ Paired RdP (Txt.split s ", ") rs ∧ ∀ x ∈ rs, ∀ y ∈ rs, x.length = y.length)
def ShortL (d : PyData) : Prop := ∀ s, d = .str s → s.length ≤ 9000
def spReadsX (cT : Addr) : Sp := fun vs H Q E => ∃ (v : V) (d : PyData), vs = [v] ∧ Dq H v d ∧ ShortL d ∧ (∀ s rs, d = .str s → RdL s rs → ∀ (l : Addr) (as : List Addr) (H' : Hp), H l = none → H' l = some (.lst (as.map V.ref)) → LL H' as rs → Same H H' → Q (.ref l) H') ∧
  ((¬ ∃ s rs, d = .str s ∧ RdL s rs) → ∀ H', Same H H' → E (.ref cT) none H')
theorem joinL_len {S : List Nat} : ∀ {ps : List (List Nat)}, ps ≠ [] → (joinL S ps).length + S.length = (ps.map List.length).sum + ps.length * S.length
  | [], h => absurd rfl h
  | [p], _ => by
    show p.length + S.length = (p.length + 0) + 1 * S.length
    omega
  | p :: q :: r, _ => by
    have ih := joinL_len (S := S) (ps := q :: r) (by simp)
    show (p ++ (S ++ joinL S (q :: r))).length + S.length = (p.length + ((q :: r).map List.length).sum) + ((q :: r).length + 1) * S.length
    rw [List.length_append, List.length_append, Nat.add_mul]
    omega
theorem le_sum78 {l : List Nat} {x : Nat} (h : x ∈ l) : x ≤ l.sum := by
  induction l with
  | nil => cases h
  | cons y l ih =>
    rw [List.sum_cons]
    rcases List.mem_cons.mp h with rfl | h
    · omega
    · have := ih h
      omega
/-- the parts of a text are no longer, all told, than the text -/
theorem split_sum (x y : Str) : ((Txt.split x y).map (·.length)).sum + (Txt.split x y).length * y.length ≤ x.length + y.length := by
  by_cases c : Txt.split x y = []
  · rw [c]
    simp
  · have h1 := StrLaws.join_split x y
    have h2 : tl x = joinL (tl y) ((Txt.split x y).map tl) := by
      rw [← tl_join, h1]
    have h3 := joinL_len (S := tl y) (ps := (Txt.split x y).map tl) (by simpa using c)
    rw [← h2, List.map_map, List.length_map] at h3
    have h4 : (Txt.split x y).map (List.length ∘ tl) = (Txt.split x y).map (·.length) := List.map_congr_left fun z _ => (len_tl' z).symm
    rw [h4, ← len_tl' x, ← len_tl' y] at h3
    omega
theorem split_len {x y : Str} (hy : 1 ≤ y.length) : (Txt.split x y).length ≤ x.length + y.length := by
  have h := split_sum x y
  have h2 : (Txt.split x y).length * 1 ≤ (Txt.split x y).length * y.length := Nat.mul_le_mul (Nat.le_refl _) hy
  omega
theorem part_len {x y p : Str} (h : p ∈ Txt.split x y) : p.length ≤ x.length + y.length := by
  have h1 := split_sum x y
  have h2 : p.length ≤ ((Txt.split x y).map (·.length)).sum := le_sum78 (List.mem_map.mpr ⟨p, h, rfl⟩)
  omega
theorem dq_opt {H : Hp} : ∀ ws : List Str, DqAll H (ws.map fun w => optV (numP w)) (ws.map fun w => optD (numP w))
  | [] => .nil
  | w :: ws => .cons (by
      show Dq H (optV (numP w)) (optD (numP w))
      cases numP w with
      | none => exact .non
      | some k => exact .int _) (dq_opt ws)
theorem opt_good {ws : List Str} : GoodD (.list (ws.map fun w => optD (numP w))) ↔ ∃ xs : List Int, ws.map (fun w => optD (numP w)) = xs.map PyData.int ∧ IsOrd xs.length xs ∧ 1 ≤ xs.length ∧ xs.length ≤ 12 := by
  constructor
  · rintro ⟨ns, e, h⟩
    exact ⟨ns, PyData.list.inj e, h⟩
  · rintro ⟨ns, e, h⟩
    exact ⟨ns, by rw [e], h⟩
theorem opt_vals {ws : List Str} {xs : List Int} (h : ws.map (fun w => optD (numP w)) = xs.map PyData.int) : ws.map (fun w => optV (numP w)) = xs.map V.int := by
  induction ws generalizing xs with
  | nil =>
    cases xs with
    | nil => rfl
    | cons x xs => cases h
  | cons w ws ih =>
    cases xs with
    | nil => cases h
    | cons x xs =>
      rw [List.map_cons, List.map_cons] at h
      injection h with h1 h2
      rw [List.map_cons, List.map_cons, ih h2]
      congr 1
      cases e : numP w with
      | none => rw [e] at h1; cases h1
      | some k =>
        rw [e] at h1
        have : (k : Int) = x := PyData.int.inj h1
        rw [← this]
        rfl
theorem dq_ints78 {H : Hp} : ∀ xs : List Int, DqAll H (xs.map V.int) (xs.map PyData.int)
  | [] => .nil
  | _ :: xs => .cons (.int _) (dq_ints78 xs)
theorem dq_LL {H : Hp} : ∀ {as : List Addr} {rs : List (List Int)}, LL H as rs → DqAll H (as.map V.ref) (rs.map dL)
  | [], [], _ => .nil
  | [], _ :: _, h => h.elim
  | _ :: _, [], h => h.elim
  | _ :: _, r :: _, h => .cons (.lst h.1 (dq_ints78 r)) (dq_LL h.2)
theorem rd_one {s : Str} {a b : List Int} (ha : RdP s a) (hb : RdP s b) : a = b := by
  have h := ha.1.symm.trans hb.1
  have inj : ∀ {x y : List Int}, x.map PyData.int = y.map PyData.int → x = y := fun {x} => by
    induction x with
    | nil => intro y e; cases y with
      | nil => rfl
      | cons _ _ => cases e
    | cons u x ih => intro y e; cases y with
      | nil => cases e
      | cons v y =>
        rw [List.map_cons, List.map_cons] at e
        injection e with e1 e2
        rw [PyData.int.inj e1, ih e2]
  exact inj h
theorem rd_det : ∀ {ws : List Str} {rs ss : List (List Int)}, Paired RdP ws rs → Paired RdP ws ss → rs = ss
  | [], _, _, .nil, .nil => rfl
  | _ :: _, _, _, .cons a h, .cons b g => by rw [rd_one a b, rd_det h g]
theorem rd_good : ∀ {ws : List Str} {rs : List (List Int)}, Paired RdP ws rs → ∀ r ∈ rs, IsOrd r.length r ∧ 1 ≤ r.length ∧ r.length ≤ 12
  | [], _, .nil, _, m => by cases m
  | _ :: _, _, .cons a h, r, m => by
    rcases List.mem_cons.mp m with rfl | m
    · exact a.2
    · exact rd_good h r m
theorem old_rd {ws : List Str} {rs : List (List Int)} (h : Paired RdP ws rs) : OLd (.list (rs.map dL)) ↔ ∀ x ∈ rs, ∀ y ∈ rs, x.length = y.length := by
  constructor
  · rintro ⟨ds, e, _, hl⟩ x mx y my
    have e := PyData.list.inj e
    have h1 := hl (dL x) (by rw [← e]; exact List.mem_map.mpr ⟨x, mx, rfl⟩) (dL y) (by rw [← e]; exact List.mem_map.mpr ⟨y, my, rfl⟩)
    have h1 : (x.map PyData.int).length = (y.map PyData.int).length := h1
    rw [List.length_map, List.length_map] at h1
    exact h1
  · intro hl
    refine ⟨_, rfl, fun d m => ?_, fun d m e n => ?_⟩
    · obtain ⟨r, mr, rfl⟩ := List.mem_map.mp m
      exact ⟨r, rfl, rd_good h r mr⟩
    · obtain ⟨r, mr, rfl⟩ := List.mem_map.mp m
      obtain ⟨q, mq, rfl⟩ := List.mem_map.mp n
      show (r.map PyData.int).length = (q.map PyData.int).length
      rw [List.length_map, List.length_map]
      exact hl r mr q mq
section
variable {P : Program} {w : World} {K : PySem.W.Frag} {mg : Str → Option Value} {base : Heap}
theorem scTxtX : FnScope ["thing"] ["thing"] (defScope s_check_text) := ⟨rfl, rfl, rfl, by decide +kernel, rfl, by decide +kernel, by decide +kernel⟩
theorem ok_txtX {f cT : Addr} {fd : FuncData} {k : Nat} (T : Df K mg "check_text" s_check_text ["thing"] f fd) (X_NoText : ExK K mg "NoText" cT) (B : Bi mg) : FnOk P w K mg base (L2.CX P w) (k + 1) f fd ["thing"] (spTxtX cT) := by
  refine T.F.okX scTxtX (fun vs H Q E h => ?_) (fun cdv A outer s H vs Q E hr h => ?_)
  · obtain ⟨v, d, rfl, _⟩ := h
    rfl
  · obtain ⟨v, d, rfl, hd, q1, q2⟩ := h
    refine ⟨_, 
      (pss_one (ps_if (pt_not (pt_val (pe_callB call_isi (by rfl) B.isinstance (by decide +kernel) (pa_cons (pv 0) (pa_cons (pe_bltn (v := .ty "str") (by rfl) B.str (by decide +kernel) rfl) pa_nil)))))
        (pss_one (ps_raiseK rfl (takes_of rfl rfl rfl rfl) X_NoText (by rfl)))
        pss_nil)), ?_⟩
    refine ⟨_, rfl, _, _, _, _, isStrD d, rfl, .ty _, dq_ty hd, kit_strD d, _, rfl, ?_⟩
    cases h : isStrD d with
    | true => exact iteF (q1 h)
    | false => exact iteT (q2 h _ (Same.refl H))
theorem scNumD : FnScope ["word", "many", "number"] ["word", "many"] (defScope s_number_in) := ⟨rfl, rfl, rfl, by decide +kernel, rfl, by decide +kernel, by decide +kernel⟩
set_option maxHeartbeats 2000000 in
theorem ok_numD {f : Addr} {fd : FuncData} {k : Nat} (T : Df K mg "number_in" s_number_in ["word", "many"] f fd) (B : Bi mg) : FnOk P w K mg base CX0 (k + 1) f fd ["word", "many"] spNumD := by
  refine T.F.ok scNumD (fun vs H Q E h => ?_) (fun cdv A outer s H vs Q E hr h => ?_)
  · obtain ⟨x, rfl, _⟩ := h
    rfl
  · obtain ⟨x, rfl, q⟩ := h
    refine ⟨_, 
      (pss_cons (ps_for PassesOwn.never rfl (pi_range1 (by rfl) B.range (pa_cons (pv 1) pa_nil)) (pg_name (i := 2) scNumD.nd rfl (.inl rfl))
        (pss_one (ps_if (pt_cmpR op_eq (pv 0) (pe_callTy call_str_int (by rfl) B.str (by decide +kernel) (pa_cons (pv 2) pa_nil)) (nomark _))
          (pss_one (ps_ret (pv 2)))
          pss_nil)))
      (pss_one (ps_ret pe_non))), ?_⟩
    refine ⟨_, rfl, 12, rfl, by omega, by omega, ?_⟩
    refine for_range (n := 12) (fun i σ H3 => ∃ y : Option V, σ = [some (.str x), some (.int 12), y] ∧ ((List.range i).find? fun k : Nat => decide (x = decT (k : Int))) = none ∧ H3 = H) ⟨_, rfl, rfl, rfl⟩ (fun i σ H3 hi hP => ?_) (fun σ H3 hP => ?_)
    · obtain ⟨y, rfl, hno, rfl⟩ := hP
      rw [show (0 : Int) + (i : Int) = (i : Int) by omega]
      refine ⟨_, rfl, _, rfl, (i : Int), rfl, log_small (by omega) (by omega), rfl, _, rfl, ite2 (fun c => ?_) (fun c => ?_)⟩
      · have z : V.str x = V.str (decT i) := of_decide_eq_true c
        have e : numP x = some i := by
          unfold numP
          rw [List.find?_range_eq_some]
          refine ⟨decide_eq_true (V.str.inj z), List.mem_range.mpr hi, fun j hj => ?_⟩
          have := List.find?_eq_none.mp hno j (List.mem_range.mpr hj)
          simpa using this
        rw [e] at q
        exact ⟨_, rfl, q⟩
      · refine ⟨_, rfl, ?_, rfl⟩
        have hne : ¬ x = decT i := fun e => c (decide_eq_true (by rw [e]))
        rw [List.range_succ, List.find?_append, hno, List.find?_cons, decide_eq_false hne]
        rfl
    · obtain ⟨y, rfl, hno, rfl⟩ := hP
      have e : numP x = none := hno
      rw [e] at q
      exact q
theorem scReadX : FnScope ["text", "order", "word"] ["text"] (defScope s_read_order) := ⟨rfl, rfl, rfl, by decide +kernel, rfl, by decide +kernel, by decide +kernel⟩
set_option pp.maxSteps 200000 in
set_option maxHeartbeats 2000000 in
theorem ok_readX {f f1 f2 f3 cT : Addr} {fd d1 d2 d3 : FuncData} {k : Nat} {t : Tok} (T : Df K mg "read_order" s_read_order ["text"] f fd) (T_check_text : Df K mg "check_text" s_check_text ["thing"] f1 d1) (T_number_in : Df K mg "number_in" s_number_in ["word", "many"] f2 d2) (T_is_order : Df K mg "is_order" s_is_order ["thing"] f3 d3) (G_check_text : FnOk P w K mg base (L2.CX P w) k f1 d1 ["thing"] (spTxtX cT)) (G_number_in : FnOk P w K mg base CX0 k f2 d2 ["word", "many"] spNumD) (G_is_order : FnOk P w K mg base CX0 k f3 d3 ["thing"] spIsOrdD) (X_NoText : ExK K mg "NoText" cT) (mM : mg "MOST_THINGS" = some (.int 12 t)) : FnOk P w K mg base (L2.CX P w) (k + 1) f fd ["text"] (spReadX cT) := by
  refine T.F.okX scReadX (fun vs H Q E h => ?_) (fun cdv A outer s H vs Q E hr h => ?_)
  · obtain ⟨v, d, rfl, _⟩ := h
    rfl
  · obtain ⟨v, d, rfl, hd, hsh, q1, q2⟩ := h
    refine ⟨_, 
      (pss_cons (ps_expr (pe_callS G_check_text hr (by rfl) T_check_text.g T_check_text.F.kp T_check_text.b (fun σ => passAt (takes_of rfl rfl rfl rfl) σ) (pa_cons (pv 0) pa_nil)))
      (pss_cons (ps_setLc (i := 1) (own := [("word", 2)]) (g := (gName 2)) (tt := tYes) (te := (tCall spNumD [] E0 (tCons (tVar 2) (tCons (tC (.int 12)) tNil)))) (by rfl) scReadX.nd rfl rfl (sw_true rfl rfl rfl (by decide +kernel)) (pi_list (pe_split (pv 0) pe_str)) (blkOk_by (N := ["text", "order", "word"]) (sc := defScope s_read_order) (by decide +kernel)) (fun _ _ _ _ _ => (pg_name (i := 2) scReadX.nd rfl (.inl rfl))) (fun _ _ _ _ _ => pts_nil) (fun _ _ _ _ _ => (pe_call G_number_in hr (by rfl) T_number_in.g T_number_in.F.kp T_number_in.b .nil pass0 (pa_cons (pv 2) (pa_cons (pe_glob (v := .int 12) (by rfl) mM ⟨_, rfl⟩) pa_nil)))))
      (pss_cons (ps_if (pt_not (pt_val (pe_call G_is_order hr (by rfl) T_is_order.g T_is_order.F.kp T_is_order.b .nil pass0 (pa_cons (pv 1) pa_nil))))
        (pss_one (ps_raiseK rfl (takes_of rfl rfl rfl rfl) X_NoText (by rfl)))
        pss_nil)
      (pss_one (ps_ret (pv 1)))))), ?_⟩
    refine ⟨_, rfl, v, d, rfl, hd, fun hs => ?_, fun hs H1 s1 => ?_⟩
    · cases d with
      | str x =>
        cases hd
        have hx := hsh x rfl
        refine ⟨_, rfl, ⟨_, rfl⟩, _, _, rfl, rfl, by decide +kernel, line_small (by omega), fun p np => ?_⟩
        have hwl := split_len (x := x) (y := " ") (by decide)
        have e1 : (" " : Str).length = 1 := by decide
        have hRd : (¬ ∃ xs, RdP x xs) ∨ ∃ xs, RdP x xs := (Classical.em _).symm
        unfold RdP at hRd
        generalize eW : Txt.split x " " = ws at hwl hRd ⊢
        have sp := same_new (o := .lst (ws.map V.str)) np
        have hp : (upd H p (.lst (ws.map V.str))) p = _ := upd_same
        generalize upd H p (.lst (ws.map V.str)) = H1 at sp hp ⊢
        refine ⟨p, rfl, ⟨_, SqL.of hp⟩, fun D nD => ?_⟩
        refine lc_list (K := K) (a := p) (xs := ws.map V.str) (fun i H3 => H3 D = some (.lst ((ws.take i).map fun w => optV (numP w))) ∧ Same H1 H3) ⟨upd_same, same_new nD⟩ (fun i H3 _ hP => SqL.of (hP.2 _ _ hp)) (fun i y H3 hy hP => ?_) (fun H3 hP => ?_)
        · obtain ⟨z, ez, rfl⟩ := str_at_inv hy
          obtain ⟨hD3, sm⟩ := hP
          have hi := (List.getElem?_eq_some_iff.mp ez).1
          refine ⟨rfl, _, rfl, z, rfl, _, hD3, line_lt (by rw [List.length_map, List.length_take]; omega), ?_, fun b o e => ?_⟩
          · rw [upd_same, List.take_add_one, ez, List.map_append]
            rfl
          · rw [upd_ne (ne_of_none e nD)]
            exact sm _ _ e
        · obtain ⟨hD3, sm⟩ := hP
          rw [List.length_map, List.take_length] at hD3
          refine ⟨_, rfl, .ref D, _, rfl, .lst hD3 (dq_opt ws), fun b H4 hb s4 => ⟨_, rfl, ?_⟩⟩
          rw [opt_good] at hb
          cases b with
          | true =>
            obtain ⟨xs, h1, h2⟩ := hb.mp rfl
            refine iteF ⟨_, rfl, q1 xs ⟨x, rfl, by rw [eW]; exact h1, h2⟩ D H4 (sp.free nD) ?_ ((sp.trans sm).trans s4)⟩
            have := s4 _ _ hD3
            rw [opt_vals h1] at this
            exact this
          | false =>
            refine iteT (q2 (fun ⟨xs, z, ez, h1, h2⟩ => ?_) _ ((sp.trans sm).trans s4))
            cases ez
            rw [eW] at h1
            exact absurd (hb.mpr ⟨xs, h1, h2⟩) Bool.false_ne_true
      | _ => cases hs
    · exact q2 (fun ⟨xs, z, ez, _⟩ => by rw [ez] at hs; cases hs) _ s1
theorem scReadsX : FnScope ["text", "orders", "part"] ["text"] (defScope s_read_orders) := ⟨rfl, rfl, rfl, by decide +kernel, rfl, by decide +kernel, by decide +kernel⟩
set_option pp.maxSteps 200000 in
set_option maxHeartbeats 2000000 in
theorem ok_readsX {f f1 f2 f3 cT : Addr} {fd d1 d2 d3 : FuncData} {k : Nat} {t : Tok} (T : Df K mg "read_orders" s_read_orders ["text"] f fd) (T_check_text : Df K mg "check_text" s_check_text ["thing"] f1 d1) (T_read_order : Df K mg "read_order" s_read_order ["text"] f2 d2) (T_is_order_list : Df K mg "is_order_list" s_is_order_list ["thing"] f3 d3) (G_check_text : FnOk P w K mg base (L2.CX P w) k f1 d1 ["thing"] (spTxtX cT)) (G_read_order : FnOk P w K mg base (L2.CX P w) k f2 d2 ["text"] (spReadX cT)) (G_is_order_list : FnOk P w K mg base CX0 k f3 d3 ["thing"] spOLD) (X_NoText : ExK K mg "NoText" cT) (mN : mg "NO_ORDERS" = some (.str "-" t)) : FnOk P w K mg base (L2.CX P w) (k + 1) f fd ["text"] (spReadsX cT) := by
  refine T.F.okX scReadsX (fun vs H Q E h => ?_) (fun cdv A outer s H vs Q E hr h => ?_)
  · obtain ⟨v, d, rfl, _⟩ := h
    rfl
  · obtain ⟨v, d, rfl, hd, hsh, q1, q2⟩ := h
    refine ⟨_, 
      (pss_cons (ps_expr (pe_callS G_check_text hr (by rfl) T_check_text.g T_check_text.F.kp T_check_text.b (fun σ => passAt (takes_of rfl rfl rfl rfl) σ) (pa_cons (pv 0) pa_nil)))
      (pss_cons (ps_if (pt_cmpR op_eq (pv 0) (pe_glob (v := .str "-") (by rfl) mN ⟨_, rfl⟩) (nomark _))
        (pss_one (ps_ret (pe_lst pa_nil)))
        pss_nil)
      (pss_cons (ps_setLcX (W := E) (i := 1) (own := [("part", 2)]) (g := (gName 2)) (te := _) rfl rfl (takes_of rfl rfl rfl rfl) (by rfl) scReadsX.nd rfl rfl (sw_true rfl rfl rfl (by decide +kernel)) (pi_list (pe_split (pv 0) pe_str)) (blkOk_by (N := ["text", "orders", "part"]) (sc := defScope s_read_orders) (by decide +kernel)) (fun _ _ _ _ _ _ => (pg_name (i := 2) scReadsX.nd rfl (.inl rfl))) (fun _ _ _ _ _ _ hx => (pe_callS G_read_order hr (by rfl) T_read_order.g T_read_order.F.kp T_read_order.b hx (pa_cons (pv 2) pa_nil))))
      (pss_cons (ps_if (pt_not (pt_val (pe_call G_is_order_list hr (by rfl) T_is_order_list.g T_is_order_list.F.kp T_is_order_list.b .nil pass0 (pa_cons (pv 1) pa_nil))))
        (pss_one (ps_raiseK rfl (takes_of rfl rfl rfl rfl) X_NoText (by rfl)))
        pss_nil)
      (pss_one (ps_ret (pv 1))))))), ?_⟩
    refine ⟨_, rfl, v, d, rfl, hd, fun hs => ?_, fun hs H1 s1 => ?_⟩
    · cases d with
      | str x =>
        cases hd
        have hx := hsh x rfl
        refine ⟨_, rfl, rfl, _, rfl, ite2 (fun c => ?_) (fun c => ?_)⟩
        · have ex : x = "-" := V.str.inj (of_decide_eq_true c)
          refine ⟨line_small (by show 0 ≤ 16777216; decide), fun l nl => q1 x [] rfl (.inl ⟨ex, rfl⟩) l [] _ nl upd_same trivial (same_new nl)⟩
        have hne : x ≠ "-" := fun z => c (decide_eq_true (by rw [z]))
        refine ⟨_, rfl, ⟨_, rfl⟩, _, _, rfl, rfl, by decide +kernel, line_small (by omega), fun p np => ?_⟩
        have hwl := split_len (x := x) (y := ", ") (by decide)
        have hpl : ∀ z ∈ Txt.split x ", ", z.length ≤ x.length + 2 := fun z m => part_len m
        have e1 : (", " : Str).length = 2 := by decide
        have q1' : ∀ rs, Paired RdP (Txt.split x ", ") rs → (∀ r ∈ rs, ∀ y ∈ rs, r.length = y.length) → ∀ (l : Addr) (as : List Addr) (H' : Hp), H l = none → H' l = some (.lst (as.map V.ref)) → LL H' as rs → Same H H' → Q (.ref l) H' := fun rs hp he => q1 x rs rfl (.inr ⟨hne, hp, he⟩)
        have q2' : (¬ ∃ rs, Paired RdP (Txt.split x ", ") rs ∧ ∀ r ∈ rs, ∀ y ∈ rs, r.length = y.length) → ∀ H', Same H H' → E (.ref cT) none H' := fun hno => q2 (fun ⟨s, rs, es, hr⟩ => by
          cases es
          rcases hr with ⟨h1, _⟩ | ⟨_, h2, h3⟩
          · exact hne h1
          · exact hno ⟨rs, h2, h3⟩)
        clear q1 q2
        generalize Txt.split x ", " = ws at hwl hpl q1' q2' ⊢
        have sp := same_new (o := .lst (ws.map V.str)) np
        have hp : (upd H p (.lst (ws.map V.str))) p = _ := upd_same
        generalize upd H p (.lst (ws.map V.str)) = H1 at sp hp ⊢
        refine ⟨p, rfl, ⟨_, SqL.of hp⟩, fun D nD => ?_⟩
        refine lc_list (K := K) (a := p) (xs := ws.map V.str) (fun i G => ∃ (as : List Addr) (rs : List (List Int)), G D = some (.lst (as.map V.ref)) ∧ LL G as rs ∧ Paired RdP (ws.take i) rs ∧ (∀ b ∈ as, b ≠ D) ∧ Same H1 G) ⟨[], [], upd_same, trivial, .nil, (fun b m => by cases m), same_new nD⟩ (fun i G _ hP => by obtain ⟨_, _, _, _, _, _, s⟩ := hP; exact SqL.of (s _ _ hp)) (fun i y G hy hP => ?_) (fun G hP => ?_)
        · obtain ⟨z, ez, rfl⟩ := str_at_inv hy
          obtain ⟨as, rs, hD, hL, hR, hn, sm⟩ := hP
          have hi := (List.getElem?_eq_some_iff.mp ez).1
          have hzl := hpl z (List.mem_of_getElem? ez)
          refine ⟨rfl, _, rfl, .str z, .str z, rfl, .str z, (fun s e => by cases e; omega), fun xs hxs l G2 nl hl s2 => ?_, fun hno G2 s2 => ?_⟩
          · obtain ⟨s', es', hxs⟩ := hxs
            cases es'
            have hal : as.length ≤ i := by
              have h1 := hL.len
              have h2 := Paired.length hR
              rw [List.length_take] at h2
              omega
            have nlD : l ≠ D := fun z => by rw [z, hD] at nl; cases nl
            refine ⟨_, s2 _ _ hD, line_lt (by rw [List.length_map]; omega), as ++ [l], rs ++ [xs], by rw [upd_same, List.map_append]; rfl, LL.snoc ((hL.same s2).keep fun b mb o e => by rw [upd_ne (hn b mb)]; exact e) (by rw [upd_ne nlD]; exact hl), ?_, fun b mb => ?_, fun b o e => ?_⟩
            · rw [List.take_add_one, ez]
              exact Paired.snoc hR hxs
            · rcases List.mem_append.mp mb with mb | mb
              · exact hn b mb
              · rw [List.mem_singleton.mp mb]
                exact nlD
            · rw [upd_ne (ne_of_none e nD)]
              exact s2 _ _ (sm _ _ e)
          · exact q2' (fun ⟨rs', h1, _⟩ => by
              obtain ⟨r, _, hr⟩ := paired_get h1 ez
              exact hno ⟨r, z, rfl, hr⟩) G2 (sp.trans (sm.trans s2))
        · obtain ⟨as, rs, hD, hL, hR, hn, sm⟩ := hP
          rw [List.length_map, List.take_length] at hR
          have h1 := hL.len
          have h2 := Paired.length hR
          refine ⟨_, rfl, .ref D, .list (rs.map dL), rfl, .lst hD (dq_LL hL), fun ds e => ?_, fun b H4 hb s4 => ⟨_, rfl, ?_⟩⟩
          · cases e
            rw [List.length_map]
            omega
          rw [old_rd hR] at hb
          cases b with
          | true => exact iteF ⟨_, rfl, q1' rs hR (hb.mp rfl) D as H4 (sp.free nD) (s4 _ _ hD) (hL.same s4) ((sp.trans sm).trans s4)⟩
          | false =>
            refine iteT (q2' (fun ⟨rs', g1, g2⟩ => ?_) _ ((sp.trans sm).trans s4))
            rw [rd_det hR g1] at hb
            exact absurd (hb.mpr g2) Bool.false_ne_true
      | _ => cases hs
    · exact q2 (fun ⟨s, rs, es, _⟩ => by rw [es] at hs; cases hs) _ s1
end
end Fo
namespace Fo
open PySem PySem.Spec PyProof.Rows L2 TL
abbrev rNotInSign : R2 := fun x y H Q => ∃ (c : Nat) (z : Str), x = .str ⟨#[c]⟩ ∧ y = .str z ∧ Q (.bl (!decide (c ∈ z.cps.toList))) H
/-- the number below a hundred that a word writes, or none -/
def numL (w : Str) : Option Nat := (List.range 100).find? fun k : Nat => decide (w = decT (k : Int))
theorem dec100 : ∀ k : Nat, k < 100 → (decT (k : Int)).length ≤ 2 ∧ 1 ≤ (decT (k : Int)).length ∧ (∀ c ∈ (decT (k : Int)).cps.toList, c ∈ ("0123456789" : Str).cps.toList) ∧ ((decT (k : Int)).length = 2 → (decT (k : Int)).cps.toList.head? ≠ some 48) ∧ PySem.intText? (decT (k : Int)) = some (k : Int) := by decide +kernel
theorem dec1 : ∀ c, c ∈ ("0123456789" : Str).cps.toList → ∃ k, k < 100 ∧ (⟨#[c]⟩ : Str) = decT ((k : Nat) : Int) := by decide +kernel
theorem dec2 : ∀ c, c ∈ ("0123456789" : Str).cps.toList → c ≠ 48 → ∀ d, d ∈ ("0123456789" : Str).cps.toList → ∃ k, k < 100 ∧ (⟨#[c, d]⟩ : Str) = decT ((k : Nat) : Int) := by decide +kernel
theorem numL_some {w : Str} {k : Nat} (h : numL w = some k) : k < 100 ∧ w = decT (k : Int) := by
  unfold numL at h
  have h1 := List.find?_some h
  have h2 := List.mem_of_find?_eq_some h
  exact ⟨List.mem_range.mp h2, of_decide_eq_true h1⟩
theorem numL_of {k : Nat} (h : k < 100) : ∃ j, numL (decT (k : Int)) = some j ∧ decT (k : Int) = decT ((j : Nat) : Int) := by
  cases e : numL (decT (k : Int)) with
  | none =>
    have := List.find?_eq_none.mp e k (List.mem_range.mpr h)
    simp at this
  | some j => exact ⟨j, rfl, (numL_some e).2⟩
theorem dec_inj100 : ∀ k : Nat, k < 100 → ∀ j : Nat, j < 100 → decT ((k : Nat) : Int) = decT ((j : Nat) : Int) → k = j := fun k hk j hj e => by
  have h1 := (dec100 k hk).2.2.2.2
  have h2 := (dec100 j hj).2.2.2.2
  rw [e, h2] at h1
  have := Option.some.inj h1
  omega
theorem numL_dec {k : Nat} (h : k < 100) : numL (decT (k : Int)) = some k := by
  obtain ⟨j, h1, h2⟩ := numL_of h
  rw [h1, dec_inj100 k h j (numL_some h1).1 h2]
theorem numP_L {w : Str} {k : Nat} : numP w = some k ↔ numL w = some k ∧ k < 12 := by
  constructor
  · intro h
    have h1 := List.find?_some h
    have h2 := List.mem_range.mp (List.mem_of_find?_eq_some h)
    have h3 : w = decT (k : Int) := of_decide_eq_true h1
    rw [h3]
    exact ⟨numL_dec (by omega), h2⟩
  · rintro ⟨h, hk⟩
    have h3 := (numL_some h).2
    unfold numP
    rw [List.find?_range_eq_some]
    refine ⟨decide_eq_true h3, List.mem_range.mpr hk, fun j hj => ?_⟩
    have : ¬ w = decT ((j : Nat) : Int) := fun e => by
      have := dec_inj100 k (by omega) j (by omega) (h3.symm.trans e)
      omega
    simpa using this
def spLNum : Sp := fun vs H Q _ => ∃ (w : Str), vs = [.str w] ∧ w.length ≤ 1000000 ∧ ∀ H', Same H H' → Q (optV (numL w)) H'
section
variable {P : Program} {w : World} {K : PySem.W.Frag} {mg : Str → Option Value} {base : Heap}
theorem scLNum : FnScope ["word", "sign"] ["word"] (defScope s_law_number) := ⟨rfl, rfl, rfl, by decide +kernel, rfl, by decide +kernel, by decide +kernel⟩
set_option pp.maxSteps 200000 in
set_option maxHeartbeats 2000000 in
theorem ok_lnum {f : Addr} {fd : FuncData} {k : Nat} (T : Df K mg "_law_number" s_law_number ["word"] f fd) (B : Bi mg) : FnOk P w K mg base CX0 (k + 1) f fd ["word"] spLNum := by
  refine T.F.ok scLNum (fun vs H Q E h => ?_) (fun cdv A outer s H vs Q E hr h => ?_)
  · obtain ⟨x, rfl, _⟩ := h
    rfl
  · obtain ⟨x, rfl, hx, q⟩ := h
    refine ⟨_, 
      (pss_cons (ps_if (PW.pt (pw_or (pt_not (pt_chain op_le op_le pe_int (pe_callB call_len_str (by rfl) B.len PySem.boot_len (pa_cons (pv 0) pa_nil)) pe_int)) (pw_or1 (pt_cmpR (op_neNilL hr.units) (pe_lc (own := [("sign", 1)]) (g := (gName 1)) (tt := (tTest (tOp rNotInSign (tVar 1) (tC (.str "0123456789"))))) (te := (tVar 1)) rfl scLNum.nd (pi_str (pv 0)) (blkOk_by (N := ["word", "sign"]) (sc := defScope s_law_number) (by decide +kernel)) (fun _ _ _ _ _ => (pg_name (i := 1) scLNum.nd rfl (.inl rfl))) (fun _ _ _ _ _ => (pts_one (pt_cmpR op_notIn_sign (pv 1) pe_str (by rfl)))) (fun _ _ _ _ _ => (pv 1))) (pe_lst pa_nil) (nomark _)))))
        (pss_one (ps_ret pe_non))
        pss_nil)
      (pss_cons (ps_if (PW.pt (pw_and (pt_cmpR op_eq (pe_callB call_len_str (by rfl) B.len PySem.boot_len (pa_cons (pv 0) pa_nil)) pe_int (nomark _)) (pw_and1 (pt_cmpR op_eq (pe_ix ix_str (pv 0) pe_int (fun _ _ => rfl)) pe_str (nomark _)))))
        (pss_one (ps_ret pe_non))
        pss_nil)
      (pss_one (ps_ret (pe_callTy call_int_str (by rfl) B.int (by decide +kernel) (pa_cons (pv 0) pa_nil)))))), ?_⟩
    have hno : ∀ k : Nat, numL x = some k → k < 100 ∧ x = decT (k : Int) := fun k e => numL_some e
    have hnone : (¬ ∃ k : Nat, k < 100 ∧ x = decT (k : Int)) → numL x = none := fun hn => by
      cases e : numL x with
      | none => rfl
      | some k => exact absurd ⟨k, hno k e⟩ hn
    -- what stands behind both tests
    have back : ∀ G : Hp, Same H G → (¬ ∃ k : Nat, k < 100 ∧ x = decT (k : Int)) → Q .non G := fun G s hn => by
      have := q G s
      rw [hnone hn] at this
      exact this
    refine ⟨_, rfl, x, rfl, line_small (by omega), _, _, rfl, rfl, _, rfl, ite2 (fun c1 => ?_) (fun c1 => ?_)⟩
    · have c1 : (1 : Int) ≤ (x.length : Int) := of_decide_eq_true c1
      refine ⟨_, _, rfl, rfl, _, rfl, ?_⟩
      by_cases c2 : (x.length : Int) ≤ 2
      · rw [decide_eq_true c2]
        refine iteF ?_
        refine ⟨_, rfl, x, rfl, fun D nD => ?_⟩
        have ni : ∀ i, i ≤ x.cps.size → i ≤ x.cps.toList.length := fun i h => by rw [Array.length_toList]; exact h
        refine lc_it walk_str (fun i G => G D = some (.lst (((x.cps.toList.take i).filter fun c => !decide (c ∈ ("0123456789" : Str).cps.toList)).map fun c => V.str ⟨#[c]⟩)) ∧ Same H G) ⟨upd_same, same_new nD⟩ (fun i G _ _ => trivial) (fun i y G G' hi hP hy => ?_) (fun G hP => ?_)
        · obtain ⟨hD, sG⟩ := hP
          obtain ⟨rfl, c, ec, rfl⟩ := hy
          have ec : x.cps.toList[i]? = some c := by rw [Array.getElem?_toList]; exact ec
          have st : ((x.cps.toList.take (i + 1)).filter fun c => !decide (c ∈ ("0123456789" : Str).cps.toList)) = ((x.cps.toList.take i).filter fun c => !decide (c ∈ ("0123456789" : Str).cps.toList)) ++ (if c ∈ ("0123456789" : Str).cps.toList then [] else [c]) := by
            rw [List.take_add_one, ec, List.filter_append]
            congr 1
            show List.filter _ [c] = _
            rw [List.filter_cons]
            by_cases h : c ∈ ("0123456789" : Str).cps.toList
            · rw [decide_eq_true h, if_pos h]; rfl
            · rw [decide_eq_false h, if_neg h]; rfl
          refine ⟨rfl, _, rfl, c, _, rfl, rfl, _, rfl, ?_⟩
          by_cases h : c ∈ ("0123456789" : Str).cps.toList
          · rw [decide_eq_true h]
            refine iteF ⟨?_, sG⟩
            rw [st, if_pos h, List.append_nil]
            exact hD
          · rw [decide_eq_false h]
            have hxl : x.cps.toList.length = x.length := Array.length_toList
            refine iteT ⟨_, rfl, _, hD, line_lt (by rw [List.length_map]; exact Nat.lt_of_le_of_lt (Nat.le_trans (List.length_filter_le _ _) (by rw [List.length_take]; exact Nat.min_le_right _ _)) (by rw [hxl]; omega)), ?_, fun b o e => ?_⟩
            · rw [upd_same, st, if_neg h, List.map_append]
              rfl
            · rw [upd_ne (ne_of_none e nD)]
              exact sG _ _ e
        · obtain ⟨hD, sG⟩ := hP
          have hxs : x.cps.toList.take x.cps.size = x.cps.toList := List.take_of_length_le (by rw [Array.length_toList]; exact Nat.le_refl _)
          rw [hxs] at hD
          refine ⟨line_small (by show 0 ≤ 16777216; decide), fun z nz => ?_⟩
          have sz := sG.trans (same_new (o := .lst []) nz)
          refine ⟨D, z, _, rfl, rfl, SqL.of (same_new nz _ _ hD), SqL.of upd_same, _, rfl, ?_⟩
          generalize upd G z (.lst []) = G1 at sz ⊢
          have hxl : x.cps.toList.length = x.length := Array.length_toList
          have decs : ∀ k : Nat, k < 100 → x = decT (k : Int) → ∀ c ∈ x.cps.toList, c ∈ ("0123456789" : Str).cps.toList := fun k hk e => by
            rw [e]
            exact (dec100 k hk).2.2.1
          by_cases hd : ∀ c ∈ x.cps.toList, c ∈ ("0123456789" : Str).cps.toList
          · have hf : (x.cps.toList.filter fun c => !decide (c ∈ ("0123456789" : Str).cps.toList)) = [] := List.filter_eq_nil_iff.mpr fun c m => by rw [decide_eq_true (hd c m)]; decide
            rw [hf]
            refine iteF ?_
            have num : ∀ k : Nat, k < 100 → x = decT (k : Int) → PySem.intText? x = some (k : Int) ∧ Q (.int (k : Int)) G1 := fun k hk e => by
              have h1 := (dec100 k hk).2.2.2.2
              have h2 := q G1 sz
              rw [e, numL_dec hk] at h2
              rw [e]
              exact ⟨h1, h2⟩
            refine ⟨_, rfl, x, rfl, line_small (by omega), rfl, _, rfl, ?_⟩
            match hl : x.cps.toList with
            | [] =>
              rw [hl] at hxl
              simp only [List.length_nil] at hxl
              omega
            | [c] =>
              have ex : x = ⟨#[c]⟩ := Str.ext' (Array.toList_inj.mp (by rw [hl]))
              have h1 : x.length = 1 := by rw [← hxl, hl]; rfl
              rw [h1]
              refine iteF (iteF ?_)
              obtain ⟨k, hk, ek⟩ := dec1 c (hd c (by rw [hl]; exact List.mem_cons_self))
              obtain ⟨g1, g2⟩ := num k hk (ex.trans ek)
              exact ⟨_, rfl, x, _, rfl, g1, by omega, g2⟩
            | [c, d] =>
              have ex : x = ⟨#[c, d]⟩ := Str.ext' (Array.toList_inj.mp (by rw [hl]))
              have h1 : x.length = 2 := by rw [← hxl, hl]; rfl
              rw [h1]
              refine iteT ⟨_, rfl, x, _, c, rfl, rfl, line_small (by omega), by rw [hl]; rfl, rfl, _, rfl, ?_⟩
              by_cases c0 : c = 48
              · subst c0
                refine iteT ?_
                refine back G1 sz fun ⟨k, hk, e⟩ => ?_
                have h2 := (dec100 k hk).2.2.2.1
                rw [← e, hl] at h2
                exact h2 h1 rfl
              · have : ¬ (V.str (⟨#[c]⟩ : Str) = V.str "0") := fun z => by
                  have z := V.str.inj z
                  have z : (#[c] : Array Nat) = #[48] := congrArg Str.cps z
                  have := congrArg Array.toList z
                  injection this with e1
                  exact c0 e1
                rw [decide_eq_false this]
                refine iteF ?_
                obtain ⟨k, hk, ek⟩ := dec2 c (hd c (by rw [hl]; exact List.mem_cons_self)) c0 d (hd d (by rw [hl]; exact List.mem_cons_of_mem _ List.mem_cons_self))
                obtain ⟨g1, g2⟩ := num k hk (ex.trans ek)
                exact ⟨_, rfl, x, _, rfl, g1, by omega, g2⟩
            | _ :: _ :: _ :: r =>
              rw [hl] at hxl
              simp only [List.length_cons] at hxl
              omega
          · have hf : (x.cps.toList.filter fun c => !decide (c ∈ ("0123456789" : Str).cps.toList)) ≠ [] := fun z => hd fun c m => by
              have := List.filter_eq_nil_iff.mp z c m
              by_cases h : c ∈ ("0123456789" : Str).cps.toList
              · exact h
              · rw [decide_eq_false h] at this
                exact absurd rfl this
            generalize (x.cps.toList.filter fun c => !decide (c ∈ ("0123456789" : Str).cps.toList)) = fl at hf
            cases fl with
            | nil => exact absurd rfl hf
            | cons y ys => exact iteT (back G1 sz fun ⟨k, hk, e⟩ => hd (decs k hk e))
      · rw [decide_eq_false c2]
        exact iteT (back H (Same.refl H) fun ⟨k, hk, e⟩ => by
          have := (dec100 k hk).1
          rw [← e] at this
          omega)
    · have c1 : ¬ (1 : Int) ≤ (x.length : Int) := fun z => by rw [decide_eq_true z] at c1; exact c1 rfl
      refine ⟨_, rfl, iteT (back H (Same.refl H) fun ⟨k, hk, e⟩ => ?_)⟩
      have := (dec100 k hk).2.1
      rw [← e] at this
      omega
end
end Fo
namespace Fo
open PySem PySem.Spec PyProof.Rows L2 TL
theorem rdP_iff {ws : List Str} : ∀ {xs : List Int}, (∀ x ∈ xs, x < 12) → (ws.map (fun w => optD (numP w)) = xs.map PyData.int ↔ ws.map (fun w => optD (numL w)) = xs.map PyData.int) := by
  induction ws with
  | nil => intro xs _; exact Iff.rfl
  | cons w ws ih =>
    intro xs hx
    cases xs with
    | nil => exact ⟨fun h => (by cases h), fun h => (by cases h)⟩
    | cons x xs =>
      rw [List.map_cons, List.map_cons, List.map_cons]
      have h1 := ih (xs := xs) fun y m => hx y (List.mem_cons_of_mem _ m)
      have h2 : optD (numP w) = PyData.int x ↔ optD (numL w) = PyData.int x := by
        constructor
        · intro h
          cases e : numP w with
          | none => rw [e] at h; cases h
          | some k => rw [e] at h; rw [(numP_L.mp e).1]; exact h
        · intro h
          cases e : numL w with
          | none => rw [e] at h; cases h
          | some k =>
            rw [e] at h
            have hk : (k : Int) = x := PyData.int.inj h
            have := hx x List.mem_cons_self
            rw [numP_L.mpr ⟨e, by omega⟩]
            exact h
      constructor
      · intro h
        injection h with a b
        rw [h2.mp a, h1.mp b]
      · intro h
        injection h with a b
        rw [h2.mpr a, h1.mpr b]
theorem split_ne (x : Str) : Txt.split x " " ≠ [] := fun h => by
  have h1 := StrLaws.join_split x " "
  rw [h] at h1
  have h2 : x = "" := h1.symm
  rw [h2] at h
  exact absurd h (by decide +kernel)
theorem rdP_L {s : Str} {xs : List Int} : RdP s xs ↔ (Txt.split s " ").map (fun w => optD (numL w)) = xs.map PyData.int ∧ IsOrd xs.length xs ∧ xs.length ≤ 12 := by
  constructor
  · rintro ⟨h, o, _, h2⟩
    exact ⟨(rdP_iff fun x m => by have := o.mem m; omega).mp h, o, h2⟩
  · rintro ⟨h, o, h2⟩
    refine ⟨(rdP_iff fun x m => by have := o.mem m; omega).mpr h, o, ?_, h2⟩
    have e := congrArg List.length h
    rw [List.length_map, List.length_map] at e
    rw [← e]
    exact List.length_pos_iff.mpr (split_ne s)
def spLRd : Sp := fun vs H Q _ => ∃ (s : Str), vs = [.str s] ∧ s.length ≤ 900000 ∧ (∀ xs, RdP s xs → ∀ (l : Addr) (H' : Hp), H l = none → H' l = some (.lst (xs.map V.int)) → Same H H' → Q (.ref l) H') ∧ ((¬ ∃ xs, RdP s xs) → ∀ H', Same H H' → Q .non H')
theorem optL_all : ∀ ws : List Str, (∃ xs : List Int, ws.map (fun w => optV (numL w)) = xs.map V.int ∧ ws.map (fun w => optD (numL w)) = xs.map PyData.int) ∨ (inV .non (ws.map fun w => optV (numL w)) = true ∧ ¬ ∃ xs : List Int, ws.map (fun w => optD (numL w)) = xs.map PyData.int)
  | [] => .inl ⟨[], rfl, rfl⟩
  | w :: ws => by
    cases e : numL w with
    | none =>
      refine .inr ⟨?_, fun ⟨xs, h⟩ => ?_⟩
      · rw [List.map_cons, e]
        rfl
      · cases xs with
        | nil => cases h
        | cons x xs => rw [List.map_cons, List.map_cons, e] at h; injection h with a b; cases a
    | some k =>
      rcases optL_all ws with ⟨xs, h1, h2⟩ | ⟨h1, h2⟩
      · exact .inl ⟨(k : Int) :: xs, by rw [List.map_cons, e, h1]; rfl, by rw [List.map_cons, e, h2]; rfl⟩
      · refine .inr ⟨?_, fun ⟨xs, h⟩ => ?_⟩
        · rw [List.map_cons, e]
          exact h1
        · cases xs with
          | nil => cases h
          | cons x xs => rw [List.map_cons, List.map_cons] at h; injection h with a b; exact h2 ⟨xs, b⟩
theorem optL_flat : ∀ ws : List Str, (ws.map fun w => optV (numL w)).all flatV = true
  | [] => rfl
  | w :: ws => by
    rw [List.map_cons, List.all_cons, optL_flat ws]
    cases numL w <;> rfl
theorem in_ints : ∀ xs : List Int, inV .non (xs.map V.int) = false
  | [] => rfl
  | _ :: xs => in_ints xs
theorem units65 {k : Nat} {A : Around} (r : Room k A) : A.units + 65 < cLine := by have := r.un; omega
/-- what is read of a part: an order, or none -/
abbrev OrdO := Option (Addr × List Int)
def oV : OrdO → V
  | none => .non
  | some p => .ref p.1
def oD : OrdO → PyData
  | none => .none
  | some p => dL p.2
def OkO (z : Str) : OrdO → Prop
  | none => ¬ ∃ xs, RdP z xs
  | some p => RdP z p.2
def spLRl : Sp := fun vs H Q _ => ∃ (s : Str), vs = [.str s] ∧ s.length ≤ 9000 ∧ (∀ rs, RdL s rs → ∀ (l : Addr) (as : List Addr) (H' : Hp), H l = none → H' l = some (.lst (as.map V.ref)) → LL H' as rs → Same H H' → Q (.ref l) H') ∧ ((¬ ∃ rs, RdL s rs) → ∀ H', Same H H' → Q .non H')
theorem oo_cases : ∀ os : List OrdO, (∃ ps : List (Addr × List Int), os = ps.map some) ∨ none ∈ os
  | [] => .inl ⟨[], rfl⟩
  | none :: os => .inr List.mem_cons_self
  | some p :: os => by
    rcases oo_cases os with ⟨ps, h⟩ | h
    · exact .inl ⟨p :: ps, by rw [h]; rfl⟩
    · exact .inr (List.mem_cons_of_mem _ h)
theorem oo_dp {K : PySem.W.Frag} {H : Hp} : ∀ {os : List OrdO}, (∀ a r, some (a, r) ∈ os → H a = some (.lst (r.map V.int))) → DpAll K H (os.map oV) (os.map oD)
  | [], _ => .nil
  | none :: os, h => .cons .non (oo_dp fun a r m => h a r (List.mem_cons_of_mem _ m))
  | some (a, r) :: os, h => .cons (dp_list (h a r List.mem_cons_self)) (oo_dp fun a r m => h a r (List.mem_cons_of_mem _ m))
theorem oo_pairs {ws : List Str} {ps : List (Addr × List Int)} (h : Paired OkO ws (ps.map some)) : Paired RdP ws (ps.map (·.2)) := by
  induction ps generalizing ws with
  | nil => cases h; exact .nil
  | cons p ps ih =>
    cases h with
    | cons a t => exact .cons a (ih t)
theorem oo_no78 {ws : List Str} {os : List OrdO} (h : Paired OkO ws os) (m : none ∈ os) : ¬ ∃ rs, Paired RdP ws rs := by
  induction h with
  | nil => cases m
  | @cons z o ws os a t ih =>
    rintro ⟨rs, hr⟩
    cases hr with
    | @cons _ r _ rs b g =>
      rcases List.mem_cons.mp m with e | m
      · subst e
        exact a ⟨r, b⟩
      · exact ih m ⟨rs, g⟩
theorem oo_shaped (os : List OrdO) : SeqAt.shaped (.list (os.map oD)) = true := by
  unfold SeqAt.shaped
  rw [Bool.and_eq_true_iff]
  constructor
  · rw [PyData.canLay0]
    induction os with
    | nil => rfl
    | cons o os ih =>
      show (PyData.canLay0 (oD o) && PyData.canLayAll0 (os.map oD)) = true
      rw [ih]
      cases o with
      | none => rfl
      | some p => show (PyData.canLay0 (dL p.2) && true) = true; rw [lay_list]; rfl
  · apply decide_eq_true
    rw [PyData.depth]
    have : PyData.depthAll (os.map oD) ≤ 1 := by
      induction os with
      | nil => simp [PyData.depthAll]
      | cons o os ih =>
        show PyData.depthAll (oD o :: os.map oD) ≤ 1
        rw [PyData.depthAll]
        have h : (oD o).depth ≤ 1 := by
          cases o with
          | none => simp [oD, PyData.depth]
          | some p => show (dL p.2).depth ≤ 1; rw [depth_list]; exact Nat.le_refl _
        omega
    omega
theorem oo_any_some : ∀ ps : List (Addr × List Int), (((ps.map some).map oD).any fun z => PyData.eqv z .none) = false
  | [] => rfl
  | p :: ps => by
    rw [List.map_cons, List.map_cons, List.any_cons, oo_any_some ps]
    rfl
theorem oo_any_none {os : List OrdO} (h : none ∈ os) : ((os.map oD).any fun z => PyData.eqv z .none) = true := List.any_eq_true.mpr ⟨.none, List.mem_map.mpr ⟨none, h, rfl⟩, rfl⟩
theorem oo_ll {H : Hp} : ∀ {ps : List (Addr × List Int)}, (∀ p ∈ ps, H p.1 = some (.lst (p.2.map V.int))) → LL H (ps.map (·.1)) (ps.map (·.2))
  | [], _ => trivial
  | p :: ps, h => ⟨h p List.mem_cons_self, oo_ll fun q m => h q (List.mem_cons_of_mem _ m)⟩
section
variable {P : Program} {w : World} {K : PySem.W.Frag} {mg : Str → Option Value} {base : Heap}
theorem scLRd : FnScope ["text", "found", "word"] ["text"] (defScope s_law_read) := ⟨rfl, rfl, rfl, by decide +kernel, rfl, by decide +kernel, by decide +kernel⟩
set_option pp.maxSteps 200000 in
set_option maxHeartbeats 2000000 in
theorem ok_lrd {f f1 : Addr} {fd d1 : FuncData} {k : Nat} (T : Df K mg "_law_read" s_law_read ["text"] f fd) (T__law_number : Df K mg "_law_number" s_law_number ["word"] f1 d1) (G__law_number : FnOk P w K mg base CX0 k f1 d1 ["word"] spLNum) (B : Bi mg) : FnOk P w K mg base CX0 (k + 1) f fd ["text"] spLRd := by
  refine T.F.ok scLRd (fun vs H Q E h => ?_) (fun cdv A outer s H vs Q E hr h => ?_)
  · obtain ⟨x, rfl, _⟩ := h
    rfl
  · obtain ⟨x, rfl, hx, q1, q2⟩ := h
    refine ⟨_, 
      (pss_cons (ps_setLc (i := 1) (own := [("word", 2)]) (g := (gName 2)) (tt := tYes) (te := (tCall spLNum [] E0 (tCons (tVar 2) tNil))) (by rfl) scLRd.nd rfl rfl (sw_true rfl rfl rfl (by decide +kernel)) (pi_list (pe_split (pv 0) pe_str)) (blkOk_by (N := ["text", "found", "word"]) (sc := defScope s_law_read) (by decide +kernel)) (fun _ _ _ _ _ => (pg_name (i := 2) scLRd.nd rfl (.inl rfl))) (fun _ _ _ _ _ => pts_nil) (fun _ _ _ _ _ => (pe_call G__law_number hr (by rfl) T__law_number.g T__law_number.F.kp T__law_number.b .nil pass0 (pa_cons (pv 2) pa_nil))))
      (pss_cons (ps_if (PW.pt (pw_or (pt_cmpR op_in_seq pe_non (pv 1) (by rfl)) (pw_or (pt_cmpR (op_neD hr.units) (pe_callB cr_sortedI (by rfl) B.sorted (by decide +kernel) (pa_cons (pv 1) pa_nil)) (pe_listRg rfl (by rfl) B.list (prg_1 (by rfl) B.range (pe_callB call_len_seq (by rfl) B.len PySem.boot_len (pa_cons (pv 1) pa_nil)))) (nomark _)) (pw_or1 (pt_cmpR op_gt (pe_callB call_len_seq (by rfl) B.len PySem.boot_len (pa_cons (pv 1) pa_nil)) pe_int (nomark _))))))
        (pss_one (ps_ret pe_non))
        pss_nil)
      (pss_one (ps_ret (pv 1))))), ?_⟩
    have q1 : ∀ xs : List Int, (Txt.split x " ").map (fun w => optD (numL w)) = xs.map PyData.int ∧ IsOrd xs.length xs ∧ xs.length ≤ 12 → ∀ (l : Addr) (H' : Hp), H l = none → H' l = some (.lst (xs.map V.int)) → Same H H' → Q (.ref l) H' := fun xs h => q1 xs (rdP_L.mpr h)
    have q2 : (¬ ∃ xs : List Int, (Txt.split x " ").map (fun w => optD (numL w)) = xs.map PyData.int ∧ IsOrd xs.length xs ∧ xs.length ≤ 12) → ∀ H', Same H H' → Q .non H' := fun h => q2 fun ⟨xs, e⟩ => h ⟨xs, rdP_L.mp e⟩
    have hwl := split_len (x := x) (y := " ") (by decide)
    have hpl : ∀ z ∈ Txt.split x " ", z.length ≤ x.length + 1 := fun z m => part_len m
    have e1 : (" " : Str).length = 1 := by decide
    refine ⟨_, rfl, ⟨_, rfl⟩, _, _, rfl, rfl, by decide +kernel, line_small (by omega), fun p np => ?_⟩
    generalize Txt.split x " " = ws at hwl hpl q1 q2 ⊢
    have sp := same_new (o := .lst (ws.map V.str)) np
    have hp : (upd H p (.lst (ws.map V.str))) p = _ := upd_same
    generalize upd H p (.lst (ws.map V.str)) = H1 at sp hp ⊢
    refine ⟨p, rfl, ⟨_, SqL.of hp⟩, fun D nD => ?_⟩
    refine lc_list (K := K) (a := p) (xs := ws.map V.str) (fun i H3 => H3 D = some (.lst ((ws.take i).map fun w => optV (numL w))) ∧ Same H1 H3) ⟨upd_same, same_new nD⟩ (fun i H3 _ hP => SqL.of (hP.2 _ _ hp)) (fun i y H3 hy hP => ?_) (fun H3 hP => ?_)
    · obtain ⟨z, ez, rfl⟩ := str_at_inv hy
      obtain ⟨hD3, sm⟩ := hP
      have hi := (List.getElem?_eq_some_iff.mp ez).1
      refine ⟨rfl, _, rfl, z, rfl, ?_, fun H4 s4 => ?_⟩
      · have := hpl z (List.mem_of_getElem? ez)
        omega
      refine ⟨_, s4 _ _ hD3, line_lt (by rw [List.length_map, List.length_take]; omega), ?_, fun b o e => ?_⟩
      · rw [upd_same, List.take_add_one, ez, List.map_append]
        rfl
      · rw [upd_ne (ne_of_none e nD)]
        exact s4 _ _ (sm _ _ e)
    · obtain ⟨hD3, sm⟩ := hP
      rw [List.length_map, List.take_length] at hD3
      have sA := sp.trans sm
      have nDH := sp.free nD
      refine ⟨_, rfl, D, _, rfl, .inl (SqL.of hD3), rfl, optL_flat ws, _, rfl, ?_⟩
      rw [if_neg Bool.false_ne_true]
      rcases optL_all ws with ⟨xs, hv, hd⟩ | ⟨hin, hno⟩
      · rw [hv, in_ints]
        rw [hv] at hD3
        have hxl : xs.length = ws.length := by
          have := congrArg List.length hv
          rw [List.length_map, List.length_map] at this
          exact this.symm
        refine iteF ?_
        refine ⟨_, rfl, D, xs, rfl, SqL.of hD3, fun ns' s1 hperm hsrt ns1 => ?_⟩
        have t1 := same_new (o := .lst (ns'.map V.int)) ns1
        refine ⟨_, rfl, D, _, rfl, .inl (SqL.of (t1 _ _ hD3)), _, rfl, RgOk.of_le (by omega) (by rw [List.length_map]; omega) (by omega) (by omega), fun s2 ns2 => ?_⟩
        rw [List.length_map]
        have t2 := same_new (o := .lst (rgV 0 (xs.length : Int))) ns2
        have h2 : (upd (upd H3 s1 (.lst (ns'.map V.int))) s2 (.lst (rgV 0 (xs.length : Int)))) s2 = some (.lst ((rg xs.length).map V.int)) := by rw [upd_same, rg_V]
        have hD5 := t2 _ _ (t1 _ _ hD3)
        have sB := sA.trans (t1.trans t2)
        refine ⟨_, _, dp_list (t2 _ _ upd_same), dp_list h2, shaped_list _, shaped_list _, _, rfl, ?_⟩
        rw [show PyData.eqv (.list (ns'.map PyData.int)) (.list ((rg xs.length).map PyData.int)) = decide (ns' = rg xs.length) from eqv_ints _ _]
        generalize upd (upd H3 s1 (.lst (ns'.map V.int))) s2 (.lst (rgV 0 (xs.length : Int))) = H5 at hD5 sB ⊢
        have hone : ∀ ys : List Int, ws.map (fun w => optD (numL w)) = ys.map PyData.int → ys = xs := fun ys e => intD_inj (e.symm.trans hd)
        by_cases c1 : ns' = rg xs.length
        · rw [decide_eq_true c1]
          have ox : IsOrd xs.length xs := by
            rw [c1] at hperm
            exact hperm.symm
          refine iteF ?_
          refine ⟨_, rfl, D, _, rfl, .inl (SqL.of hD5), _, _, rfl, rfl, _, rfl, ite2 (fun c2 => ?_) (fun c2 => ?_)⟩
          · have c2 := of_decide_eq_true c2
            rw [List.length_map] at c2
            refine q2 (fun ⟨ys, e, _, h12⟩ => ?_) H5 sB
            rw [hone ys e] at h12
            omega
          · have c2 : ¬ ((12 : Int) < ((xs.map V.int).length : Int)) := fun z => c2 (decide_eq_true z)
            rw [List.length_map] at c2
            exact ⟨_, rfl, q1 xs ⟨hd, ox, by omega⟩ D H5 nDH hD5 sB⟩
        · rw [decide_eq_false c1]
          refine iteT (q2 (fun ⟨ys, e, o, _⟩ => ?_) H5 sB)
          rw [hone ys e] at o
          exact c1 (sorted_eq (hperm.trans o) hsrt (rg_sorted _))
      · rw [hin]
        exact iteT (q2 (fun ⟨ys, e, _⟩ => hno ⟨ys, e⟩) H3 sA)
theorem scLRl : FnScope ["text", "found", "part", "order"] ["text"] (defScope s_law_read_list) := ⟨rfl, rfl, rfl, by decide +kernel, rfl, by decide +kernel, by decide +kernel⟩
set_option pp.maxSteps 200000 in
set_option maxHeartbeats 2000000 in
theorem ok_lrl {f f1 : Addr} {fd d1 : FuncData} {k : Nat} (T : Df K mg "_law_read_list" s_law_read_list ["text"] f fd) (T__law_read : Df K mg "_law_read" s_law_read ["text"] f1 d1) (G__law_read : FnOk P w K mg base CX0 k f1 d1 ["text"] spLRd) (B : Bi mg) : FnOk P w K mg base CX0 (k + 1) f fd ["text"] spLRl := by
  refine T.F.ok scLRl (fun vs H Q E h => ?_) (fun cdv A outer s H vs Q E hr h => ?_)
  · obtain ⟨x, rfl, _⟩ := h
    rfl
  · obtain ⟨x, rfl, hx, q1, q2⟩ := h
    refine ⟨_, 
      (pss_cons (ps_if (pt_cmpR op_eq (pv 0) pe_str (nomark _))
        (pss_one (ps_ret (pe_lst pa_nil)))
        pss_nil)
      (pss_cons (ps_set (i := 1) scLRl.nd rfl (.inr rfl) (pe_lc (own := [("part", 2)]) (g := (gName 2)) (tt := tYes) (te := (tCall spLRd [] E0 (tCons (tVar 2) tNil))) rfl scLRl.nd (pi_list (pe_split (pv 0) pe_str)) (blkOk_by (N := ["text", "found", "part", "order"]) (sc := defScope s_law_read_list) (by decide +kernel)) (fun _ _ _ _ _ => (pg_name (i := 2) scLRl.nd rfl (.inl rfl))) (fun _ _ _ _ _ => pts_nil) (fun _ _ _ _ _ => (pe_call G__law_read hr (by rfl) T__law_read.g T__law_read.F.kp T__law_read.b .nil pass0 (pa_cons (pv 2) pa_nil)))))
      (pss_cons (ps_if (PW.pt (pw_or (pt_cmpR (op_inD (units65 hr)) pe_non (pv 1) (by rfl)) (pw_or1 (pt_cmpR (op_neNilL hr.units) (pe_lc (own := [("order", 3)]) (g := (gName 3)) (tt := (tTest (tOp rNe (tCB (rLenS K) (tCons (tVar 3) tNil)) (tCB (rLenS K) (tCons (tOp (rIxL K) (tVar 1) (tC (.int 0))) tNil))))) (te := (tVar 3)) rfl scLRl.nd (pi_list (pv 1)) (blkOk_by (N := ["text", "found", "part", "order"]) (sc := defScope s_law_read_list) (by decide +kernel)) (fun _ _ _ _ _ => (pg_name (i := 3) scLRl.nd rfl (.inl rfl))) (fun _ _ _ _ _ => (pts_one (pt_cmpR op_ne (pe_callB call_len_seq (by rfl) B.len PySem.boot_len (pa_cons (pv 3) pa_nil)) (pe_callB call_len_seq (by rfl) B.len PySem.boot_len (pa_cons (pe_ix ix_list (pv 1) pe_int (fun _ _ => rfl)) pa_nil)) (nomark _)))) (fun _ _ _ _ _ => (pv 3))) (pe_lst pa_nil) (nomark _)))))
        (pss_one (ps_ret pe_non))
        pss_nil)
      (pss_one (ps_ret (pv 1)))))), ?_⟩
    refine ⟨_, rfl, rfl, _, rfl, ite2 (fun c => ?_) (fun c => ?_)⟩
    · have ex : x = "-" := V.str.inj (of_decide_eq_true c)
      exact ⟨line_small (by show 0 ≤ 16777216; decide), fun l nl => q1 [] (.inl ⟨ex, rfl⟩) l [] _ nl upd_same trivial (same_new nl)⟩
    have hne : x ≠ "-" := fun z => c (decide_eq_true (by rw [z]))
    have hwl := split_len (x := x) (y := ", ") (by decide)
    have hpl : ∀ z ∈ Txt.split x ", ", z.length ≤ x.length + 2 := fun z m => part_len m
    have e1 : (", " : Str).length = 2 := by decide
    have q1' : ∀ rs, Paired RdP (Txt.split x ", ") rs → (∀ r ∈ rs, ∀ y ∈ rs, r.length = y.length) → ∀ (l : Addr) (as : List Addr) (H' : Hp), H l = none → H' l = some (.lst (as.map V.ref)) → LL H' as rs → Same H H' → Q (.ref l) H' := fun rs hp he => q1 rs (.inr ⟨hne, hp, he⟩)
    have q2' : (¬ ∃ rs, Paired RdP (Txt.split x ", ") rs ∧ ∀ r ∈ rs, ∀ y ∈ rs, r.length = y.length) → ∀ H', Same H H' → Q .non H' := fun hno => q2 (fun ⟨rs, hr⟩ => by
      rcases hr with ⟨h1, _⟩ | ⟨_, h2, h3⟩
      · exact hne h1
      · exact hno ⟨rs, h2, h3⟩)
    clear q1 q2
    refine ⟨_, rfl, ⟨_, rfl⟩, _, _, rfl, rfl, by decide +kernel, line_small (by omega), fun p np => ?_⟩
    generalize Txt.split x ", " = ws at hwl hpl q1' q2' ⊢
    have sp := same_new (o := .lst (ws.map V.str)) np
    have hp : (upd H p (.lst (ws.map V.str))) p = _ := upd_same
    generalize upd H p (.lst (ws.map V.str)) = H1 at sp hp ⊢
    refine ⟨p, rfl, ⟨_, SqL.of hp⟩, fun D nD => ?_⟩
    refine lc_list (K := K) (a := p) (xs := ws.map V.str) (fun i G => ∃ os : List OrdO, G D = some (.lst (os.map oV)) ∧ (∀ a r, some (a, r) ∈ os → G a = some (.lst (r.map V.int)) ∧ a ≠ D) ∧ Paired OkO (ws.take i) os ∧ Same H1 G) ⟨[], upd_same, (fun a r m => by cases m), .nil, same_new nD⟩ (fun i G _ hP => by obtain ⟨_, _, _, _, s⟩ := hP; exact SqL.of (s _ _ hp)) (fun i y G hy hP => ?_) (fun G hP => ?_)
    · obtain ⟨z, ez, rfl⟩ := str_at_inv hy
      obtain ⟨os, hD, hos, hR, sm⟩ := hP
      have hi := (List.getElem?_eq_some_iff.mp ez).1
      have hzl := hpl z (List.mem_of_getElem? ez)
      have hol : os.length ≤ i := by
        have h2 := Paired.length hR
        rw [List.length_take] at h2
        omega
      have stp : ws.take (i + 1) = ws.take i ++ [z] := by rw [List.take_add_one, ez]; rfl
      refine ⟨rfl, _, rfl, z, rfl, by omega, fun xs hxs l G2 nl hl s2 => ?_, fun hno G2 s2 => ?_⟩
      · have nlD : l ≠ D := fun z => by rw [z, hD] at nl; cases nl
        refine ⟨_, s2 _ _ hD, line_lt (by rw [List.length_map]; omega), os ++ [some (l, xs)], by rw [upd_same, List.map_append]; rfl, fun a r m => ?_, by rw [stp]; exact Paired.snoc hR hxs, fun b o e => ?_⟩
        · rcases List.mem_append.mp m with m | m
          · obtain ⟨g1, g2⟩ := hos a r m
            exact ⟨by rw [upd_ne g2]; exact s2 _ _ g1, g2⟩
          · have m := List.mem_singleton.mp m
            cases m
            exact ⟨by rw [upd_ne nlD]; exact hl, nlD⟩
        · rw [upd_ne (ne_of_none e nD)]
          exact s2 _ _ (sm _ _ e)
      · refine ⟨_, s2 _ _ hD, line_lt (by rw [List.length_map]; omega), os ++ [none], by rw [upd_same, List.map_append]; rfl, fun a r m => ?_, by rw [stp]; exact Paired.snoc hR hno, fun b o e => ?_⟩
        · rcases List.mem_append.mp m with m | m
          · obtain ⟨g1, g2⟩ := hos a r m
            exact ⟨by rw [upd_ne g2]; exact s2 _ _ g1, g2⟩
          · cases List.mem_singleton.mp m
        · rw [upd_ne (ne_of_none e nD)]
          exact s2 _ _ (sm _ _ e)
    · obtain ⟨os, hD, hos, hR, sm⟩ := hP
      rw [List.length_map, List.take_length] at hR
      have sA := sp.trans sm
      have nDH := sp.free nD
      refine ⟨_, rfl, .none, os.map oD, .non, .lst (SqL.of hD) (oo_dp fun a r m => (hos a r m).1), by decide +kernel, oo_shaped os, _, rfl, ?_⟩
      rcases oo_cases os with ⟨ps, eo⟩ | hno
      · have hps : ∀ q ∈ ps, G q.1 = some (.lst (q.2.map V.int)) := fun q m => (hos q.1 q.2 (by rw [eo]; exact List.mem_map.mpr ⟨q, m, rfl⟩)).1
        rw [eo] at hR hD
        rw [eo, oo_any_some ps]
        have hR := oo_pairs hR
        have hDr : G D = some (.lst ((ps.map (·.1)).map V.ref)) := by
          rw [hD, List.map_map, List.map_map]
          rfl
        have hlen : ps.length ≤ ws.length := by
          have h2 := Paired.length hR
          rw [List.length_map] at h2
          omega
        refine iteF ?_
        refine ⟨_, rfl, D, rfl, ⟨_, SqL.of hDr⟩, fun D2 nD2 => ?_⟩
        have hG2 : ∀ q ∈ ps, q.1 ≠ D2 := fun q m z => by rw [← z, hps q m] at nD2; cases nD2
        refine lc_list (K := K) (a := D) (xs := (ps.map (·.1)).map V.ref) (fun i G2 => G2 D2 = some (.lst (((ps.take i).filter fun q => !decide ((q.2.length : Int) = (((ps.map (·.2)).headD []).length : Int))).map fun q => V.ref q.1)) ∧ Same G G2) ⟨upd_same, same_new nD2⟩ (fun i G2 _ hP => SqL.of (hP.2 _ _ hDr)) (fun i y G2 hy hP => ?_) (fun G2 hP => ?_)
        · obtain ⟨hD2, s2⟩ := hP
          rw [List.getElem?_map, List.getElem?_map] at hy
          obtain ⟨⟨a, r⟩, ep, rfl⟩ : ∃ q, ps[i]? = some q ∧ y = V.ref q.1 := by
            cases e : ps[i]? with
            | none => rw [e] at hy; cases hy
            | some q => rw [e] at hy; exact ⟨q, rfl, (Option.some.inj hy).symm⟩
          have ha := s2 _ _ (hps _ (List.mem_of_getElem? ep))
          have hi := (List.getElem?_eq_some_iff.mp ep).1
          obtain ⟨q0, e0⟩ : ∃ q, ps[0]? = some q := ⟨_, List.getElem?_eq_getElem (by omega)⟩
          have h0 := s2 _ _ (hps _ (List.mem_of_getElem? e0))
          have hh : (ps.map (·.2)).headD [] = q0.2 := by
            cases ps with
            | nil => cases e0
            | cons p ps => rw [show p = q0 from Option.some.inj e0]; rfl
          have st : ((ps.take (i + 1)).filter fun q => !decide ((q.2.length : Int) = (((ps.map (·.2)).headD []).length : Int))) = ((ps.take i).filter fun q => !decide ((q.2.length : Int) = (((ps.map (·.2)).headD []).length : Int))) ++ (if (r.length : Int) = (q0.2.length : Int) then [] else [(a, r)]) := by
            rw [List.take_add_one, ep, List.filter_append]
            congr 1
            show List.filter _ [(a, r)] = _
            rw [List.filter_cons, hh]
            by_cases h : (r.length : Int) = (q0.2.length : Int)
            · rw [if_pos h, decide_eq_true h]; rfl
            · rw [if_neg h, decide_eq_false h]; rfl
          refine ⟨rfl, _, rfl, a, _, rfl, .inl (SqL.of ha), _, rfl, D, _, _, _, rfl, rfl, SqL.of (s2 _ _ hDr), at_of (j := 0) rfl (by rw [List.getElem?_map, List.getElem?_map, e0]; rfl), q0.1, _, rfl, .inl (SqL.of h0), rfl, _, rfl, ?_⟩
          rw [List.length_map, List.length_map]
          by_cases h : (r.length : Int) = (q0.2.length : Int)
          · refine iteNS (by rw [h]) ⟨?_, s2⟩
            rw [st, if_pos h, List.append_nil]
            exact hD2
          · rw [decide_eq_false (fun z => h (V.int.inj z))]
            refine iteT ⟨_, rfl, _, hD2, line_lt (by rw [List.length_map]; exact Nat.lt_of_le_of_lt (Nat.le_trans (List.length_filter_le _ _) (by rw [List.length_take]; exact Nat.min_le_right _ _)) (by omega)), ?_, fun b o e => ?_⟩
            · rw [upd_same, st, if_neg h, List.map_append]
              rfl
            · rw [upd_ne (ne_of_none e nD2)]
              exact s2 _ _ e
        · obtain ⟨hD2, s2⟩ := hP
          rw [List.length_map, List.length_map, List.take_length] at hD2
          refine ⟨line_small (by show 0 ≤ 16777216; decide), fun z nz => ?_⟩
          have t1 := same_new (o := .lst []) nz
          refine ⟨D2, z, _, rfl, rfl, SqL.of (t1 _ _ hD2), SqL.of upd_same, _, rfl, ?_⟩
          have sB := sA.trans (s2.trans t1)
          have hD3 := t1 _ _ (s2 _ _ hDr)
          have hps3 : ∀ q ∈ ps, (upd G2 z (.lst [])) q.1 = some (.lst (q.2.map V.int)) := fun q m => t1 _ _ (s2 _ _ (hps q m))
          generalize upd G2 z (.lst []) = G3 at sB hD3 hps3 ⊢
          have hall : ((ps.filter fun q => !decide ((q.2.length : Int) = (((ps.map (·.2)).headD []).length : Int))) = []) ↔ ∀ x ∈ ps.map (·.2), ∀ y ∈ ps.map (·.2), x.length = y.length := by
            rw [List.filter_eq_nil_iff]
            constructor
            · intro h x mx y my
              obtain ⟨u, mu, rfl⟩ := List.mem_map.mp mx
              obtain ⟨v, mv, rfl⟩ := List.mem_map.mp my
              have h1 := h u mu
              have h2 := h v mv
              simp only [Bool.not_eq_true', Bool.not_eq_false, decide_eq_true_eq, decide_eq_false_iff_not, Classical.not_not] at h1 h2
              omega
            · intro h u mu
              have : (ps.map (·.2)).headD [] ∈ ps.map (·.2) := by
                cases ps with
                | nil => cases mu
                | cons p ps => exact List.mem_cons_self
              have h1 := h u.2 (List.mem_map.mpr ⟨u, mu, rfl⟩) _ this
              rw [h1, decide_eq_true rfl]
              decide
          generalize (ps.filter fun q => !decide ((q.2.length : Int) = (((ps.map (·.2)).headD []).length : Int))) = fl at hall
          cases fl with
          | nil => exact iteF ⟨_, rfl, q1' _ hR (hall.mp rfl) D _ G3 nDH hD3 (oo_ll hps3) sB⟩
          | cons u fl =>
            refine iteT (q2' (fun ⟨rs, g1, g2⟩ => ?_) G3 sB)
            rw [rd_det g1 hR] at g2
            cases hall.mpr g2
      · rw [oo_any_none hno]
        exact iteT (q2' (fun ⟨rs, g1, _⟩ => oo_no78 hR hno ⟨rs, g1⟩) G sA)
end
end Fo
namespace Fo
open PySem PySem.Spec PyProof.Rows L2
def spNever0 : Sp := fun _ _ _ _ => False
theorem fn_never0 {P : Program} {w : World} {K : PySem.W.Frag} {mg : Str → Option Value} {base : Heap} {CX : CXT} {k : Nat} {f : Addr} {fd : FuncData} {ps : List Str} : FnOk P w K mg base CX k f fd ps spNever0 := ⟨fun _ _ _ _ h => h.elim, fun _ _ _ _ _ _ _ _ _ _ _ _ _ h => h.elim⟩
def NoTx (H : Hp) (Q : VK) : Prop := ∀ (t : Addr) (H' : Hp), H' t = some (.tup [.str "NoText", .non]) → Same H H' → Q (.ref t) H'
def spAsk78 (_c : Nat → Addr) : Sp := fun vs H Q _ => ∃ (y : Str) (v : V) (d : PyData), vs = [.str y, v] ∧ Dq H v d ∧ ShortL d ∧
  ((y = "read" ∧ (∀ xs, RdD d xs → ∀ (t l : Addr) (H' : Hp), H' t = some (.tup [.str "told", .ref l]) → H' l = some (.lst (xs.map V.int)) → Same H H' → Q (.ref t) H') ∧ ((¬ ∃ xs, RdD d xs) → NoTx H Q)) ∨
   (y = "reads" ∧ (∀ s rs, d = .str s → RdL s rs → ∀ (t l : Addr) (as : List Addr) (H' : Hp), H' t = some (.tup [.str "told", .ref l]) → H' l = some (.lst (as.map V.ref)) → LL H' as rs → Same H H' → Q (.ref t) H') ∧ ((¬ ∃ s rs, d = .str s ∧ RdL s rs) → NoTx H Q)))
theorem any78 {K : PySem.W.Frag} {c : Nat → Addr} {C : Addr} (kd : KdY K c C 6) : PySem.W.kitAny K (.ref C) [.ref (c 1), .ref (c 2), .ref (c 3), .ref (c 4), .ref (c 5), .ref (c 7), .ref (c 8)] = some false := any_no fun u hu => by
  simp only [List.mem_cons, List.not_mem_nil, or_false] at hu
  rcases hu with rfl | rfl | rfl | rfl | rfl | rfl | rfl
  · rw [kd.ks 1 (by decide), decide_eq_false (by decide)]
  · rw [kd.ks 2 (by decide), decide_eq_false (by decide)]
  · rw [kd.ks 3 (by decide), decide_eq_false (by decide)]
  · rw [kd.ks 4 (by decide), decide_eq_false (by decide)]
  · rw [kd.ks 5 (by decide), decide_eq_false (by decide)]
  · rw [kd.ks 7 (by decide), decide_eq_false (by decide)]
  · rw [kd.ks 8 (by decide), decide_eq_false (by decide)]
section
variable {P : Program} {w : World} {K : PySem.W.Frag} {mg : Str → Option Value} {base : Heap}
theorem scAsk78 : FnScope ["way", "thing", "caught", "found", "e"] ["way", "thing"] (defScope s_law_asked) := ⟨rfl, rfl, rfl, by decide +kernel, rfl, by decide +kernel, by decide +kernel⟩
set_option maxHeartbeats 4000000 in
theorem ok_ask78 {f f1 f2 f3 f4 cE : Addr} {c : Nat → Addr} {fd d1 d2 d3 d4 : FuncData} {k : Nat} (T : Df K mg "_law_asked" s_law_asked ["way", "thing"] f fd) (T_show_order : Df K mg "show_order" s_show_order ["order"] f1 d1) (T_show_orders : Df K mg "show_orders" s_show_orders ["orders"] f2 d2) (T_read_order : Df K mg "read_order" s_read_order ["text"] f3 d3) (T_read_orders : Df K mg "read_orders" s_read_orders ["text"] f4 d4)
    (G_read_order : FnOk P w K mg base (L2.CX P w) k f3 d3 ["text"] (spReadX (c 6))) (G_read_orders : FnOk P w K mg base (L2.CX P w) k f4 d4 ["text"] (spReadsX (c 6)))
    (g_OrderError : mg "OrderError" = some (.ref cE)) (m0 : PySem.W.exmOne K (.ref (c 6)) (.ref cE) = some true) (kd : KdY K c (c 6) 6)
    (g_NoOrder : mg "NoOrder" = some (.ref (c 0))) (g_NoWay : mg "NoWay" = some (.ref (c 1))) (g_NoFit : mg "NoFit" = some (.ref (c 2))) (g_NoPlace : mg "NoPlace" = some (.ref (c 3))) (g_NoNumber : mg "NoNumber" = some (.ref (c 4))) (g_TooMany : mg "TooMany" = some (.ref (c 5))) (g_NoText : mg "NoText" = some (.ref (c 6))) (g_NoName : mg "NoName" = some (.ref (c 7))) (g_NoRow : mg "NoRow" = some (.ref (c 8))) (B : Bi mg) : FnOk P w K mg base CX0 (k + 1) f fd ["way", "thing"] (spAsk78 c) := by
  have G_show_order : FnOk P w K mg base (L2.CX P w) k f1 d1 ["order"] spNever0 := fn_never0
  have G_show_orders : FnOk P w K mg base (L2.CX P w) k f2 d2 ["orders"] spNever0 := fn_never0
  refine T.F.ok scAsk78 (fun vs H Q E h => ?_) (fun cdv A outer s H vs Q E hr h => ?_)
  · obtain ⟨y, v, d, rfl, _⟩ := h
    rfl
  · obtain ⟨y, v, d, rfl, hd, hsh, q⟩ := h
    refine ⟨_, 
      (pss_cons (ps_set (i := 2) scAsk78.nd rfl (.inl rfl) pe_non)
      (pss_cons (ps_set (i := 3) scAsk78.nd rfl (.inl rfl) pe_non)
      (Evl.pss_cut (ps_try_k (i := 4) rfl rfl rfl scAsk78.nd rfl rfl ⟨by rfl, by decide, .inl g_OrderError⟩ takes0 (fun W pn xe tk po =>
        (pss_one (ps_if (pt_cmpR op_eq (pv 0) pe_str (nomark _))
          (pss_one (ps_set (i := 3) scAsk78.nd rfl (.inl rfl) (pe_callS G_show_order hr (by rfl) T_show_order.g T_show_order.F.kp T_show_order.b (fun σ => passAt tk σ) (pa_cons (pv 1) pa_nil))))
          (pss_one (ps_if (pt_cmpR op_eq (pv 0) pe_str (nomark _))
            (pss_one (ps_set (i := 3) scAsk78.nd rfl (.inl rfl) (pe_callS G_show_orders hr (by rfl) T_show_orders.g T_show_orders.F.kp T_show_orders.b (fun σ => passAt tk σ) (pa_cons (pv 1) pa_nil))))
            (pss_one (ps_if (pt_cmpR op_eq (pv 0) pe_str (nomark _))
              (pss_one (ps_set (i := 3) scAsk78.nd rfl (.inl rfl) (pe_callS G_read_order hr (by rfl) T_read_order.g T_read_order.F.kp T_read_order.b (fun σ => passAt tk σ) (pa_cons (pv 1) pa_nil))))
              (pss_one (ps_set (i := 3) scAsk78.nd rfl (.inl rfl) (pe_callS G_read_orders hr (by rfl) T_read_orders.g T_read_orders.F.kp T_read_orders.b (fun σ => passAt tk σ) (pa_cons (pv 1) pa_nil))))))))))) (fun a oe cls d pn hz hf =>
        (pss_one (ps_set (i := 2) scAsk78.nd rfl (.inl rfl) (pv 4)))))
      (pss_cons (ps_if (pt_cmpR op_isN (pv 2) pe_non (nomark _))
        (pss_one (ps_ret (pe_tup (pa_cons pe_str (pa_cons (pv 3) pa_nil)))))
        pss_nil)
      (pss_cons (ps_if (pt_val (pe_callB call_isZT (by rfl) B.isinstance (by decide +kernel) (pa_cons (pv 2) (pa_cons (pe_tup (pa_cons (pe_glob (v := .ref (c 1)) (by rfl) g_NoWay rfl) (pa_cons (pe_glob (v := .ref (c 2)) (by rfl) g_NoFit rfl) (pa_cons (pe_glob (v := .ref (c 3)) (by rfl) g_NoPlace rfl) (pa_cons (pe_glob (v := .ref (c 4)) (by rfl) g_NoNumber rfl) (pa_cons (pe_glob (v := .ref (c 5)) (by rfl) g_TooMany rfl) (pa_cons (pe_glob (v := .ref (c 7)) (by rfl) g_NoName rfl) (pa_cons (pe_glob (v := .ref (c 8)) (by rfl) g_NoRow rfl) pa_nil)))))))) pa_nil))))
        (pss_one (ps_ret (pe_tup (pa_cons pe_str (pa_cons pe_non pa_nil)))))
        pss_nil)
      (pss_cons (ps_if (PW.pt (pw_or (pt_not (pt_val (pe_callB call_isZ (by rfl) B.isinstance (by decide +kernel) (pa_cons (pv 2) (pa_cons (pe_bltn (v := .ty "ValueError") (by rfl) B.ValueError (by decide +kernel) rfl) pa_nil))))) (pw_or1 (pt_cmpR op_eq (pe_callB call_isZ (by rfl) B.isinstance (by decide +kernel) (pa_cons (pv 2) (pa_cons (pe_glob (v := .ref (c 0)) (by rfl) g_NoOrder rfl) pa_nil))) (pe_callB call_isZ (by rfl) B.isinstance (by decide +kernel) (pa_cons (pv 2) (pa_cons (pe_glob (v := .ref (c 6)) (by rfl) g_NoText rfl) pa_nil))) (nomark _)))))
        (pss_one (ps_ret (pe_tup (pa_cons pe_str (pa_cons pe_non pa_nil)))))
        pss_nil)
      (pss_one (ps_ret (pe_tup (pa_cons (pe_ix ix_list (pe_lst (pa_cons pe_str (pa_cons pe_str pa_nil))) (pe_callTy call_int1 (by rfl) B.int (by decide +kernel) (pa_cons (pe_callB call_isZ (by rfl) B.isinstance (by decide +kernel) (pa_cons (pv 2) (pa_cons (pe_glob (v := .ref (c 0)) (by rfl) g_NoOrder rfl) pa_nil))) pa_nil)) (fun _ _ => rfl)) (pa_cons pe_non pa_nil))))))))))), ?_⟩
    refine ⟨fun σ' H' => (∃ (l : Addr) (z : Option V), σ' = [some (.str y), some v, some .non, some (.ref l), z] ∧ Same H H' ∧ ∀ (t : Addr) (H2 : Hp), H2 t = some (.tup [.str "told", .ref l]) → Same H' H2 → Q (.ref t) H2) ∨
      (∃ (b : Addr) (z : Option V), σ' = [some (.str y), some v, some (.ref b), some .non, z] ∧ H' b = some (ExV (.ref (c 6)) none b) ∧ NoTx H' Q), ?_, fun σ' H' hM => ?_⟩
    · have hs1 : ShortT d := fun s e => by have := hsh s e; omega
      rcases q with ⟨rfl, q1, q2⟩ | ⟨rfl, q1, q2⟩
      · refine ⟨_, rfl, rfl, _, rfl, iteF ⟨_, rfl, rfl, _, rfl, iteF ⟨_, rfl, rfl, _, rfl, iteT ⟨_, rfl, v, d, rfl, hd, hs1, fun xs hx l H1 nl hl s1 => ?_, fun g H1 s1 => ?_⟩⟩⟩⟩
        · exact .inl ⟨l, _, rfl, s1, fun t H2 e s2 => q1 xs hx t l H2 e (s2 _ _ hl) (s1.trans s2)⟩
        · exact ⟨true, m0, fun _ b nb => ⟨_, rfl, .inr ⟨b, _, rfl, upd_same, fun t H2 e s2 => q2 g t H2 e ((s1.trans (same_new nb)).trans s2)⟩⟩, fun z => absurd z.symm Bool.false_ne_true⟩
      · refine ⟨_, rfl, rfl, _, rfl, iteF ⟨_, rfl, rfl, _, rfl, iteF ⟨_, rfl, rfl, _, rfl, iteF ⟨_, rfl, v, d, rfl, hd, hsh, fun s rs e hr l as H1 nl hl hL s1 => ?_, fun g H1 s1 => ?_⟩⟩⟩⟩
        · exact .inl ⟨l, _, rfl, s1, fun t H2 e2 s2 => q1 s rs e hr t l as H2 e2 (s2 _ _ hl) (hL.same s2) (s1.trans s2)⟩
        · exact ⟨true, m0, fun _ b nb => ⟨_, rfl, .inr ⟨b, _, rfl, upd_same, fun t H2 e s2 => q2 g t H2 e ((s1.trans (same_new nb)).trans s2)⟩⟩, fun z => absurd z.symm Bool.false_ne_true⟩
    · rcases hM with ⟨l, z, rfl, s1, q⟩ | ⟨b, z, rfl, hb, q⟩
      · refine ⟨_, rfl, rfl, _, rfl, iteT ?_⟩
        exact ⟨_, rfl, by show 2 ≤ sizeLine; decide, fun t nt => q t _ upd_same (same_new nt)⟩
      · refine ⟨_, rfl, rfl, _, rfl, iteF ?_⟩
        refine ⟨_, rfl, line_small (by show 7 ≤ 16777216; decide), fun tp ntp => ?_⟩
        have s1 := same_new (o := .tup [.ref (c 1), .ref (c 2), .ref (c 3), .ref (c 4), .ref (c 5), .ref (c 7), .ref (c 8)]) ntp
        refine ⟨_, tp, _, _, _, false, rfl, upd_same, .cons (.own _) (.cons (.own _) (.cons (.own _) (.cons (.own _) (.cons (.own _) (.cons (.own _) (.cons (.own _) .nil)))))), .exc (s1 _ _ hb) kd.ec, any78 kd, _, rfl, iteF ?_⟩
        have hb := s1 _ _ hb
        generalize upd H' tp (.tup [.ref (c 1), .ref (c 2), .ref (c 3), .ref (c 4), .ref (c 5), .ref (c 7), .ref (c 8)]) = H2 at s1 hb ⊢
        refine ⟨_, rfl, _, _, _, _, _, rfl, .ty _, .exc hb kd.ec, kd.ve, _, rfl, iteF ?_⟩
        refine ⟨_, rfl, _, _, _, _, _, rfl, .own _, .exc hb kd.ec, kd.ks 0 (by decide), ?_⟩
        refine ⟨_, rfl, _, _, _, _, _, rfl, .own _, .exc hb kd.ec, kd.ks 6 (by decide), ?_⟩
        refine ⟨rfl, _, rfl, iteF ?_⟩
        refine ⟨line_small (by show 2 ≤ 16777216; decide), fun l nl => ?_⟩
        have s2 := same_new (o := .lst [V.str "NoText", V.str "NoOrder"]) nl
        refine ⟨_, rfl, _, _, _, _, _, rfl, .own _, .exc (s2 _ _ hb) kd.ec, kd.ks 0 (by decide), ?_⟩
        refine .inr ⟨_, rfl, ?_⟩
        refine ⟨l, _, _, _, rfl, rfl, SqL.of upd_same, rfl, ?_⟩
        exact ⟨by show 2 ≤ sizeLine; decide, fun t nt => q t _ upd_same ((s1.trans s2).trans (same_new nt))⟩
end
end Fo
namespace Fo
open PySem PySem.Spec PyProof.Rows L2 TL
def spTxr : Sp := fun vs H Q _ => ∃ (s : Str), vs = [.str s] ∧ s.length ≤ 9000 ∧ ∀ H', Same H H' → Q (.bl true) H'
abbrev dTo (d : PyData) : PyData := .tuple [.str "told", d]
abbrev dNo : PyData := .tuple [.str "NoText", .none]
theorem sh_no : SeqAt.shaped dNo = true := by decide +kernel
theorem sh_to {d : PyData} (h : SeqAt.shaped d = true) (hd : d.depth ≤ 2) : SeqAt.shaped (dTo d) = true := by
  unfold SeqAt.shaped
  rw [Bool.and_eq_true_iff]
  have hl := SeqAt.canLay_of_shaped h
  constructor
  · show (PyData.canLay0 (.str "told") && (PyData.canLay0 d && true)) = true
    rw [hl]
    decide +kernel
  · apply decide_eq_true
    show (PyData.tuple [.str "told", d]).depth ≤ 64
    simp only [PyData.depth, PyData.depthAll]
    omega
theorem rdl_one {s : Str} {a b : List (List Int)} (ha : RdL s a) (hb : RdL s b) : a = b := by
  rcases ha with ⟨h1, h2⟩ | ⟨h1, h2, _⟩
  · rcases hb with ⟨g1, g2⟩ | ⟨g1, _⟩
    · rw [h2, g2]
    · exact absurd h1 g1
  · rcases hb with ⟨g1, g2⟩ | ⟨g1, g2, _⟩
    · exact absurd g1 h1
    · exact rd_det h2 g2
theorem depth_ll2 (rs : List (List Int)) : (dLL rs).depth ≤ 2 := by
  rw [PyData.depth]
  have := depth_lists rs
  omega
section
variable {P : Program} {w : World} {K : PySem.W.Frag} {mg : Str → Option Value} {base : Heap}
theorem scTxr : FnScope ["text", "due"] ["text"] (defScope s_law_texts_right) := ⟨rfl, rfl, rfl, by decide +kernel, rfl, by decide +kernel, by decide +kernel⟩
set_option pp.maxSteps 200000 in
set_option maxHeartbeats 2000000 in
theorem ok_txr {f f1 f2 f3 : Addr} {c : Nat → Addr} {fd d1 d2 d3 : FuncData} {k : Nat} (T : Df K mg "_law_texts_right" s_law_texts_right ["text"] f fd) (T__law_read : Df K mg "_law_read" s_law_read ["text"] f1 d1) (T__law_read_list : Df K mg "_law_read_list" s_law_read_list ["text"] f2 d2) (T__law_asked : Df K mg "_law_asked" s_law_asked ["way", "thing"] f3 d3) (G__law_read : FnOk P w K mg base CX0 k f1 d1 ["text"] spLRd) (G__law_read_list : FnOk P w K mg base CX0 k f2 d2 ["text"] spLRl) (G__law_asked : FnOk P w K mg base CX0 k f3 d3 ["way", "thing"] (spAsk78 c)) (B : Bi mg) : FnOk P w K mg base CX0 (k + 1) f fd ["text"] spTxr := by
  refine T.F.ok scTxr (fun vs H Q E h => ?_) (fun cdv A outer s H vs Q E hr h => ?_)
  · obtain ⟨x, rfl, _⟩ := h
    rfl
  · obtain ⟨x, rfl, hx, q⟩ := h
    refine ⟨_, 
      (pss_cons (ps_set (i := 1) scTxr.nd rfl (.inl rfl) (pe_call G__law_read hr (by rfl) T__law_read.g T__law_read.F.kp T__law_read.b .nil pass0 (pa_cons (pv 0) pa_nil)))
      (Evl.pss_cut (ps_if (pt_cmpR (op_neD hr.units) (pe_call G__law_asked hr (by rfl) T__law_asked.g T__law_asked.F.kp T__law_asked.b .nil pass0 (pa_cons pe_str (pa_cons (pv 0) pa_nil))) (pe_tup (pa_cons (pe_ix ix_list (pe_lst (pa_cons pe_str (pa_cons pe_str pa_nil))) (pe_callTy call_int1 (by rfl) B.int (by decide +kernel) (pa_cons (pe_cmpR op_isN (pv 1) pe_non (nomark _)) pa_nil)) (fun _ _ => rfl)) (pa_cons (pv 1) pa_nil))) (nomark _))
        (pss_one (ps_ret pe_bl))
        pss_nil)
      (pss_cons (ps_set (i := 1) scTxr.nd rfl (.inl rfl) (pe_call G__law_read_list hr (by rfl) T__law_read_list.g T__law_read_list.F.kp T__law_read_list.b .nil pass0 (pa_cons (pv 0) pa_nil)))
      (pss_one (ps_ret (pe_cmpR (op_eqD hr.units) (pe_call G__law_asked hr (by rfl) T__law_asked.g T__law_asked.F.kp T__law_asked.b .nil pass0 (pa_cons pe_str (pa_cons (pv 0) pa_nil))) (pe_tup (pa_cons (pe_ix ix_list (pe_lst (pa_cons pe_str (pa_cons pe_str pa_nil))) (pe_callTy call_int1 (by rfl) B.int (by decide +kernel) (pa_cons (pe_cmpR op_isN (pv 1) pe_non (nomark _)) pa_nil)) (fun _ _ => rfl)) (pa_cons (pv 1) pa_nil))) (nomark _))))))), ?_⟩
    have hsh : ShortL (.str x) := fun s e => by cases e; exact hx
    have dpt : ∀ {G : Hp} {t l : Addr} {d : PyData}, G t = some (.tup [.str "told", .ref l]) → Dp K G (.ref l) d → Dp K G (.ref t) (dTo d) := fun e h => .tup (SqT.of e) (.cons (.str _) (.cons h .nil))
    have dpn : ∀ {G : Hp} {t : Addr}, G t = some (.tup [.str "NoText", .non]) → Dp K G (.ref t) dNo := fun e => .tup (SqT.of e) (.cons (.str _) (.cons .non .nil))
    have same2 : ∀ {d : PyData}, SeqAt.shaped d = true → PyData.eqv d d = true := fun h => SeqAt.eqv_refl _ (SeqAt.canLay_of_shaped h)
    refine ⟨_, rfl, x, rfl, by omega, fun xs hxs l H1 nl hl s1 => ?_, fun hno H1 s1 => ?_⟩
    · refine ⟨fun σ' H' => ∃ y, σ' = [some (.str x), some y] ∧ Same H H', ?_, fun σ' H' hM => ?_⟩
      · refine ⟨_, rfl, "read", .str x, .str x, rfl, .str x, hsh, .inl ⟨rfl, fun xs' hx' t l' H2 ht hl' s2 => ?_, fun hn => absurd ⟨xs, x, rfl, hxs⟩ hn⟩⟩
        obtain ⟨_, e, hx'⟩ := hx'
        cases e
        rw [rd_one hx' hxs] at hl'
        refine ⟨line_small (by show 2 ≤ 16777216; decide), fun ll nll => ⟨_, rfl, rfl, .inr ⟨_, rfl, ll, _, _, _, rfl, rfl, SqL.of upd_same, rfl, _, rfl, line_small (by show 2 ≤ 16777216; decide), fun tt ntt => ?_⟩⟩⟩
        have t1 := (same_new (o := .lst [.str "told", .str "NoText"]) nll).trans (same_new (o := .tup [.str "told", .ref l]) ntt)
        have sh := sh_to (shaped_list xs) (by rw [depth_list]; omega)
        refine ⟨dTo (dL xs), dTo (dL xs), dpt (t1 _ _ ht) (dp_list (t1 _ _ hl')), dpt upd_same (dp_list (t1 _ _ (s2 _ _ hl))), sh, sh, _, rfl, ?_⟩
        rw [same2 sh]
        exact iteF ⟨_, rfl, s1.trans (s2.trans t1)⟩
      · obtain ⟨y, rfl, s0⟩ := hM
        refine ⟨_, rfl, x, rfl, hx, fun rs hrs l as H1 nl hl hL s1 => ?_, fun hno H1 s1 => ?_⟩
        · refine ⟨_, rfl, "reads", .str x, .str x, rfl, .str x, hsh, .inr ⟨rfl, fun s' rs' es' hrs' t l' as' H2 ht hl' hL' s2 => ?_, fun hn => absurd ⟨x, rs, rfl, hrs⟩ hn⟩⟩
          cases es'
          rw [rdl_one hrs' hrs] at hL'
          refine ⟨line_small (by show 2 ≤ 16777216; decide), fun ll nll => ⟨_, rfl, rfl, .inr ⟨_, rfl, ll, _, _, _, rfl, rfl, SqL.of upd_same, rfl, _, rfl, line_small (by show 2 ≤ 16777216; decide), fun tt ntt => ?_⟩⟩⟩
          have t1 := (same_new (o := .lst [.str "told", .str "NoText"]) nll).trans (same_new (o := .tup [.str "told", .ref l]) ntt)
          have sh := sh_to (shaped_lists rs) (depth_ll2 rs)
          refine ⟨dTo (dLL rs), dTo (dLL rs), dpt (t1 _ _ ht) (dp_lists (t1 _ _ hl') (hL'.same t1)), dpt upd_same (dp_lists (t1 _ _ (s2 _ _ hl)) ((hL.same s2).same t1)), sh, sh, ?_⟩
          rw [same2 sh]
          exact q _ (s0.trans (s1.trans (s2.trans t1)))
        · refine ⟨_, rfl, "reads", .str x, .str x, rfl, .str x, hsh, .inr ⟨rfl, fun s' rs' es' hrs' => ?_, fun _ t H2 ht s2 => ?_⟩⟩
          · cases es'
            exact absurd ⟨rs', hrs'⟩ hno
          refine ⟨line_small (by show 2 ≤ 16777216; decide), fun ll nll => ⟨_, rfl, rfl, .inr ⟨_, rfl, ll, _, _, _, rfl, rfl, SqL.of upd_same, rfl, _, rfl, line_small (by show 2 ≤ 16777216; decide), fun tt ntt => ?_⟩⟩⟩
          have t1 := (same_new (o := .lst [.str "told", .str "NoText"]) nll).trans (same_new (o := .tup [.str "NoText", .non]) ntt)
          refine ⟨dNo, dNo, dpn (t1 _ _ ht), dpn upd_same, sh_no, sh_no, ?_⟩
          rw [same2 sh_no]
          exact q _ (s0.trans (s1.trans (s2.trans t1)))
    · refine ⟨fun σ' H' => ∃ y, σ' = [some (.str x), some y] ∧ Same H H', ?_, fun σ' H' hM => ?_⟩
      · refine ⟨_, rfl, "read", .str x, .str x, rfl, .str x, hsh, .inl ⟨rfl, fun xs' hx' => ?_, fun _ t H2 ht s2 => ?_⟩⟩
        · obtain ⟨_, e, hx'⟩ := hx'
          cases e
          exact absurd ⟨xs', hx'⟩ hno
        refine ⟨line_small (by show 2 ≤ 16777216; decide), fun ll nll => ⟨_, rfl, rfl, .inr ⟨_, rfl, ll, _, _, _, rfl, rfl, SqL.of upd_same, rfl, _, rfl, line_small (by show 2 ≤ 16777216; decide), fun tt ntt => ?_⟩⟩⟩
        have t1 := (same_new (o := .lst [.str "told", .str "NoText"]) nll).trans (same_new (o := .tup [.str "NoText", .non]) ntt)
        refine ⟨dNo, dNo, dpn (t1 _ _ ht), dpn upd_same, sh_no, sh_no, _, rfl, ?_⟩
        rw [same2 sh_no]
        exact iteF ⟨_, rfl, s1.trans (s2.trans t1)⟩
      · obtain ⟨y, rfl, s0⟩ := hM
        refine ⟨_, rfl, x, rfl, hx, fun rs hrs l as H1 nl hl hL s1 => ?_, fun hno H1 s1 => ?_⟩
        · refine ⟨_, rfl, "reads", .str x, .str x, rfl, .str x, hsh, .inr ⟨rfl, fun s' rs' es' hrs' t l' as' H2 ht hl' hL' s2 => ?_, fun hn => absurd ⟨x, rs, rfl, hrs⟩ hn⟩⟩
          cases es'
          rw [rdl_one hrs' hrs] at hL'
          refine ⟨line_small (by show 2 ≤ 16777216; decide), fun ll nll => ⟨_, rfl, rfl, .inr ⟨_, rfl, ll, _, _, _, rfl, rfl, SqL.of upd_same, rfl, _, rfl, line_small (by show 2 ≤ 16777216; decide), fun tt ntt => ?_⟩⟩⟩
          have t1 := (same_new (o := .lst [.str "told", .str "NoText"]) nll).trans (same_new (o := .tup [.str "told", .ref l]) ntt)
          have sh := sh_to (shaped_lists rs) (depth_ll2 rs)
          refine ⟨dTo (dLL rs), dTo (dLL rs), dpt (t1 _ _ ht) (dp_lists (t1 _ _ hl') (hL'.same t1)), dpt upd_same (dp_lists (t1 _ _ (s2 _ _ hl)) ((hL.same s2).same t1)), sh, sh, ?_⟩
          rw [same2 sh]
          exact q _ (s0.trans (s1.trans (s2.trans t1)))
        · refine ⟨_, rfl, "reads", .str x, .str x, rfl, .str x, hsh, .inr ⟨rfl, fun s' rs' es' hrs' => ?_, fun _ t H2 ht s2 => ?_⟩⟩
          · cases es'
            exact absurd ⟨rs', hrs'⟩ hno
          refine ⟨line_small (by show 2 ≤ 16777216; decide), fun ll nll => ⟨_, rfl, rfl, .inr ⟨_, rfl, ll, _, _, _, rfl, rfl, SqL.of upd_same, rfl, _, rfl, line_small (by show 2 ≤ 16777216; decide), fun tt ntt => ?_⟩⟩⟩
          have t1 := (same_new (o := .lst [.str "told", .str "NoText"]) nll).trans (same_new (o := .tup [.str "NoText", .non]) ntt)
          refine ⟨dNo, dNo, dpn (t1 _ _ ht), dpn upd_same, sh_no, sh_no, ?_⟩
          rw [same2 sh_no]
          exact q _ (s0.trans (s1.trans (s2.trans t1)))
end
end Fo
namespace Fo
open PySem PySem.Spec PyProof.Rows L2 CwR
/-! e.replace of written texts, behind a test against a written number (so that a token is out) -/
section
variable {X : Cx}
theorem pst_asg {tg e : Expr} {te : TE} {g : TG} {pos : Pos} (he : PET X e te) (hg : PG X tg g) (hs : swapsWithSole [tg] e pos.line X.env = pure false := by rfl) (hw : swappedStores [tg] e X.env = pure none := by rfl)
    (h1 : (assignEach [tg] X.env).map (·.2) = [assign tg X.env] := by rfl) : PST X (.Assign [tg] e pos) (tAsg te g) := by
  intro pins s σ H D h0 I h
  refine wpAny_Assign_stores (thn (he pins s σ H _ h0 I h) fun v s1 ⟨x, H1, I1, r1, q1⟩ => ?_) hs hw
  rw [h1]
  exact thn (hg.run pins s1 σ H1 x v _ I1 r1 q1) fun _ s2 q => q
theorem ps_ifT {op : CmpOp} {r : R2} {a : Expr} {ta : TE} {n : Int} {j : Nat} {p cp pos : Pos} {body : List Stmt} {tb : TS} (ho : OpR X (compareOp op) r) (ha : PE X a ta) (hb : PSsT X body tb) (hm : behindInMarks op (.Constant (.int n) j p) = false := by rfl) :
    PS X (.If (.Compare a [op] [.Constant (.int n) j p] cp) body [] pos) (tIfS (tTest (tOp r ta (tC (.int n)))) tb tNext) := by
  refine ⟨fun pins s σ H D I h => ?_⟩
  refine wpAny_If (wpAny_isTrue_Compare1 (thn (ha.run pins s σ H _ I h) fun v s1 ⟨x, H1, I1, r1, q1⟩ => wpAny_Constant_int ?_) hm)
  refine wpAny_mono (PySem.wpAny_toks (ho pins { s1 with toks := s1.toks + 1 } σ H1 x (.int n) v _ _ (I1.tok _) r1 ⟨_, rfl⟩ q1)) (fun c s3 q => ?_) fun _ _ z => z.2
  obtain ⟨hk, z, H3, I3, r3, k, e, q3⟩ := q
  subst e
  cases r3
  have hk : s1.toks + 1 ≤ s3.toks := hk
  refine wpAny_truthy_bool ?_
  cases k with
  | true => exact hb pins s3 σ H3 D (by omega) I3 q3
  | false => exact (pss_nil (X := X)).run pins s3 σ H3 D I3 q3
end
end Fo
namespace Fo
open PySem PySem.Spec PyProof.Rows L2 TL
def mu (ys : List Str) : Nat := (ys.map (·.length)).sum + ys.length
theorem mu_cons (y : Str) (ys : List Str) : mu (y :: ys) = y.length + 1 + mu ys := by
  unfold mu
  rw [List.map_cons, List.sum_cons, List.length_cons]
  omega
theorem mu_app (xs ys : List Str) : mu (xs ++ ys) = mu xs + mu ys := by
  unfold mu
  rw [List.map_append, List.sum_append, List.length_append]
  omega
theorem mu_set : ∀ (ys : List Str) (k : Nat) (v : Str), mu (ys.set k v) ≤ mu ys + v.length
  | [], _, _ => Nat.zero_le _
  | y :: ys, 0, v => by
    rw [List.set_cons_zero, mu_cons, mu_cons]
    omega
  | y :: ys, k + 1, v => by
    rw [List.set_cons_succ, mu_cons, mu_cons]
    have := mu_set ys k v
    omega
theorem mu_erase : ∀ (ys : List Str) (k : Nat), mu (ys.eraseIdx k) ≤ mu ys
  | [], _ => Nat.le_refl _
  | y :: ys, 0 => by
    rw [List.eraseIdx_cons_zero, mu_cons]
    omega
  | y :: ys, k + 1 => by
    rw [List.eraseIdx_cons_succ, mu_cons, mu_cons]
    have := mu_erase ys k
    omega
theorem mu_ins (ys : List Str) (k : Nat) (v : Str) : mu (ys.take k ++ [v] ++ ys.drop k) = mu ys + v.length + 1 := by
  have h : mu ys = mu (ys.take k) + mu (ys.drop k) := by rw [← mu_app, List.take_append_drop]
  rw [mu_app, mu_app, mu_cons, h]
  show mu (ys.take k) + (v.length + 1 + 0) + mu (ys.drop k) = _
  omega
theorem mu_split (x y : Str) (hy : 1 ≤ y.length) : mu (Txt.split x y) ≤ x.length + y.length := by
  have h := split_sum x y
  have h2 : (Txt.split x y).length * 1 ≤ (Txt.split x y).length * y.length := Nat.mul_le_mul (Nat.le_refl _) hy
  unfold mu
  omega
theorem join_len (ys : List Str) : (Txt.join " " ys).length ≤ mu ys := by
  rw [len_tl' (Txt.join " " ys), tl_joinT]
  refine Nat.le_trans (len_joinL _) ?_
  rw [List.map_map, List.length_map]
  have h4 : ys.map (List.length ∘ tl) = ys.map (·.length) := List.map_congr_left fun z _ => (len_tl' z).symm
  rw [h4]
  have : (tl (" " : Str)).length = 1 := by decide
  rw [this]
  unfold mu
  omega
theorem dec_len30 {v : Int} (h0 : 0 ≤ v) (h1 : v < 100000000000000000000000000) : (Str.ofString (toString v)).length ≤ 30 := PyProof.Rows.toString_length_le h0 (by decide) (by
    have : (100000000000000000000000000 : Int) ≤ 10 ^ 30 := by decide
    omega)
/-- the words so far -/
structure WA (H : Hp) (d : Addr) (n0 M S : Nat) (ok : Prop) (w : Addr) (G : Hp) : Prop where
  ex : ∃ ys : List Str, G w = some (.lst (ys.map V.str)) ∧ (ok → ys.length = n0) ∧ (∀ y ∈ ys, y.length ≤ M) ∧ mu ys ≤ S
  po : PoolAt G d
  kp : KeepD d H G
  nw : H w = none
theorem WA.mono {H : Hp} {d : Addr} {n0 M S M' S' : Nat} {ok ok' : Prop} {w : Addr} {G : Hp} (h : WA H d n0 M S ok w G) (hM : M ≤ M') (hS : S ≤ S') (ho : ok' → ok) : WA H d n0 M' S' ok' w G := by
  obtain ⟨⟨ys, h1, h2, h3, h4⟩, h5, h6, h7⟩ := h
  exact ⟨⟨ys, h1, fun z => h2 (ho z), fun y m => Nat.le_trans (h3 y m) hM, Nat.le_trans h4 hS⟩, h5, h6, h7⟩
theorem keepD_put {d w : Addr} {H G : Hp} {o : HO} (k : KeepD d H G) (nw : H w = none) : KeepD d H (upd G w o) := fun b x e f => by
  rw [upd_ne (ne_of_none e nw)]
  exact k b x e f
def spChg : Sp := fun vs H Q _ => ∃ (d : Addr) (x : Str), vs = [.ref d, .str x] ∧ PoolAt H d ∧ x.length ≤ 400000 ∧ ∀ (s : Str) (H' : Hp), s.length ≤ 40 * x.length + 20000 → PoolAt H' d → KeepD d H H' → Q (.str s) H'
theorem ix_ok {i : Int} {n : Nat} (h0 : 0 ≤ i) (h1 : i < n) : ixN n i = some i.toNat := by
  unfold ixN
  rw [if_pos h0, if_pos h1]
theorem atS {ys : List Str} {i : Int} (h0 : 0 ≤ i) (h1 : i < ys.length) : ∃ y, ys[i.toNat]? = some y ∧ y ∈ ys ∧ atI (ys.map V.str) i = some (.str y) := by
  have h2 : i.toNat < ys.length := by omega
  refine ⟨ys[i.toNat], List.getElem?_eq_getElem h2, List.getElem_mem h2, at_of (j := i.toNat) (by omega) (by rw [List.getElem?_map, List.getElem?_eq_getElem h2]; rfl)⟩
theorem apl (a b : Str) : (a ++ b).length = a.length + b.length := by
  show (a.cps ++ b.cps).size = a.cps.size + b.cps.size
  exact Array.size_append
theorem WA.put {H : Hp} {d : Addr} {n0 M S M' S' : Nat} {ok ok' : Prop} {u : Addr} {G : Hp} (h : WA H d n0 M S ok u G) (un : u ≠ d) {ys : List Str} (h2 : ok' → ys.length = n0) (h3 : ∀ y ∈ ys, y.length ≤ M') (h4 : mu ys ≤ S') : WA H d n0 M' S' ok' u (upd G u (.lst (ys.map V.str))) :=
  ⟨⟨ys, upd_same, h2, h3, h4⟩, h.po.upd un, keepD_put h.kp h.nw, h.nw⟩
theorem er_map : ∀ (ys : List Str) (k : Nat), (ys.map V.str).eraseIdx k = (ys.eraseIdx k).map V.str
  | [], _ => rfl
  | _ :: _, 0 => rfl
  | y :: ys, k + 1 => by
    rw [List.map_cons, List.eraseIdx_cons_succ, List.eraseIdx_cons_succ, List.map_cons, er_map ys k]
theorem pow_ok : CPow 10 25 := ⟨by decide, by decide, by decide⟩
theorem log_big {v : Int} (h0 : 0 ≤ v) (h1 : v < 100000000000000000000000000) : v.natAbs.log2 < 1920 := by
  by_cases c : v.natAbs = 0
  · rw [c]; decide
  · rw [Nat.log2_lt c]
    have : (100000000000000000000000000 : Nat) ≤ 2 ^ 1920 := by decide +kernel
    omega
theorem set_all {ys : List Str} {k : Nat} {v : Str} {M : Nat} (h : ∀ y ∈ ys, y.length ≤ M) (hv : v.length ≤ M) : ∀ y ∈ ys.set k v, y.length ≤ M := fun y m => by
  rcases List.mem_or_eq_of_mem_set m with m | rfl
  · exact h y m
  · exact hv
/-- between the tests of _law_changed -/
def StC (H : Hp) (d : Addr) (x sg sn : Str) (at_ way kx ox : Int) (n0 M S : Nat) (ok : Prop) : L2.St → Hp → Prop := fun σ' G => ∃ (u : Addr) (z : Option V), σ' = [some (.ref d), some (.str x), some (.str sg), some (.str sn), some (.int at_), some (.int way), some (.ref u), some (.int kx), some (.int ox), z] ∧ WA H d n0 M S ok u G
section
variable {P : Program} {w : World} {K : PySem.W.Frag} {mg : Str → Option Value} {base : Heap}
theorem scChg : FnScope ["pool", "text", "signs", "sign", "at", "way", "words", "k", "other", "kept"] ["pool", "text"] (defScope s_law_changed) := ⟨rfl, rfl, rfl, by decide +kernel, rfl, by decide +kernel, by decide +kernel⟩
set_option pp.maxSteps 200000 in
set_option maxHeartbeats 8000000 in
theorem ok_chg {f f1 : Addr} {fd d1 : FuncData} {k : Nat} (T : Df K mg "_law_changed" s_law_changed ["pool", "text"] f fd) (T__law_draw : Df K mg "_law_draw" s_law_draw ["pool", "many"] f1 d1) (G__law_draw : FnOk P w K mg base CX0 k f1 d1 ["pool", "many"] spDrawP) (B : Bi mg) : FnOk P w K mg base CX0 (k + 1) f fd ["pool", "text"] spChg := by
  refine T.F.ok scChg (fun vs H Q E h => ?_) (fun cdv A outer s H vs Q E hr h => ?_)
  · obtain ⟨d, x, rfl, _⟩ := h
    rfl
  · obtain ⟨d, x, rfl, hP0, hx, q⟩ := h
    refine ⟨_, 
      (pss_cons (ps_set (i := 2) scChg.nd rfl (.inl rfl) pe_str)
      (pss_cons (ps_set (i := 2) scChg.nd rfl (.inl rfl) (pe_op op_add_str (pv 2) pe_str))
      (pss_cons (ps_set (i := 3) scChg.nd rfl (.inl rfl) (pe_ix ix_str (pv 2) (pe_call G__law_draw hr (by rfl) T__law_draw.g T__law_draw.F.kp T__law_draw.b .nil pass0 (pa_cons (pv 0) (pa_cons (pe_ix ix_list (pe_lst (pa_cons pe_int (pa_cons (pe_callB call_len_str (by rfl) B.len PySem.boot_len (pa_cons (pv 2) pa_nil)) pa_nil))) (pe_call G__law_draw hr (by rfl) T__law_draw.g T__law_draw.F.kp T__law_draw.b .nil pass0 (pa_cons (pv 0) (pa_cons pe_int pa_nil))) (fun _ _ => rfl)) pa_nil))) (fun _ _ => rfl)))
      (pss_cons (ps_set (i := 4) scChg.nd rfl (.inl rfl) (pe_call G__law_draw hr (by rfl) T__law_draw.g T__law_draw.F.kp T__law_draw.b .nil pass0 (pa_cons (pv 0) (pa_cons (pe_op op_add (pe_callB call_len_str (by rfl) B.len PySem.boot_len (pa_cons (pv 1) pa_nil)) pe_int) pa_nil))))
      (pss_cons (ps_set (i := 5) scChg.nd rfl (.inl rfl) (pe_call G__law_draw hr (by rfl) T__law_draw.g T__law_draw.F.kp T__law_draw.b .nil pass0 (pa_cons (pv 0) (pa_cons pe_int pa_nil))))
      (pss_cons (ps_set (i := 6) scChg.nd rfl (.inl rfl) (pe_split (pv 1) pe_str))
      (pss_cons (ps_set (i := 7) scChg.nd rfl (.inl rfl) (pe_call G__law_draw hr (by rfl) T__law_draw.g T__law_draw.F.kp T__law_draw.b .nil pass0 (pa_cons (pv 0) (pa_cons (pe_callB call_len_seq (by rfl) B.len PySem.boot_len (pa_cons (pv 6) pa_nil)) pa_nil))))
      (pss_cons (ps_set (i := 8) scChg.nd rfl (.inl rfl) (pe_call G__law_draw hr (by rfl) T__law_draw.g T__law_draw.F.kp T__law_draw.b .nil pass0 (pa_cons (pv 0) (pa_cons (pe_callB call_len_seq (by rfl) B.len PySem.boot_len (pa_cons (pv 6) pa_nil)) pa_nil))))
      (pss_cons (ps_if (pt_cmpR op_lt (pv 5) pe_int (nomark _))
        (pss_one (ps_ret (pe_op op_add_str (pe_op op_add_str (pe_slice sl_str (pv 1) po_none (po_some (pv 4))) (pv 3)) (pe_slice sl_str (pv 1) (po_some (pe_op op_add (pv 4) (pv 5))) po_none))))
        pss_nil)
      (pss_cons (ps_if (pt_cmpR op_eq (pv 5) pe_int (nomark _))
        (pss_one (ps_ret (pe_op op_add_str (pe_slice sl_str (pv 1) po_none (po_some (pv 4))) (pe_slice sl_str (pv 1) (po_some (pe_op op_add (pv 4) pe_int)) po_none))))
        pss_nil)
      (Evl.pss_cut (ps_if (pt_cmpR op_eq (pv 5) pe_int (nomark _))
        (pss_cons (ps_set (i := 9) scChg.nd rfl (.inl rfl) (pe_ix ix_list (pv 6) (pv 7) (fun _ _ => rfl)))
        (pss_cons (ps_asg (pe_ix ix_list (pv 6) (pv 8) (fun _ _ => rfl)) (pg_sub (pv 6) (pv 7) set_list))
        (pss_one (ps_asg (pv 9) (pg_sub (pv 6) (pv 8) set_list)))))
        pss_nil)
      (Evl.pss_cut (ps_if (pt_cmpR op_eq (pv 5) pe_int (nomark _))
        (pss_one (ps_expr (pe_bm PySem.F.plainAttrs_list PySem.F.slot_list_insert PySem.F.type_list_insert mt_insert (pv 6) (pa_cons (pv 7) (pa_cons (pe_ix ix_list (pv 6) (pv 8) (fun _ _ => rfl)) pa_nil)))))
        pss_nil)
      (Evl.pss_cut (ps_if (pt_cmpR op_eq (pv 5) pe_int (nomark _))
        (pss_one (ps_expr (pe_bm PySem.F.plainAttrs_list PySem.F.slot_list_pop PySem.F.type_list_pop mt_popAt (pv 6) (pa_cons (pv 7) pa_nil))))
        pss_nil)
      (Evl.pss_cut (ps_if (pt_cmpR op_eq (pv 5) pe_int (nomark _))
        (pss_one (ps_asg (pe_callTy call_str_int (by rfl) B.str (by decide +kernel) (pa_cons (pe_call G__law_draw hr (by rfl) T__law_draw.g T__law_draw.F.kp T__law_draw.b .nil pass0 (pa_cons (pv 0) (pa_cons (pe_ix ix_list (pe_lst (pa_cons pe_int (pa_cons pe_int (pa_cons (pe_op op_pow pe_int pe_int) pa_nil)))) (pe_call G__law_draw hr (by rfl) T__law_draw.g T__law_draw.F.kp T__law_draw.b .nil pass0 (pa_cons (pv 0) (pa_cons pe_int pa_nil))) (fun _ _ => rfl)) pa_nil))) pa_nil)) (pg_sub (pv 6) (pv 7) set_list)))
        pss_nil)
      (Evl.pss_cut (ps_if (pt_cmpR op_eq (pv 5) pe_int (nomark _))
        (pss_one (ps_asg (pe_op op_add_str pe_str (pe_ix ix_list (pv 6) (pv 7) (fun _ _ => rfl))) (pg_sub (pv 6) (pv 7) set_list)))
        pss_nil)
      (Evl.pss_cut (ps_if (pt_cmpR op_eq (pv 5) pe_int (nomark _))
        (pss_one (ps_asg (pe_op op_add_str (pe_ix ix_list (pv 6) (pv 7) (fun _ _ => rfl)) pe_str) (pg_sub (pv 6) (pv 7) set_list)))
        pss_nil)
      (Evl.pss_cut (ps_ifT op_eq (pv 5) (CwR.psst_one (pst_asg (CwR.pet_replC (pe_ix ix_list (pv 6) (pv 7) (fun _ _ => rfl))) (pg_sub (pv 6) (pv 7) set_list))))
      (Evl.pss_cut (ps_if (pt_cmpR op_eq (pv 5) pe_int (nomark _))
        (pss_one (ps_set (i := 6) scChg.nd rfl (.inl rfl) (pe_op op_cat (pv 6) (pe_lst (pa_cons (pe_ix ix_list (pe_lst (pa_cons pe_str (pa_cons pe_str (pa_cons pe_str (pa_cons pe_str (pa_cons pe_str (pa_cons pe_str pa_nil))))))) (pe_call G__law_draw hr (by rfl) T__law_draw.g T__law_draw.F.kp T__law_draw.b .nil pass0 (pa_cons (pv 0) (pa_cons pe_int pa_nil))) (fun _ _ => rfl)) pa_nil)))))
        pss_nil)
      (pss_cons (ps_if (pt_cmpR op_eq (pv 5) pe_int (nomark _))
        (pss_one (ps_ret (pe_op op_add_str (pe_ix ix_list (pe_lst (pa_cons pe_str (pa_cons pe_str (pa_cons pe_str (pa_cons pe_str pa_nil))))) (pe_call G__law_draw hr (by rfl) T__law_draw.g T__law_draw.F.kp T__law_draw.b .nil pass0 (pa_cons (pv 0) (pa_cons pe_int pa_nil))) (fun _ _ => rfl)) (pv 1))))
        pss_nil)
      (pss_one (ps_ret (pe_join pe_str (pv 6))))))))))))))))))))))), ?_⟩
    refine ⟨_, rfl, _, _, rfl, rfl, by decide +kernel, ?_⟩
    generalize eS : (Str.ofString "  ,,0123456789-\n\t.;:+!\"#$&'()*/<=>?@ABCDEFGHIJKLMNOPQRSTUVWXYZ" ++ Str.ofString "[\\]^_`abcdefghijklmnopqrstuvwxyz{|}~") = sg
    have hsg : 14 ≤ sg.length ∧ sg.length ≤ 200 := by
      rw [← eS]
      decide +kernel
    have dne : ∀ {p : Addr}, H p = none → p ≠ d := fun e => hP0.ne e
    -- sign
    refine ⟨_, rfl, _, rfl, _, rfl, sg, rfl, line_small (by omega), line_small (by show 2 ≤ 16777216; decide), fun ll nll => ?_⟩
    have s1 := same_new (o := .lst [.int 14, .int (sg.length : Int)]) nll
    refine ⟨_, rfl, d, 2, rfl, hP0.same s1, by decide, by decide, fun v1 H1 v10 v11 D1 k1 => ?_⟩
    have hll := k1 _ _ (upd_same (H := H) (a := ll) (o := .lst [.int 14, .int (sg.length : Int)])) (dne nll)
    have kk1 : KeepD d H H1 := (KeepD.of_same s1).trans k1
    obtain ⟨m, em, hm1, hm2⟩ : ∃ m : Int, atI [V.int 14, V.int (sg.length : Int)] v1 = some (.int m) ∧ 0 < m ∧ m ≤ (sg.length : Int) := by
      rcases (show v1 = 0 ∨ v1 = 1 by omega) with rfl | rfl
      · exact ⟨14, rfl, by decide, by omega⟩
      · exact ⟨_, rfl, by omega, by omega⟩
    refine ⟨ll, _, _, _, rfl, rfl, SqL.of hll, em, d, m, rfl, D1, hm1, by omega, fun v2 H2 v20 v21 D2 k2 => ?_⟩
    have hv2 : v2.toNat < sg.cps.toList.length := by
      have : sg.cps.toList.length = sg.length := Array.length_toList
      omega
    refine ⟨sg, v2, sg.cps.toList[v2.toNat], rfl, rfl, line_small (by omega), by
      have := atI_nat (xs := sg.cps.toList) (j := v2.toNat) (List.getElem?_eq_getElem hv2)
      rw [Int.toNat_of_nonneg v20] at this
      exact this, ?_⟩
    generalize eN : (⟨#[sg.cps.toList[v2.toNat]]⟩ : Str) = sn
    have hsn : sn.length = 1 := by rw [← eN]; rfl
    have kk2 := kk1.trans k2
    clear eN eS hv2 em hll k1 k2 s1 D1
    -- at, way, words, k, other
    refine ⟨_, rfl, _, rfl, x, rfl, line_small (by omega), _, _, rfl, rfl, d, _, rfl, D2, by omega, by omega, fun at_ H3 at0 at1 D3 k3 => ?_⟩
    refine ⟨_, rfl, d, 12, rfl, D3, by decide, by decide, fun way H4 way0 way1 D4 k4 => ?_⟩
    have hmu := mu_split x " " (by decide)
    have hws := split_ne x
    have hpl : ∀ z ∈ Txt.split x " ", z.length ≤ x.length + 1 := fun z m => part_len m
    have e1 : (" " : Str).length = 1 := by decide
    refine ⟨_, rfl, ⟨_, rfl⟩, _, _, rfl, rfl, by decide +kernel, line_small (by omega), fun wa nwa => ?_⟩
    generalize Txt.split x " " = ws at hmu hws hpl ⊢
    have n0pos : 0 < ws.length := List.length_pos_iff.mpr hws
    have n0le : ws.length ≤ 500000 := by unfold mu at hmu; omega
    have kk4 := (kk2.trans k3).trans k4
    have nwH : H wa = none := by
      cases e : H wa with
      | none => rfl
      | some o =>
        by_cases c : wa = d
        · obtain ⟨_, _, _, e2⟩ := D4
          rw [c, e2] at nwa
          cases nwa
        · have := kk4 wa o e c
          rw [nwa] at this
          cases this
    have s5 := same_new (o := .lst (ws.map V.str)) nwa
    have D5 := D4.same s5
    have W5 : WA H d ws.length (x.length + 1) (x.length + 1) True wa (upd H4 wa (.lst (ws.map V.str))) := ⟨⟨ws, upd_same, fun _ => rfl, hpl, by omega⟩, D5, kk4.trans (KeepD.of_same s5), nwH⟩
    generalize upd H4 wa (.lst (ws.map V.str)) = H5 at W5 D5
    have drawn : ∀ {G G' : Hp} {M S : Nat} {ok : Prop} {u : Addr}, WA H d ws.length M S ok u G → PoolAt G' d → KeepD d G G' → WA H d ws.length M S ok u G' := fun h po kp => by
      obtain ⟨⟨ys, h1, h2⟩, h5, h6, h7⟩ := h
      exact ⟨⟨ys, kp _ _ h1 (dne h7), h2⟩, po, h6.trans kp, h7⟩
    have wlen : ∀ {G : Hp}, WA H d ws.length (x.length + 1) (x.length + 1) True wa G → ∃ ys : List Str, G wa = some (.lst (ys.map V.str)) ∧ ys.length = ws.length := fun h => by
      obtain ⟨ys, h1, h2, _⟩ := h.ex
      exact ⟨ys, h1, h2 trivial⟩
    obtain ⟨ys5, h51, h52⟩ := wlen W5
    refine ⟨_, rfl, _, rfl, wa, _, rfl, .inl (SqL.of h51), d, _, rfl, D5, by rw [List.length_map]; omega, by rw [List.length_map]; omega, fun kx H6 kx0 kx1 D6 k6 => ?_⟩
    rw [List.length_map, h52] at kx1
    have W6 := drawn W5 D6 k6
    obtain ⟨ys6, h61, h62⟩ := wlen W6
    refine ⟨_, rfl, _, rfl, wa, _, rfl, .inl (SqL.of h61), d, _, rfl, D6, by rw [List.length_map]; omega, by rw [List.length_map]; omega, fun ox H7 ox0 ox1 D7 k7 => ?_⟩
    rw [List.length_map, h62] at ox1
    have W7 := drawn W6 D7 k7
    clear W5 W6 h51 h52 h61 h62 k6 k7 s5 D4 D3 D2 D5 D6 kk1 kk2 kk4 k3 k4 hmu hws hpl nwa wlen
    have cl := cutS_length x
    -- way < 2
    refine ⟨_, rfl, _, _, rfl, rfl, _, rfl, ite2 (fun c => ?_) (fun c => ?_)⟩
    · refine ⟨_, rfl, _, rfl, _, rfl, x, rfl, line_small (by omega), _, rfl, _, _, rfl, rfl, line_small (by have := cl none (some at_); omega), ?_⟩
      refine ⟨_, rfl, _, rfl, _, rfl, _, _, rfl, rfl, _, rfl, ?_⟩
      unfold tNoPart
      refine ⟨x, rfl, line_small (by omega), _, _, rfl, rfl, line_small (by rw [apl]; have := cl none (some at_); have := cl (some (at_ + way)) none; omega), q _ _ (by rw [apl, apl]; have := cl none (some at_); have := cl (some (at_ + way)) none; omega) W7.po W7.kp⟩
    -- way == 2
    refine ⟨_, rfl, rfl, _, rfl, ite2 (fun c => ?_) (fun c => ?_)⟩
    · refine ⟨_, rfl, _, rfl, _, rfl, x, rfl, line_small (by omega), _, rfl, _, rfl, _, _, rfl, rfl, _, rfl, ?_⟩
      unfold tNoPart
      refine ⟨x, rfl, line_small (by omega), _, _, rfl, rfl, line_small (by have := cl none (some at_); have := cl (some (at_ + 1)) none; omega), q _ _ (by rw [apl]; have := cl none (some at_); have := cl (some (at_ + 1)) none; omega) W7.po W7.kp⟩
    -- way == 3
    obtain ⟨u, G, W, eW⟩ : ∃ (u : Addr) (G : Hp), WA H d ws.length (x.length + 1) (x.length + 1) True u G ∧ u = wa ∧ G = H7 := ⟨_, _, W7, rfl, rfl⟩
    obtain ⟨rfl, rfl⟩ := eW
    clear W7
    refine ⟨StC H d x sg sn at_ way kx ox ws.length (x.length + 1 + 40) (x.length + 1 + 1 * (2 * x.length + 800)) (True), ?_, fun σ' G hM => ?_⟩
    · refine ⟨_, rfl, rfl, _, rfl, ite2 (fun c => ?_) (fun c => ⟨_, _, rfl, W.mono (by omega) (by omega) id⟩)⟩
      have cw : way = 3 := V.int.inj (of_decide_eq_true c)
      obtain ⟨ys, h1, h2, h3, h4⟩ := W.ex
      have un := dne W.nw
      have hl := h2 trivial
      obtain ⟨yk, ek, mk, ak⟩ := atS (ys := ys) kx0 (by omega)
      obtain ⟨yo, eo, mo, ao⟩ := atS (ys := ys) ox0 (by omega)
      refine ⟨_, rfl, _, rfl, _, _, kx, .str yk, rfl, rfl, SqL.of h1, ak, ?_⟩
      refine ⟨_, rfl, _, rfl, _, _, ox, .str yo, rfl, rfl, SqL.of h1, ao, ?_⟩
      refine ⟨_, rfl, _, rfl, _, _, kx, kx.toNat, rfl, rfl, h1, ix_ok kx0 (by rw [List.length_map]; omega), ?_⟩
      rw [← List.map_set]
      have W2 : WA H d ws.length (x.length + 1 + 0) (x.length + 1 + (x.length + 1)) True u (upd G u (.lst ((ys.set kx.toNat yo).map V.str))) := W.put un (fun _ => by rw [List.length_set]; exact hl) (set_all h3 (h3 yo mo)) (by have := mu_set ys kx.toNat yo; have := h3 yo mo; omega)
      refine ⟨_, rfl, _, rfl, _, rfl, _, _, ox, ox.toNat, rfl, rfl, upd_same, ix_ok ox0 (by rw [List.length_map, List.length_set]; omega), ?_⟩
      rw [← List.map_set]
      exact ⟨_, _, rfl, W2.put un (fun _ => by rw [List.length_set, List.length_set]; exact hl) (fun y m => by have := set_all (set_all h3 (h3 yo mo)) (h3 yk mk) y m; omega) (by have h5 := mu_set (ys.set kx.toNat yo) ox.toNat yk; have h6 := mu_set ys kx.toNat yo; have := h3 yo mo; have := h3 yk mk; omega)⟩
    obtain ⟨u, z, rfl, W⟩ := hM
    -- way == 4
    refine ⟨StC H d x sg sn at_ way kx ox ws.length (x.length + 1 + 80) (x.length + 1 + 2 * (2 * x.length + 800)) (way ≠ 4), ?_, fun σ' G hM => ?_⟩
    · refine ⟨_, rfl, rfl, _, rfl, ite2 (fun c => ?_) (fun c => ⟨_, _, rfl, W.mono (by omega) (by omega) (fun _ => trivial)⟩)⟩
      have cw : way = 4 := V.int.inj (of_decide_eq_true c)
      obtain ⟨ys, h1, h2, h3, h4⟩ := W.ex
      have un := dne W.nw
      have hl := h2 trivial
      obtain ⟨yo, eo, mo, ao⟩ := atS (ys := ys) ox0 (by omega)
      refine ⟨_, rfl, .inl ⟨rfl, _, SqL.of h1⟩, _, rfl, _, rfl, _, rfl, _, _, ox, .str yo, rfl, rfl, SqL.of h1, ao, u, _, kx, .str yo, rfl, rfl, h1, line_lt (by rw [List.length_map]; omega), kx0, by omega, ?_⟩
      have em : (ys.map V.str).take kx.toNat ++ [V.str yo] ++ (ys.map V.str).drop kx.toNat = (ys.take kx.toNat ++ [yo] ++ ys.drop kx.toNat).map V.str := by
        rw [List.map_append, List.map_append, List.map_take, List.map_drop]
        rfl
      rw [em]
      refine ⟨_, _, rfl, W.put un (fun z => absurd cw z) (fun y m => ?_) (by rw [mu_ins]; have := h3 yo mo; omega)⟩
      have : y ∈ ys := by
        rcases List.mem_append.mp m with m | m
        · rcases List.mem_append.mp m with m | m
          · exact List.mem_of_mem_take m
          · rw [List.mem_singleton.mp m]; exact mo
        · exact List.mem_of_mem_drop m
      have := h3 y this
      omega
    clear W
    obtain ⟨u, z, rfl, W⟩ := hM
    -- way == 5
    refine ⟨StC H d x sg sn at_ way kx ox ws.length (x.length + 1 + 120) (x.length + 1 + 3 * (2 * x.length + 800)) (way ≠ 4 ∧ way ≠ 5), ?_, fun σ' G hM => ?_⟩
    · refine ⟨_, rfl, rfl, _, rfl, ite2 (fun c => ?_) (fun c => ⟨_, _, rfl, W.mono (by omega) (by omega) And.left⟩)⟩
      have cw : way = 5 := V.int.inj (of_decide_eq_true c)
      obtain ⟨ys, h1, h2, h3, h4⟩ := W.ex
      have un := dne W.nw
      have hl := h2 (by omega)
      obtain ⟨yk, ek, mk, ak⟩ := atS (ys := ys) kx0 (by omega)
      refine ⟨_, rfl, .inl ⟨rfl, _, SqL.of h1⟩, _, rfl, u, _, kx, kx.toNat, .str yk, rfl, rfl, h1, by omega, by omega, (ixN_seq (ix_ok kx0 (by rw [List.length_map]; omega))).1, by rw [List.getElem?_map, ek]; rfl, ?_⟩
      rw [er_map]
      exact ⟨_, _, rfl, W.put un (fun z => absurd cw z.2) (fun y m => by have := h3 y (List.mem_of_mem_eraseIdx m); omega) (by have := mu_erase ys kx.toNat; omega)⟩
    clear W
    obtain ⟨u, z, rfl, W⟩ := hM
    -- way == 6
    refine ⟨StC H d x sg sn at_ way kx ox ws.length (x.length + 1 + 160) (x.length + 1 + 4 * (2 * x.length + 800)) (way ≠ 4 ∧ way ≠ 5), ?_, fun σ' G hM => ?_⟩
    · refine ⟨_, rfl, rfl, _, rfl, ite2 (fun c => ?_) (fun c => ⟨_, _, rfl, W.mono (by omega) (by omega) id⟩)⟩
      have cw : way = 6 := V.int.inj (of_decide_eq_true c)
      obtain ⟨ys, h1, h2, h3, h4⟩ := W.ex
      have un := dne W.nw
      have hl := h2 ⟨by omega, by omega⟩
      refine ⟨_, rfl, ?_⟩
      refine ⟨_, _, rfl, rfl, pow_ok, line_small (by show 3 ≤ 16777216; decide), fun l nl => ?_⟩
      refine ⟨_, rfl, d, 3, rfl, W.po.same (same_new nl), by decide, by decide, fun v1 G1 v10 v11 D1 k1 => ?_⟩
      have hll := k1 l _ upd_same (W.po.ne nl)
      have k1 := (KeepD.of_same (same_new nl)).trans k1
      obtain ⟨m, em, hm1, hm2⟩ : ∃ m : Int, atI [V.int 14, V.int 200, V.int (10 ^ (25 : Int).toNat)] v1 = some (.int m) ∧ 0 < m ∧ m ≤ 10000000000000000000000000 := by
        rcases (show v1 = 0 ∨ v1 = 1 ∨ v1 = 2 by omega) with rfl | rfl | rfl
        · exact ⟨14, rfl, by decide, by decide⟩
        · exact ⟨200, rfl, by decide, by decide⟩
        · exact ⟨10 ^ (25 : Int).toNat, rfl, by decide, by decide⟩
      refine ⟨l, _, _, .int m, rfl, rfl, SqL.of hll, em, d, m, rfl, D1, hm1, by omega, fun v2 G2 v20 v21 D2 k2 => ?_⟩
      have W2 := drawn (drawn W D1 k1) D2 k2
      have hu := k2 _ _ (k1 _ _ h1 un) un
      refine ⟨v2, rfl, log_big v20 (by omega), _, rfl, _, rfl, u, _, kx, kx.toNat, rfl, rfl, hu, ix_ok kx0 (by rw [List.length_map]; omega), ?_⟩
      rw [← List.map_set]
      have hd := dec_len30 v20 (by omega)
      exact ⟨_, _, rfl, W2.put un (fun _ => by rw [List.length_set]; exact hl) (set_all (fun y m => by have := h3 y m; omega) (by omega)) (by have := mu_set ys kx.toNat (Str.ofString (toString v2)); omega)⟩
    clear W
    obtain ⟨u, z, rfl, W⟩ := hM
    -- way == 7
    refine ⟨StC H d x sg sn at_ way kx ox ws.length (x.length + 1 + 200) (x.length + 1 + 5 * (2 * x.length + 800)) (way ≠ 4 ∧ way ≠ 5), ?_, fun σ' G hM => ?_⟩
    · refine ⟨_, rfl, rfl, _, rfl, ite2 (fun c => ?_) (fun c => ⟨_, _, rfl, W.mono (by omega) (by omega) id⟩)⟩
      have cw : way = 7 := V.int.inj (of_decide_eq_true c)
      obtain ⟨ys, h1, h2, h3, h4⟩ := W.ex
      have un := dne W.nw
      have hl := h2 ⟨by omega, by omega⟩
      obtain ⟨yk, ek, mk, ak⟩ := atS (ys := ys) kx0 (by omega)
      have hyk := h3 yk mk
      have z1 : (Str.ofString "0").length = 1 := by decide
      have hv : (("0" : Str) ++ yk).length ≤ x.length + 1 + 200 := by rw [apl, z1]; omega
      refine ⟨_, rfl, _, rfl, _, _, kx, .str yk, rfl, rfl, SqL.of h1, ak, _, _, rfl, rfl, line_small (by rw [z1]; omega), _, rfl, _, rfl, u, _, kx, kx.toNat, rfl, rfl, h1, ix_ok kx0 (by rw [List.length_map]; omega), ?_⟩
      rw [← List.map_set]
      exact ⟨_, _, rfl, W.put un (fun _ => by rw [List.length_set]; exact hl) (set_all (fun y m => by have := h3 y m; omega) hv) (by have := mu_set ys kx.toNat (("0" : Str) ++ yk); omega)⟩
    clear W
    obtain ⟨u, z, rfl, W⟩ := hM
    -- way == 8
    refine ⟨StC H d x sg sn at_ way kx ox ws.length (x.length + 1 + 240) (x.length + 1 + 6 * (2 * x.length + 800)) (way ≠ 4 ∧ way ≠ 5), ?_, fun σ' G hM => ?_⟩
    · refine ⟨_, rfl, rfl, _, rfl, ite2 (fun c => ?_) (fun c => ⟨_, _, rfl, W.mono (by omega) (by omega) id⟩)⟩
      have cw : way = 8 := V.int.inj (of_decide_eq_true c)
      obtain ⟨ys, h1, h2, h3, h4⟩ := W.ex
      have un := dne W.nw
      have hl := h2 ⟨by omega, by omega⟩
      obtain ⟨yk, ek, mk, ak⟩ := atS (ys := ys) kx0 (by omega)
      have hyk := h3 yk mk
      have z1 : (Str.ofString ",").length = 1 := by decide
      have hv : (yk ++ ("," : Str)).length ≤ x.length + 1 + 240 := by rw [apl, z1]; omega
      refine ⟨_, rfl, _, rfl, _, _, kx, .str yk, rfl, rfl, SqL.of h1, ak, _, _, rfl, rfl, line_small (by rw [z1]; omega), _, rfl, _, rfl, u, _, kx, kx.toNat, rfl, rfl, h1, ix_ok kx0 (by rw [List.length_map]; omega), ?_⟩
      rw [← List.map_set]
      exact ⟨_, _, rfl, W.put un (fun _ => by rw [List.length_set]; exact hl) (set_all (fun y m => by have := h3 y m; omega) hv) (by have := mu_set ys kx.toNat (yk ++ ("," : Str)); omega)⟩
    clear W
    obtain ⟨u, z, rfl, W⟩ := hM
    -- way == 9
    refine ⟨StC H d x sg sn at_ way kx ox ws.length (x.length + 1 + 280) (x.length + 1 + 7 * (2 * x.length + 800)) (way ≠ 4 ∧ way ≠ 5), ?_, fun σ' G hM => ?_⟩
    · refine ⟨_, rfl, rfl, _, rfl, ite2 (fun c => ?_) (fun c => ⟨_, _, rfl, W.mono (by omega) (by omega) id⟩)⟩
      have cw : way = 9 := V.int.inj (of_decide_eq_true c)
      obtain ⟨ys, h1, h2, h3, h4⟩ := W.ex
      have un := dne W.nw
      have hl := h2 ⟨by omega, by omega⟩
      obtain ⟨yk, ek, mk, ak⟩ := atS (ys := ys) kx0 (by omega)
      have hyk := h3 yk mk
      have hz : ("" : Str).length = 0 := by decide
      have hr := TK.replace_len yk "," ""
      rw [hz, Nat.mul_zero] at hr
      have hv : (Txt.replace yk "," "").length ≤ x.length + 1 + 280 := by omega
      refine ⟨_, rfl, _, rfl, _, _, kx, .str yk, rfl, rfl, SqL.of h1, ak, yk, rfl, by rw [hz, Nat.mul_zero]; omega, _, rfl, _, rfl, u, _, kx, kx.toNat, rfl, rfl, h1, ix_ok kx0 (by rw [List.length_map]; omega), ?_⟩
      rw [← List.map_set]
      exact ⟨_, _, rfl, W.put un (fun _ => by rw [List.length_set]; exact hl) (set_all (fun y m => by have := h3 y m; omega) hv) (by have := mu_set ys kx.toNat (Txt.replace yk "," ""); omega)⟩
    clear W
    obtain ⟨u, z, rfl, W⟩ := hM
    -- way == 10
    refine ⟨StC H d x sg sn at_ way kx ox ws.length (x.length + 1 + 320) (x.length + 1 + 8 * (2 * x.length + 800)) (way ≠ 4 ∧ way ≠ 5 ∧ way ≠ 10), ?_, fun σ' G hM => ?_⟩
    · refine ⟨_, rfl, rfl, _, rfl, ite2 (fun c => ?_) (fun c => ⟨_, _, rfl, W.mono (by omega) (by omega) (fun z => ⟨z.1, z.2.1⟩)⟩)⟩
      have cw : way = 10 := V.int.inj (of_decide_eq_true c)
      obtain ⟨ys, h1, h2, h3, h4⟩ := W.ex
      have un := dne W.nw
      refine ⟨_, rfl, line_small (by show 6 ≤ 16777216; decide), fun l nl => ?_⟩
      refine ⟨_, rfl, d, 6, rfl, W.po.same (same_new nl), by decide, by decide, fun v1 G1 v10 v11 D1 k1 => ?_⟩
      have hll := k1 l _ upd_same (W.po.ne nl)
      have k1 := (KeepD.of_same (same_new nl)).trans k1
      have W1 := drawn W D1 k1
      have hu := k1 _ _ h1 un
      obtain ⟨sx, em, hsx⟩ : ∃ sx : Str, atI [V.str "0", V.str "0,", V.str "", V.str "-", V.str "1 0", V.str ", 0 1"] v1 = some (.str sx) ∧ sx.length ≤ 10 := by
        rcases (show v1 = 0 ∨ v1 = 1 ∨ v1 = 2 ∨ v1 = 3 ∨ v1 = 4 ∨ v1 = 5 by omega) with rfl | rfl | rfl | rfl | rfl | rfl
        · exact ⟨_, rfl, by decide⟩
        · exact ⟨_, rfl, by decide⟩
        · exact ⟨_, rfl, by decide⟩
        · exact ⟨_, rfl, by decide⟩
        · exact ⟨_, rfl, by decide⟩
        · exact ⟨_, rfl, by decide⟩
      refine ⟨l, _, _, .str sx, rfl, rfl, SqL.of hll, em, line_small (by show 1 ≤ 16777216; decide), fun l2 nl2 => ?_⟩
      have s2 := same_new (o := .lst [.str sx]) nl2
      have hyl : ys.length ≤ x.length + 1 + 7 * (2 * x.length + 800) := by unfold mu at h4; omega
      refine ⟨u, l2, _, _, rfl, rfl, s2 _ _ hu, upd_same, line_small (by rw [List.length_map]; show ys.length + 1 ≤ 16777216; omega), fun p np => ?_⟩
      have s3 := s2.trans (same_new (o := .lst (ys.map V.str ++ [V.str sx])) np)
      have npH : H p = none := by
        cases e : H p with
        | none => rfl
        | some o =>
          by_cases cc : p = d
          · obtain ⟨_, _, _, e2⟩ := D1
            rw [cc] at np
            rw [s2 _ _ e2] at np
            cases np
          · rw [s2 _ _ (W1.kp p o e cc)] at np
            cases np
      refine ⟨_, _, rfl, ⟨⟨ys ++ [sx], by rw [upd_same, List.map_append]; rfl, fun z => absurd cw z.2.2, fun y m => ?_, ?_⟩, D1.same s3, W1.kp.trans (KeepD.of_same s3), npH⟩⟩
      · rcases List.mem_append.mp m with m | m
        · have := h3 y m; omega
        · rw [List.mem_singleton.mp m]; omega
      · rw [mu_app, mu_cons]
        show mu ys + (sx.length + 1 + 0) ≤ _
        omega
    clear W
    obtain ⟨u, z, rfl, W⟩ := hM
    -- way == 11
    refine ⟨_, rfl, rfl, _, rfl, ite2 (fun c => ?_) (fun c => ?_)⟩
    · refine ⟨line_small (by show 4 ≤ 16777216; decide), fun l nl => ?_⟩
      refine ⟨_, rfl, d, 4, rfl, W.po.same (same_new nl), by decide, by decide, fun v1 G1 v10 v11 D1 k1 => ?_⟩
      have hll := k1 l _ upd_same (W.po.ne nl)
      have k1 := (KeepD.of_same (same_new nl)).trans k1
      have W1 := drawn W D1 k1
      obtain ⟨sx, em, hsx⟩ : ∃ sx : Str, atI [V.str ", ", V.str " ", V.str "- ", V.str "0 "] v1 = some (.str sx) ∧ sx.length ≤ 10 := by
        rcases (show v1 = 0 ∨ v1 = 1 ∨ v1 = 2 ∨ v1 = 3 by omega) with rfl | rfl | rfl | rfl
        · exact ⟨_, rfl, by decide⟩
        · exact ⟨_, rfl, by decide⟩
        · exact ⟨_, rfl, by decide⟩
        · exact ⟨_, rfl, by decide⟩
      exact ⟨l, _, _, .str sx, rfl, rfl, SqL.of hll, em, _, rfl, _, _, rfl, rfl, line_small (by omega), q _ _ (by rw [apl]; omega) W1.po W1.kp⟩
    · obtain ⟨ys, h1, h2, h3, h4⟩ := W.ex
      have hj := join_len ys
      refine ⟨⟨_, rfl⟩, _, rfl, _, u, ys, rfl, rfl, .inl (SqL.of h1), ?_, q _ _ (by omega) W.po W.kp⟩
      unfold mu at h4
      have : (" " : Str).length = 1 := by decide
      rw [this]
      omega
end
end Fo
namespace Fo
open PySem PySem.Spec PyProof.Rows L2 TL
def spOdd : Sp := fun vs H Q _ => ∃ (d : Addr), vs = [.ref d] ∧ PoolAt H d ∧ ∀ (s : Str) (H' : Hp), s.length ≤ 300 → PoolAt H' d → KeepD d H H' → Q (.str s) H'
def strOk : V → Bool
  | .str s => decide (s.length ≤ 300)
  | _ => false
theorem str_pick {L : List V} (h : L.all strOk = true) {n : Nat} (hn : L.length = n) {v : Int} (h0 : 0 ≤ v) (h1 : v < n) : ∃ s : Str, atI L v = some (.str s) ∧ s.length ≤ 300 := by
  have hv : v.toNat < L.length := by omega
  have m := List.all_eq_true.mp h _ (List.getElem_mem hv)
  have e := at_of (z := v) (j := v.toNat) (by omega) (List.getElem?_eq_getElem hv)
  cases c : L[v.toNat] with
  | str s =>
    rw [c] at m e
    exact ⟨s, e, of_decide_eq_true m⟩
  | _ => rw [c] at m; cases m
theorem str_pickH {p : Addr} {L : List V} {G : Hp} (_ : G p = some (.lst L)) (h : L.all strOk = true) {n : Nat} (hn : L.length = n) {v : Int} (h0 : 0 ≤ v) (h1 : v < n) : ∃ s : Str, atI L v = some (.str s) ∧ s.length ≤ 300 := str_pick h hn h0 h1
theorem cat_step {l l2 : Addr} {xs ys : List V} {G : Hp} {Q : VK} (h1 : G l = some (.lst xs)) (n2 : G l2 = none) (hl : xs.length + ys.length ≤ 1000) (q : ∀ (p : Addr) (G' : Hp), G' p = some (.lst (xs ++ ys)) → Same G G' → Q (.ref p) G') : rCat (.ref l) (.ref l2) (upd G l2 (.lst ys)) Q :=
  ⟨l, l2, _, _, rfl, rfl, same_new n2 _ _ h1, upd_same, line_small (by omega), fun p np => q p _ upd_same ((same_new n2).trans (same_new np))⟩
section
variable {P : Program} {w : World} {K : PySem.W.Frag} {mg : Str → Option Value} {base : Heap}
theorem scOdd : FnScope ["pool", "some"] ["pool"] (defScope s_law_odd) := ⟨rfl, rfl, rfl, by decide +kernel, rfl, by decide +kernel, by decide +kernel⟩
set_option pp.maxSteps 200000 in
set_option maxHeartbeats 8000000 in
theorem ok_odd {f f1 : Addr} {fd d1 : FuncData} {k : Nat} (T : Df K mg "_law_odd" s_law_odd ["pool"] f fd) (T__law_draw : Df K mg "_law_draw" s_law_draw ["pool", "many"] f1 d1) (G__law_draw : FnOk P w K mg base CX0 k f1 d1 ["pool", "many"] spDrawP) (B : Bi mg) : FnOk P w K mg base CX0 (k + 1) f fd ["pool"] spOdd := by
  refine T.F.ok scOdd (fun vs H Q E h => ?_) (fun cdv A outer s H vs Q E hr h => ?_)
  · obtain ⟨d, rfl, _⟩ := h
    rfl
  · obtain ⟨d, rfl, hP, q⟩ := h
    refine ⟨_, 
      (pss_cons (ps_set (i := 1) scOdd.nd rfl (.inl rfl) (pe_lst (pa_cons pe_str (pa_cons pe_str (pa_cons pe_str (pa_cons pe_str (pa_cons pe_str (pa_cons pe_str (pa_cons pe_str (pa_cons pe_str (pa_cons pe_str pa_nil)))))))))))
      (pss_cons (ps_set (i := 1) scOdd.nd rfl (.inl rfl) (pe_op op_cat (pv 1) (pe_lst (pa_cons pe_str (pa_cons pe_str (pa_cons pe_str (pa_cons pe_str (pa_cons pe_str (pa_cons pe_str (pa_cons pe_str (pa_cons pe_str (pa_cons pe_str pa_nil))))))))))))
      (pss_cons (ps_set (i := 1) scOdd.nd rfl (.inl rfl) (pe_op op_cat (pv 1) (pe_lst (pa_cons pe_str (pa_cons pe_str (pa_cons pe_str (pa_cons pe_str (pa_cons pe_str (pa_cons pe_str pa_nil)))))))))
      (pss_cons (ps_set (i := 1) scOdd.nd rfl (.inl rfl) (pe_op op_cat (pv 1) (pe_lst (pa_cons pe_str (pa_cons pe_str (pa_cons pe_str (pa_cons pe_str (pa_cons pe_str pa_nil))))))))
      (pss_cons (ps_set (i := 1) scOdd.nd rfl (.inl rfl) (pe_op op_cat (pv 1) (pe_lst (pa_cons pe_str (pa_cons pe_str (pa_cons pe_str pa_nil))))))
      (pss_cons (ps_set (i := 1) scOdd.nd rfl (.inl rfl) (pe_op op_cat (pv 1) (pe_lst (pa_cons pe_str (pa_cons pe_str (pa_cons pe_str (pa_cons pe_str pa_nil)))))))
      (pss_one (ps_ret (pe_ix ix_list (pv 1) (pe_call G__law_draw hr (by rfl) T__law_draw.g T__law_draw.F.kp T__law_draw.b .nil pass0 (pa_cons (pv 0) (pa_cons pe_int pa_nil))) (fun _ _ => rfl)))))))))), ?_⟩
    refine ⟨line_small (by show 9 ≤ 16777216; decide), fun l0 n0 => ?_⟩
    refine ⟨_, rfl, line_small (by show 9 ≤ 16777216; decide), fun l1 n1 => cat_step upd_same n1 (by decide) fun p1 G1 h1 s1 => ?_⟩
    refine ⟨_, rfl, line_small (by show 6 ≤ 16777216; decide), fun l2 n2 => cat_step h1 n2 (by decide) fun p2 G2 h2 s2 => ?_⟩
    refine ⟨_, rfl, line_small (by show 5 ≤ 16777216; decide), fun l3 n3 => cat_step h2 n3 (by decide) fun p3 G3 h3 s3 => ?_⟩
    refine ⟨_, rfl, line_small (by show 3 ≤ 16777216; decide), fun l4 n4 => cat_step h3 n4 (by decide) fun p4 G4 h4 s4 => ?_⟩
    refine ⟨_, rfl, line_small (by show 4 ≤ 16777216; decide), fun l5 n5 => cat_step h4 n5 (by decide) fun p5 G5 h5 s5 => ?_⟩
    have sA := ((((same_new n0).trans s1).trans s2).trans (s3.trans s4)).trans s5
    refine ⟨_, rfl, _, rfl, d, 36, rfl, hP.same sA, by decide, by decide, fun v G6 v0 v1 D6 k6 => ?_⟩
    have p5d : p5 ≠ d := fun z => by
      obtain ⟨_, _, _, e⟩ := hP.same sA
      rw [z, e] at h5
      cases h5
    have h6 := k6 _ _ h5 p5d
    obtain ⟨sx, em, hsx⟩ := str_pickH (n := 36) h6 (by decide +kernel) rfl v0 v1
    exact ⟨p5, _, _, .str sx, rfl, rfl, SqL.of h6, em, q sx _ hsx D6 ((KeepD.of_same sA).trans k6)⟩
end
end Fo
namespace Fo
open PySem PySem.Spec PyProof.Rows L2 TL
abbrev rJoin (K : PySem.W.Frag) : V → List V → Hp → VK → Prop := fun x xs H Q => ∃ a p, ∃ ys : List Str, x = .str a ∧ xs = [.ref p] ∧ (SqL K H p (ys.map V.str) ∨ SqT K H p (ys.map V.str)) ∧ (ys.map (·.length)).sum + ys.length * a.length ≤ 16777216 ∧ Q (.str (Txt.join a ys)) H
def spLW : Sp := fun vs H Q _ => ∃ (a : Addr) (n : Nat) (xs : List Int), vs = [.ref a] ∧ H a = some (.lst (xs.map V.int)) ∧ IsOrd n xs ∧ n ≤ 12 ∧ ∀ (s : Str) (H' : Hp), s.length ≤ 36 → Same H H' → Q (.str s) H'
def spLLW : Sp := fun vs H Q _ => ∃ (l : Addr) (as : List Addr) (rs : List (List Int)), vs = [.ref l] ∧ H l = some (.lst (as.map V.ref)) ∧ LL H as rs ∧ (∀ r ∈ rs, ∃ n, IsOrd n r ∧ n ≤ 12) ∧ rs.length ≤ 200 ∧ ∀ (s : Str) (H' : Hp), s.length ≤ 8000 → Same H H' → Q (.str s) H'
theorem sum36 : ∀ ys : List Str, (∀ y ∈ ys, y.length ≤ 36) → (ys.map (·.length)).sum ≤ 36 * ys.length
  | [], _ => Nat.zero_le _
  | y :: ys, h => by
    have h1 := h y List.mem_cons_self
    have h2 := sum36 ys fun z m => h z (List.mem_cons_of_mem _ m)
    rw [List.map_cons, List.sum_cons, List.length_cons]
    omega
section
variable {P : Program} {w : World} {K : PySem.W.Frag} {mg : Str → Option Value} {base : Heap}
theorem scLW : FnScope ["order", "thing"] ["order"] (defScope s_law_written) := ⟨rfl, rfl, rfl, by decide +kernel, rfl, by decide +kernel, by decide +kernel⟩
set_option maxHeartbeats 2000000 in
theorem ok_lw {f : Addr} {fd : FuncData} {k : Nat} (T : Df K mg "_law_written" s_law_written ["order"] f fd) (B : Bi mg) : FnOk P w K mg base CX0 (k + 1) f fd ["order"] spLW := by
  refine T.F.ok scLW (fun vs H Q E h => ?_) (fun cdv A outer s H vs Q E hr h => ?_)
  · obtain ⟨a, n, xs, rfl, _⟩ := h
    rfl
  · obtain ⟨a, n, xs, rfl, ha, ox, h2, q⟩ := h
    refine ⟨_, 
      (pss_one (ps_ret (pe_join pe_str (pe_lc (own := [("thing", 1)]) (g := (gName 1)) (tt := tYes) (te := (tCB rStrI (tCons (tVar 1) tNil))) rfl scLW.nd (pi_list (pv 0)) (blkOk_by (N := ["order", "thing"]) (sc := defScope s_law_written) (by decide +kernel)) (fun _ _ _ _ _ => (pg_name (i := 1) scLW.nd rfl (.inl rfl))) (fun _ _ _ _ _ => pts_nil) (fun _ _ _ _ _ => (pe_callTy call_str_int (by rfl) B.str (by decide +kernel) (pa_cons (pv 1) pa_nil))))))), ?_⟩
    refine ⟨⟨_, rfl⟩, _, rfl, a, rfl, ⟨_, SqL.of ha⟩, fun p np => ?_⟩
    refine lc_list (K := K) (a := a) (xs := xs.map V.int) (fun i H3 => H3 p = some (.lst (((xs.take i).map decT).map V.str)) ∧ Same H H3) ⟨upd_same, same_new np⟩ (fun i H3 _ hP => SqL.of (hP.2 _ _ ha)) (fun i x H3 hx hP => ?_) (fun H3 hP => ?_)
    · obtain ⟨y, ey, rfl⟩ := int_at_inv hx
      obtain ⟨hp3, sm⟩ := hP
      have hi := (List.getElem?_eq_some_iff.mp ey).1
      have hy := ox.mem (List.mem_of_getElem? ey)
      rw [ox.len] at hi
      refine ⟨rfl, _, rfl, y, rfl, log_small hy.1 (by omega), _, hp3, line_lt (by rw [List.length_map, List.length_map, List.length_take]; omega), ?_, fun b o e => ?_⟩
      · rw [upd_same, take_more ey, List.map_append, List.map_append]
        rfl
      · rw [upd_ne (ne_of_none e np)]
        exact sm _ _ e
    · obtain ⟨hp3, sm⟩ := hP
      rw [List.length_map, List.take_length] at hp3
      refine ⟨_, p, _, rfl, rfl, .inl (SqL.of hp3), ?_, q _ _ (wr_len ox h2) sm⟩
      have := dec_sum ox h2
      rw [List.length_map, ox.len]
      show _ + n * 1 ≤ 16777216
      omega
theorem scLLW : FnScope ["orders", "order"] ["orders"] (defScope s_law_list_written) := ⟨rfl, rfl, rfl, by decide +kernel, rfl, by decide +kernel, by decide +kernel⟩
set_option maxHeartbeats 2000000 in
theorem ok_llw {f f1 : Addr} {fd d1 : FuncData} {k : Nat} (T : Df K mg "_law_list_written" s_law_list_written ["orders"] f fd) (T__law_written : Df K mg "_law_written" s_law_written ["order"] f1 d1) (G__law_written : FnOk P w K mg base CX0 k f1 d1 ["order"] spLW) (B : Bi mg) : FnOk P w K mg base CX0 (k + 1) f fd ["orders"] spLLW := by
  refine T.F.ok scLLW (fun vs H Q E h => ?_) (fun cdv A outer s H vs Q E hr h => ?_)
  · obtain ⟨l, as, rs, rfl, _⟩ := h
    rfl
  · obtain ⟨l, as, rs, rfl, hl, hL, ho, hr2, q⟩ := h
    refine ⟨_, 
      (pss_one (ps_ret (pe_ifExp (pt_cmpR (op_neNilL hr.units) (pv 0) (pe_lst pa_nil) (nomark _)) (pe_join pe_str (pe_lc (own := [("order", 1)]) (g := (gName 1)) (tt := tYes) (te := (tCall spLW [] E0 (tCons (tVar 1) tNil))) rfl scLLW.nd (pi_list (pv 0)) (blkOk_by (N := ["orders", "order"]) (sc := defScope s_law_list_written) (by decide +kernel)) (fun _ _ _ _ _ => (pg_name (i := 1) scLLW.nd rfl (.inl rfl))) (fun _ _ _ _ _ => pts_nil) (fun _ _ _ _ _ => (pe_call G__law_written hr (by rfl) T__law_written.g T__law_written.F.kp T__law_written.b .nil pass0 (pa_cons (pv 1) pa_nil))))) pe_str))), ?_⟩
    have hlen := hL.len
    refine ⟨_, rfl, line_small (by show 0 ≤ 16777216; decide), fun ee ne => ?_⟩
    have s1 := same_new (o := .lst []) ne
    refine ⟨l, ee, _, rfl, rfl, SqL.of (s1 _ _ hl), SqL.of upd_same, _, rfl, ?_⟩
    have hl1 := s1 _ _ hl
    have hL1 := hL.same s1
    generalize upd H ee (.lst []) = H1 at s1 hl1 hL1 ⊢
    cases as with
    | nil => exact q _ _ (by decide) s1
    | cons a0 as0 =>
      refine ⟨⟨_, rfl⟩, _, rfl, l, rfl, ⟨_, SqL.of hl1⟩, fun p np => ?_⟩
      generalize a0 :: as0 = as at hl1 hL1 hlen
      refine lc_list (K := K) (a := l) (xs := as.map V.ref) (fun i H3 => ∃ ys : List Str, H3 p = some (.lst (ys.map V.str)) ∧ ys.length = i ∧ (∀ y ∈ ys, y.length ≤ 36) ∧ Same H1 H3) ⟨[], upd_same, rfl, (fun y m => by cases m), same_new np⟩ (fun i H3 _ hP => by obtain ⟨_, _, _, _, sm⟩ := hP; exact SqL.of (sm _ _ hl1)) (fun i x H3 hx hP => ?_) (fun H3 hP => ?_)
      · obtain ⟨ys, hp3, hyl, hy, sm⟩ := hP
        obtain ⟨a, ea, rfl⟩ := ref_at_inv hx
        obtain ⟨r, er, ha⟩ := hL1.get ea
        have hi := (List.getElem?_eq_some_iff.mp ea).1
        obtain ⟨n, on, hn⟩ := ho r (List.mem_of_getElem? er)
        refine ⟨rfl, _, rfl, a, n, r, rfl, sm _ _ ha, on, hn, fun s H4 hs s4 => ⟨_, s4 _ _ hp3, line_lt (by rw [List.length_map]; omega), ys ++ [s], by rw [upd_same, List.map_append]; rfl, by rw [List.length_append, hyl]; rfl, fun y m => ?_, fun b o e => ?_⟩⟩
        · rcases List.mem_append.mp m with m | m
          · exact hy y m
          · rw [List.mem_singleton.mp m]; exact hs
        · rw [upd_ne (ne_of_none e np)]
          exact s4 _ _ (sm _ _ e)
      · obtain ⟨ys, hp3, hyl, hy, sm⟩ := hP
        rw [List.length_map] at hyl
        have hsum := sum36 ys hy
        have e2 : (", " : Str).length = 2 := by decide
        refine ⟨_, p, ys, rfl, rfl, .inl (SqL.of hp3), by rw [e2]; omega, q _ _ ?_ (s1.trans sm)⟩
        rw [len_tl' (Txt.join ", " ys), tl_joinT]
        refine Nat.le_trans (len_joinL _) ?_
        rw [List.map_map, List.length_map]
        have h4 : ys.map (List.length ∘ tl) = ys.map (·.length) := List.map_congr_left fun z _ => (len_tl' z).symm
        rw [h4]
        have : (tl (", " : Str)).length = 2 := by decide
        rw [this]
        omega
end
end Fo
namespace Fo
open PySem PySem.Spec PyProof.Rows L2 TL
def spLaw (K : PySem.W.Frag) : Sp := fun vs H Q _ => ∃ (a : Addr) (ns : List Int), vs = [.ref a] ∧ SqL K H a (ns.map V.int) ∧ ns.length ≤ 63 ∧ ∀ H', Q (.bl true) H'
/-- the orders handed about: a list of orders, each of at most twelve things -/
structure OrsAt (H : Hp) (l : Addr) (as : List Addr) (rs : List (List Int)) (d : Addr) : Prop where
  hl : H l = some (.lst (as.map V.ref))
  ll : LL H as rs
  ord : ∀ r ∈ rs, ∃ n, IsOrd n r ∧ n ≤ 12
  le : as.length ≤ 130
  pos : 0 < as.length
  ne : l ≠ d
  nas : ∀ a ∈ as, a ≠ d
theorem OrsAt.keep {H H' : Hp} {l : Addr} {as : List Addr} {rs : List (List Int)} {d : Addr} (h : OrsAt H l as rs d) (k : KeepD d H H') : OrsAt H' l as rs d :=
  ⟨k _ _ h.hl h.ne, h.ll.keep fun a m o e => k a o e (h.nas a m), h.ord, h.le, h.pos, h.ne, h.nas⟩
theorem OrsAt.same {H H' : Hp} {l : Addr} {as : List Addr} {rs : List (List Int)} {d : Addr} (h : OrsAt H l as rs d) (k : Same H H') : OrsAt H' l as rs d := h.keep (KeepD.of_same k)
theorem LL_set {H : Hp} {l : Addr} {x : List Int} (hl : H l = some (.lst (x.map V.int))) : ∀ {as : List Addr} {rs : List (List Int)} (j : Nat), LL H as rs → LL H (as.set j l) (rs.set j x)
  | [], [], _, _ => trivial
  | [], _ :: _, _, h => h.elim
  | _ :: _, [], _, h => h.elim
  | _ :: _, _ :: _, 0, h => ⟨hl, h.2⟩
  | _ :: _, _ :: _, j + 1, h => ⟨h.1, LL_set hl j h.2⟩
theorem ne_refs {as : List Addr} {r : List Int} (h : 0 < as.length) : as.map V.ref ≠ r.map V.int := fun e => by
  cases as with
  | nil => cases h
  | cons a as =>
    cases r with
    | nil => cases e
    | cons x r => rw [List.map_cons, List.map_cons] at e; injection e with e1; cases e1
theorem cut500 (z : Str) : (cutS z none (some 500)).length ≤ 500 := by
  show (((z.cps.toList.drop (HT.sIx z.length 0 none)).take (HT.sIx z.length z.length (some ((500 : Nat) : Int)) - HT.sIx z.length 0 none)).toArray).size ≤ 500
  rw [List.size_toArray, List.length_take, HT.sIx_nat, HT.sIx_none]
  omega
section
variable {P : Program} {w : World} {K : PySem.W.Frag} {mg : Str → Option Value} {base : Heap}
theorem scLaw : FnScope ["script", "k", "pool", "n", "most", "orders", "text", "turn", "other", "things", "thing"] ["script"] (defScope s_law) := ⟨rfl, rfl, rfl, by decide +kernel, rfl, by decide +kernel, by decide +kernel⟩
set_option pp.maxSteps 200000 in
set_option maxHeartbeats 8000000 in
theorem ok_law {f f1 f2 f3 f4 f5 f6 f7 f8 f9 : Addr} {c : Nat → Addr} {fd d1 d2 d3 d4 d5 d6 d7 d8 d9 : FuncData} (T : Fun K "law" "law" s_law f fd) (T__law_pool : Df K mg "_law_pool" s_law_pool ["script", "k"] f1 d1) (T__law_draw : Df K mg "_law_draw" s_law_draw ["pool", "many"] f2 d2) (T__law_order : Df K mg "_law_order" s_law_order ["pool", "n"] f3 d3) (T__law_written : Df K mg "_law_written" s_law_written ["order"] f4 d4) (T__law_list_written : Df K mg "_law_list_written" s_law_list_written ["orders"] f5 d5) (T__law_texts_right : Df K mg "_law_texts_right" s_law_texts_right ["text"] f6 d6) (T__law_changed : Df K mg "_law_changed" s_law_changed ["pool", "text"] f7 d7) (T__law_odd : Df K mg "_law_odd" s_law_odd ["pool"] f8 d8) (T__law_asked : Df K mg "_law_asked" s_law_asked ["way", "thing"] f9 d9)
    (G__law_pool : FnOk P w K mg base CX0 39 f1 d1 ["script", "k"] (spPool K)) (G__law_draw : FnOk P w K mg base CX0 39 f2 d2 ["pool", "many"] spDrawP) (G__law_order : FnOk P w K mg base CX0 39 f3 d3 ["pool", "n"] spOrderP) (G__law_written : FnOk P w K mg base CX0 39 f4 d4 ["order"] spLW) (G__law_list_written : FnOk P w K mg base CX0 39 f5 d5 ["orders"] spLLW) (G__law_texts_right : FnOk P w K mg base CX0 39 f6 d6 ["text"] spTxr) (G__law_changed : FnOk P w K mg base CX0 39 f7 d7 ["pool", "text"] spChg) (G__law_odd : FnOk P w K mg base CX0 39 f8 d8 ["pool"] spOdd) (G__law_asked : FnOk P w K mg base CX0 39 f9 d9 ["way", "thing"] (spAsk78 c))
    (B : Bi mg) : FnOk P w K mg base CX0 40 f fd ["script"] (spLaw K) := by
  refine T.ok scLaw (fun vs H Q E h => ?_) (fun cdv A outer s H vs Q E hr h => ?_)
  · obtain ⟨a, ns, rfl, _⟩ := h
    rfl
  · obtain ⟨a, ns, rfl, hS, hlen, q⟩ := h
    refine ⟨_, 
      (pss_cons (ps_for PassesOwn.never rfl (pi_range1 (by rfl) B.range (pa_cons (pe_callB (call_max2 rfl) (by rfl) B.max (by decide +kernel) (pa_cons pe_int (pa_cons (pe_callB (call_min2 rfl) (by rfl) B.min (by decide +kernel) (pa_cons pe_int (pa_cons (pe_callB call_len_seq (by rfl) B.len PySem.boot_len (pa_cons (pv 0) pa_nil)) pa_nil))) pa_nil))) pa_nil)) (pg_name (i := 1) scLaw.nd rfl (.inl rfl))
        (pss_cons (ps_set (i := 2) scLaw.nd rfl (.inr rfl) (pe_call G__law_pool hr (by rfl) T__law_pool.g T__law_pool.F.kp T__law_pool.b .nil pass0 (pa_cons (pv 0) (pa_cons (pv 1) pa_nil))))
        (pss_cons (ps_set (i := 3) scLaw.nd rfl (.inr rfl) (pe_op op_add pe_int (pe_call G__law_draw hr (by rfl) T__law_draw.g T__law_draw.F.kp T__law_draw.b .nil pass0 (pa_cons (pv 2) (pa_cons pe_int pa_nil)))))
        (pss_cons (ps_set (i := 4) scLaw.nd rfl (.inl rfl) (pe_ix ix_list (pe_lst (pa_cons pe_int (pa_cons (pe_callB (call_min2 rfl) (by rfl) B.min (by decide +kernel) (pa_cons pe_int (pa_cons (pe_op op_fdiv pe_int (pe_op op_add (pe_op op_mul pe_int (pv 3)) pe_int)) pa_nil))) pa_nil))) (pe_callTy call_int1 (by rfl) B.int (by decide +kernel) (pa_cons (pe_cmpR op_eq (pv 1) pe_int (nomark _)) pa_nil)) (fun _ _ => rfl)))
        (pss_cons (ps_setLc (i := 5) (own := [("turn", 7)]) (g := (gName 7)) (tt := tYes) (te := (tCall spOrderP [] E0 (tCons (tVar 2) (tCons (tVar 3) tNil)))) (by rfl) scLaw.nd rfl rfl (sw_true rfl rfl rfl (by decide +kernel)) (pi_range1 (by rfl) B.range (pa_cons (pe_op op_add pe_int (pe_call G__law_draw hr (by rfl) T__law_draw.g T__law_draw.F.kp T__law_draw.b .nil pass0 (pa_cons (pv 2) (pa_cons (pv 4) pa_nil)))) pa_nil)) (blkOk_by (N := ["script", "k", "pool", "n", "most", "orders", "text", "turn", "other", "things", "thing"]) (sc := defScope s_law) (by decide +kernel)) (fun _ _ _ _ _ => (pg_name (i := 7) scLaw.nd rfl (.inl rfl))) (fun _ _ _ _ _ => pts_nil) (fun _ _ _ _ _ => (pe_call G__law_order hr (by rfl) T__law_order.g T__law_order.F.kp T__law_order.b .nil pass0 (pa_cons (pv 2) (pa_cons (pv 3) pa_nil)))))
        (Evl.pss_cut (ps_if (pt_cmpR op_eq (pe_call G__law_draw hr (by rfl) T__law_draw.g T__law_draw.F.kp T__law_draw.b .nil pass0 (pa_cons (pv 2) (pa_cons pe_int pa_nil))) pe_int (nomark _))
          (pss_one (ps_asg (pe_call G__law_order hr (by rfl) T__law_order.g T__law_order.F.kp T__law_order.b .nil pass0 (pa_cons (pv 2) (pa_cons (pe_op op_add pe_int (pe_call G__law_draw hr (by rfl) T__law_draw.g T__law_draw.F.kp T__law_draw.b .nil pass0 (pa_cons (pv 2) (pa_cons pe_int pa_nil)))) pa_nil))) (pg_sub (pv 5) (pe_ix ix_list (pe_lst (pa_cons (pe_call G__law_draw hr (by rfl) T__law_draw.g T__law_draw.F.kp T__law_draw.b .nil pass0 (pa_cons (pv 2) (pa_cons (pe_callB call_len_seq (by rfl) B.len PySem.boot_len (pa_cons (pv 5) pa_nil)) pa_nil))) (pa_cons (pe_un un_neg pe_int) pa_nil))) (pe_call G__law_draw hr (by rfl) T__law_draw.g T__law_draw.F.kp T__law_draw.b .nil pass0 (pa_cons (pv 2) (pa_cons pe_int pa_nil))) (fun _ _ => rfl)) set_list)))
          pss_nil)
        (pss_cons (ps_for PassesOwn.never rfl (pi_list (pe_lst (pa_cons (pe_call G__law_written hr (by rfl) T__law_written.g T__law_written.F.kp T__law_written.b .nil pass0 (pa_cons (pe_ix ix_list (pv 5) pe_int (fun _ _ => rfl)) pa_nil)) (pa_cons (pe_call G__law_list_written hr (by rfl) T__law_list_written.g T__law_list_written.F.kp T__law_list_written.b .nil pass0 (pa_cons (pv 5) pa_nil)) pa_nil)))) (pg_name (i := 6) scLaw.nd rfl (.inl rfl))
          (pss_cons (ps_if (pt_not (pt_val (pe_call G__law_texts_right hr (by rfl) T__law_texts_right.g T__law_texts_right.F.kp T__law_texts_right.b .nil pass0 (pa_cons (pv 6) pa_nil))))
            (pss_one (ps_ret pe_bl))
            pss_nil)
          (pss_one (ps_for PassesOwn.never rfl (pi_range1 (by rfl) B.range (pa_cons pe_int pa_nil)) (pg_name (i := 7) scLaw.nd rfl (.inl rfl))
            (pss_cons (ps_set (i := 8) scLaw.nd rfl (.inl rfl) (pe_call G__law_changed hr (by rfl) T__law_changed.g T__law_changed.F.kp T__law_changed.b .nil pass0 (pa_cons (pv 2) (pa_cons (pv 6) pa_nil))))
            (Evl.pss_cut (ps_if (pt_cmpR op_eq (pe_call G__law_draw hr (by rfl) T__law_draw.g T__law_draw.F.kp T__law_draw.b .nil pass0 (pa_cons (pv 2) (pa_cons pe_int pa_nil))) pe_int (nomark _))
              (pss_one (ps_set (i := 8) scLaw.nd rfl (.inl rfl) (pe_call G__law_changed hr (by rfl) T__law_changed.g T__law_changed.F.kp T__law_changed.b .nil pass0 (pa_cons (pv 2) (pa_cons (pv 8) pa_nil)))))
              pss_nil)
            (pss_one (ps_if (pt_not (pt_val (pe_call G__law_texts_right hr (by rfl) T__law_texts_right.g T__law_texts_right.F.kp T__law_texts_right.b .nil pass0 (pa_cons (pe_slice sl_str (pv 8) po_none (po_some pe_int)) pa_nil))))
              (pss_one (ps_ret pe_bl))
              pss_nil))))))))
        (pss_cons (ps_if (pt_not (pt_val (pe_call G__law_texts_right hr (by rfl) T__law_texts_right.g T__law_texts_right.F.kp T__law_texts_right.b .nil pass0 (pa_cons (pe_call G__law_odd hr (by rfl) T__law_odd.g T__law_odd.F.kp T__law_odd.b .nil pass0 (pa_cons (pv 2) pa_nil)) pa_nil))))
          (pss_one (ps_ret pe_bl))
          pss_nil)
        (pss_cons (ps_set (i := 9) scLaw.nd rfl (.inl rfl) (pe_lst (pa_cons pe_non (pa_cons pe_int (pa_cons pe_int (pa_cons pe_bl (pa_cons (pe_lst (pa_cons pe_int pa_nil)) (pa_cons (pe_lst (pa_cons pe_str pa_nil)) (pa_cons (pe_tup (pa_cons pe_int (pa_cons pe_int pa_nil))) (pa_cons pe_dnewK (pa_cons (pe_lst (pa_cons (pe_lst (pa_cons pe_int pa_nil)) pa_nil)) (pa_cons (pv 5) (pa_cons (pe_ix ix_list (pv 5) pe_int (fun _ _ => rfl)) (pa_cons (pe_tup pa_nil) pa_nil))))))))))))))
        (pss_cons (ps_set (i := 10) scLaw.nd rfl (.inl rfl) (pe_ix ix_list (pv 9) (pe_call G__law_draw hr (by rfl) T__law_draw.g T__law_draw.F.kp T__law_draw.b .nil pass0 (pa_cons (pv 2) (pa_cons pe_int pa_nil))) (fun _ _ => rfl)))
        (pss_one (ps_if (PW.pt (pw_or (pt_cmpR (op_neD hr.units) (pe_call G__law_asked hr (by rfl) T__law_asked.g T__law_asked.F.kp T__law_asked.b .nil pass0 (pa_cons pe_str (pa_cons (pv 10) pa_nil))) (pe_tup (pa_cons pe_str (pa_cons pe_non pa_nil))) (nomark _)) (pw_or1 (pt_cmpR (op_neD hr.units) (pe_call G__law_asked hr (by rfl) T__law_asked.g T__law_asked.F.kp T__law_asked.b .nil pass0 (pa_cons pe_str (pa_cons (pv 10) pa_nil))) (pe_tup (pa_cons pe_str (pa_cons pe_non pa_nil))) (nomark _)))))
          (pss_one (ps_ret pe_bl))
          pss_nil))))))))))))
      (pss_one (ps_ret pe_bl))), ?_⟩
    refine ⟨_, rfl, a, _, rfl, .inl hS, 12, _, rfl, 1, _, rfl, _, rfl, ?_⟩
    obtain ⟨m, em, hm⟩ : ∃ m : Nat, (if (if ((ns.map V.int).length : Int) < 12 then ((ns.map V.int).length : Int) else 12) > 1 then (if ((ns.map V.int).length : Int) < 12 then ((ns.map V.int).length : Int) else 12) else 1) = (m : Int) ∧ m ≤ 12 := by
      by_cases c1 : ((ns.map V.int).length : Int) < 12
      · rw [if_pos c1]
        by_cases c2 : ((ns.map V.int).length : Int) > 1
        · exact ⟨(ns.map V.int).length, by rw [if_pos c2], by omega⟩
        · exact ⟨1, by rw [if_neg c2]; rfl, by omega⟩
      · rw [if_neg c1]
        exact ⟨12, rfl, by omega⟩
    refine ⟨by rw [em]; omega, by rw [em]; omega, ?_⟩
    rw [em, Int.toNat_natCast]
    refine for_range (n := m) (fun k0 σ H3 => ∃ (y1 y2 y3 y4 y5 y6 y7 y8 y9 y10 : Option V), σ = [some (.ref a), y1, y2, y3, y4, y5, y6, y7, y8, y9, y10] ∧ Same H H3)
      ⟨_, _, _, _, _, _, _, _, _, _, rfl, Same.refl _⟩ (fun k0 σ H3 hi hP => ?_) (fun σ H3 hP => q _)
    obtain ⟨y1, y2, y3, y4, y5, y6, y7, y8, y9, y10, rfl, s3⟩ := hP
    -- pool, n
    refine ⟨_, rfl, _, rfl, a, ns, k0, by rw [show (0 + (k0 : Int)) = (k0 : Int) by omega]; rfl, s3.seq hS, fun d H4 nd P4 s4 => ?_⟩
    have s04 := s3.trans s4
    have nHd : H d = none := s3.free nd
    have kH : ∀ {G : Hp}, KeepD d H4 G → Same H G := fun k b o e => k b o (s04 b o e) (ne_of_none e nHd)
    refine ⟨_, rfl, d, 12, rfl, P4, by decide, by decide, fun v1 H5 v10 v11 P5 k5 => ⟨_, _, rfl, rfl, ?_⟩⟩
    obtain ⟨n, en, hn1, hn2⟩ : ∃ n : Nat, (1 : Int) + v1 = (n : Int) ∧ 1 ≤ n ∧ n ≤ 12 := ⟨(1 + v1).toNat, by omega, by omega, by omega⟩
    rw [show (fun i j : Int => V.int (i + j)) 1 v1 = V.int (n : Int) from congrArg V.int en]
    clear en v10 v11
    -- most
    refine ⟨_, rfl, _, _, rfl, rfl, .inl ⟨by decide, by decide⟩, _, _, rfl, rfl, _, _, rfl, rfl, ?_, _, _, rfl, line_small (by show 2 ≤ 16777216; decide), fun l0 nl0 => ?_⟩
    · exact ⟨by omega, by omega⟩
    have hq : 1 ≤ 480 / (2 * (n : Int) + 3) := Int.le_ediv_of_mul_le (by omega) (by omega)
    obtain ⟨mo, em2, hmo1, hmo2⟩ : ∃ mo : Int, atI [V.int 5, V.int (if 480 / (2 * (n : Int) + 3) < 120 then 480 / (2 * (n : Int) + 3) else 120)] (if decide (V.int (0 + (k0 : Int)) = V.int 0) = true then 1 else 0) = some (.int mo) ∧ 0 < mo ∧ mo ≤ 120 := by
      by_cases c0 : decide (V.int (0 + (k0 : Int)) = V.int 0) = true
      · rw [if_pos c0]
        refine ⟨_, rfl, ?_, ?_⟩
        · split <;> omega
        · split <;> omega
      · rw [if_neg c0]
        exact ⟨5, rfl, by decide, by decide⟩
    refine ⟨_, rfl, rfl, .inr ⟨_, rfl, l0, _, _, .int mo, rfl, rfl, SqL.of upd_same, em2, ?_⟩⟩
    have sl0 := same_new (o := .lst [.int 5, .int (if 480 / (2 * (n : Int) + 3) < 120 then 480 / (2 * (n : Int) + 3) else 120)]) nl0
    have P5' := P5.same sl0
    have k5' := k5.trans (KeepD.of_same sl0)
    generalize upd H5 l0 (.lst [.int 5, .int (if 480 / (2 * (n : Int) + 3) < 120 then 480 / (2 * (n : Int) + 3) else 120)]) = H5b at P5' k5' ⊢
    clear em2 hq sl0 nl0 k5 P5
    -- orders
    refine ⟨_, rfl, _, rfl, d, mo, rfl, P5', hmo1, by omega, fun v2 H6 v20 v21 P6 k6 => ⟨_, _, rfl, rfl, _, rfl, by omega, by omega, fun D nD => ?_⟩⟩
    have kk6 := k5'.trans k6
    have nDd : D ≠ d := P6.ne nD
    obtain ⟨cn, ecn, hcn1, hcn2⟩ : ∃ cn : Nat, ((1 : Int) + v2).toNat = cn ∧ 1 ≤ cn ∧ cn ≤ 120 := ⟨_, rfl, by omega, by omega⟩
    rw [ecn]
    refine lc_range (lo := 0) (n := cn) (fun i G => ∃ (as : List Addr) (rs : List (List Int)), G D = some (.lst (as.map V.ref)) ∧ LL G as rs ∧ (∀ r ∈ rs, ∃ n, IsOrd n r ∧ n ≤ 12) ∧ as.length = i ∧ (∀ b ∈ as, b ≠ d ∧ b ≠ D) ∧ PoolAt G d ∧ KeepD d H6 G) ⟨[], [], upd_same, trivial, (fun r m => by cases m), rfl, (fun b m => by cases m), P6.new nD, KeepD.of_same (same_new nD)⟩ (fun i G hi hP => ?_) (fun G hP => ?_)
    · obtain ⟨as, rs, hD, hL, ho, hal, hn, PG, kG⟩ := hP
      refine ⟨rfl, _, rfl, _, rfl, d, n, rfl, PG, hn2, fun xs l G2 ox nl hl nld P2 k2 => ?_⟩
      have nlD : l ≠ D := fun z => by rw [z, hD] at nl; cases nl
      have hD2 := k2 _ _ hD nDd
      refine ⟨_, hD2, line_lt (by rw [List.length_map]; omega), as ++ [l], rs ++ [xs], by rw [upd_same, List.map_append]; rfl, LL.snoc (hL.keep fun b mb o e => by rw [upd_ne (hn b mb).2]; exact k2 _ _ e (hn b mb).1) (by rw [upd_ne nlD]; exact hl), fun r m => ?_, by rw [List.length_append, hal]; rfl, fun b m => ?_, P2.upd nDd, fun b o e f => ?_⟩
      · rcases List.mem_append.mp m with m | m
        · exact ho r m
        · rw [List.mem_singleton.mp m]
          exact ⟨n, ox, hn2⟩
      · rcases List.mem_append.mp m with m | m
        · exact hn b m
        · rw [List.mem_singleton.mp m]
          exact ⟨nld, nlD⟩
      · rw [upd_ne (ne_of_none e nD)]
        exact k2 _ _ (kG _ _ e f) f
    obtain ⟨as, rs, hD, hL, ho, hal, hn, PG, kG⟩ := hP
    have O7 : OrsAt G D as rs d := ⟨hD, hL, ho, by omega, by omega, nDd, fun b m => (hn b m).1⟩
    have kk7 := kk6.trans kG
    have nD4 : H4 D = none := by
      cases e : H4 D with
      | none => rfl
      | some o => rw [kk6 D o e nDd] at nD; cases nD
    clear hD hL ho hn kG nD P6 P5' k6 k5' kk6
    -- perhaps one of other many things
    refine ⟨fun σ' G' => ∃ (as : List Addr) (rs : List (List Int)), σ' = [some (.ref a), some (.int (0 + (k0 : Int))), some (.ref d), some (.int (n : Int)), some (.int mo), some (.ref D), y6, y7, y8, y9, y10] ∧ OrsAt G' D as rs d ∧ PoolAt G' d ∧ KeepD d H4 G', ?_, fun σ' G' hM => ?_⟩
    · refine ⟨_, rfl, d, 6, rfl, PG, by decide, by decide, fun v3 G1 v30 v31 P1 k1 => ⟨rfl, _, rfl, ite2 (fun c1 => ?_) (fun c1 => ⟨as, rs, rfl, O7.keep k1, P1, kk7.trans k1⟩)⟩⟩
      refine ⟨_, rfl, _, rfl, d, 12, rfl, P1, by decide, by decide, fun v4 G2 v40 v41 P2 k2 => ⟨_, _, rfl, rfl, d, (1 + v4).toNat, by rw [Int.toNat_of_nonneg (by omega)]; rfl, P2, by omega, fun xs l G3 ox nl hl nld P3 k3 => ?_⟩⟩
      have O3 := ((O7.keep k1).keep k2).keep k3
      have kk3 := ((kk7.trans k1).trans k2).trans k3
      refine ⟨_, rfl, _, rfl, _, rfl, D, _, rfl, .inl (SqL.of O3.hl), d, _, rfl, P3, by rw [List.length_map]; have := O3.pos; omega, by rw [List.length_map]; have := O3.le; omega, fun v5 G4 v50 v51 P4' k4 => ⟨_, rfl, line_small (by show 2 ≤ 16777216; decide), fun l2 nl2 => ?_⟩⟩
      rw [List.length_map] at v51
      refine ⟨_, rfl, d, 2, rfl, P4'.same (same_new nl2), by decide, by decide, fun v6 G5 v60 v61 P5 k5 => ?_⟩
      have hl2 := k5 l2 _ upd_same (P4'.ne nl2)
      have k5 := (KeepD.of_same (same_new nl2)).trans k5
      have O5 := (O3.keep k4).keep k5
      have hl5 := k5 _ _ (k4 _ _ hl nld) nld
      obtain ⟨ix, j, em, hix, hj⟩ : ∃ (ix : Int) (j : Nat), atI [V.int v5, V.int (-1)] v6 = some (.int ix) ∧ ixN (as.map V.ref).length ix = some j ∧ j < as.length := by
        rw [List.length_map]
        rcases (show v6 = 0 ∨ v6 = 1 by omega) with rfl | rfl
        · exact ⟨v5, v5.toNat, rfl, by unfold ixN; rw [if_pos v50, if_pos v51], by omega⟩
        · refine ⟨-1, as.length - 1, rfl, ?_, by have := O5.pos; omega⟩
          have := O5.pos
          unfold ixN
          rw [if_neg (by decide), if_pos (by omega)]
          congr 1
          omega
      refine ⟨l2, _, _, .int ix, rfl, rfl, SqL.of hl2, em, D, _, ix, j, rfl, rfl, O5.hl, hix, as.set j l, rs.set j xs, rfl, ?_, P5.upd nDd, fun b o e f => ?_⟩
      · have nD5 : ∀ {b : Addr} {r : List Int}, G5 b = some (.lst (r.map V.int)) → b ≠ D := fun e z => by
          rw [z, O5.hl] at e
          have e := HO.lst.inj (Option.some.inj e)
          exact ne_refs O5.pos e
        refine ⟨by rw [upd_same, ← List.map_set], (LL_set hl5 j O5.ll).keep fun b mb o e => ?_, fun r m => ?_, by rw [List.length_set]; exact O5.le, by rw [List.length_set]; exact O5.pos, nDd, fun b mb => ?_⟩
        · obtain ⟨i2, e2⟩ := List.mem_iff_getElem?.mp mb
          obtain ⟨r, _, hr⟩ := (LL_set hl5 j O5.ll).get e2
          rw [upd_ne (nD5 hr)]
          exact e
        · rcases List.mem_or_eq_of_mem_set m with m | rfl
          · exact O5.ord r m
          · exact ⟨_, ox, by omega⟩
        · rcases List.mem_or_eq_of_mem_set mb with mb | rfl
          · exact O5.nas b mb
          · exact nld
      · rw [upd_ne (ne_of_none e nD4)]
        exact k5 _ _ (k4 _ _ (kk3 _ _ e f) f) f
    obtain ⟨as, rs, rfl, O8, P8, kk8⟩ := hM
    clear O7 kk7 PG hal
    -- the texts
    obtain ⟨a0, ea0⟩ : ∃ a0, as[0]? = some a0 := ⟨_, List.getElem?_eq_getElem O8.pos⟩
    obtain ⟨r0, er0, ha0⟩ := O8.ll.get ea0
    obtain ⟨n0, on0, hn0⟩ := O8.ord r0 (List.mem_of_getElem? er0)
    have hrl := O8.ll.len
    refine ⟨_, rfl, D, _, _, .ref a0, rfl, rfl, SqL.of O8.hl, at_of (j := 0) rfl (by rw [List.getElem?_map, ea0]; rfl), a0, n0, r0, rfl, ha0, on0, hn0, fun sA G1 hsA s1 => ?_⟩
    have O1 := O8.same s1
    refine ⟨_, rfl, D, as, rs, rfl, O1.hl, O1.ll, O1.ord, by have := O1.le; omega, fun sB G2 hsB s2 => ⟨line_small (by show 2 ≤ 16777216; decide), fun tl ntl => ⟨tl, rfl, ⟨_, SqL.of upd_same⟩, ?_⟩⟩⟩
    have st := same_new (o := .lst [.str sA, .str sB]) ntl
    have O9 := (O1.same s2).same st
    have P9 := ((P8.same s1).same s2).same st
    have kk9 := ((kk8.trans (KeepD.of_same s1)).trans (KeepD.of_same s2)).trans (KeepD.of_same st)
    have htl : (upd G2 tl (.lst [.str sA, .str sB])) tl = some (.lst [.str sA, .str sB]) := upd_same
    have ntd : tl ≠ d := ((P8.same s1).same s2).ne ntl
    generalize upd G2 tl (.lst [.str sA, .str sB]) = G9 at O9 P9 kk9 htl
    clear O1 O8 P8 kk8 s1 s2 st ha0
    refine for_it walk_list (fun i σ G => ∃ (y6 y7 y8 : Option V), σ = [some (.ref a), some (.int (0 + (k0 : Int))), some (.ref d), some (.int (n : Int)), some (.int mo), some (.ref D), y6, y7, y8, y9, y10] ∧ OrsAt G D as rs d ∧ PoolAt G d ∧ KeepD d H4 G ∧ G tl = some (.lst [.str sA, .str sB])) ⟨_, _, _, rfl, O9, P9, kk9, htl⟩ (fun i σ G _ hP => by obtain ⟨_, _, _, _, _, _, _, h⟩ := hP; exact SqL.of h) (fun i x σ G G' hi hP hy => ?_) (fun σ G hP => ?_)
    · obtain ⟨y6, y7, y8, rfl, OG, PG, kG, htG⟩ := hP
      obtain ⟨rfl, ex⟩ := hy
      obtain ⟨st, rfl, hst⟩ : ∃ st : Str, x = .str st ∧ st.length ≤ 8000 := by
        match i, ex with
        | 0, ex => exact ⟨sA, (Option.some.inj ex).symm, by omega⟩
        | 1, ex => exact ⟨sB, (Option.some.inj ex).symm, hsB⟩
      refine ⟨_, rfl, st, rfl, by omega, fun G1 s1 => ⟨_, rfl, ?_⟩⟩
      have OG := OG.same s1
      have PG := PG.same s1
      have kG := kG.trans (KeepD.of_same s1)
      have htG := s1 _ _ htG
      clear s1
      refine ⟨4, rfl, by decide, by decide, ?_⟩
      refine for_range (n := 4) (fun t σ G => ∃ (y7 y8 : Option V), σ = [some (.ref a), some (.int (0 + (k0 : Int))), some (.ref d), some (.int (n : Int)), some (.int mo), some (.ref D), some (.str st), y7, y8, y9, y10] ∧ OrsAt G D as rs d ∧ PoolAt G d ∧ KeepD d H4 G ∧ G tl = some (.lst [.str sA, .str sB])) ⟨_, _, rfl, OG, PG, kG, htG⟩ (fun t σ G ht hP => ?_) (fun σ G hP => ?_)
      · obtain ⟨y7, y8, rfl, OG, PG, kG, htG⟩ := hP
        refine ⟨_, rfl, _, rfl, d, st, rfl, PG, by omega, fun so G2 hso P2 k2 => ?_⟩
        refine ⟨fun σ' G' => ∃ (so : Str), σ' = [some (.ref a), some (.int (0 + (k0 : Int))), some (.ref d), some (.int (n : Int)), some (.int mo), some (.ref D), some (.str st), some (.int (0 + (t : Int))), some (.str so), y9, y10] ∧ so.length ≤ 16000000 ∧ OrsAt G' D as rs d ∧ PoolAt G' d ∧ KeepD d H4 G' ∧ G' tl = some (.lst [.str sA, .str sB]), ?_, fun σ' G' hM => ?_⟩
        · refine ⟨_, rfl, d, 4, rfl, P2, by decide, by decide, fun v7 G3 v70 v71 P3 k3 => ⟨rfl, _, rfl, ite2 (fun c1 => ?_) (fun c1 => ⟨so, rfl, by omega, (OG.keep k2).keep k3, P3, (kG.trans k2).trans k3, k3 _ _ (k2 _ _ htG ntd) ntd⟩)⟩⟩
          refine ⟨_, rfl, _, rfl, d, so, rfl, P3, by omega, fun so2 G4 hso2 P4' k4 => ⟨so2, rfl, by omega, ((OG.keep k2).keep k3).keep k4, P4', ((kG.trans k2).trans k3).trans k4, k4 _ _ (k3 _ _ (k2 _ _ htG ntd) ntd) ntd⟩⟩
        · obtain ⟨so, rfl, hso, OG, PG, kG, htG⟩ := hM
          refine ⟨_, rfl, 500, rfl, so, rfl, line_small (by omega), _, rfl, by have := cut500 so; omega, fun G5 s5 => ⟨_, rfl, ?_⟩⟩
          exact ⟨_, _, rfl, OG.same s5, PG.same s5, kG.trans (KeepD.of_same s5), s5 _ _ htG⟩
      · obtain ⟨y7, y8, rfl, OG, PG, kG, htG⟩ := hP
        exact ⟨_, _, _, rfl, OG, PG, kG, htG⟩
    · obtain ⟨y6, y7, y8, rfl, OG, PG, kG, _⟩ := hP
      refine ⟨_, rfl, d, rfl, PG, fun so G2 hso P2 k2 => ⟨so, rfl, by omega, fun G3 s3 => ⟨_, rfl, ?_⟩⟩⟩
      have OG := (OG.keep k2).same s3
      have PG := P2.same s3
      have kG := (kG.trans k2).trans (KeepD.of_same s3)
      clear k2 s3 P2
      -- things
      refine ⟨line_small (by show 1 ≤ 16777216; decide), fun t1 nt1 => ⟨line_small (by show 1 ≤ 16777216; decide), fun t2 nt2 => ⟨line_small (by show 2 ≤ 16777216; decide), fun t3 nt3 => ?_⟩⟩⟩
      have s1 := same_new (o := .lst [.int 0]) nt1
      have s2 := same_new (o := .lst [.str "0"]) nt2
      have s3 := same_new (o := .tup [.int 0, .int 1]) nt3
      have s123 := (s1.trans s2).trans s3
      have h1 := s3 _ _ (s2 _ _ (upd_same (H := G3) (a := t1) (o := .lst [.int 0])))
      have h2 := s3 _ _ (upd_same (H := upd G3 t1 (.lst [.int 0])) (a := t2) (o := .lst [.str "0"]))
      have h3 : (upd (upd (upd G3 t1 (.lst [.int 0])) t2 (.lst [.str "0"])) t3 (.tup [.int 0, .int 1])) t3 = some (.tup [.int 0, .int 1]) := upd_same
      have OG := OG.same s123
      have PG := PG.same s123
      have kG := kG.trans (KeepD.of_same s123)
      generalize upd (upd (upd G3 t1 (.lst [.int 0])) t2 (.lst [.str "0"])) t3 (.tup [.int 0, .int 1]) = G4 at h1 h2 h3 OG PG kG ⊢
      clear s1 s2 s3 s123 nt1 nt2 nt3
      refine fun t4 nt4 => ⟨line_small (by show 1 ≤ 16777216; decide), fun t5 nt5 => ⟨line_small (by show 1 ≤ 16777216; decide), fun t6 nt6 => ?_⟩⟩
      have s4 := same_new (o := .dK []) nt4
      have s5 := same_new (o := .lst [.int 0]) nt5
      have s6 := same_new (o := .lst [.ref t5]) nt6
      have s456 := (s4.trans s5).trans s6
      have h4 := s6 _ _ (s5 _ _ (upd_same (H := G4) (a := t4) (o := .dK [])))
      have h5 := s6 _ _ (upd_same (H := upd G4 t4 (.dK [])) (a := t5) (o := .lst [.int 0]))
      have h6 : (upd (upd (upd G4 t4 (.dK [])) t5 (.lst [.int 0])) t6 (.lst [.ref t5])) t6 = some (.lst [.ref t5]) := upd_same
      have OG := OG.same s456
      have PG := PG.same s456
      have kG := kG.trans (KeepD.of_same s456)
      have h1 := s456 _ _ h1
      have h2 := s456 _ _ h2
      have h3 := s456 _ _ h3
      generalize upd (upd (upd G4 t4 (.dK [])) t5 (.lst [.int 0])) t6 (.lst [.ref t5]) = G5 at h1 h2 h3 h4 h5 h6 OG PG kG ⊢
      clear s4 s5 s6 s456 nt4 nt5 nt6
      obtain ⟨r1, er1, ha1⟩ := OG.ll.get ea0
      refine ⟨_, rfl, _, rfl, D, _, _, .ref a0, rfl, rfl, SqL.of OG.hl, at_of (j := 0) rfl (by rw [List.getElem?_map, ea0]; rfl), by show 0 ≤ sizeLine; exact Nat.zero_le _, fun t7 nt7 => ⟨line_small (by show 12 ≤ 16777216; decide), fun tt ntt => ?_⟩⟩
      have s7 := same_new (o := .tup []) nt7
      have s8 := s7.trans (same_new (o := .lst [.non, .int 0, .int 1, .bl true, .ref t1, .ref t2, .ref t3, .ref t4, .ref t6, .ref D, .ref a0, .ref t7]) ntt)
      have h7 := same_new (o := .lst [.non, .int 0, .int 1, .bl true, .ref t1, .ref t2, .ref t3, .ref t4, .ref t6, .ref D, .ref a0, .ref t7]) ntt _ _ (upd_same (H := G5) (a := t7) (o := .tup []))
      have htt : (upd (upd G5 t7 (.tup [])) tt (.lst [.non, .int 0, .int 1, .bl true, .ref t1, .ref t2, .ref t3, .ref t4, .ref t6, .ref D, .ref a0, .ref t7])) tt = some (.lst [.non, .int 0, .int 1, .bl true, .ref t1, .ref t2, .ref t3, .ref t4, .ref t6, .ref D, .ref a0, .ref t7]) := upd_same
      have OG := OG.same s8
      have PG := PG.same s8
      have kG := kG.trans (KeepD.of_same s8)
      have h1 := s8 _ _ h1
      have h2 := s8 _ _ h2
      have h3 := s8 _ _ h3
      have h4 := s8 _ _ h4
      have h5 := s8 _ _ h5
      have h6 := s8 _ _ h6
      have ha1 := s8 _ _ ha1
      generalize upd (upd G5 t7 (.tup [])) tt (.lst [.non, .int 0, .int 1, .bl true, .ref t1, .ref t2, .ref t3, .ref t4, .ref t6, .ref D, .ref a0, .ref t7]) = G6 at h1 h2 h3 h4 h5 h6 h7 ha1 htt OG PG kG ⊢
      clear s7 s8 nt7 ntt
      refine ⟨_, rfl, _, rfl, d, 12, rfl, PG, by decide, by decide, fun v8 G8 v80 v81 P8 k8 => ?_⟩
      have nd8 : ∀ {p : Addr} {o : HO}, G6 p = some o → (∀ x y z : Int, o ≠ .lst [.int x, .int y, .int z]) → p ≠ d := fun e hn z => by
        obtain ⟨x, y, zz, e2⟩ := PG
        rw [z, e2] at e
        exact hn x y zz (Option.some.inj e).symm
      have g1 := k8 _ _ h1 (nd8 h1 fun x y z e => by cases e)
      have g2 := k8 _ _ h2 (nd8 h2 fun x y z e => by cases e)
      have g3 := k8 _ _ h3 (nd8 h3 fun x y z e => by cases e)
      have g4 := k8 _ _ h4 (nd8 h4 fun x y z e => by cases e)
      have g5 := k8 _ _ h5 (nd8 h5 fun x y z e => by cases e)
      have g6 := k8 _ _ h6 (nd8 h6 fun x y z e => by cases e)
      have g7 := k8 _ _ h7 (nd8 h7 fun x y z e => by cases e)
      have gtt := k8 _ _ htt (nd8 htt fun x y z e => by cases e)
      have ga := k8 _ _ ha1 (OG.nas a0 (List.mem_of_getElem? ea0))
      have OG := OG.keep k8
      have kG := kG.trans k8
      obtain ⟨v, dd, em, hdq, hns⟩ : ∃ (v : V) (dd : PyData), atI [.non, .int 0, .int 1, .bl true, .ref t1, .ref t2, .ref t3, .ref t4, .ref t6, .ref D, .ref a0, .ref t7] v8 = some v ∧ Dq G8 v dd ∧ ∀ z, dd ≠ .str z := by
        rcases (show v8 = 0 ∨ v8 = 1 ∨ v8 = 2 ∨ v8 = 3 ∨ v8 = 4 ∨ v8 = 5 ∨ v8 = 6 ∨ v8 = 7 ∨ v8 = 8 ∨ v8 = 9 ∨ v8 = 10 ∨ v8 = 11 by omega) with rfl | rfl | rfl | rfl | rfl | rfl | rfl | rfl | rfl | rfl | rfl | rfl
        · exact ⟨_, _, rfl, .non, fun z e => by cases e⟩
        · exact ⟨_, _, rfl, .int 0, fun z e => by cases e⟩
        · exact ⟨_, _, rfl, .int 1, fun z e => by cases e⟩
        · exact ⟨_, _, rfl, .bl true, fun z e => by cases e⟩
        · exact ⟨_, _, rfl, .lst g1 (.cons (.int 0) .nil), fun z e => by cases e⟩
        · exact ⟨_, _, rfl, .lst g2 (.cons (.str _) .nil), fun z e => by cases e⟩
        · exact ⟨_, _, rfl, .tup g3 (.cons (.int 0) (.cons (.int 1) .nil)), fun z e => by cases e⟩
        · exact ⟨_, _, rfl, .dic g4 .nil, fun z e => by cases e⟩
        · exact ⟨_, _, rfl, .lst g6 (.cons (.lst g5 (.cons (.int 0) .nil)) .nil), fun z e => by cases e⟩
        · exact ⟨_, _, rfl, .lst OG.hl (dq_LL OG.ll), fun z e => by cases e⟩
        · exact ⟨_, _, rfl, .lst ga (dq_ints78 r1), fun z e => by cases e⟩
        · exact ⟨_, _, rfl, .tup g7 .nil, fun z e => by cases e⟩
      have hsh : ShortL dd := fun z e => absurd e (hns z)
      refine ⟨tt, _, _, v, rfl, rfl, SqL.of gtt, em, ?_⟩
      have dpn : ∀ {G : Hp} {t : Addr}, G t = some (.tup [.str "NoText", .non]) → Dp K G (.ref t) dNo := fun e => .tup (SqT.of e) (.cons (.str _) (.cons .non .nil))
      have same2 : PyData.eqv dNo dNo = true := SeqAt.eqv_refl _ (SeqAt.canLay_of_shaped sh_no)
      refine ⟨_, rfl, "read", v, dd, rfl, hdq, hsh, .inl ⟨rfl, fun xs hx => absurd hx.choose_spec.1 (hns _), fun _ t H2 ht z2 => ⟨line_small (by show 2 ≤ 16777216; decide), fun tn ntn => ?_⟩⟩⟩
      have z3 := same_new (o := .tup [.str "NoText", .non]) ntn
      refine ⟨dNo, dNo, dpn (z3 _ _ ht), dpn upd_same, sh_no, sh_no, _, rfl, ?_⟩
      rw [same2]
      refine iteF ?_
      have z23 := z2.trans z3
      refine ⟨_, rfl, "reads", v, dd, rfl, hdq.same z23, hsh, .inr ⟨rfl, fun z rs e => absurd e (hns z), fun _ t2 H3 ht2 z4 => ⟨line_small (by show 2 ≤ 16777216; decide), fun tm ntm => ?_⟩⟩⟩
      have z5 := same_new (o := .tup [.str "NoText", .non]) ntm
      refine ⟨dNo, dNo, dpn (z5 _ _ ht2), dpn upd_same, sh_no, sh_no, _, rfl, ?_⟩
      rw [same2]
      refine iteF ?_
      exact ⟨_, _, _, _, _, _, _, _, _, _, rfl, kH (kG.trans (KeepD.of_same (z23.trans (z4.trans z5))))⟩
end
end Fo
--LEVEL 40
--CLASSES OrderError NoOrder NoWay NoFit NoPlace NoNumber TooMany NoText NoName NoRow
--RAISED NoText
--KINDS NoOrder NoWay NoFit NoPlace NoNumber TooMany NoText NoName NoRow
--LAWCALL ok_law (c := cls9 C_NoOrder C_NoWay C_NoFit C_NoPlace C_NoNumber C_TooMany C_NoText C_NoName C_NoRow) F_law T__law_pool T__law_draw T__law_order T__law_written T__law_list_written T__law_texts_right T__law_changed T__law_odd T__law_asked (ok_pool (k := 38) T__law_pool B) (ok_drawP (k := 38) T__law_draw B) (ok_ordP (k := 38) T__law_order T__law_draw (ok_drawP (k := 37) T__law_draw B) B) (ok_lw (k := 38) T__law_written B) (ok_llw (k := 38) T__law_list_written T__law_written (ok_lw (k := 37) T__law_written B) B) (ok_txr (k := 38) (c := cls9 C_NoOrder C_NoWay C_NoFit C_NoPlace C_NoNumber C_TooMany C_NoText C_NoName C_NoRow) T__law_texts_right T__law_read T__law_read_list T__law_asked (ok_lrd (k := 37) T__law_read T__law_number (ok_lnum (k := 36) T__law_number B) B) (ok_lrl (k := 37) T__law_read_list T__law_read (ok_lrd (k := 36) T__law_read T__law_number (ok_lnum (k := 35) T__law_number B) B) B) (ok_ask78 (k := 37) (c := cls9 C_NoOrder C_NoWay C_NoFit C_NoPlace C_NoNumber C_TooMany C_NoText C_NoName C_NoRow) T__law_asked T_show_order T_show_orders T_read_order T_read_orders (ok_readX (k := 36) T_read_order T_check_text T_number_in T_is_order (ok_txtX (k := 35) T_check_text X_NoText B) (ok_numD (k := 35) T_number_in B) (ok_isOrdD (k := 34) T_is_order T_is_whole B m_MOST_THINGS) X_NoText m_MOST_THINGS) (ok_readsX (k := 36) T_read_orders T_check_text T_read_order T_is_order_list (ok_txtX (k := 35) T_check_text X_NoText B) (ok_readX (k := 35) T_read_order T_check_text T_number_in T_is_order (ok_txtX (k := 34) T_check_text X_NoText B) (ok_numD (k := 34) T_number_in B) (ok_isOrdD (k := 33) T_is_order T_is_whole B m_MOST_THINGS) X_NoText m_MOST_THINGS) (ok_olD (k := 35) T_is_order_list T_is_order (ok_isOrdD (k := 33) T_is_order T_is_whole B m_MOST_THINGS) B) X_NoText m_NO_ORDERS) g_OrderError xm_NoText kd_NoText g_NoOrder g_NoWay g_NoFit g_NoPlace g_NoNumber g_TooMany g_NoText g_NoName g_NoRow B) B) (ok_chg (k := 38) T__law_changed T__law_draw (ok_drawP (k := 37) T__law_draw B) B) (ok_odd (k := 38) T__law_odd T__law_draw (ok_drawP (k := 37) T__law_draw B) B) (ok_ask78 (k := 38) (c := cls9 C_NoOrder C_NoWay C_NoFit C_NoPlace C_NoNumber C_TooMany C_NoText C_NoName C_NoRow) T__law_asked T_show_order T_show_orders T_read_order T_read_orders (ok_readX (k := 37) T_read_order T_check_text T_number_in T_is_order (ok_txtX (k := 36) T_check_text X_NoText B) (ok_numD (k := 36) T_number_in B) (ok_isOrdD (k := 35) T_is_order T_is_whole B m_MOST_THINGS) X_NoText m_MOST_THINGS) (ok_readsX (k := 37) T_read_orders T_check_text T_read_order T_is_order_list (ok_txtX (k := 36) T_check_text X_NoText B) (ok_readX (k := 36) T_read_order T_check_text T_number_in T_is_order (ok_txtX (k := 35) T_check_text X_NoText B) (ok_numD (k := 35) T_number_in B) (ok_isOrdD (k := 34) T_is_order T_is_whole B m_MOST_THINGS) X_NoText m_MOST_THINGS) (ok_olD (k := 36) T_is_order_list T_is_order (ok_isOrdD (k := 34) T_is_order T_is_whole B m_MOST_THINGS) B) X_NoText m_NO_ORDERS) g_OrderError xm_NoText kd_NoText g_NoOrder g_NoWay g_NoFit g_NoPlace g_NoNumber g_TooMany g_NoText g_NoName g_NoRow B) B
namespace Fo
open PySem PySem.Spec PyProof.Rows L2
set_option maxHeartbeats 8000000 in
theorem all_mk {l : PySem.W.OpenLaw} {w : World} {K : PySem.W.Frag} {h : Heap} {mg : Str → Option Value} {fa : Addr} (X : K.In h) (G : h.Ns mainGlobals mg) (hfa : mg "law" = some (.ref fa))
    {f0 f1 f2 f3 f4 f5 f6 f7 f8 f9 f10 f11 f12 f13 f14 f15 f16 f17 f18 f19 f20 f21 f22 f23 : Addr} {od0 an0 od1 an1 od2 an2 od3 an3 od4 an4 od5 an5 od6 an6 od7 an7 od8 an8 od9 an9 od10 an10 od11 an11 od12 an12 od13 an13 od14 an14 od15 an15 od16 an16 od17 an17 od18 an18 od19 an19 od20 an20 od21 an21 od22 an22 od23 an23 : Option Addr} {sl0 sl1 sl2 sl3 sl4 sl5 sl6 sl7 sl8 sl9 sl10 sl11 sl12 sl13 sl14 sl15 sl16 sl17 sl18 sl19 sl20 sl21 sl22 sl23 : Array (Option Value)} {oc0 kV0 dc0 pm0 cd0 ct0 oc1 kV1 dc1 pm1 cd1 ct1 oc2 kV2 dc2 pm2 cd2 ct2 oc3 kV3 dc3 pm3 cd3 ct3 oc4 kV4 dc4 pm4 cd4 ct4 oc5 kV5 dc5 pm5 cd5 ct5 oc6 kV6 dc6 pm6 cd6 ct6 oc7 kV7 dc7 pm7 cd7 ct7 oc8 kV8 dc8 pm8 cd8 ct8 oc9 kV9 dc9 pm9 cd9 ct9 oc10 kV10 dc10 pm10 cd10 ct10 oc11 kV11 dc11 pm11 cd11 ct11 oc12 kV12 dc12 pm12 cd12 ct12 oc13 kV13 dc13 pm13 cd13 ct13 oc14 kV14 dc14 pm14 cd14 ct14 oc15 kV15 dc15 pm15 cd15 ct15 oc16 kV16 dc16 pm16 cd16 ct16 oc17 kV17 dc17 pm17 cd17 ct17 oc18 kV18 dc18 pm18 cd18 ct18 oc19 kV19 dc19 pm19 cd19 ct19 oc20 kV20 dc20 pm20 cd20 ct20 oc21 kV21 dc21 pm21 cd21 ct21 oc22 kV22 dc22 pm22 cd22 ct22 oc23 kV23 dc23 pm23 cd23 ct23 : Value} {tk_MOST_THINGS tk_NO_ORDERS : Tok} {C_OrderError C_NoOrder C_NoWay C_NoFit C_NoPlace C_NoNumber C_TooMany C_NoText C_NoName C_NoRow : Addr}
    (a0 : PySem.W.nsIn K mainGlobals "is_whole" = some (some (.ref f0))) (l0 : K.lookup f0 = some ⟨oc0, od0, .func (PySem.W.fnOf "is_whole" "is_whole" (defArgs s_is_whole) (defBody s_is_whole) (defScope s_is_whole) .none kV0 dc0 pm0 an0 cd0 ct0), sl0⟩) (c0 : PySem.W.codeIn K cd0 "is_whole" = true) (k0 : PySem.W.keepIn K (.ref f0) = true)
    (a1 : PySem.W.nsIn K mainGlobals "is_order" = some (some (.ref f1))) (l1 : K.lookup f1 = some ⟨oc1, od1, .func (PySem.W.fnOf "is_order" "is_order" (defArgs s_is_order) (defBody s_is_order) (defScope s_is_order) .none kV1 dc1 pm1 an1 cd1 ct1), sl1⟩) (c1 : PySem.W.codeIn K cd1 "is_order" = true) (k1 : PySem.W.keepIn K (.ref f1) = true)
    (a2 : PySem.W.nsIn K mainGlobals "check_order" = some (some (.ref f2))) (l2 : K.lookup f2 = some ⟨oc2, od2, .func (PySem.W.fnOf "check_order" "check_order" (defArgs s_check_order) (defBody s_check_order) (defScope s_check_order) .none kV2 dc2 pm2 an2 cd2 ct2), sl2⟩) (c2 : PySem.W.codeIn K cd2 "check_order" = true) (k2 : PySem.W.keepIn K (.ref f2) = true)
    (a3 : PySem.W.nsIn K mainGlobals "is_order_list" = some (some (.ref f3))) (l3 : K.lookup f3 = some ⟨oc3, od3, .func (PySem.W.fnOf "is_order_list" "is_order_list" (defArgs s_is_order_list) (defBody s_is_order_list) (defScope s_is_order_list) .none kV3 dc3 pm3 an3 cd3 ct3), sl3⟩) (c3 : PySem.W.codeIn K cd3 "is_order_list" = true) (k3 : PySem.W.keepIn K (.ref f3) = true)
    (a4 : PySem.W.nsIn K mainGlobals "show_order" = some (some (.ref f4))) (l4 : K.lookup f4 = some ⟨oc4, od4, .func (PySem.W.fnOf "show_order" "show_order" (defArgs s_show_order) (defBody s_show_order) (defScope s_show_order) .none kV4 dc4 pm4 an4 cd4 ct4), sl4⟩) (c4 : PySem.W.codeIn K cd4 "show_order" = true) (k4 : PySem.W.keepIn K (.ref f4) = true)
    (a5 : PySem.W.nsIn K mainGlobals "written" = some (some (.ref f5))) (l5 : K.lookup f5 = some ⟨oc5, od5, .func (PySem.W.fnOf "written" "written" (defArgs s_written) (defBody s_written) (defScope s_written) .none kV5 dc5 pm5 an5 cd5 ct5), sl5⟩) (c5 : PySem.W.codeIn K cd5 "written" = true) (k5 : PySem.W.keepIn K (.ref f5) = true)
    (a6 : PySem.W.nsIn K mainGlobals "show_orders" = some (some (.ref f6))) (l6 : K.lookup f6 = some ⟨oc6, od6, .func (PySem.W.fnOf "show_orders" "show_orders" (defArgs s_show_orders) (defBody s_show_orders) (defScope s_show_orders) .none kV6 dc6 pm6 an6 cd6 ct6), sl6⟩) (c6 : PySem.W.codeIn K cd6 "show_orders" = true) (k6 : PySem.W.keepIn K (.ref f6) = true)
    (a7 : PySem.W.nsIn K mainGlobals "read_order" = some (some (.ref f7))) (l7 : K.lookup f7 = some ⟨oc7, od7, .func (PySem.W.fnOf "read_order" "read_order" (defArgs s_read_order) (defBody s_read_order) (defScope s_read_order) .none kV7 dc7 pm7 an7 cd7 ct7), sl7⟩) (c7 : PySem.W.codeIn K cd7 "read_order" = true) (k7 : PySem.W.keepIn K (.ref f7) = true)
    (a8 : PySem.W.nsIn K mainGlobals "check_text" = some (some (.ref f8))) (l8 : K.lookup f8 = some ⟨oc8, od8, .func (PySem.W.fnOf "check_text" "check_text" (defArgs s_check_text) (defBody s_check_text) (defScope s_check_text) .none kV8 dc8 pm8 an8 cd8 ct8), sl8⟩) (c8 : PySem.W.codeIn K cd8 "check_text" = true) (k8 : PySem.W.keepIn K (.ref f8) = true)
    (a9 : PySem.W.nsIn K mainGlobals "number_in" = some (some (.ref f9))) (l9 : K.lookup f9 = some ⟨oc9, od9, .func (PySem.W.fnOf "number_in" "number_in" (defArgs s_number_in) (defBody s_number_in) (defScope s_number_in) .none kV9 dc9 pm9 an9 cd9 ct9), sl9⟩) (c9 : PySem.W.codeIn K cd9 "number_in" = true) (k9 : PySem.W.keepIn K (.ref f9) = true)
    (a10 : PySem.W.nsIn K mainGlobals "read_orders" = some (some (.ref f10))) (l10 : K.lookup f10 = some ⟨oc10, od10, .func (PySem.W.fnOf "read_orders" "read_orders" (defArgs s_read_orders) (defBody s_read_orders) (defScope s_read_orders) .none kV10 dc10 pm10 an10 cd10 ct10), sl10⟩) (c10 : PySem.W.codeIn K cd10 "read_orders" = true) (k10 : PySem.W.keepIn K (.ref f10) = true)
    (a11 : PySem.W.nsIn K mainGlobals "_law_pool" = some (some (.ref f11))) (l11 : K.lookup f11 = some ⟨oc11, od11, .func (PySem.W.fnOf "_law_pool" "_law_pool" (defArgs s_law_pool) (defBody s_law_pool) (defScope s_law_pool) .none kV11 dc11 pm11 an11 cd11 ct11), sl11⟩) (c11 : PySem.W.codeIn K cd11 "_law_pool" = true) (k11 : PySem.W.keepIn K (.ref f11) = true)
    (a12 : PySem.W.nsIn K mainGlobals "_law_draw" = some (some (.ref f12))) (l12 : K.lookup f12 = some ⟨oc12, od12, .func (PySem.W.fnOf "_law_draw" "_law_draw" (defArgs s_law_draw) (defBody s_law_draw) (defScope s_law_draw) .none kV12 dc12 pm12 an12 cd12 ct12), sl12⟩) (c12 : PySem.W.codeIn K cd12 "_law_draw" = true) (k12 : PySem.W.keepIn K (.ref f12) = true)
    (a13 : PySem.W.nsIn K mainGlobals "_law_order" = some (some (.ref f13))) (l13 : K.lookup f13 = some ⟨oc13, od13, .func (PySem.W.fnOf "_law_order" "_law_order" (defArgs s_law_order) (defBody s_law_order) (defScope s_law_order) .none kV13 dc13 pm13 an13 cd13 ct13), sl13⟩) (c13 : PySem.W.codeIn K cd13 "_law_order" = true) (k13 : PySem.W.keepIn K (.ref f13) = true)
    (a14 : PySem.W.nsIn K mainGlobals "_law_written" = some (some (.ref f14))) (l14 : K.lookup f14 = some ⟨oc14, od14, .func (PySem.W.fnOf "_law_written" "_law_written" (defArgs s_law_written) (defBody s_law_written) (defScope s_law_written) .none kV14 dc14 pm14 an14 cd14 ct14), sl14⟩) (c14 : PySem.W.codeIn K cd14 "_law_written" = true) (k14 : PySem.W.keepIn K (.ref f14) = true)
    (a15 : PySem.W.nsIn K mainGlobals "_law_list_written" = some (some (.ref f15))) (l15 : K.lookup f15 = some ⟨oc15, od15, .func (PySem.W.fnOf "_law_list_written" "_law_list_written" (defArgs s_law_list_written) (defBody s_law_list_written) (defScope s_law_list_written) .none kV15 dc15 pm15 an15 cd15 ct15), sl15⟩) (c15 : PySem.W.codeIn K cd15 "_law_list_written" = true) (k15 : PySem.W.keepIn K (.ref f15) = true)
    (a16 : PySem.W.nsIn K mainGlobals "_law_asked" = some (some (.ref f16))) (l16 : K.lookup f16 = some ⟨oc16, od16, .func (PySem.W.fnOf "_law_asked" "_law_asked" (defArgs s_law_asked) (defBody s_law_asked) (defScope s_law_asked) .none kV16 dc16 pm16 an16 cd16 ct16), sl16⟩) (c16 : PySem.W.codeIn K cd16 "_law_asked" = true) (k16 : PySem.W.keepIn K (.ref f16) = true)
    (a17 : PySem.W.nsIn K mainGlobals "_law_number" = some (some (.ref f17))) (l17 : K.lookup f17 = some ⟨oc17, od17, .func (PySem.W.fnOf "_law_number" "_law_number" (defArgs s_law_number) (defBody s_law_number) (defScope s_law_number) .none kV17 dc17 pm17 an17 cd17 ct17), sl17⟩) (c17 : PySem.W.codeIn K cd17 "_law_number" = true) (k17 : PySem.W.keepIn K (.ref f17) = true)
    (a18 : PySem.W.nsIn K mainGlobals "_law_read" = some (some (.ref f18))) (l18 : K.lookup f18 = some ⟨oc18, od18, .func (PySem.W.fnOf "_law_read" "_law_read" (defArgs s_law_read) (defBody s_law_read) (defScope s_law_read) .none kV18 dc18 pm18 an18 cd18 ct18), sl18⟩) (c18 : PySem.W.codeIn K cd18 "_law_read" = true) (k18 : PySem.W.keepIn K (.ref f18) = true)
    (a19 : PySem.W.nsIn K mainGlobals "_law_read_list" = some (some (.ref f19))) (l19 : K.lookup f19 = some ⟨oc19, od19, .func (PySem.W.fnOf "_law_read_list" "_law_read_list" (defArgs s_law_read_list) (defBody s_law_read_list) (defScope s_law_read_list) .none kV19 dc19 pm19 an19 cd19 ct19), sl19⟩) (c19 : PySem.W.codeIn K cd19 "_law_read_list" = true) (k19 : PySem.W.keepIn K (.ref f19) = true)
    (a20 : PySem.W.nsIn K mainGlobals "_law_changed" = some (some (.ref f20))) (l20 : K.lookup f20 = some ⟨oc20, od20, .func (PySem.W.fnOf "_law_changed" "_law_changed" (defArgs s_law_changed) (defBody s_law_changed) (defScope s_law_changed) .none kV20 dc20 pm20 an20 cd20 ct20), sl20⟩) (c20 : PySem.W.codeIn K cd20 "_law_changed" = true) (k20 : PySem.W.keepIn K (.ref f20) = true)
    (a21 : PySem.W.nsIn K mainGlobals "_law_odd" = some (some (.ref f21))) (l21 : K.lookup f21 = some ⟨oc21, od21, .func (PySem.W.fnOf "_law_odd" "_law_odd" (defArgs s_law_odd) (defBody s_law_odd) (defScope s_law_odd) .none kV21 dc21 pm21 an21 cd21 ct21), sl21⟩) (c21 : PySem.W.codeIn K cd21 "_law_odd" = true) (k21 : PySem.W.keepIn K (.ref f21) = true)
    (a22 : PySem.W.nsIn K mainGlobals "_law_texts_right" = some (some (.ref f22))) (l22 : K.lookup f22 = some ⟨oc22, od22, .func (PySem.W.fnOf "_law_texts_right" "_law_texts_right" (defArgs s_law_texts_right) (defBody s_law_texts_right) (defScope s_law_texts_right) .none kV22 dc22 pm22 an22 cd22 ct22), sl22⟩) (c22 : PySem.W.codeIn K cd22 "_law_texts_right" = true) (k22 : PySem.W.keepIn K (.ref f22) = true)
    (a23 : PySem.W.nsIn K mainGlobals "law" = some (some (.ref f23))) (l23 : K.lookup f23 = some ⟨oc23, od23, .func (PySem.W.fnOf "law" "law" (defArgs s_law) (defBody s_law) (defScope s_law) .none kV23 dc23 pm23 an23 cd23 ct23), sl23⟩) (c23 : PySem.W.codeIn K cd23 "law" = true) (k23 : PySem.W.keepIn K (.ref f23) = true)
    (g_MOST_THINGS : PySem.W.nsIn K mainGlobals "MOST_THINGS" = some (some (.int 12 tk_MOST_THINGS)))
    (g_NO_ORDERS : PySem.W.nsIn K mainGlobals "NO_ORDERS" = some (some (.str "-" tk_NO_ORDERS)))
    (gc_OrderError : PySem.W.nsIn K mainGlobals "OrderError" = some (some (.ref C_OrderError)))
    (gc_NoOrder : PySem.W.nsIn K mainGlobals "NoOrder" = some (some (.ref C_NoOrder)))
    (gc_NoWay : PySem.W.nsIn K mainGlobals "NoWay" = some (some (.ref C_NoWay)))
    (gc_NoFit : PySem.W.nsIn K mainGlobals "NoFit" = some (some (.ref C_NoFit)))
    (gc_NoPlace : PySem.W.nsIn K mainGlobals "NoPlace" = some (some (.ref C_NoPlace)))
    (gc_NoNumber : PySem.W.nsIn K mainGlobals "NoNumber" = some (some (.ref C_NoNumber)))
    (gc_TooMany : PySem.W.nsIn K mainGlobals "TooMany" = some (some (.ref C_TooMany)))
    (gc_NoText : PySem.W.nsIn K mainGlobals "NoText" = some (some (.ref C_NoText)))
    (gc_NoName : PySem.W.nsIn K mainGlobals "NoName" = some (some (.ref C_NoName)))
    (gc_NoRow : PySem.W.nsIn K mainGlobals "NoRow" = some (some (.ref C_NoRow)))
    (xq_NoText : PySem.W.excIn K C_NoText [.type "ValueError", .type "Exception", .type "BaseException", .type "object"] "ValueError.__new__" = true) (xk_NoText : PySem.W.keepIn K (.ref C_NoText) = true) (xt_NoText : PySem.W.typeIn K (.ref C_NoText) = some (.type "type")) (xm_NoText : PySem.W.exmOne K (.ref C_NoText) (.ref C_OrderError) = some true) (xv_NoText : PySem.W.kitOne K (.ref C_NoText) (.type "ValueError") = some true)
    (xehg_NoText : PySem.W.findIn K (.ref C_NoText) "__getattribute__" = some (some (.builtin "BaseException.__getattribute__")))
    (xehk_NoText : PySem.W.findIn K (.ref C_NoText) "__getattr__" = some none)
    (xehs_NoText : PySem.W.subIn K (.ref C_NoText) (.type "BaseException") = some true)
    (xehd_NoText : PySem.W.hasDictIn K C_NoText = true)
    (xeha_NoText : PySem.W.findIn K (.ref C_NoText) "__class__" = some (some (.builtin "object.__class__")))
    (xehn_NoText : PySem.W.specialIn K (.builtin "object.__class__") "__get__" = some (some (.builtin "getset_descriptor.__get__")))
    (xeht_NoText : PySem.W.takesIn K (.builtin "object.__class__") = some true)
    (xehm_NoText : PySem.W.mroIn K C_NoText (.type "object") = some true)
    (xy_NoText_NoOrder : PySem.W.kitOne K (.ref C_NoText) (.ref C_NoOrder) = some false)
    (xy_NoText_NoWay : PySem.W.kitOne K (.ref C_NoText) (.ref C_NoWay) = some false)
    (xy_NoText_NoFit : PySem.W.kitOne K (.ref C_NoText) (.ref C_NoFit) = some false)
    (xy_NoText_NoPlace : PySem.W.kitOne K (.ref C_NoText) (.ref C_NoPlace) = some false)
    (xy_NoText_NoNumber : PySem.W.kitOne K (.ref C_NoText) (.ref C_NoNumber) = some false)
    (xy_NoText_TooMany : PySem.W.kitOne K (.ref C_NoText) (.ref C_TooMany) = some false)
    (xy_NoText_NoText : PySem.W.kitOne K (.ref C_NoText) (.ref C_NoText) = some true)
    (xy_NoText_NoName : PySem.W.kitOne K (.ref C_NoText) (.ref C_NoName) = some false)
    (xy_NoText_NoRow : PySem.W.kitOne K (.ref C_NoText) (.ref C_NoRow) = some false)
    (z_ValueError : PySem.W.nsIn K mainGlobals "ValueError" = some none)
    (z_all : PySem.W.nsIn K mainGlobals "all" = some none)
    (z_bool : PySem.W.nsIn K mainGlobals "bool" = some none)
    (z_int : PySem.W.nsIn K mainGlobals "int" = some none)
    (z_isinstance : PySem.W.nsIn K mainGlobals "isinstance" = some none)
    (z_len : PySem.W.nsIn K mainGlobals "len" = some none)
    (z_list : PySem.W.nsIn K mainGlobals "list" = some none)
    (z_max : PySem.W.nsIn K mainGlobals "max" = some none)
    (z_min : PySem.W.nsIn K mainGlobals "min" = some none)
    (z_range : PySem.W.nsIn K mainGlobals "range" = some none)
    (z_sorted : PySem.W.nsIn K mainGlobals "sorted" = some none)
    (z_str : PySem.W.nsIn K mainGlobals "str" = some none)
    : ∃ fd : FuncData, (∀ (s : Shared) (v : Value), BindsTo s fd ⟨[v], []⟩ [("script", v)]) ∧ ∀ base : Heap, K.In base → base.Ns mainGlobals mg → FnOk l.prog w K mg base CX0 40 fa fd ["script"] (spLaw K) := by
  have e := hfa.symm.trans (PySem.W.mg_of X G a23)
  cases e
  have F0 := fun_mk (st := s_is_whole) l0 c0 k0
  have F1 := fun_mk (st := s_is_order) l1 c1 k1
  have F2 := fun_mk (st := s_check_order) l2 c2 k2
  have F3 := fun_mk (st := s_is_order_list) l3 c3 k3
  have F4 := fun_mk (st := s_show_order) l4 c4 k4
  have F5 := fun_mk (st := s_written) l5 c5 k5
  have F6 := fun_mk (st := s_show_orders) l6 c6 k6
  have F7 := fun_mk (st := s_read_order) l7 c7 k7
  have F8 := fun_mk (st := s_check_text) l8 c8 k8
  have F9 := fun_mk (st := s_number_in) l9 c9 k9
  have F10 := fun_mk (st := s_read_orders) l10 c10 k10
  have F11 := fun_mk (st := s_law_pool) l11 c11 k11
  have F12 := fun_mk (st := s_law_draw) l12 c12 k12
  have F13 := fun_mk (st := s_law_order) l13 c13 k13
  have F14 := fun_mk (st := s_law_written) l14 c14 k14
  have F15 := fun_mk (st := s_law_list_written) l15 c15 k15
  have F16 := fun_mk (st := s_law_asked) l16 c16 k16
  have F17 := fun_mk (st := s_law_number) l17 c17 k17
  have F18 := fun_mk (st := s_law_read) l18 c18 k18
  have F19 := fun_mk (st := s_law_read_list) l19 c19 k19
  have F20 := fun_mk (st := s_law_changed) l20 c20 k20
  have F21 := fun_mk (st := s_law_odd) l21 c21 k21
  have F22 := fun_mk (st := s_law_texts_right) l22 c22 k22
  have F23 := fun_mk (st := s_law) l23 c23 k23
  have T_is_whole : Df K mg "is_whole" s_is_whole ["thing"] f0 _ := ⟨F0, F0.binds (ps := ["thing"]) (fun _ _ _ _ _ _ us hl => match us, hl with | [_], _ => rfl), PySem.W.mg_of X G a0⟩
  have T_is_order : Df K mg "is_order" s_is_order ["thing"] f1 _ := ⟨F1, F1.binds (ps := ["thing"]) (fun _ _ _ _ _ _ us hl => match us, hl with | [_], _ => rfl), PySem.W.mg_of X G a1⟩
  have T_check_order : Df K mg "check_order" s_check_order ["thing"] f2 _ := ⟨F2, F2.binds (ps := ["thing"]) (fun _ _ _ _ _ _ us hl => match us, hl with | [_], _ => rfl), PySem.W.mg_of X G a2⟩
  have T_is_order_list : Df K mg "is_order_list" s_is_order_list ["thing"] f3 _ := ⟨F3, F3.binds (ps := ["thing"]) (fun _ _ _ _ _ _ us hl => match us, hl with | [_], _ => rfl), PySem.W.mg_of X G a3⟩
  have T_show_order : Df K mg "show_order" s_show_order ["order"] f4 _ := ⟨F4, F4.binds (ps := ["order"]) (fun _ _ _ _ _ _ us hl => match us, hl with | [_], _ => rfl), PySem.W.mg_of X G a4⟩
  have T_written : Df K mg "written" s_written ["order"] f5 _ := ⟨F5, F5.binds (ps := ["order"]) (fun _ _ _ _ _ _ us hl => match us, hl with | [_], _ => rfl), PySem.W.mg_of X G a5⟩
  have T_show_orders : Df K mg "show_orders" s_show_orders ["orders"] f6 _ := ⟨F6, F6.binds (ps := ["orders"]) (fun _ _ _ _ _ _ us hl => match us, hl with | [_], _ => rfl), PySem.W.mg_of X G a6⟩
  have T_read_order : Df K mg "read_order" s_read_order ["text"] f7 _ := ⟨F7, F7.binds (ps := ["text"]) (fun _ _ _ _ _ _ us hl => match us, hl with | [_], _ => rfl), PySem.W.mg_of X G a7⟩
  have T_check_text : Df K mg "check_text" s_check_text ["thing"] f8 _ := ⟨F8, F8.binds (ps := ["thing"]) (fun _ _ _ _ _ _ us hl => match us, hl with | [_], _ => rfl), PySem.W.mg_of X G a8⟩
  have T_number_in : Df K mg "number_in" s_number_in ["word", "many"] f9 _ := ⟨F9, F9.binds (ps := ["word", "many"]) (fun _ _ _ _ _ _ us hl => match us, hl with | [_, _], _ => rfl), PySem.W.mg_of X G a9⟩
  have T_read_orders : Df K mg "read_orders" s_read_orders ["text"] f10 _ := ⟨F10, F10.binds (ps := ["text"]) (fun _ _ _ _ _ _ us hl => match us, hl with | [_], _ => rfl), PySem.W.mg_of X G a10⟩
  have T__law_pool : Df K mg "_law_pool" s_law_pool ["script", "k"] f11 _ := ⟨F11, F11.binds (ps := ["script", "k"]) (fun _ _ _ _ _ _ us hl => match us, hl with | [_, _], _ => rfl), PySem.W.mg_of X G a11⟩
  have T__law_draw : Df K mg "_law_draw" s_law_draw ["pool", "many"] f12 _ := ⟨F12, F12.binds (ps := ["pool", "many"]) (fun _ _ _ _ _ _ us hl => match us, hl with | [_, _], _ => rfl), PySem.W.mg_of X G a12⟩
  have T__law_order : Df K mg "_law_order" s_law_order ["pool", "n"] f13 _ := ⟨F13, F13.binds (ps := ["pool", "n"]) (fun _ _ _ _ _ _ us hl => match us, hl with | [_, _], _ => rfl), PySem.W.mg_of X G a13⟩
  have T__law_written : Df K mg "_law_written" s_law_written ["order"] f14 _ := ⟨F14, F14.binds (ps := ["order"]) (fun _ _ _ _ _ _ us hl => match us, hl with | [_], _ => rfl), PySem.W.mg_of X G a14⟩
  have T__law_list_written : Df K mg "_law_list_written" s_law_list_written ["orders"] f15 _ := ⟨F15, F15.binds (ps := ["orders"]) (fun _ _ _ _ _ _ us hl => match us, hl with | [_], _ => rfl), PySem.W.mg_of X G a15⟩
  have T__law_asked : Df K mg "_law_asked" s_law_asked ["way", "thing"] f16 _ := ⟨F16, F16.binds (ps := ["way", "thing"]) (fun _ _ _ _ _ _ us hl => match us, hl with | [_, _], _ => rfl), PySem.W.mg_of X G a16⟩
  have T__law_number : Df K mg "_law_number" s_law_number ["word"] f17 _ := ⟨F17, F17.binds (ps := ["word"]) (fun _ _ _ _ _ _ us hl => match us, hl with | [_], _ => rfl), PySem.W.mg_of X G a17⟩
  have T__law_read : Df K mg "_law_read" s_law_read ["text"] f18 _ := ⟨F18, F18.binds (ps := ["text"]) (fun _ _ _ _ _ _ us hl => match us, hl with | [_], _ => rfl), PySem.W.mg_of X G a18⟩
  have T__law_read_list : Df K mg "_law_read_list" s_law_read_list ["text"] f19 _ := ⟨F19, F19.binds (ps := ["text"]) (fun _ _ _ _ _ _ us hl => match us, hl with | [_], _ => rfl), PySem.W.mg_of X G a19⟩
  have T__law_changed : Df K mg "_law_changed" s_law_changed ["pool", "text"] f20 _ := ⟨F20, F20.binds (ps := ["pool", "text"]) (fun _ _ _ _ _ _ us hl => match us, hl with | [_, _], _ => rfl), PySem.W.mg_of X G a20⟩
  have T__law_odd : Df K mg "_law_odd" s_law_odd ["pool"] f21 _ := ⟨F21, F21.binds (ps := ["pool"]) (fun _ _ _ _ _ _ us hl => match us, hl with | [_], _ => rfl), PySem.W.mg_of X G a21⟩
  have T__law_texts_right : Df K mg "_law_texts_right" s_law_texts_right ["text"] f22 _ := ⟨F22, F22.binds (ps := ["text"]) (fun _ _ _ _ _ _ us hl => match us, hl with | [_], _ => rfl), PySem.W.mg_of X G a22⟩
  have B : Bi mg := ⟨PySem.W.mg_none_of X G z_ValueError, PySem.W.mg_none_of X G z_all, PySem.W.mg_none_of X G z_bool, PySem.W.mg_none_of X G z_int, PySem.W.mg_none_of X G z_isinstance, PySem.W.mg_none_of X G z_len, PySem.W.mg_none_of X G z_list, PySem.W.mg_none_of X G z_max, PySem.W.mg_none_of X G z_min, PySem.W.mg_none_of X G z_range, PySem.W.mg_none_of X G z_sorted, PySem.W.mg_none_of X G z_str⟩
  have m_MOST_THINGS := PySem.W.mg_of X G g_MOST_THINGS
  have m_NO_ORDERS := PySem.W.mg_of X G g_NO_ORDERS
  have g_OrderError := PySem.W.mg_of X G gc_OrderError
  have g_NoOrder := PySem.W.mg_of X G gc_NoOrder
  have g_NoWay := PySem.W.mg_of X G gc_NoWay
  have g_NoFit := PySem.W.mg_of X G gc_NoFit
  have g_NoPlace := PySem.W.mg_of X G gc_NoPlace
  have g_NoNumber := PySem.W.mg_of X G gc_NoNumber
  have g_TooMany := PySem.W.mg_of X G gc_TooMany
  have g_NoText := PySem.W.mg_of X G gc_NoText
  have g_NoName := PySem.W.mg_of X G gc_NoName
  have g_NoRow := PySem.W.mg_of X G gc_NoRow
  have ec_NoText : ExcC K C_NoText := ⟨xehg_NoText, xehk_NoText, xehs_NoText, xehd_NoText, xeha_NoText, xehn_NoText, xeht_NoText, xehm_NoText⟩
  have X_NoText : ExK K mg "NoText" C_NoText := ⟨g_NoText, xq_NoText, xk_NoText, xehs_NoText, xt_NoText, ec_NoText⟩
  have kd_NoText := kd_mk9 (i := 6) ec_NoText xy_NoText_NoOrder xy_NoText_NoWay xy_NoText_NoFit xy_NoText_NoPlace xy_NoText_NoNumber xy_NoText_TooMany xy_NoText_NoText xy_NoText_NoName xy_NoText_NoRow xv_NoText (by decide)
  exact ⟨PySem.W.fnOf "law" "law" (defArgs s_law) (defBody s_law) (defScope s_law) .none kV23 dc23 pm23 an23 cd23 ct23, fun s v => .of_eq rfl, fun base _ _ => ok_law (c := cls9 C_NoOrder C_NoWay C_NoFit C_NoPlace C_NoNumber C_TooMany C_NoText C_NoName C_NoRow) F23 T__law_pool T__law_draw T__law_order T__law_written T__law_list_written T__law_texts_right T__law_changed T__law_odd T__law_asked (ok_pool (k := 38) T__law_pool B) (ok_drawP (k := 38) T__law_draw B) (ok_ordP (k := 38) T__law_order T__law_draw (ok_drawP (k := 37) T__law_draw B) B) (ok_lw (k := 38) T__law_written B) (ok_llw (k := 38) T__law_list_written T__law_written (ok_lw (k := 37) T__law_written B) B) (ok_txr (k := 38) (c := cls9 C_NoOrder C_NoWay C_NoFit C_NoPlace C_NoNumber C_TooMany C_NoText C_NoName C_NoRow) T__law_texts_right T__law_read T__law_read_list T__law_asked (ok_lrd (k := 37) T__law_read T__law_number (ok_lnum (k := 36) T__law_number B) B) (ok_lrl (k := 37) T__law_read_list T__law_read (ok_lrd (k := 36) T__law_read T__law_number (ok_lnum (k := 35) T__law_number B) B) B) (ok_ask78 (k := 37) (c := cls9 C_NoOrder C_NoWay C_NoFit C_NoPlace C_NoNumber C_TooMany C_NoText C_NoName C_NoRow) T__law_asked T_show_order T_show_orders T_read_order T_read_orders (ok_readX (k := 36) T_read_order T_check_text T_number_in T_is_order (ok_txtX (k := 35) T_check_text X_NoText B) (ok_numD (k := 35) T_number_in B) (ok_isOrdD (k := 34) T_is_order T_is_whole B m_MOST_THINGS) X_NoText m_MOST_THINGS) (ok_readsX (k := 36) T_read_orders T_check_text T_read_order T_is_order_list (ok_txtX (k := 35) T_check_text X_NoText B) (ok_readX (k := 35) T_read_order T_check_text T_number_in T_is_order (ok_txtX (k := 34) T_check_text X_NoText B) (ok_numD (k := 34) T_number_in B) (ok_isOrdD (k := 33) T_is_order T_is_whole B m_MOST_THINGS) X_NoText m_MOST_THINGS) (ok_olD (k := 35) T_is_order_list T_is_order (ok_isOrdD (k := 33) T_is_order T_is_whole B m_MOST_THINGS) B) X_NoText m_NO_ORDERS) g_OrderError xm_NoText kd_NoText g_NoOrder g_NoWay g_NoFit g_NoPlace g_NoNumber g_TooMany g_NoText g_NoName g_NoRow B) B) (ok_chg (k := 38) T__law_changed T__law_draw (ok_drawP (k := 37) T__law_draw B) B) (ok_odd (k := 38) T__law_odd T__law_draw (ok_drawP (k := 37) T__law_draw B) B) (ok_ask78 (k := 38) (c := cls9 C_NoOrder C_NoWay C_NoFit C_NoPlace C_NoNumber C_TooMany C_NoText C_NoName C_NoRow) T__law_asked T_show_order T_show_orders T_read_order T_read_orders (ok_readX (k := 37) T_read_order T_check_text T_number_in T_is_order (ok_txtX (k := 36) T_check_text X_NoText B) (ok_numD (k := 36) T_number_in B) (ok_isOrdD (k := 35) T_is_order T_is_whole B m_MOST_THINGS) X_NoText m_MOST_THINGS) (ok_readsX (k := 37) T_read_orders T_check_text T_read_order T_is_order_list (ok_txtX (k := 36) T_check_text X_NoText B) (ok_readX (k := 36) T_read_order T_check_text T_number_in T_is_order (ok_txtX (k := 35) T_check_text X_NoText B) (ok_numD (k := 35) T_number_in B) (ok_isOrdD (k := 34) T_is_order T_is_whole B m_MOST_THINGS) X_NoText m_MOST_THINGS) (ok_olD (k := 36) T_is_order_list T_is_order (ok_isOrdD (k := 34) T_is_order T_is_whole B m_MOST_THINGS) B) X_NoText m_NO_ORDERS) g_OrderError xm_NoText kd_NoText g_NoOrder g_NoWay g_NoFit g_NoPlace g_NoNumber g_TooMany g_NoText g_NoName g_NoRow B) B⟩
end Fo
open PySem PySem.W PyProof.Rows
set_option maxRecDepth 100000 in
set_option maxHeartbeats 0 in
theorem PySem.Challenge.cw_farorders_k78_texts_of_no_orders_holds : PySem.Challenge.rw_farorders_k78_texts_of_no_orders.Holds := by
  w_on; o_law; k_head; (case hw => w_witness2)
  k_fill
  refine L2.walk_of (l := PySem.Challenge.rw_farorders_k78_texts_of_no_orders) (n := 63) (k := 40) (x := "script") (CX := fun _ => L2.CX0) (sp := fun w => Fo.spLaw _) rfl (by decide) rfl ⟨rfl, by decide, by decide⟩ (fun w h Y => PySem.W.kIn_of Y) ?F (fun _ _ a ns hl _ hS => ⟨a, ns, rfl, hS, hl, fun _ => rfl⟩) (fun _ _ _ _ _ h => h)
  case F =>
    intro w mg fa h KX G hmg
    refine' Fo.all_mk KX G hmg ?a0 ?l0 ?c0 ?k0 ?a1 ?l1 ?c1 ?k1 ?a2 ?l2 ?c2 ?k2 ?a3 ?l3 ?c3 ?k3 ?a4 ?l4 ?c4 ?k4 ?a5 ?l5 ?c5 ?k5 ?a6 ?l6 ?c6 ?k6 ?a7 ?l7 ?c7 ?k7 ?a8 ?l8 ?c8 ?k8 ?a9 ?l9 ?c9 ?k9 ?a10 ?l10 ?c10 ?k10 ?a11 ?l11 ?c11 ?k11 ?a12 ?l12 ?c12 ?k12 ?a13 ?l13 ?c13 ?k13 ?a14 ?l14 ?c14 ?k14 ?a15 ?l15 ?c15 ?k15 ?a16 ?l16 ?c16 ?k16 ?a17 ?l17 ?c17 ?k17 ?a18 ?l18 ?c18 ?k18 ?a19 ?l19 ?c19 ?k19 ?a20 ?l20 ?c20 ?k20 ?a21 ?l21 ?c21 ?k21 ?a22 ?l22 ?c22 ?k22 ?a23 ?l23 ?c23 ?k23 ?g_MOST_THINGS ?g_NO_ORDERS ?gc_OrderError ?gc_NoOrder ?gc_NoWay ?gc_NoFit ?gc_NoPlace ?gc_NoNumber ?gc_TooMany ?gc_NoText ?gc_NoName ?gc_NoRow ?xq_NoText ?xk_NoText ?xt_NoText ?xm_NoText ?xv_NoText ?xehg_NoText ?xehk_NoText ?xehs_NoText ?xehd_NoText ?xeha_NoText ?xehn_NoText ?xeht_NoText ?xehm_NoText ?xy_NoText_NoOrder ?xy_NoText_NoWay ?xy_NoText_NoFit ?xy_NoText_NoPlace ?xy_NoText_NoNumber ?xy_NoText_TooMany ?xy_NoText_NoText ?xy_NoText_NoName ?xy_NoText_NoRow ?z_ValueError ?z_all ?z_bool ?z_int ?z_isinstance ?z_len ?z_list ?z_max ?z_min ?z_range ?z_sorted ?z_str
    (case a0 => k_is); (case l0 => k_is); (case c0 => k_is); (case k0 => k_is); (case a1 => k_is); (case l1 => k_is); (case c1 => k_is); (case k1 => k_is); (case a2 => k_is); (case l2 => k_is); (case c2 => k_is); (case k2 => k_is); (case a3 => k_is); (case l3 => k_is); (case c3 => k_is); (case k3 => k_is); (case a4 => k_is); (case l4 => k_is); (case c4 => k_is); (case k4 => k_is); (case a5 => k_is); (case l5 => k_is); (case c5 => k_is); (case k5 => k_is); (case a6 => k_is); (case l6 => k_is); (case c6 => k_is); (case k6 => k_is); (case a7 => k_is); (case l7 => k_is); (case c7 => k_is); (case k7 => k_is); (case a8 => k_is); (case l8 => k_is); (case c8 => k_is); (case k8 => k_is); (case a9 => k_is); (case l9 => k_is); (case c9 => k_is); (case k9 => k_is); (case a10 => k_is); (case l10 => k_is); (case c10 => k_is); (case k10 => k_is); (case a11 => k_is); (case l11 => k_is); (case c11 => k_is); (case k11 => k_is); (case a12 => k_is); (case l12 => k_is); (case c12 => k_is); (case k12 => k_is); (case a13 => k_is); (case l13 => k_is); (case c13 => k_is); (case k13 => k_is); (case a14 => k_is); (case l14 => k_is); (case c14 => k_is); (case k14 => k_is); (case a15 => k_is); (case l15 => k_is); (case c15 => k_is); (case k15 => k_is); (case a16 => k_is); (case l16 => k_is); (case c16 => k_is); (case k16 => k_is); (case a17 => k_is); (case l17 => k_is); (case c17 => k_is); (case k17 => k_is); (case a18 => k_is); (case l18 => k_is); (case c18 => k_is); (case k18 => k_is); (case a19 => k_is); (case l19 => k_is); (case c19 => k_is); (case k19 => k_is); (case a20 => k_is); (case l20 => k_is); (case c20 => k_is); (case k20 => k_is); (case a21 => k_is); (case l21 => k_is); (case c21 => k_is); (case k21 => k_is); (case a22 => k_is); (case l22 => k_is); (case c22 => k_is); (case k22 => k_is); (case a23 => k_is); (case l23 => k_is); (case c23 => k_is); (case k23 => k_is); (case g_MOST_THINGS => k_is); (case g_NO_ORDERS => k_is); (case z_ValueError => k_is); (case z_all => k_is); (case z_bool => k_is); (case z_int => k_is); (case z_isinstance => k_is); (case z_len => k_is); (case z_list => k_is); (case z_max => k_is); (case z_min => k_is); (case z_range => k_is); (case z_sorted => k_is); (case z_str => k_is)
    (case gc_OrderError => first | k_is | rfl | kernel_rfl); (case gc_NoOrder => first | k_is | rfl | kernel_rfl); (case gc_NoWay => first | k_is | rfl | kernel_rfl); (case gc_NoFit => first | k_is | rfl | kernel_rfl); (case gc_NoPlace => first | k_is | rfl | kernel_rfl); (case gc_NoNumber => first | k_is | rfl | kernel_rfl); (case gc_TooMany => first | k_is | rfl | kernel_rfl); (case gc_NoText => first | k_is | rfl | kernel_rfl); (case gc_NoName => first | k_is | rfl | kernel_rfl); (case gc_NoRow => first | k_is | rfl | kernel_rfl); (case xq_NoText => first | k_is | rfl | kernel_rfl); (case xk_NoText => first | k_is | rfl | kernel_rfl); (case xt_NoText => first | k_is | rfl | kernel_rfl); (case xm_NoText => first | k_is | rfl | kernel_rfl); (case xv_NoText => first | k_is | rfl | kernel_rfl); (case xehg_NoText => first | k_is | rfl | kernel_rfl); (case xehk_NoText => first | k_is | rfl | kernel_rfl); (case xehs_NoText => first | k_is | rfl | kernel_rfl); (case xehd_NoText => first | k_is | rfl | kernel_rfl); (case xeha_NoText => first | k_is | rfl | kernel_rfl); (case xehn_NoText => first | k_is | rfl | kernel_rfl); (case xeht_NoText => first | k_is | rfl | kernel_rfl); (case xehm_NoText => first | k_is | rfl | kernel_rfl); (case xy_NoText_NoOrder => first | k_is | rfl | kernel_rfl); (case xy_NoText_NoWay => first | k_is | rfl | kernel_rfl); (case xy_NoText_NoFit => first | k_is | rfl | kernel_rfl); (case xy_NoText_NoPlace => first | k_is | rfl | kernel_rfl); (case xy_NoText_NoNumber => first | k_is | rfl | kernel_rfl); (case xy_NoText_TooMany => first | k_is | rfl | kernel_rfl); (case xy_NoText_NoText => first | k_is | rfl | kernel_rfl); (case xy_NoText_NoName => first | k_is | rfl | kernel_rfl); (case xy_NoText_NoRow => first | k_is | rfl | kernel_rfl)

