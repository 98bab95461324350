import PyProof.Rows.All
import Wide.All
import OpenK.AllK
import Wide.FinOn
import HandS.ForMost
import HandS.IsInst
import HandS.Conv
import HandS.Style
import HandS.More
import HandS.Evl
import HandS.Zip
import HandS.SetFor
import PySem.Challenge.RW_farorders_k11_rounds_and_steps
set_option Elab.async false
set_option linter.all false
set_option maxRecDepth 100000
namespace Fo
open PySem PySem.Spec PyProof.Rows L2
/-! ### lists and orders -/
def rg (n : Nat) : List Int := (List.range n).map fun k => ((k : Nat) : Int)
def IsOrd (n : Nat) (ns : List Int) : Prop := ns.Perm (rg n)
theorem rg_len (n : Nat) : (rg n).length = n := by
  unfold rg
  rw [List.length_map, List.length_range]
theorem rg_mem {n : Nat} {x : Int} : x ∈ rg n ↔ 0 ≤ x ∧ x < n := by
  unfold rg
  rw [List.mem_map]
  constructor
  · rintro ⟨k, hk, rfl⟩
    have := List.mem_range.mp hk
    omega
  · rintro ⟨h0, h1⟩
    exact ⟨x.toNat, List.mem_range.mpr (by omega), by omega⟩
theorem rg_nodup (n : Nat) : (rg n).Nodup := by
  unfold rg
  exact List.Pairwise.map _ (fun a b h e => h (by omega)) List.nodup_range
theorem rg_sorted (n : Nat) : (rg n).Pairwise (· ≤ ·) := by
  unfold rg
  exact List.Pairwise.map _ (fun a b h => by omega) List.pairwise_lt_range
theorem rg_V (n : Nat) : rgV 0 (n : Int) = (rg n).map V.int := by
  unfold rgV rg
  rw [List.map_map, show ((n : Int) - 0).toNat = n by omega]
  apply List.map_congr_left
  intro a _
  show V.int (0 + (a : Int)) = V.int (a : Int)
  rw [Int.zero_add]
theorem IsOrd.len {n : Nat} {ns : List Int} (h : IsOrd n ns) : ns.length = n := (List.Perm.length_eq h).trans (rg_len n)
theorem IsOrd.mem {n : Nat} {ns : List Int} (h : IsOrd n ns) {x : Int} (m : x ∈ ns) : 0 ≤ x ∧ x < n := rg_mem.mp ((List.Perm.mem_iff h).mp m)
theorem IsOrd.nodup {n : Nat} {ns : List Int} (h : IsOrd n ns) : ns.Nodup := (List.Perm.nodup_iff h).mpr (rg_nodup n)
/-- two sorted lists of the same things are one -/
theorem sorted_eq : ∀ {a b : List Int}, a.Perm b → a.Pairwise (· ≤ ·) → b.Pairwise (· ≤ ·) → a = b := by
  intro a b hp ha hb
  exact List.Perm.eq_of_pairwise (fun x y _ _ h1 h2 => by omega) ha hb hp
/-- the things at p and p + 1 change places -/
def sw (xs : List Int) (p : Nat) : List Int := (xs.set p (xs.getD (p + 1) 0)).set (p + 1) (xs.getD p 0)
theorem split2 : ∀ {xs : List Int} {p : Nat}, p + 1 < xs.length → ∃ A a b B, xs = A ++ a :: b :: B ∧ A.length = p
  | [], p, h => by simp at h
  | [_], p, h => by simp at h
  | a :: b :: r, 0, _ => ⟨[], a, b, r, rfl, rfl⟩
  | a :: b :: r, p + 1, h => by
    obtain ⟨A, x, y, B, e, l⟩ := split2 (xs := b :: r) (p := p) (by simpa using h)
    exact ⟨a :: A, x, y, B, by rw [e]; rfl, by rw [List.length_cons, l]⟩
theorem sw_at : ∀ (A : List Int) (a b : Int) (B : List Int), sw (A ++ a :: b :: B) A.length = A ++ b :: a :: B
  | [], a, b, B => rfl
  | x :: A, a, b, B => by
    have ih := sw_at A a b B
    unfold sw at ih ⊢
    show x :: _ = x :: _
    exact congrArg (x :: ·) ih
theorem sw_perm {xs : List Int} {p : Nat} (h : p + 1 < xs.length) : (sw xs p).Perm xs := by
  obtain ⟨A, a, b, B, rfl, rfl⟩ := split2 h
  rw [sw_at]
  exact List.Perm.append_left A (List.Perm.swap a b B)
theorem sw_len (xs : List Int) (p : Nat) : (sw xs p).length = xs.length := by
  unfold sw
  rw [List.length_set, List.length_set]
theorem sw_ord {n : Nat} {xs : List Int} {p : Nat} (o : IsOrd n xs) (h : p + 1 < n) : IsOrd n (sw xs p) :=
  (sw_perm (by rw [o.len]; exact h)).trans o
theorem sw_V {xs : List Int} {p : Nat} {a b : Int} (ha : xs[p]? = some a) (hb : xs[p + 1]? = some b) : ((xs.map V.int).set p (V.int b)).set (p + 1) (V.int a) = (sw xs p).map V.int := by
  unfold sw
  rw [List.getD_eq_getElem?_getD, List.getD_eq_getElem?_getD, ha, hb, List.map_set, List.map_set]
  rfl
theorem pop_ins {xs : List Int} {p : Nat} {a : Int} (h : p + 1 < xs.length) (ha : xs[p]? = some a) : (xs.eraseIdx p).take (p + 1) ++ [a] ++ (xs.eraseIdx p).drop (p + 1) = sw xs p := by
  obtain ⟨A, x, y, B, rfl, rfl⟩ := split2 h
  have ex : x = a := by
    rw [List.getElem?_append_right (Nat.le_refl _), Nat.sub_self] at ha
    exact Option.some.inj ha
  subst ex
  rw [sw_at, List.eraseIdx_append_of_length_le (Nat.le_refl _), Nat.sub_self]
  show (A ++ y :: B).take (A.length + 1) ++ [x] ++ (A ++ y :: B).drop (A.length + 1) = _
  rw [List.take_append, List.drop_append]
  have t : A.length + 1 - A.length = 1 := by omega
  rw [t, List.take_of_length_le (by omega), List.drop_of_length_le (by omega)]
  simp
/-- the order at a walk's end -/
def wEnd (xs : List Int) (ws : List Int) : List Int := ws.foldl (fun x p => sw x p.toNat) xs
theorem wEnd_more {xs ws : List Int} {i : Nat} {p : Int} (h : ws[i]? = some p) : wEnd xs (ws.take (i + 1)) = sw (wEnd xs (ws.take i)) p.toNat := by
  unfold wEnd
  rw [List.take_add_one, h, List.foldl_append]
  rfl
theorem wEnd_ord {n : Nat} {xs : List Int} (o : IsOrd n xs) : ∀ {ws : List Int}, (∀ p ∈ ws, 0 ≤ p ∧ p + 1 < n) → IsOrd n (wEnd xs ws) := by
  intro ws
  induction ws generalizing xs with
  | nil => intro _; exact o
  | cons p ws ih =>
    intro h
    have hp := h p List.mem_cons_self
    exact ih (sw_ord o (by omega)) fun q hq => h q (List.mem_cons_of_mem _ hq)
theorem int_at {ns : List Int} {i : Nat} {x : Int} (h : ns[i]? = some x) : (ns.map V.int)[i]? = some (V.int x) := by
  rw [List.getElem?_map, h]
  rfl
theorem int_at_inv {ns : List Int} {i : Nat} {v : V} (h : (ns.map V.int)[i]? = some v) : ∃ x, ns[i]? = some x ∧ v = V.int x := by
  rw [List.getElem?_map] at h
  cases e : ns[i]? with
  | none => rw [e] at h; cases h
  | some x => rw [e] at h; exact ⟨x, rfl, (Option.some.inj h).symm⟩
theorem line_small {n : Nat} (h : n ≤ 16777216) : n ≤ sizeLine := by rw [sizeLine_eq]; exact h
theorem line_lt {n : Nat} (h : n < 16777216) : n < sizeLine := by rw [sizeLine_eq]; exact h
/-! ### data of ints -/
theorem dp_ints {K : PySem.W.Frag} {H : Hp} : ∀ ns : List Int, DpAll K H (ns.map V.int) (ns.map PyData.int)
  | [] => .nil
  | n :: r => .cons (.int n) (dp_ints r)
theorem dp_list {K : PySem.W.Frag} {H : Hp} {a : Addr} {ns : List Int} (h : H a = some (.lst (ns.map V.int))) : Dp K H (.ref a) (.list (ns.map PyData.int)) := .lst (SqL.of h) (dp_ints ns)
theorem eqv_int (i j : Int) : PyData.eqv (.int i) (.int j) = (i == j) := rfl
end Fo
namespace Fo
open PySem PySem.Spec PyProof.Rows L2
abbrev dI (ns : List Int) : List PyData := ns.map PyData.int
abbrev dL (ns : List Int) : PyData := .list (dI ns)
abbrev dLL (l : List (List Int)) : PyData := .list (l.map dL)
theorem lay_ints : ∀ ns : List Int, PyData.canLayAll0 (dI ns) = true
  | [] => rfl
  | n :: r => by
    show (PyData.canLay0 (.int n) && PyData.canLayAll0 (dI r)) = true
    rw [lay_ints r]
    rfl
theorem depth_ints : ∀ ns : List Int, PyData.depthAll (dI ns) = 0
  | [] => by simp [PyData.depthAll]
  | n :: r => by
    show PyData.depthAll (.int n :: dI r) = 0
    rw [PyData.depthAll, depth_ints r]
    simp [PyData.depth]
theorem lay_list (ns : List Int) : PyData.canLay0 (dL ns) = true := by
  rw [PyData.canLay0]
  exact lay_ints ns
theorem depth_list (ns : List Int) : PyData.depth (dL ns) = 1 := by
  rw [PyData.depth, depth_ints]
theorem shaped_list (ns : List Int) : SeqAt.shaped (dL ns) = true := by
  unfold SeqAt.shaped
  rw [lay_list, depth_list]
  rfl
theorem lay_lists : ∀ l : List (List Int), PyData.canLayAll0 (l.map dL) = true
  | [] => rfl
  | n :: r => by
    show (PyData.canLay0 (dL n) && PyData.canLayAll0 (r.map dL)) = true
    rw [lay_lists r, lay_list]
    rfl
theorem depth_lists : ∀ l : List (List Int), PyData.depthAll (l.map dL) ≤ 1
  | [] => by simp [PyData.depthAll]
  | n :: r => by
    show PyData.depthAll (dL n :: r.map dL) ≤ 1
    rw [PyData.depthAll, depth_list]
    have := depth_lists r
    omega
theorem shaped_lists (l : List (List Int)) : SeqAt.shaped (dLL l) = true := by
  unfold SeqAt.shaped
  rw [Bool.and_eq_true_iff]
  constructor
  · rw [PyData.canLay0]
    exact lay_lists l
  · apply decide_eq_true
    rw [PyData.depth]
    have := depth_lists l
    omega
theorem eqv_list (ns : List Int) : PyData.eqv (dL ns) (dL ns) = true := SeqAt.eqv_refl _ (lay_list ns)
theorem eqv_lists (l : List (List Int)) : PyData.eqv (dLL l) (dLL l) = true := SeqAt.eqv_refl _ (SeqAt.canLay_of_shaped (shaped_lists l))
theorem eqvAll_ints : ∀ a b : List Int, PyData.eqvAll (dI a) (dI b) = decide (a = b)
  | [], [] => by simp [PyData.eqvAll]
  | [], _ :: _ => by simp [PyData.eqvAll]
  | _ :: _, [] => by simp [PyData.eqvAll]
  | x :: a, y :: b => by
    show PyData.eqvAll (.int x :: dI a) (.int y :: dI b) = _
    rw [PyData.eqvAll, eqvAll_ints a b]
    show ((x == y) && decide (a = b)) = decide (x :: a = y :: b)
    by_cases h : x = y
    · subst h
      simp
    · simp [h]
theorem eqv_ints (a b : List Int) : PyData.eqv (dL a) (dL b) = decide (a = b) := by
  rw [PyData.eqv]
  exact eqvAll_ints a b
end Fo
namespace Fo
open PySem PySem.Spec PyProof.Rows L2
/-! ### slices of ints -/
def cutI (ws : List Int) (lo hi : Option Int) : List Int := (ws.drop (HT.sIx ws.length 0 lo)).take (HT.sIx ws.length ws.length hi - HT.sIx ws.length 0 lo)
theorem cut_ints (ws : List Int) (lo hi : Option Int) : cutV (ws.map V.int) lo hi = (cutI ws lo hi).map V.int := by
  unfold cutV cutI
  rw [List.length_map, List.map_take, List.map_drop]
theorem cutI_mem {ws : List Int} {lo hi : Option Int} {x : Int} (h : x ∈ cutI ws lo hi) : x ∈ ws := List.mem_of_mem_drop (List.mem_of_mem_take h)
theorem cutI_len (ws : List Int) (lo hi : Option Int) : (cutI ws lo hi).length ≤ ws.length := by
  unfold cutI
  rw [List.length_take, List.length_drop]
  omega
theorem cutI_head (ws : List Int) (k : Nat) : cutI ws none (some (k : Int)) = ws.take k := by
  unfold cutI
  rw [HT.sIx_none, HT.sIx_nat, List.drop_zero, Nat.sub_zero]
  by_cases h : k ≤ ws.length
  · rw [Nat.min_eq_left h]
  · rw [Nat.min_eq_right (by omega), List.take_length, List.take_of_length_le (by omega)]
end Fo
namespace Fo
open PySem PySem.Spec PyProof.Rows L2
/-! ### the text -/
def topS (i : Nat) : Stmt := PySem.Challenge.pw_farorders_k11_rounds_and_steps.main.body.getD i (.Pass ⟨0, 0, 0, 0⟩)
abbrev s_OrderError : Stmt := topS 1
abbrev s_NoOrder : Stmt := topS 2
abbrev s_NoFit : Stmt := topS 3
abbrev s_is_whole : Stmt := topS 5
abbrev s_is_order : Stmt := topS 8
abbrev s_check_order : Stmt := topS 9
abbrev s_check_orders : Stmt := topS 10
abbrev s_check_fit : Stmt := topS 11
abbrev s_rounds_between : Stmt := topS 13
abbrev s_followers_between : Stmt := topS 14
abbrev s_round_from : Stmt := topS 15
abbrev s_steps_between : Stmt := topS 16
abbrev s_law_deck : Stmt := topS 18
abbrev s_law_draw : Stmt := topS 19
abbrev s_law_order : Stmt := topS 20
abbrev s_law_things : Stmt := topS 21
abbrev s_law_near : Stmt := topS 22
abbrev s_law_due : Stmt := topS 23
abbrev s_law_is : Stmt := topS 24
abbrev s_law : Stmt := topS 25
/-- a def of the text, where it stands -/
structure Df (K : PySem.W.Frag) (mg : Str → Option Value) (x : Str) (st : Stmt) (ps : List Str) (f : Addr) (fd : FuncData) : Prop where
  F : Fun K x x st f fd
  b : Binds K fd ps []
  g : mg x = some (.ref f)
/-- the built-in names as they were -/
structure Bi (mg : Str → Option Value) : Prop where
  all : mg "all" = none
  bool : mg "bool" = none
  enumerate : mg "enumerate" = none
  int : mg "int" = none
  isinstance : mg "isinstance" = none
  len : mg "len" = none
  list : mg "list" = none
  max : mg "max" = none
  min : mg "min" = none
  range : mg "range" = none
  sorted : mg "sorted" = none
  sum : mg "sum" = none
  zip : mg "zip" = none
end Fo
namespace Fo
open PySem PySem.Spec PyProof.Rows L2
/-! ### the deck: a list of its pools and a number; a pool: three numbers -/
structure Dk where
  d : Addr
  pl : Addr
  as : List Addr
def Dk.Foot (D : Dk) (b : Addr) : Prop := b = D.d ∨ b = D.pl ∨ b ∈ D.as
structure DkAt (H : Hp) (D : Dk) : Prop where
  top : ∃ i : Int, H D.d = some (.lst [.ref D.pl, .int i])
  pools : H D.pl = some (.lst (D.as.map V.ref))
  len : 0 < D.as.length
  len2 : D.as.length ≤ 63
  at_ : ∀ a ∈ D.as, ∃ x y z : Int, H a = some (.lst [.int x, .int y, .int z])
def Keep (D : Dk) (H H' : Hp) : Prop := ∀ b o, H b = some o → ¬ D.Foot b → H' b = some o
theorem Keep.refl {D : Dk} (H : Hp) : Keep D H H := fun _ _ e _ => e
theorem Keep.trans {D : Dk} {H H1 H2 : Hp} (a : Keep D H H1) (b : Keep D H1 H2) : Keep D H H2 := fun c o e f => b c o (a c o e f) f
theorem Keep.new {D : Dk} {H : Hp} {p : Addr} {o : HO} (e : H p = none) : Keep D H (upd H p o) := fun b u h _ => by
  rw [upd_ne (ne_of_none h e)]
  exact h
theorem Keep.foot {D : Dk} {H : Hp} {p : Addr} {o : HO} (f : D.Foot p) : Keep D H (upd H p o) := fun b u h nf => by
  rw [upd_ne (fun e => nf (by rw [e]; exact f))]
  exact h
theorem Keep.of_same {D : Dk} {H H' : Hp} (h : Same H H') : Keep D H H' := fun b o e _ => h b o e
theorem same_new {H : Hp} {p : Addr} {o : HO} (h : H p = none) : Same H (upd H p o) := fun b x e => by
  rw [upd_ne (ne_of_none e h)]
  exact e
section
variable {H : Hp} {D : Dk}
theorem DkAt.tracked (h : DkAt H D) {b : Addr} (f : D.Foot b) : ∃ o, H b = some o := by
  rcases f with rfl | rfl | f
  · obtain ⟨i, e⟩ := h.top
    exact ⟨_, e⟩
  · exact ⟨_, h.pools⟩
  · obtain ⟨x, y, z, e⟩ := h.at_ b f
    exact ⟨_, e⟩
theorem DkAt.notFoot (h : DkAt H D) {p : Addr} (e : H p = none) : ¬ D.Foot p := fun f => by
  obtain ⟨o, q⟩ := h.tracked f
  rw [e] at q
  cases q
theorem DkAt.upd (h : DkAt H D) {p : Addr} {o : HO} (nf : ¬ D.Foot p) : DkAt (upd H p o) D where
  top := by
    obtain ⟨i, e⟩ := h.top
    exact ⟨i, by rw [upd_ne (fun q => nf (.inl q.symm))]; exact e⟩
  pools := by
    rw [upd_ne (fun q => nf (.inr (.inl q.symm)))]
    exact h.pools
  len := h.len
  len2 := h.len2
  at_ := fun a ha => by
    obtain ⟨x, y, z, e⟩ := h.at_ a ha
    exact ⟨x, y, z, by rw [upd_ne (fun q => nf (.inr (.inr (by rw [← q]; exact ha))))]; exact e⟩
theorem DkAt.new (h : DkAt H D) {p : Addr} {o : HO} (e : H p = none) : DkAt (L2.upd H p o) D := h.upd (h.notFoot e)
theorem DkAt.same (h : DkAt H D) {H' : Hp} (s : Same H H') : DkAt H' D := ⟨by obtain ⟨i, e⟩ := h.top; exact ⟨i, s _ _ e⟩, s _ _ h.pools, h.len, h.len2, fun a ha => by
  obtain ⟨x, y, z, e⟩ := h.at_ a ha
  exact ⟨x, y, z, s _ _ e⟩⟩
theorem DkAt.a_ne_d (h : DkAt H D) {a : Addr} (ha : a ∈ D.as) : a ≠ D.d := by
  obtain ⟨x, y, z, e⟩ := h.at_ a ha
  obtain ⟨i, e2⟩ := h.top
  exact ne_of e e2 (by intro q; cases q)
theorem DkAt.a_ne_pl (h : DkAt H D) {a : Addr} (ha : a ∈ D.as) : a ≠ D.pl := by
  obtain ⟨x, y, z, e⟩ := h.at_ a ha
  refine ne_of e h.pools ?_
  cases q : D.as with
  | nil => intro z; cases z
  | cons b r => intro z; cases z
theorem DkAt.d_ne_pl (h : DkAt H D) : D.d ≠ D.pl := by
  obtain ⟨i, e⟩ := h.top
  refine ne_of e h.pools ?_
  rcases q : D.as with _ | ⟨b, _ | ⟨c, r⟩⟩ <;> (intro z; cases z)
theorem DkAt.pool (h : DkAt H D) {a : Addr} (ha : a ∈ D.as) {x y z : Int} : DkAt (L2.upd H a (.lst [.int x, .int y, .int z])) D where
  top := by
    obtain ⟨i, e⟩ := h.top
    exact ⟨i, by rw [upd_ne (h.a_ne_d ha).symm]; exact e⟩
  pools := by
    rw [upd_ne (h.a_ne_pl ha).symm]
    exact h.pools
  len := h.len
  len2 := h.len2
  at_ := fun b hb => by
    by_cases q : b = a
    · subst q
      exact ⟨x, y, z, upd_same⟩
    · obtain ⟨x', y', z', e⟩ := h.at_ b hb
      exact ⟨x', y', z', by rw [upd_ne q]; exact e⟩
theorem DkAt.step (h : DkAt H D) {i : Int} : DkAt (L2.upd H D.d (.lst [.ref D.pl, .int i])) D where
  top := ⟨i, upd_same⟩
  pools := by
    rw [upd_ne h.d_ne_pl.symm]
    exact h.pools
  len := h.len
  len2 := h.len2
  at_ := fun b hb => by
    obtain ⟨x', y', z', e⟩ := h.at_ b hb
    exact ⟨x', y', z', by rw [upd_ne (h.a_ne_d hb)]; exact e⟩
end
/-! ### the promises of the law's own defs -/
def spDeck (K : PySem.W.Frag) : Sp := fun vs H Q _ => ∃ (a : Addr) (ns : List Int), vs = [.ref a] ∧ SqL K H a (ns.map V.int) ∧ ns.length ≤ 63 ∧
  ∀ (D : Dk) (H' : Hp), DkAt H' D → Same H H' → (∀ b, D.Foot b → H b = none) → Q (.ref D.d) H'
def spDraw : Sp := fun vs H Q _ => ∃ (D : Dk) (many : Int), vs = [.ref D.d, .int many] ∧ DkAt H D ∧ 0 < many ∧ many < 1000000 ∧
  ∀ (v : Int) (H' : Hp), 0 ≤ v → v < many → DkAt H' D → Keep D H H' → Q (.int v) H'
def spThings : Sp := fun vs H Q _ => ∃ (D : Dk), vs = [.ref D.d] ∧ DkAt H D ∧
  ∀ (n : Nat) (H' : Hp), 1 ≤ n → n ≤ 12 → DkAt H' D → Keep D H H' → Q (.int n) H'
def spOrder : Sp := fun vs H Q _ => ∃ (D : Dk) (n : Nat), vs = [.ref D.d, .int n] ∧ DkAt H D ∧ 1 ≤ n ∧ n ≤ 12 ∧
  ∀ (ns : List Int) (l : Addr) (H' : Hp), IsOrd n ns → H l = none → H' l = some (.lst (ns.map V.int)) → ¬ D.Foot l → DkAt H' D → Keep D H H' → Q (.ref l) H'
section
variable {P : Program} {w : World} {K : PySem.W.Frag} {mg : Str → Option Value} {base : Heap}
/-! ### a draw -/
theorem scDraw : FnScope ["deck", "many", "pool", "found", "number"] ["deck", "many"] (defScope s_law_draw) := ⟨rfl, rfl, rfl, by decide +kernel, rfl, by decide +kernel, by decide +kernel⟩
theorem at3_0 {x y z : V} : atI [x, y, z] 0 = some x := rfl
theorem at3_1 {x y z : V} : atI [x, y, z] 1 = some y := rfl
theorem at3_2 {x y z : V} : atI [x, y, z] 2 = some z := rfl
theorem at2_0 {x y : V} : atI [x, y] 0 = some x := rfl
theorem at2_1 {x y : V} : atI [x, y] 1 = some y := rfl
set_option maxHeartbeats 2000000 in
theorem ok_draw {f : Addr} {fd : FuncData} {k : Nat} (T : Df K mg "_law_draw" s_law_draw ["deck", "many"] f fd) (B : Bi mg) : FnOk P w K mg base CX0 (k + 1) f fd ["deck", "many"] spDraw := by
  refine T.F.ok scDraw (fun vs H Q E h => ?_) (fun cdv A outer s H vs Q E hr h => ?_)
  · obtain ⟨D, m, rfl, _⟩ := h
    rfl
  · obtain ⟨D, m, rfl, hD, hm0, hm1, q⟩ := h
    refine ⟨_, pss_cons (ps_set (i := 2) scDraw.nd rfl (.inl rfl) (pe_ix ix_list (pe_ix ix_list (pv 0) pe_int (fun _ _ => rfl)) (pe_op op_mod (pe_ix ix_list (pv 0) pe_int (fun _ _ => rfl)) (pe_callB call_len_seq (by rfl) B.len PySem.boot_len (pa_cons (pe_ix ix_list (pv 0) pe_int (fun _ _ => rfl)) pa_nil))) (fun _ _ => rfl)))
      (pss_cons (ps_asg (pe_op op_add (pe_ix ix_list (pv 0) pe_int (fun _ _ => rfl)) pe_int) (pg_sub (pv 0) pe_int set_list))
      (Evl.pss_cut (ps_if (PW.pt (pw_and (pt_cmpR op_eq (pe_ix ix_list (pv 2) pe_int (fun _ _ => rfl)) pe_int (nomark _)) (pw_and1 (pt_cmpR op_gt (pe_ix ix_list (pv 2) pe_int (fun _ _ => rfl)) pe_int (nomark _)))))
        (pss_cons (ps_set (i := 3) scDraw.nd rfl (.inl rfl) (pe_op op_mod (pe_ix ix_list (pv 2) pe_int (fun _ _ => rfl)) (pv 1)))
        (pss_cons (ps_asg (pe_op op_fdiv (pe_ix ix_list (pv 2) pe_int (fun _ _ => rfl)) (pv 1)) (pg_sub (pv 2) pe_int set_list))
        (pss_one (ps_ret (pv 3))))) pss_nil)
      (pss_cons (ps_asg (pe_op op_add (pe_ix ix_list (pv 2) pe_int (fun _ _ => rfl)) pe_int) (pg_sub (pv 2) pe_int set_list))
      (pss_cons (ps_set (i := 4) scDraw.nd rfl (.inl rfl) (pe_op op_mod (pe_op op_add (pe_op op_mod (pe_ix ix_list (pv 2) pe_int (fun _ _ => rfl)) pe_int) (pe_op op_mul pe_int (pe_ix ix_list (pv 2) pe_int (fun _ _ => rfl)))) pe_int))
      (pss_cons (ps_set (i := 4) scDraw.nd rfl (.inl rfl) (pe_op op_mod (pe_op op_mul (pv 4) (pv 4)) pe_int))
      (pss_cons (ps_set (i := 4) scDraw.nd rfl (.inl rfl) (pe_op op_mod (pe_op op_mul (pv 4) (pe_op op_add (pv 4) pe_int)) pe_int))
      (pss_one (ps_ret (pe_op op_mod (pe_op op_fdiv (pv 4) pe_int) (pv 1)))))))))), ?_⟩
    obtain ⟨i, hd⟩ := hD.top
    have hl := hD.len
    -- pool = deck[0][deck[1] % len(deck[0])]
    obtain ⟨j, hj, ej⟩ : ∃ j : Nat, j < D.as.length ∧ i % (((D.as.map V.ref).length : Nat) : Int) = (j : Int) := by
      rw [List.length_map]
      have h1 := Int.emod_nonneg i (show ((D.as.length : Nat) : Int) ≠ 0 by omega)
      have h2 := Int.emod_lt_of_pos i (show (0 : Int) < ((D.as.length : Nat) : Int) by omega)
      exact ⟨(i % ((D.as.length : Nat) : Int)).toNat, by omega, by omega⟩
    obtain ⟨a, ea⟩ : ∃ a, D.as[j]? = some a := ⟨D.as[j], List.getElem?_eq_getElem hj⟩
    have ha : a ∈ D.as := List.mem_of_getElem? ea
    have eV : (D.as.map V.ref)[j]? = some (V.ref a) := by rw [List.getElem?_map, ea]; rfl
    obtain ⟨x, y, z, hp⟩ := hD.at_ a ha
    refine ⟨_, rfl, D.d, _, 0, _, rfl, rfl, SqL.of hd, at2_0, _, rfl, D.d, _, 1, _, rfl, rfl, SqL.of hd, at2_1, _, rfl, D.d, _, 0, _, rfl, rfl, SqL.of hd, at2_0, D.pl, _, rfl, .inl (SqL.of hD.pools), i, _, rfl, rfl, ?_, D.pl, _, _, .ref a, rfl, rfl, SqL.of hD.pools, at_of ej eV, ?_⟩
    · rw [List.length_map]; omega
    -- deck[1] = deck[1] + 1
    refine ⟨_, rfl, D.d, _, 1, _, rfl, rfl, SqL.of hd, at2_1, i, 1, rfl, rfl, _, rfl, D.d, _, 1, 1, rfl, rfl, hd, rfl, ?_⟩
    have hD1 : DkAt (upd H D.d (.lst [.ref D.pl, .int (i + 1)])) D := hD.step
    have k1 : Keep D H (upd H D.d (.lst [.ref D.pl, .int (i + 1)])) := Keep.foot (.inl rfl)
    have hp1 : (upd H D.d (.lst [.ref D.pl, .int (i + 1)])) a = some (.lst [.int x, .int y, .int z]) := by
      rw [upd_ne (hD.a_ne_d ha)]
      exact hp
    refine ⟨fun σ' H' => σ' = [some (.ref D.d), some (.int m), some (.ref a), none, none] ∧ H' = upd H D.d (.lst [.ref D.pl, .int (i + 1)]), ?_, fun σ' H' hM => ?_⟩
    · -- if pool[1] == 1 and pool[0] > 0
      refine ⟨_, rfl, a, _, 1, _, rfl, rfl, SqL.of hp1, at3_1, rfl, _, rfl, ite2 (fun _ => ?_) (fun _ => iteF ⟨rfl, rfl⟩)⟩
      refine ⟨_, rfl, a, _, 0, _, rfl, rfl, SqL.of hp1, at3_0, x, 0, rfl, rfl, _, rfl, ite2 (fun _ => ?_) (fun _ => ⟨rfl, rfl⟩)⟩
      -- found = pool[0] % many; pool[0] = pool[0] // many
      refine ⟨_, rfl, a, _, 0, _, rfl, rfl, SqL.of hp1, at3_0, _, rfl, x, m, rfl, rfl, hm0, ?_⟩
      refine ⟨_, rfl, a, _, 0, _, rfl, rfl, SqL.of hp1, at3_0, _, rfl, x, m, rfl, rfl, ⟨hm0, by omega⟩, _, rfl, a, _, 0, 0, rfl, rfl, hp1, rfl, ?_⟩
      exact ⟨_, rfl, q _ _ (Int.emod_nonneg x (by omega)) (Int.emod_lt_of_pos x hm0) (hD1.pool ha) (k1.trans (Keep.foot (.inr (.inr ha))))⟩
    · obtain ⟨rfl, rfl⟩ := hM
      -- pool[2] = pool[2] + 1
      refine ⟨_, rfl, a, _, 2, _, rfl, rfl, SqL.of hp1, at3_2, z, 1, rfl, rfl, _, rfl, a, _, 2, 2, rfl, rfl, hp1, rfl, ?_⟩
      have hD2 : DkAt (upd (upd H D.d (.lst [.ref D.pl, .int (i + 1)])) a (.lst [.int x, .int y, .int (z + 1)])) D := hD1.pool ha
      have k2 : Keep D H (upd (upd H D.d (.lst [.ref D.pl, .int (i + 1)])) a (.lst [.int x, .int y, .int (z + 1)])) := k1.trans (Keep.foot (.inr (.inr ha)))
      have hp2 : (upd (upd H D.d (.lst [.ref D.pl, .int (i + 1)])) a (.lst [.int x, .int y, .int (z + 1)])) a = some (.lst [.int x, .int y, .int (z + 1)]) := upd_same
      refine ⟨_, rfl, a, _, 0, _, rfl, rfl, SqL.of hp2, at3_0, x, 99999999977, rfl, rfl, (show (0 : Int) < 99999999977 by decide), _, rfl, a, _, 2, _, rfl, rfl, SqL.of hp2, at3_2, 700001, z + 1, rfl, rfl, .inl ⟨by decide, by decide⟩, _, _, rfl, rfl, _, 99999999947, rfl, rfl, (show (0 : Int) < 99999999947 by decide), ?_⟩
      have b1 := Int.emod_nonneg (x % 99999999977 + 700001 * (z + 1)) (show (99999999947 : Int) ≠ 0 by decide)
      have b2 := Int.emod_lt_of_pos (x % 99999999977 + 700001 * (z + 1)) (show (0 : Int) < 99999999947 by decide)
      refine ⟨_, rfl, _, rfl, _, _, rfl, rfl, .inl ⟨?_, ?_⟩, _, 99999999821, rfl, rfl, (show (0 : Int) < 99999999821 by decide), ?_⟩
      · exact Int.lt_of_lt_of_le (by decide) b1
      · exact Int.lt_trans b2 (by decide)
      generalize hn : (x % 99999999977 + 700001 * (z + 1)) % 99999999947 = n1
      have c1 := Int.emod_nonneg (n1 * n1) (show (99999999821 : Int) ≠ 0 by decide)
      have c2 := Int.emod_lt_of_pos (n1 * n1) (show (0 : Int) < 99999999821 by decide)
      refine ⟨_, rfl, _, rfl, _, 19, rfl, rfl, _, _, rfl, rfl, .inl ⟨?_, ?_⟩, _, 9999999967, rfl, rfl, (show (0 : Int) < 9999999967 by decide), ?_⟩
      · exact Int.lt_of_lt_of_le (by decide) c1
      · exact Int.lt_trans c2 (by decide)
      refine ⟨_, rfl, _, 13, rfl, rfl, ⟨by decide, by decide⟩, _, rfl, _, m, rfl, rfl, hm0, ?_⟩
      exact q _ _ (Int.emod_nonneg _ (by omega)) (Int.emod_lt_of_pos _ hm0) hD2 k2
end
end Fo
namespace Fo
open PySem PySem.Spec PyProof.Rows L2
section
variable {P : Program} {w : World} {K : PySem.W.Frag} {mg : Str → Option Value} {base : Heap}
/-! ### how many things -/
theorem scThings : FnScope ["deck"] ["deck"] (defScope s_law_things) := ⟨rfl, rfl, rfl, by decide +kernel, rfl, by decide +kernel, by decide +kernel⟩
set_option maxHeartbeats 2000000 in
theorem ok_things {f fD : Addr} {fd fdD : FuncData} {k : Nat} (T : Df K mg "_law_things" s_law_things ["deck"] f fd) (TD : Df K mg "_law_draw" s_law_draw ["deck", "many"] fD fdD) (B : Bi mg) : FnOk P w K mg base CX0 (k + 2) f fd ["deck"] spThings := by
  have GD : FnOk P w K mg base CX0 (k + 1) fD fdD ["deck", "many"] spDraw := ok_draw TD B
  refine T.F.ok scThings (fun vs H Q E h => ?_) (fun cdv A outer s H vs Q E hr h => ?_)
  · obtain ⟨D, rfl, _⟩ := h
    rfl
  · obtain ⟨D, rfl, hD, q⟩ := h
    refine ⟨_, pss_one (ps_ret (pe_ix ix_list (pe_lst
      (pa_cons (pe_op op_add pe_int (pe_call GD hr (by rfl) TD.g TD.F.kp TD.b .nil pass0 (pa_cons (pv 0) (pa_cons pe_int pa_nil))))
      (pa_cons (pe_op op_add pe_int (pe_call GD hr (by rfl) TD.g TD.F.kp TD.b .nil pass0 (pa_cons (pv 0) (pa_cons pe_int pa_nil))))
      (pa_cons (pe_op op_add pe_int (pe_call GD hr (by rfl) TD.g TD.F.kp TD.b .nil pass0 (pa_cons (pv 0) (pa_cons pe_int pa_nil))))
      (pa_cons pe_int pa_nil)))))
      (pe_call GD hr (by rfl) TD.g TD.F.kp TD.b .nil pass0 (pa_cons (pv 0) (pa_cons pe_int pa_nil))) (fun _ _ => rfl))), ?_⟩
    refine ⟨_, rfl, D, 4, rfl, hD, by decide, by decide, fun v1 H1 l1 u1 D1 k1 => ⟨1, v1, rfl, rfl, ?_⟩⟩
    refine ⟨_, rfl, D, 8, rfl, D1, by decide, by decide, fun v2 H2 l2 u2 D2 k2 => ⟨1, v2, rfl, rfl, ?_⟩⟩
    refine ⟨_, rfl, D, 12, rfl, D2, by decide, by decide, fun v3 H3 l3 u3 D3 k3 => ⟨1, v3, rfl, rfl, ?_⟩⟩
    refine ⟨line_small (by show 4 ≤ 16777216; decide), fun p np => ?_⟩
    refine ⟨_, rfl, D, 4, rfl, D3.new np, by decide, by decide, fun v4 H4 l4 u4 D4 k4 => ?_⟩
    have hp : H4 p = some (.lst [.int (1 + v1), .int (1 + v2), .int (1 + v3), .int 12]) := k4 p _ upd_same (D3.notFoot np)
    have kk : Keep D H H4 := ((k1.trans k2).trans k3).trans ((Keep.new np).trans k4)
    have fin : ∀ v : Int, 1 ≤ v → v ≤ 12 → Q (.int v) H4 := fun v h1 h2 => by
      have z := q v.toNat H4 (by omega) (by omega) D4 kk
      rw [Int.toNat_of_nonneg (by omega)] at z
      exact z
    have hv : v4 = 0 ∨ v4 = 1 ∨ v4 = 2 ∨ v4 = 3 := by omega
    rcases hv with rfl | rfl | rfl | rfl
    · exact ⟨p, _, 0, _, rfl, rfl, SqL.of hp, rfl, fin _ (by omega) (by omega)⟩
    · exact ⟨p, _, 1, _, rfl, rfl, SqL.of hp, rfl, fin _ (by omega) (by omega)⟩
    · exact ⟨p, _, 2, _, rfl, rfl, SqL.of hp, rfl, fin _ (by omega) (by omega)⟩
    · exact ⟨p, _, 3, _, rfl, rfl, SqL.of hp, rfl, fin _ (by omega) (by omega)⟩
/-! ### the deck is made -/
theorem scDeck : FnScope ["script", "pools", "k", "cell"] ["script"] (defScope s_law_deck) := ⟨rfl, rfl, rfl, by decide +kernel, rfl, by decide +kernel, by decide +kernel⟩
set_option maxHeartbeats 2000000 in
theorem ok_deck {f : Addr} {fd : FuncData} {k : Nat} (T : Df K mg "_law_deck" s_law_deck ["script"] f fd) (B : Bi mg) : FnOk P w K mg base CX0 (k + 1) f fd ["script"] (spDeck K) := by
  refine T.F.ok scDeck (fun vs H Q E h => ?_) (fun cdv A outer s H vs Q E hr h => ?_)
  · obtain ⟨a, ns, rfl, _⟩ := h
    rfl
  · obtain ⟨a, ns, rfl, hS, hlen, q⟩ := h
    refine ⟨_, pss_cons (ps_set (i := 1) scDeck.nd rfl (.inl rfl) (pe_lst pa_nil))
      (pss_cons (ps_for PassesOwn.never rfl (pi_range1 (by rfl) B.range (pa_cons (pe_callB (call_max2 rfl) (by rfl) B.max (by decide +kernel) (pa_cons pe_int (pa_cons (pe_callB (call_min2 rfl) (by rfl) B.min (by decide +kernel) (pa_cons pe_int (pa_cons (pe_callB call_len_seq (by rfl) B.len PySem.boot_len (pa_cons (pv 0) pa_nil)) pa_nil))) pa_nil))) pa_nil)) (pg_name (i := 2) scDeck.nd rfl (.inl rfl))
        (pss_cons (ps_set (i := 3) scDeck.nd rfl (.inl rfl) pe_int)
        (Evl.pss_cut (ps_if (pt_cmpR op_lt (pv 2) (pe_callB call_len_seq (by rfl) B.len PySem.boot_len (pa_cons (pv 0) pa_nil)) (nomark _)) (pss_one (ps_set (i := 3) scDeck.nd rfl (.inl rfl) (pe_ix ix_list (pv 0) (pv 2) (fun _ _ => rfl)))) pss_nil)
        (pss_one (ps_expr (pe_bm PySem.F.plainAttrs_list PySem.F.slot_list_append PySem.F.type_list_append mt_append (pv 1) (pa_cons (pe_lst (pa_cons (pv 3) (pa_cons (pe_callTy call_int1 (by rfl) B.int (by decide +kernel) (pa_cons (pe_cmpR op_ge (pv 3) (pe_op op_pow pe_int pe_int) (nomark _)) pa_nil)) (pa_cons (pe_op op_mul pe_int (pv 2)) pa_nil)))) pa_nil)))))))
      (pss_one (ps_ret (pe_lst (pa_cons (pv 1) (pa_cons pe_int pa_nil)))))), ?_⟩
    refine ⟨Nat.zero_le _, fun pl np => ?_⟩
    have s1 : Same H (upd H pl (.lst [])) := same_new np
    have hlm : (ns.map V.int).length = ns.length := List.length_map _
    obtain ⟨m, hm1, hm2, em⟩ : ∃ m : Nat, 1 ≤ m ∧ m ≤ 63 ∧ (if (if ((ns.map V.int).length : Int) < 63 then ((ns.map V.int).length : Int) else 63) > 1 then (if ((ns.map V.int).length : Int) < 63 then ((ns.map V.int).length : Int) else 63) else 1) = (m : Int) := by
      rw [hlm]
      refine ⟨max 1 (min 63 ns.length), by omega, by omega, ?_⟩
      split <;> split <;> omega
    refine ⟨.ref a, rfl, a, _, rfl, .inl (s1.seq hS), 63, _, rfl, 1, _, rfl, _, rfl, ?_, ?_, ?_⟩
    · rw [em]; omega
    · rw [em]; omega
    · rw [em, Int.toNat_natCast]
      refine for_range (n := m) (fun i σ H3 => ∃ (as : List Addr) (yk yc : Option V), σ = [some (.ref a), some (.ref pl), yk, yc] ∧ as.length = i ∧ H3 pl = some (.lst (as.map V.ref)) ∧ (∀ b ∈ as, (∃ x y z : Int, H3 b = some (.lst [.int x, .int y, .int z])) ∧ H b = none) ∧ Same H H3)
        ⟨[], none, none, rfl, rfl, upd_same, (fun b hb => absurd hb List.not_mem_nil), s1⟩ (fun i σ H3 hi hP => ?_) (fun σ H3 hP => ?_)
      · obtain ⟨as, yk, yc, rfl, el, hpl, hat, sm⟩ := hP
        refine ⟨fun σ' H' => ∃ c : Int, σ' = [some (.ref a), some (.ref pl), some (.int (0 + i)), some (.int c)] ∧ H' = H3, ?_, fun σ' H' hM => ?_⟩
        · refine ⟨_, rfl, .ref a, rfl, a, _, rfl, .inl (sm.seq hS), _, _, rfl, rfl, _, rfl, ite2 (fun hc => ?_) (fun _ => ⟨0, rfl, rfl⟩)⟩
          have hlt : (0 + (i : Int)) < (ns.map V.int).length := of_decide_eq_true hc
          rw [hlm] at hlt
          have hix : i < ns.length := by omega
          exact ⟨_, rfl, _, rfl, a, _, _, _, rfl, rfl, sm.seq hS, at_of (j := i) (by omega) (int_at (List.getElem?_eq_getElem hix)), ns[i], rfl, rfl⟩
        · obtain ⟨c, rfl, rfl⟩ := hM
          refine ⟨_, rfl, .inl ⟨rfl, _, SqL.of hpl⟩, _, rfl, _, rfl, 10, 18, rfl, rfl, ⟨by decide, by decide, by decide⟩, _, _, rfl, rfl, .inr ⟨_, rfl, _, rfl, 31, _, rfl, rfl, .inl ⟨by decide, by decide⟩, line_small (by show 3 ≤ 16777216; decide), fun p np2 => ?_⟩⟩
          have hpl2 : (upd H' p (.lst [.int c, .int (if decide ((10 : Int) ^ (18 : Int).toNat ≤ c) = true then 1 else 0), .int (31 * (0 + (i : Int)))])) pl = some (.lst (as.map V.ref)) := same_new np2 _ _ hpl
          refine ⟨pl, _, _, rfl, rfl, hpl2, line_lt (by rw [List.length_map]; omega), ?_⟩
          have npl : p ≠ pl := (ne_of_none hpl np2).symm
          refine ⟨as ++ [p], _, _, rfl, by rw [List.length_append, el]; rfl, by rw [upd_same, List.map_append]; rfl, fun b hb => ?_, fun b o e => ?_⟩
          · rcases List.mem_append.mp hb with hb | hb
            · obtain ⟨⟨x, y, z, e⟩, n⟩ := hat b hb
              refine ⟨⟨x, y, z, ?_⟩, n⟩
              rw [upd_ne (show b ≠ pl from ?_), upd_ne (ne_of_none e np2)]
              · exact e
              · intro z
                rw [z] at e
                rw [hpl] at e
                cases as with
                | nil => cases e
                | cons u r => cases e
            · have eb : b = p := List.mem_singleton.mp hb
              subst eb
              exact ⟨⟨_, _, _, by rw [upd_ne npl]; exact upd_same⟩, sm.free np2⟩
          · rw [upd_ne (ne_of_none e np), upd_ne (ne_of_none (sm _ _ e) np2)]
            exact sm _ _ e
      · obtain ⟨as, yk, yc, rfl, el, hpl, hat, sm⟩ := hP
        refine ⟨_, rfl, line_small (by show 2 ≤ 16777216; decide), fun d nd => ?_⟩
        refine q ⟨d, pl, as⟩ _ ⟨⟨0, upd_same⟩, ?_, ?_, ?_, fun b hb => ?_⟩ (sm.trans (same_new nd)) (fun b hb => ?_)
        · exact same_new nd _ _ hpl
        · show 0 < as.length
          omega
        · show as.length ≤ 63
          omega
        · obtain ⟨⟨x, y, z, e⟩, n⟩ := hat b hb
          exact ⟨x, y, z, same_new nd _ _ e⟩
        · rcases hb with rfl | rfl | hb
          · exact sm.free nd
          · exact np
          · exact (hat b hb).2
end
end Fo
namespace Fo
open PySem PySem.Spec PyProof.Rows L2
theorem pop_perm : ∀ {xs : List Int} {k : Nat} {y : Int}, xs[k]? = some y → (y :: xs.eraseIdx k).Perm xs
  | [], k, y, h => by simp at h
  | a :: r, 0, y, h => by
    have e : a = y := Option.some.inj h
    subst e
    exact List.Perm.refl _
  | a :: r, k + 1, y, h => by
    have ih := pop_perm (xs := r) (k := k) (y := y) h
    show (y :: a :: r.eraseIdx k).Perm (a :: r)
    exact (List.Perm.swap a y _).trans (List.Perm.cons a ih)
theorem map_erase : ∀ (xs : List Int) (k : Nat), (xs.map V.int).eraseIdx k = (xs.eraseIdx k).map V.int
  | [], k => rfl
  | a :: r, 0 => rfl
  | a :: r, k + 1 => congrArg (V.int a :: ·) (map_erase r k)
/-- what len asks of a list or a tuple -/
abbrev rLenS (K : PySem.W.Frag) : List V → Hp → VK → Prop := fun xs H Q => ∃ p ys, xs = [.ref p] ∧ (SqL K H p ys ∨ SqT K H p ys) ∧ Q (.int ys.length) H
theorem seq_ix {i : Int} {k n : Nat} (e : i = (k : Int)) (h : k < n) : seqIndex? i n = some k := by
  subst e
  unfold seqIndex?
  have h1 : ¬ ((k : Int) < 0) := by omega
  simp only [h1, if_false]
  have h2 : (decide ((0 : Int) ≤ (k : Int)) && decide ((k : Int) < (n : Int))) = true := by
    simp
    omega
  rw [if_pos h2, Int.toNat_natCast]
theorem ix_n {i : Int} {k n : Nat} (e : i = (k : Int)) (h : k < n) : ixN n i = some k := by
  subst e
  unfold ixN
  rw [if_pos (by omega), if_pos (by omega), Int.toNat_natCast]
section
variable {P : Program} {w : World} {K : PySem.W.Frag} {mg : Str → Option Value} {base : Heap}
theorem scOrder : FnScope ["deck", "n", "left", "way", "k", "p"] ["deck", "n"] (defScope s_law_order) := ⟨rfl, rfl, rfl, by decide +kernel, rfl, by decide +kernel, by decide +kernel⟩
set_option maxHeartbeats 4000000 in
theorem ok_order {f fD : Addr} {fd fdD : FuncData} {k : Nat} (T : Df K mg "_law_order" s_law_order ["deck", "n"] f fd) (TD : Df K mg "_law_draw" s_law_draw ["deck", "many"] fD fdD) (B : Bi mg) : FnOk P w K mg base CX0 (k + 2) f fd ["deck", "n"] spOrder := by
  have GD : FnOk P w K mg base CX0 (k + 1) fD fdD ["deck", "many"] spDraw := ok_draw TD B
  refine T.F.ok scOrder (fun vs H Q E h => ?_) (fun cdv A outer s H vs Q E hr h => ?_)
  · obtain ⟨D, n, rfl, _⟩ := h
    rfl
  · obtain ⟨D, n, rfl, hD, hn1, hn2, q⟩ := h
    refine ⟨_, pss_cons (ps_set (i := 2) scOrder.nd rfl (.inr rfl) (pe_listRg rfl (by rfl) B.list (prg_1 (by rfl) B.range (pv 1))))
      (pss_cons (ps_set (i := 3) scOrder.nd rfl (.inl rfl) (pe_call GD hr (by rfl) TD.g TD.F.kp TD.b .nil pass0 (pa_cons (pv 0) (pa_cons pe_int pa_nil))))
      (pss_cons (ps_if (pt_cmpR op_eq (pv 3) pe_int (nomark _)) (pss_one (ps_ret (pe_lc (own := [("k", 4)]) (g := gName 4) (tt := tYes) (te := tBM K "list" rPopAt (tVar 2) (tCons (tCall spDraw [] E0 (tCons (tVar 0) (tCons (tCB (rLenS K) (tCons (tVar 2) tNil)) tNil))) tNil)) rfl scOrder.nd (pi_range1 (by rfl) B.range (pa_cons (pv 1) pa_nil)) (blkOk_by (N := ["deck", "n", "left", "way", "k", "p"]) (sc := defScope s_law_order) (by decide +kernel)) (fun _ _ _ _ _ => pg_name (i := 4) scOrder.nd rfl (.inl rfl)) (fun _ _ _ _ _ => pts_nil)
          (fun _ _ _ _ _ => pe_bm PySem.F.plainAttrs_list PySem.F.slot_list_pop PySem.F.type_list_pop mt_popAt (pv 2) (pa_cons (pe_call GD hr (by rfl) TD.g TD.F.kp TD.b .nil pass0 (pa_cons (pv 0) (pa_cons (pe_callB call_len_seq (by rfl) B.len PySem.boot_len (pa_cons (pv 2) pa_nil)) pa_nil))) pa_nil))))) pss_nil)
      (Evl.pss_cut (ps_if (pt_cmpR op_eq (pv 3) pe_int (nomark _)) (pss_one (ps_set (i := 2) scOrder.nd rfl (.inr rfl) (pe_revL (pv 2)))) pss_nil)
      (pss_cons (ps_for PassesOwn.never rfl (pi_range1 (by rfl) B.range (pa_cons (pe_op op_mul (pe_call GD hr (by rfl) TD.g TD.F.kp TD.b .nil pass0 (pa_cons (pv 0) (pa_cons pe_int pa_nil))) (pe_callTy call_int1 (by rfl) B.int (by decide +kernel) (pa_cons (pe_cmpR op_gt (pv 1) pe_int (nomark _)) pa_nil))) pa_nil)) (pg_name (i := 4) scOrder.nd rfl (.inl rfl))
        (pss_cons (ps_set (i := 5) scOrder.nd rfl (.inl rfl) (pe_call GD hr (by rfl) TD.g TD.F.kp TD.b .nil pass0 (pa_cons (pv 0) (pa_cons (pe_op op_sub (pv 1) pe_int) pa_nil))))
        (pss_one (ps_asg (pe_tup (pa_cons (pe_ix ix_list (pv 2) (pe_op op_add (pv 5) pe_int) (fun _ _ => rfl)) (pa_cons (pe_ix ix_list (pv 2) (pv 5) (fun _ _ => rfl)) pa_nil))) (pg_tup (by rfl) (pgs_cons (pg_sub (pv 2) (pv 5) set_list) (pgs_cons (pg_sub (pv 2) (pe_op op_add (pv 5) pe_int) set_list) pgs_nil)))))))
      (pss_one (ps_ret (pv 2))))))), ?_⟩
    -- left = list(range(n))
    refine ⟨_, rfl, n, rfl, RgOk.of_le (by omega) (by omega) (by omega) (by omega), fun l nl => ?_⟩
    have hl0 : (upd H l (.lst (rgV 0 (n : Int)))) l = some (.lst ((rg n).map V.int)) := by rw [upd_same, rg_V]
    have D0 := hD.new (o := .lst (rgV 0 (n : Int))) nl
    have nf := hD.notFoot nl
    -- way = draw 4
    refine ⟨_, rfl, D, 4, rfl, D0, by decide, by decide, fun way H1 w0 w1 D1 k1 => ?_⟩
    have hl1 := k1 l _ hl0 nf
    have kk1 : Keep D H H1 := (Keep.new nl).trans k1
    -- if way == 0
    refine ⟨_, rfl, rfl, _, rfl, ite2 (fun _ => ?_) (fun _ => ?_)⟩
    · refine ⟨_, rfl, n, rfl, by omega, by omega, ?_⟩
      rw [Int.toNat_natCast]
      intro p np
      have npf := D1.notFoot np
      have lp : l ≠ p := ne_of_none hl1 np
      refine lc_range (lo := 0) (n := n) (fun i H3 => ∃ (rest acc : List Int), (acc ++ rest).Perm (rg n) ∧ acc.length = i ∧ H3 l = some (.lst (rest.map V.int)) ∧ H3 p = some (.lst (acc.map V.int)) ∧ DkAt H3 D ∧ ∀ b o, H b = some o → ¬ D.Foot b → H3 b = some o)
        ⟨rg n, [], List.Perm.refl _, rfl, by rw [upd_ne lp]; exact hl1, upd_same, D1.new np, fun b o e f => by rw [upd_ne (ne_of_none (kk1 b o e f) np)]; exact kk1 b o e f⟩ (fun i H3 hi hP => ?_) (fun H3 hP => ?_)
      · obtain ⟨rest, acc, hperm, el, hl3, hp3, D3, kp3⟩ := hP
        have hlen : rest.length = n - i := by
          have := List.Perm.length_eq hperm
          rw [List.length_append, rg_len] at this
          omega
        have hlm : (rest.map V.int).length = rest.length := List.length_map _
        refine ⟨rfl, ?_⟩
        refine ⟨_, rfl, .inl ⟨rfl, _, SqL.of hl3⟩, _, rfl, _, rfl, l, _, rfl, .inl (SqL.of hl3), D, _, rfl, D3, by rw [hlm]; omega, by rw [hlm]; omega, fun v H4 v0 v1 D4 k4 => ?_⟩
        rw [hlm] at v1
        obtain ⟨y, ey⟩ : ∃ y, rest[v.toNat]? = some y := ⟨rest[v.toNat]'(by omega), List.getElem?_eq_getElem (by omega)⟩
        have hl4 := k4 l _ hl3 nf
        have hp4 := k4 p _ hp3 npf
        refine ⟨l, _, v, v.toNat, _, rfl, rfl, hl4, by omega, by omega, seq_ix (by omega) (by rw [hlm]; omega), int_at ey, ?_⟩
        refine ⟨acc.map V.int, by rw [upd_ne lp.symm]; exact hp4, line_lt (by rw [List.length_map]; omega), rest.eraseIdx v.toNat, acc ++ [y], ?_, by rw [List.length_append, el]; rfl, ?_, by rw [upd_same, List.map_append]; rfl, ?_, fun b o e f => ?_⟩
        · rw [List.append_assoc]
          exact (List.Perm.append_left acc (pop_perm ey)).trans hperm
        · rw [upd_ne lp, upd_same, map_erase]
        · exact (D4.upd nf).upd npf
        · have e4 := k4 b o (kp3 b o e f) f
          have nbl : b ≠ l := ne_of_none e nl
          have nbp : b ≠ p := ne_of_none (kk1 b o e f) np
          rw [upd_ne nbp, upd_ne nbl]
          exact e4
      · obtain ⟨rest, acc, hperm, el, hl3, hp3, D3, kp3⟩ := hP
        have hr0 : rest = [] := by
          have := List.Perm.length_eq hperm
          rw [List.length_append, rg_len] at this
          exact List.eq_nil_of_length_eq_zero (by omega)
        subst hr0
        rw [List.append_nil] at hperm
        have hHp : H p = none := by
          cases e : H p with
          | none => rfl
          | some o =>
            have z := kk1 p o e npf
            rw [np] at z
            cases z
        exact q acc p H3 hperm hHp hp3 npf D3 kp3
    · -- if way == 1: left = left[::-1]
      refine ⟨fun σ' H' => ∃ (l2 : Addr) (ns : List Int), σ' = [some (.ref D.d), some (.int n), some (.ref l2), some (.int way), none, none] ∧ IsOrd n ns ∧ H' l2 = some (.lst (ns.map V.int)) ∧ H l2 = none ∧ DkAt H' D ∧ Keep D H H', ?_, fun σ' H' hM => ?_⟩
      · refine ⟨_, rfl, rfl, _, rfl, ite2 (fun _ => ?_) (fun _ => ⟨l, rg n, rfl, List.Perm.refl _, hl1, nl, D1, kk1⟩)⟩
        refine ⟨_, rfl, l, _, rfl, SqL.of hl1, fun p np => ?_⟩
        have npf := D1.notFoot np
        refine ⟨p, (rg n).reverse, rfl, List.reverse_perm _, by rw [upd_same, List.map_reverse], ?_, D1.new np, kk1.trans (Keep.new np)⟩
        cases e : H p with
        | none => rfl
        | some o =>
          have z := kk1 p o e npf
          rw [np] at z
          cases z
      · obtain ⟨l2, ns, rfl, ho, hl2, nl2, D2, k2⟩ := hM
        have nf2 := hD.notFoot nl2
        refine ⟨_, rfl, D, 7, rfl, D2, by decide, by decide, fun v H3 v0 v1 D3 k3 => ⟨_, rfl, _, 1, rfl, rfl, .inr ⟨_, rfl, v, _, rfl, rfl, .inl ⟨by omega, by omega⟩, _, rfl, ?_⟩⟩⟩
        have hl3 := k3 l2 _ hl2 nf2
        obtain ⟨m, em, hm⟩ : ∃ m : Nat, v * (if decide ((1 : Int) < (n : Int)) = true then 1 else 0) = (m : Int) ∧ (m ≤ 6 ∧ (n = 1 → m = 0)) := by
          by_cases c : (1 : Int) < (n : Int)
          · rw [decide_eq_true c, if_pos rfl, Int.mul_one]
            exact ⟨v.toNat, by omega, by omega, by omega⟩
          · rw [decide_eq_false c, if_neg (by decide), Int.mul_zero]
            exact ⟨0, by omega, by omega, fun _ => rfl⟩
        refine ⟨by rw [em]; omega, by rw [em]; omega, ?_⟩
        rw [em, Int.toNat_natCast]
        refine for_range (n := m) (fun i σ H4 => ∃ (y4 y5 : Option V) (ns : List Int), σ = [some (.ref D.d), some (.int n), some (.ref l2), some (.int way), y4, y5] ∧ IsOrd n ns ∧ H4 l2 = some (.lst (ns.map V.int)) ∧ DkAt H4 D ∧ Keep D H H4)
          ⟨_, _, ns, rfl, ho, hl3, D3, k2.trans k3⟩ (fun i σ H4 hi hP => ?_) (fun σ H4 hP => ?_)
        · obtain ⟨y4, y5, xs, rfl, ho4, hl4, D4, k4⟩ := hP
          have hn : 2 ≤ n := by
            by_cases c : n = 1
            · have := hm.2 c
              omega
            · omega
          refine ⟨_, rfl, _, rfl, (n : Int), 1, rfl, rfl, D, _, rfl, D4, by omega, by omega, fun p H5 p0 p1 D5 k5 => ?_⟩
          have hl5 := k5 l2 _ hl4 nf2
          have hxl : xs.length = n := ho4.len
          obtain ⟨a, ea⟩ : ∃ a, xs[p.toNat]? = some a := ⟨xs[p.toNat]'(by omega), List.getElem?_eq_getElem (by omega)⟩
          obtain ⟨b, eb⟩ : ∃ b, xs[p.toNat + 1]? = some b := ⟨xs[p.toNat + 1]'(by omega), List.getElem?_eq_getElem (by omega)⟩
          refine ⟨_, rfl, _, rfl, p, 1, rfl, rfl, l2, _, _, _, rfl, rfl, SqL.of hl5, at_of (j := p.toNat + 1) (by omega) (int_at eb), _, rfl, _, rfl, l2, _, _, _, rfl, rfl, SqL.of hl5, at_of (j := p.toNat) (by omega) (int_at ea), line_small (by show 2 ≤ 16777216; decide), fun t nt => ?_⟩
          have ntl : l2 ≠ t := ne_of_none hl5 nt
          have hl6 : (upd H5 t (.tup [.int b, .int a])) l2 = some (.lst (xs.map V.int)) := same_new nt _ _ hl5
          refine ⟨t, _, rfl, .inl (.inl upd_same), rfl, _, _, rfl, _, rfl, _, rfl, l2, _, _, p.toNat, rfl, rfl, hl6, ix_n (by omega) (by rw [List.length_map]; omega), ?_⟩
          refine ⟨_, _, rfl, _, rfl, _, rfl, p, 1, rfl, rfl, l2, _, _, p.toNat + 1, rfl, rfl, upd_same, ix_n (by omega) (by rw [List.length_set, List.length_map]; omega), ?_⟩
          refine ⟨rfl, _, _, sw xs p.toNat, rfl, sw_ord ho4 (by omega), by rw [upd_same, sw_V ea eb], ((D5.new nt).upd nf2).upd nf2, fun c o e f => ?_⟩
          have nc : c ≠ l2 := ne_of_none e nl2
          have e5 := k5 c o (k4 c o e f) f
          rw [upd_ne nc, upd_ne nc]
          exact same_new nt _ _ e5
        · obtain ⟨y4, y5, xs, rfl, ho4, hl4, D4, k4⟩ := hP
          exact ⟨_, rfl, q xs l2 H4 ho4 nl2 hl4 nf2 D4 k4⟩
end
end Fo
namespace Fo
open PySem PySem.Spec PyProof.Rows L2
/-! ### whole numbers, orders -/
def spWhole : Sp := fun vs H Q _ => ∃ i : Int, vs = [.int i] ∧ Q (.bl true) H
def spIsOrd : Sp := fun vs H Q _ => ∃ (a : Addr) (n : Nat) (ns : List Int), vs = [.ref a] ∧ H a = some (.lst (ns.map V.int)) ∧ IsOrd n ns ∧ 1 ≤ n ∧ n ≤ 12 ∧ ∀ H', Same H H' → Q (.bl true) H'
def spCheck : Sp := fun vs H Q _ => ∃ (a : Addr) (n : Nat) (ns : List Int), vs = [.ref a] ∧ H a = some (.lst (ns.map V.int)) ∧ IsOrd n ns ∧ 1 ≤ n ∧ n ≤ 12 ∧ ∀ H', Same H H' → Q .non H'
section
variable {P : Program} {w : World} {K : PySem.W.Frag} {mg : Str → Option Value} {base : Heap}
theorem scWhole : FnScope ["thing"] ["thing"] (defScope s_is_whole) := ⟨rfl, rfl, rfl, by decide +kernel, rfl, by decide +kernel, by decide +kernel⟩
theorem ok_whole {f : Addr} {fd : FuncData} {k : Nat} (T : Df K mg "is_whole" s_is_whole ["thing"] f fd) (B : Bi mg) : FnOk P w K mg base CX0 (k + 1) f fd ["thing"] spWhole := by
  refine T.F.ok scWhole (fun vs H Q E h => ?_) (fun cdv A outer s H vs Q E hr h => ?_)
  · obtain ⟨i, rfl, _⟩ := h
    rfl
  · obtain ⟨i, rfl, q⟩ := h
    refine ⟨_, pss_one (ps_ret (pe_and (pe_callB call_isi (by rfl) B.isinstance (by decide +kernel) (pa_cons (pv 0) (pa_cons (pe_bltn (v := .ty "int") (by rfl) B.int (by decide +kernel) rfl) pa_nil)))
      (pe_one (pe_not (pe_callB call_isi (by rfl) B.isinstance (by decide +kernel) (pa_cons (pv 0) (pa_cons (pe_bltn (v := .ty "bool") (by rfl) B.bool (by decide +kernel) rfl) pa_nil))))))), ?_⟩
    refine ⟨_, rfl, _, _, _, _, true, rfl, .ty _, .base (.int _), kit_ty (by decide +kernel), true, rfl, iteT ?_⟩
    exact ⟨_, rfl, _, _, _, _, false, rfl, .ty _, .base (.int _), kit_ty (by decide +kernel), false, rfl, q⟩
theorem scIsOrd : FnScope ["thing", "number"] ["thing"] (defScope s_is_order) := ⟨rfl, rfl, rfl, by decide +kernel, rfl, by decide +kernel, by decide +kernel⟩
theorem all_true (n : Nat) : (List.replicate n true).all id = true := by simp
set_option maxHeartbeats 2000000 in
theorem ok_is_order {f fW : Addr} {fd fdW : FuncData} {k : Nat} {t : Tok} (T : Df K mg "is_order" s_is_order ["thing"] f fd) (TW : Df K mg "is_whole" s_is_whole ["thing"] fW fdW) (B : Bi mg) (mM : mg "MOST_THINGS" = some (.int 12 t)) : FnOk P w K mg base CX0 (k + 2) f fd ["thing"] spIsOrd := by
  have GW : FnOk P w K mg base CX0 (k + 1) fW fdW ["thing"] spWhole := ok_whole TW B
  refine T.F.ok scIsOrd (fun vs H Q E h => ?_) (fun cdv A outer s H vs Q E hr h => ?_)
  · obtain ⟨a, n, ns, rfl, _⟩ := h
    rfl
  · obtain ⟨a, n, ns, rfl, hl, ho, hn1, hn2, q⟩ := h
    have hlm : (ns.map V.int).length = n := by rw [List.length_map, ho.len]
    refine ⟨_, pss_cons (ps_if (PW.pt (pw_or (pt_not (pt_val (pe_callB call_isi (by rfl) B.isinstance (by decide +kernel) (pa_cons (pv 0) (pa_cons (pe_bltn (v := .ty "list") (by rfl) B.list (by decide +kernel) rfl) pa_nil)))))
        (pw_or (pt_cmpR op_lt (pe_callB call_len_seq (by rfl) B.len PySem.boot_len (pa_cons (pv 0) pa_nil)) pe_int (nomark _)) (pw_or1 (pt_cmpR op_gt (pe_callB call_len_seq (by rfl) B.len PySem.boot_len (pa_cons (pv 0) pa_nil)) (pe_glob (v := .int 12) (by rfl) mM ⟨_, rfl⟩) (nomark _))))))
        (pss_one (ps_ret pe_bl)) pss_nil)
      (pss_cons (ps_if (pt_not (pt_val (pe_callB (cr_all rfl) (by rfl) B.all (by decide +kernel) (pa_cons (pe_lc (own := [("number", 1)]) (g := gName 1) (tt := tYes) (te := tCall spWhole [] E0 (tCons (tVar 1) tNil)) rfl scIsOrd.nd (pi_list (pv 0)) (blkOk_by (N := ["thing", "number"]) (sc := defScope s_is_order) (by decide +kernel)) (fun _ _ _ _ _ => pg_name (i := 1) scIsOrd.nd rfl (.inl rfl)) (fun _ _ _ _ _ => pts_nil)
          (fun _ _ _ _ _ => pe_call GW hr (by rfl) TW.g TW.F.kp TW.b .nil pass0 (pa_cons (pv 1) pa_nil))) pa_nil)))) (pss_one (ps_ret pe_bl)) pss_nil)
      (pss_one (ps_ret (pe_cmpR (op_eqD hr.units) (pe_callB cr_sorted (by rfl) B.sorted (by decide +kernel) (pa_cons (pv 0) pa_nil)) (pe_listRg rfl (by rfl) B.list (prg_1 (by rfl) B.range (pe_callB call_len_seq (by rfl) B.len PySem.boot_len (pa_cons (pv 0) pa_nil)))) (nomark _))))), ?_⟩
    refine ⟨_, rfl, _, _, _, _, true, rfl, .ty _, .base (.lst hl), kit_ty (by decide +kernel), true, rfl, iteF ?_⟩
    refine ⟨_, rfl, a, _, rfl, .inl (SqL.of hl), _, 1, rfl, rfl, _, rfl, ite2 (fun c => absurd (of_decide_eq_true c) (by rw [hlm]; omega)) (fun _ => ?_)⟩
    refine ⟨_, rfl, a, _, rfl, .inl (SqL.of hl), _, 12, rfl, rfl, _, rfl, ite2 (fun c => absurd (of_decide_eq_true c) (by rw [hlm]; omega)) (fun _ => ?_)⟩
    refine ⟨_, rfl, a, rfl, ⟨_, SqL.of hl⟩, fun p np => ?_⟩
    refine lc_list (K := K) (a := a) (xs := ns.map V.int) (fun i H3 => H3 p = some (.lst ((List.replicate i true).map V.bl)) ∧ Same H H3) ⟨upd_same, same_new np⟩ (fun i H3 _ hP => SqL.of (hP.2 _ _ hl)) (fun i x H3 hx hP => ?_) (fun H3 hP => ?_)
    · obtain ⟨y, ey, rfl⟩ := int_at_inv hx
      obtain ⟨hp3, sm⟩ := hP
      refine ⟨rfl, _, rfl, y, rfl, _, hp3, line_lt (by
        rw [List.length_map, List.length_replicate]
        have := (List.getElem?_eq_some_iff.mp hx).1
        omega), ?_, fun b o e => ?_⟩
      · rw [upd_same, List.replicate_succ', List.map_append]
        rfl
      · rw [upd_ne (ne_of_none e np)]
        exact sm _ _ e
    · obtain ⟨hp3, sm⟩ := hP
      have hl3 := sm _ _ hl
      refine ⟨p, _, rfl, SqL.of hp3, _, rfl, ?_⟩
      rw [all_true]
      refine iteF ?_
      refine ⟨_, rfl, a, ns, rfl, SqL.of hl3, by rw [ho.len]; omega, fun ns' s1 hperm hsrt ns1 => ?_⟩
      have hl4 := same_new (o := .lst (ns'.map V.int)) ns1 _ _ hl3
      refine ⟨_, rfl, a, _, rfl, .inl (SqL.of hl4), _, rfl, RgOk.of_le (by omega) (by rw [hlm]; omega) (by omega) (by omega), fun s2 ns2 => ?_⟩
      have e1 : ns' = rg n := sorted_eq (hperm.trans ho) hsrt (rg_sorted n)
      subst e1
      rw [hlm]
      have h1 : (upd (upd H3 s1 (.lst ((rg n).map V.int))) s2 (.lst (rgV 0 (n : Int)))) s1 = some (.lst ((rg n).map V.int)) := same_new ns2 _ _ upd_same
      have h2 : (upd (upd H3 s1 (.lst ((rg n).map V.int))) s2 (.lst (rgV 0 (n : Int)))) s2 = some (.lst ((rg n).map V.int)) := by rw [upd_same, rg_V]
      refine ⟨_, _, dp_list h1, dp_list h2, shaped_list _, shaped_list _, ?_⟩
      rw [eqv_list]
      exact q _ ((sm.trans (same_new ns1)).trans (same_new ns2))
theorem scCheck : FnScope ["thing"] ["thing"] (defScope s_check_order) := ⟨rfl, rfl, rfl, by decide +kernel, rfl, by decide +kernel, by decide +kernel⟩
theorem ok_check {f fO fW : Addr} {fd fdO fdW : FuncData} {k : Nat} {t : Tok} (T : Df K mg "check_order" s_check_order ["thing"] f fd) (TO : Df K mg "is_order" s_is_order ["thing"] fO fdO) (TW : Df K mg "is_whole" s_is_whole ["thing"] fW fdW) (B : Bi mg) (mM : mg "MOST_THINGS" = some (.int 12 t)) : FnOk P w K mg base CX0 (k + 3) f fd ["thing"] spCheck := by
  have GO : FnOk P w K mg base CX0 (k + 2) fO fdO ["thing"] spIsOrd := ok_is_order TO TW B mM
  refine T.F.ok scCheck (fun vs H Q E h => ?_) (fun cdv A outer s H vs Q E hr h => ?_)
  · obtain ⟨a, n, ns, rfl, _⟩ := h
    rfl
  · obtain ⟨a, n, ns, rfl, hl, ho, hn1, hn2, q⟩ := h
    refine ⟨_, pss_one (ps_if (pt_not (pt_val (pe_call GO hr (by rfl) TO.g TO.F.kp TO.b .nil pass0 (pa_cons (pv 0) pa_nil)))) (pss_one ps_never) pss_nil), ?_⟩
    exact ⟨_, rfl, a, n, ns, rfl, hl, ho, hn1, hn2, fun H' sm => ⟨_, rfl, iteF (q H' sm)⟩⟩
end
end Fo
namespace Fo
open PySem PySem.Spec PyProof.Rows L2
theorem ins_perm (xs : List Int) (k : Nat) (y : Int) : (xs.take k ++ [y] ++ xs.drop k).Perm (y :: xs) := by
  rw [List.append_assoc]
  have h1 : (xs.take k ++ ([y] ++ xs.drop k)).Perm ([y] ++ (xs.take k ++ xs.drop k)) := by
    rw [← List.append_assoc, ← List.append_assoc]
    exact List.Perm.append_right _ List.perm_append_comm
  rw [List.take_append_drop] at h1
  exact h1
theorem set2_perm {xs : List Int} {p q : Nat} {a b : Int} (ha : xs[p]? = some a) (hb : xs[q]? = some b) : ((xs.set p b).set q a).Perm xs := by
  obtain ⟨h1, e1⟩ := List.getElem?_eq_some_iff.mp ha
  obtain ⟨h2, e2⟩ := List.getElem?_eq_some_iff.mp hb
  rw [← e1, ← e2]
  exact List.set_set_perm h1 h2
theorem set2_V (xs : List Int) (p q : Nat) (a b : Int) : ((xs.map V.int).set p (V.int b)).set q (V.int a) = ((xs.set p b).set q a).map V.int := by
  rw [List.map_set, List.map_set]
def spNear : Sp := fun vs H Q _ => ∃ (D : Dk) (o : Addr) (n : Nat) (ns : List Int), vs = [.ref D.d, .ref o] ∧ DkAt H D ∧ H o = some (.lst (ns.map V.int)) ∧ IsOrd n ns ∧ 1 ≤ n ∧ n ≤ 12 ∧
  ∀ (ms : List Int) (l : Addr) (H' : Hp), IsOrd n ms → H l = none → H' l = some (.lst (ms.map V.int)) → ¬ D.Foot l → DkAt H' D → Keep D H H' → Q (.ref l) H'
theorem keep_none {D : Dk} {H H1 : Hp} (k : Keep D H H1) {p : Addr} (np : H1 p = none) (nf : ¬ D.Foot p) : H p = none := by
  cases e : H p with
  | none => rfl
  | some o =>
    have z := k p o e nf
    rw [np] at z
    cases z
section
variable {P : Program} {w : World} {K : PySem.W.Frag} {mg : Str → Option Value} {base : Heap}
theorem scNear : FnScope ["deck", "order", "found", "n", "way", "thing", "k", "p", "q"] ["deck", "order"] (defScope s_law_near) := ⟨rfl, rfl, rfl, by decide +kernel, rfl, by decide +kernel, by decide +kernel⟩
set_option maxHeartbeats 4000000 in
theorem ok_near {f fD fO : Addr} {fd fdD fdO : FuncData} {k : Nat} (T : Df K mg "_law_near" s_law_near ["deck", "order"] f fd) (T__law_draw : Df K mg "_law_draw" s_law_draw ["deck", "many"] fD fdD) (T__law_order : Df K mg "_law_order" s_law_order ["deck", "n"] fO fdO) (B : Bi mg) : FnOk P w K mg base CX0 (k + 3) f fd ["deck", "order"] spNear := by
  have G__law_draw : FnOk P w K mg base CX0 (k + 2) fD fdD ["deck", "many"] spDraw := ok_draw (k := k + 1) T__law_draw B
  have G__law_order : FnOk P w K mg base CX0 (k + 2) fO fdO ["deck", "n"] spOrder := ok_order T__law_order T__law_draw B
  refine T.F.ok scNear (fun vs H Q E h => ?_) (fun cdv A outer s H vs Q E hr h => ?_)
  · obtain ⟨D, o, n, ns, rfl, _⟩ := h
    rfl
  · obtain ⟨D, o, n, ns, rfl, hD, h0, ho, hn1, hn2, q⟩ := h
    have hlm : (ns.map V.int).length = n := by rw [List.length_map, ho.len]
    refine ⟨_, 
      (pss_cons (ps_set (i := 2) scNear.nd rfl (.inl rfl) (pe_callTy call_list_of (by rfl) B.list (by decide +kernel) (pa_cons (pv 1) pa_nil)))
      (pss_cons (ps_set (i := 3) scNear.nd rfl (.inl rfl) (pe_callB call_len_seq (by rfl) B.len PySem.boot_len (pa_cons (pv 1) pa_nil)))
      (pss_cons (ps_set (i := 4) scNear.nd rfl (.inl rfl) (pe_call G__law_draw hr (by rfl) T__law_draw.g T__law_draw.F.kp T__law_draw.b .nil pass0 (pa_cons (pv 0) (pa_cons pe_int pa_nil))))
      (pss_cons (ps_if (pt_cmpR op_eq (pv 4) pe_int (nomark _))
        (pss_one (ps_ret (pe_call G__law_order hr (by rfl) T__law_order.g T__law_order.F.kp T__law_order.b .nil pass0 (pa_cons (pv 0) (pa_cons (pv 3) pa_nil)))))
        pss_nil)
      (pss_cons (ps_if (pt_cmpR op_eq (pv 4) pe_int (nomark _))
        (pss_one (ps_ret (pe_revL (pv 2))))
        pss_nil)
      (pss_cons (ps_if (pt_cmpR op_eq (pv 4) pe_int (nomark _))
        (pss_cons (ps_set (i := 5) scNear.nd rfl (.inl rfl) (pe_bm PySem.F.plainAttrs_list PySem.F.slot_list_pop PySem.F.type_list_pop mt_popAt (pv 2) (pa_cons (pe_call G__law_draw hr (by rfl) T__law_draw.g T__law_draw.F.kp T__law_draw.b .nil pass0 (pa_cons (pv 0) (pa_cons (pv 3) pa_nil))) pa_nil)))
        (pss_cons (ps_expr (pe_bm PySem.F.plainAttrs_list PySem.F.slot_list_insert PySem.F.type_list_insert mt_insert (pv 2) (pa_cons (pe_call G__law_draw hr (by rfl) T__law_draw.g T__law_draw.F.kp T__law_draw.b .nil pass0 (pa_cons (pv 0) (pa_cons (pv 3) pa_nil))) (pa_cons (pv 5) pa_nil))))
        (pss_one (ps_ret (pv 2)))))
        pss_nil)
      (pss_cons (ps_for PassesOwn.never rfl (pi_range1 (by rfl) B.range (pa_cons (pe_call G__law_draw hr (by rfl) T__law_draw.g T__law_draw.F.kp T__law_draw.b .nil pass0 (pa_cons (pv 0) (pa_cons pe_int pa_nil))) pa_nil)) (pg_name (i := 6) scNear.nd rfl (.inl rfl))
        (pss_cons (ps_set (i := 7) scNear.nd rfl (.inl rfl) (pe_call G__law_draw hr (by rfl) T__law_draw.g T__law_draw.F.kp T__law_draw.b .nil pass0 (pa_cons (pv 0) (pa_cons (pv 3) pa_nil))))
        (pss_cons (ps_set (i := 8) scNear.nd rfl (.inl rfl) (pe_ix ix_list (pe_lst (pa_cons (pe_call G__law_draw hr (by rfl) T__law_draw.g T__law_draw.F.kp T__law_draw.b .nil pass0 (pa_cons (pv 0) (pa_cons (pv 3) pa_nil))) (pa_cons (pe_callB (call_min2 rfl) (by rfl) B.min (by decide +kernel) (pa_cons (pe_op op_sub (pv 3) pe_int) (pa_cons (pe_op op_add (pv 7) pe_int) pa_nil))) pa_nil))) (pe_op op_sub (pv 4) pe_int) (fun _ _ => rfl)))
        (pss_one (ps_asg (pe_tup (pa_cons (pe_ix ix_list (pv 2) (pv 8) (fun _ _ => rfl)) (pa_cons (pe_ix ix_list (pv 2) (pv 7) (fun _ _ => rfl)) pa_nil))) (pg_tup (by rfl) (pgs_cons (pg_sub (pv 2) (pv 7) set_list) (pgs_cons (pg_sub (pv 2) (pv 8) set_list) pgs_nil))))))))
      (pss_one (ps_ret (pv 2)))))))))), ?_⟩
    -- found = list(order); n = len(order)
    refine ⟨_, rfl, o, _, rfl, .inl (SqL.of h0), fun l nl => ?_⟩
    have s0 := same_new (o := .lst (ns.map V.int)) nl
    refine ⟨_, rfl, o, _, rfl, .inl (SqL.of (s0 _ _ h0)), ?_⟩
    have D0 := hD.new (o := .lst (ns.map V.int)) nl
    have nf := hD.notFoot nl
    -- way
    refine ⟨_, rfl, D, 5, rfl, D0, by decide, by decide, fun way H1 w0 w1 D1 k1 => ?_⟩
    have hl1 := k1 l _ upd_same nf
    have kk1 : Keep D H H1 := (Keep.of_same s0).trans k1
    -- way == 0
    refine ⟨_, rfl, rfl, _, rfl, ite2 (fun _ => ?_) (fun z0 => ?_)⟩
    · refine ⟨_, rfl, _, rfl, D, n, by rw [hlm]; rfl, D1, hn1, hn2, fun ms l2 H2 o2 n2 h2 f2 D2 k2 => ?_⟩
      exact q ms l2 H2 o2 (keep_none kk1 n2 f2) h2 f2 D2 (kk1.trans k2)
    -- way == 1
    refine ⟨_, rfl, rfl, _, rfl, ite2 (fun _ => ?_) (fun z1 => ?_)⟩
    · refine ⟨_, rfl, l, _, rfl, SqL.of hl1, fun p np => ?_⟩
      exact q ns.reverse p _ ((List.reverse_perm ns).trans ho) (keep_none kk1 np (D1.notFoot np)) (by rw [upd_same, List.map_reverse]) (D1.notFoot np) (D1.new np) (kk1.trans (Keep.new np))
    -- way == 2
    refine ⟨_, rfl, rfl, _, rfl, ite2 (fun _ => ?_) (fun z2 => ?_)⟩
    · refine ⟨_, rfl, .inl ⟨rfl, _, SqL.of hl1⟩, _, rfl, _, rfl, D, n, by rw [hlm]; rfl, D1, by omega, by omega, fun v H2 v0 v1 D2 k2 => ?_⟩
      have hl2 := k2 l _ hl1 nf
      obtain ⟨y, ey⟩ : ∃ y, ns[v.toNat]? = some y := ⟨ns[v.toNat]'(by rw [ho.len]; omega), List.getElem?_eq_getElem (by rw [ho.len]; omega)⟩
      refine ⟨l, _, v, v.toNat, _, rfl, rfl, hl2, by omega, by omega, seq_ix (by omega) (by rw [hlm]; omega), int_at ey, ?_⟩
      have D3 := D2.upd (o := .lst ((ns.map V.int).eraseIdx v.toNat)) nf
      refine ⟨_, rfl, .inl ⟨rfl, _, SqL.of upd_same⟩, _, rfl, _, rfl, D, n, by rw [hlm]; rfl, D3, by omega, by omega, fun u H4 u0 u1 D4 k4 => ?_⟩
      have hl4 := k4 l _ upd_same nf
      refine ⟨_, rfl, l, _, _, _, rfl, rfl, hl4, line_lt (by rw [map_erase, List.length_map, List.length_eraseIdx, ho.len]; split <;> omega), by omega, by omega, ?_⟩
      have nHl : H l = none := nl
      refine ⟨_, rfl, q ((ns.eraseIdx v.toNat).take u.toNat ++ [y] ++ (ns.eraseIdx v.toNat).drop u.toNat) l _ (((ins_perm _ _ _).trans (pop_perm ey)).trans ho) nHl ?_ nf (D4.upd nf) fun c x e f => ?_⟩
      · rw [upd_same, map_erase, List.map_append, List.map_append, List.map_take, List.map_drop]
        rfl
      · have nc : c ≠ l := ne_of_none e nl
        have e2 := k2 c x (kk1 c x e f) f
        rw [upd_ne nc]
        exact k4 c x (by rw [upd_ne nc]; exact e2) f
    -- the loop
    have hw : way = 3 ∨ way = 4 := by
      have a0 : way ≠ 0 := fun e => by subst e; exact z0 (decide_eq_true rfl)
      have a1 : way ≠ 1 := fun e => by subst e; exact z1 (decide_eq_true rfl)
      have a2 : way ≠ 2 := fun e => by subst e; exact z2 (decide_eq_true rfl)
      omega
    refine ⟨_, rfl, D, 5, rfl, D1, by decide, by decide, fun v H2 v0 v1 D2 k2 => ⟨v, rfl, by omega, by omega, ?_⟩⟩
    refine for_range (n := v.toNat) (fun i σ H3 => ∃ (y5 y6 y7 y8 : Option V) (xs : List Int), σ = [some (.ref D.d), some (.ref o), some (.ref l), some (.int n), some (.int way), y5, y6, y7, y8] ∧ IsOrd n xs ∧ H3 l = some (.lst (xs.map V.int)) ∧ DkAt H3 D ∧ Keep D H H3)
      ⟨none, none, none, none, ns, by rw [hlm]; rfl, ho, k2 l _ hl1 nf, D2, kk1.trans k2⟩ (fun i σ H3 hi hP => ?_) (fun σ H3 hP => ?_)
    · obtain ⟨y5, y6, y7, y8, xs, rfl, o3, hl3, D3, k3⟩ := hP
      have hxl := o3.len
      refine ⟨_, rfl, _, rfl, D, n, rfl, D3, by omega, by omega, fun p H4 p0 p1 D4 k4 => ?_⟩
      have hl4 := k4 l _ hl3 nf
      refine ⟨_, rfl, _, rfl, D, n, rfl, D4, by omega, by omega, fun u H5 u0 u1 D5 k5 => ?_⟩
      have hl5 := k5 l _ hl4 nf
      refine ⟨_, rfl, (n : Int), 1, rfl, rfl, _, rfl, p, 1, rfl, rfl, _, _, rfl, line_small (by show 2 ≤ 16777216; decide), fun t nt => ?_⟩
      have s6 := same_new (o := .lst [.int u, .int (if p + 1 < (n : Int) - 1 then p + 1 else (n : Int) - 1)]) nt
      obtain ⟨z, ez, z0, z1⟩ : ∃ z : Int, atI [V.int u, V.int (if p + 1 < (n : Int) - 1 then p + 1 else (n : Int) - 1)] (way - 3) = some (.int z) ∧ 0 ≤ z ∧ z < n := by
        rcases hw with rfl | rfl
        · exact ⟨u, rfl, u0, u1⟩
        · refine ⟨_, rfl, ?_, ?_⟩ <;> split <;> omega
      refine ⟨_, rfl, way, 3, rfl, rfl, t, _, _, _, rfl, rfl, SqL.of upd_same, ez, ?_⟩
      obtain ⟨a, ea⟩ : ∃ a, xs[p.toNat]? = some a := ⟨xs[p.toNat]'(by omega), List.getElem?_eq_getElem (by omega)⟩
      obtain ⟨b, eb⟩ : ∃ b, xs[z.toNat]? = some b := ⟨xs[z.toNat]'(by omega), List.getElem?_eq_getElem (by omega)⟩
      have hl6 := s6 _ _ hl5
      refine ⟨_, rfl, _, rfl, l, _, _, _, rfl, rfl, SqL.of hl6, at_of (j := z.toNat) (by omega) (int_at eb), _, rfl, _, rfl, l, _, _, _, rfl, rfl, SqL.of hl6, at_of (j := p.toNat) (by omega) (int_at ea), line_small (by show 2 ≤ 16777216; decide), fun t2 nt2 => ?_⟩
      have hl7 := same_new (o := .tup [.int b, .int a]) nt2 _ _ hl6
      refine ⟨t2, _, rfl, .inl (.inl upd_same), rfl, _, _, rfl, _, rfl, _, rfl, l, _, _, p.toNat, rfl, rfl, hl7, ix_n (by omega) (by rw [List.length_map]; omega), ?_⟩
      refine ⟨_, _, rfl, _, rfl, _, rfl, l, _, _, z.toNat, rfl, rfl, upd_same, ix_n (by omega) (by rw [List.length_set, List.length_map]; omega), ?_⟩
      refine ⟨rfl, _, _, _, _, (xs.set p.toNat b).set z.toNat a, rfl, (set2_perm ea eb).trans o3, by rw [upd_same, set2_V], (((D5.new nt).new nt2).upd nf).upd nf, fun c x e f => ?_⟩
      have nc : c ≠ l := ne_of_none e nl
      rw [upd_ne nc, upd_ne nc]
      exact same_new nt2 _ _ (s6 _ _ (k5 c x (k4 c x (k3 c x e f) f) f))
    · obtain ⟨y5, y6, y7, y8, xs, rfl, o3, hl3, D3, k3⟩ := hP
      exact ⟨_, rfl, q xs l H3 o3 nl hl3 nf D3 k3⟩
end
end Fo
namespace Fo
open PySem PySem.Spec PyProof.Rows L2
/-- a loop over enumerate of a list that stands still -/
theorem for_enumL {K : PySem.W.Frag} {a : Addr} {xs : List V} {g : TG} {tb : TS} {D : Ends} {σ : L2.St} {H : Hp} (Pv : Nat → L2.St → Hp → Prop) (h0 : Pv 0 σ H) (hq : ∀ i σ H, Pv i σ H → SqL K H a xs)
    (hs : ∀ (i : Nat) (x : V) (T : Addr) (σ : L2.St) (H : Hp), xs[i]? = some x → Pv i σ H → H T = none → g (.ref T) σ (upd H T (.tup [.int (i : Nat), x])) fun σ2 H2 => tb { D with nx := Pv (i + 1), ct := Pv (i + 1), bk := D.nx } σ2 H2) (hd : ∀ σ H, Pv xs.length σ H → D.nx σ H) :
    ∃ W : Nat → Nat → L2.St → Hp → Prop, (∃ m, W 0 m σ H) ∧ ∀ i m σ H, W i m σ H →
      ((Ite K a).stop i H ∧ D.nx σ H) ∨ ((Ite K a).go i H ∧ ∃ N : L2.St → Hp → Prop, (∀ σ' H', N σ' H' → ∃ m', m' < m ∧ W (i + 1) m' σ' H') ∧ ∀ v H', (Ite K a).yld i H v H' → g v σ H' fun σ2 H2 => tb { D with nx := N, ct := N, bk := D.nx } σ2 H2) := by
  refine ⟨fun i m σ H => m = xs.length - i ∧ i ≤ xs.length ∧ Pv i σ H, ⟨xs.length, rfl, Nat.zero_le _, h0⟩, ?_⟩
  rintro i m σ H ⟨rfl, hi, p⟩
  have qx := hq i σ H p
  by_cases hlt : i < xs.length
  · have hx : xs[i]? = some xs[i] := List.getElem?_eq_getElem hlt
    refine .inr ⟨⟨xs, _, qx, hx⟩, Pv (i + 1), fun σ' H' p' => ⟨xs.length - (i + 1), by omega, rfl, hlt, p'⟩, fun v H' y => ?_⟩
    obtain ⟨T, x', rfl, hT, rfl, f1⟩ := y
    exact hs i x' T σ H (f1 xs qx) p hT
  · have e : i = xs.length := by omega
    subst e
    exact .inl ⟨⟨xs, qx, Nat.le_refl _⟩, hd σ H p⟩
/-- a comprehension over enumerate of a list that stands still -/
theorem lc_enumL {K : PySem.W.Frag} {a : Addr} {xs : List V} {g : TG} {tt : TT} {te : TE} {vs : List Nat} {σ : L2.St} {H1 : Hp} {D : Addr} {Qd : Hp → Prop} (Pv : Nat → Hp → Prop) (h0 : Pv 0 (upd H1 D (.lst []))) (hl : ∀ i H, i ≤ xs.length → Pv i H → SqL K H a xs)
    (hs : ∀ (i : Nat) (x : V) (T : Addr) (H : Hp), xs[i]? = some x → Pv i H → H T = none → g (.ref T) (wipe σ vs) (upd H T (.tup [.int (i : Nat), x])) fun σ2 H2 => wipe σ2 vs = wipe σ vs ∧ tt σ2 H2 fun b H3 =>
      if b = true then te σ2 H3 fun y H4 => ∃ acc, H4 D = some (.lst acc) ∧ acc.length < sizeLine ∧ Pv (i + 1) (upd H4 D (.lst (acc ++ [y]))) else Pv (i + 1) H3) (hd : ∀ H, Pv xs.length H → Qd H) :
    ∃ W : Nat → Nat → Hp → Prop, (∃ m, W 0 m (upd H1 D (.lst []))) ∧ ∀ i m H, W i m H →
      ((Ite K a).stop i H ∧ Qd H) ∨ ((Ite K a).go i H ∧ ∃ Nx : Hp → Prop, (∀ H', Nx H' → ∃ m', m' < m ∧ W (i + 1) m' H') ∧ ∀ x H', (Ite K a).yld i H x H' → g x (wipe σ vs) H' fun σ2 H2 => wipe σ2 vs = wipe σ vs ∧ tt σ2 H2 fun b H3 =>
        if b = true then te σ2 H3 fun y H4 => ∃ acc, H4 D = some (.lst acc) ∧ acc.length < sizeLine ∧ Nx (upd H4 D (.lst (acc ++ [y]))) else Nx H3) := by
  refine ⟨fun i m H => m = xs.length - i ∧ i ≤ xs.length ∧ Pv i H, ⟨xs.length, by simp, Nat.zero_le _, h0⟩, ?_⟩
  rintro i m H ⟨rfl, hi, p⟩
  have q := hl i H hi p
  by_cases hlt : i < xs.length
  · refine .inr ⟨⟨xs, xs[i], q, by simp [hlt]⟩, Pv (i + 1), fun H' p' => ⟨xs.length - (i + 1), by omega, rfl, hlt, p'⟩, fun x H' y => ?_⟩
    obtain ⟨T, x', rfl, hT, rfl, f1⟩ := y
    exact hs i x' T H (f1 xs q) p hT
  · have e : i = xs.length := by omega
    subst e
    exact .inl ⟨⟨xs, q, Nat.le_refl _⟩, hd H p⟩
/-! ### the back of an order -/
def IsBack (ns ps : List Int) : Prop := ps.length = ns.length ∧ ∀ (j : Nat) (x : Int), ns[j]? = some x → ps[x.toNat]? = some (j : Int)
theorem ord_at {n : Nat} {ns : List Int} (o : IsOrd n ns) {t : Nat} (h : t < n) : ∃ j : Nat, j < n ∧ ns[j]? = some (t : Int) := by
  have m : (t : Int) ∈ ns := (List.Perm.mem_iff o).mpr (rg_mem.mpr ⟨by omega, by omega⟩)
  obtain ⟨j, hj⟩ := List.mem_iff_getElem?.mp m
  exact ⟨j, by have := (List.getElem?_eq_some_iff.mp hj).1; rw [o.len] at this; exact this, hj⟩
theorem ord_ix {n : Nat} {ns : List Int} (o : IsOrd n ns) {j : Nat} (h : j < n) : ∃ x : Int, ns[j]? = some x ∧ 0 ≤ x ∧ x < n := by
  have hj : j < ns.length := by rw [o.len]; exact h
  exact ⟨ns[j], List.getElem?_eq_getElem hj, o.mem (List.getElem_mem hj)⟩
theorem back_eq {n : Nat} {ns a b : List Int} (o : IsOrd n ns) (ha : IsBack ns a) (hb : IsBack ns b) : a = b := by
  apply List.ext_getElem?
  intro t
  by_cases h : t < n
  · obtain ⟨j, _, hj⟩ := ord_at o h
    have h1 := ha.2 j _ hj
    have h2 := hb.2 j _ hj
    rw [Int.toNat_natCast] at h1 h2
    rw [h1, h2]
  · rw [List.getElem?_eq_none (by rw [ha.1, o.len]; omega), List.getElem?_eq_none (by rw [hb.1, o.len]; omega)]
def behindL (ns ms : List Int) : List Int := ms.map fun p => ns.getD p.toNat 0
theorem behind_at {ns ms : List Int} {i : Nat} {p x : Int} (hp : ms[i]? = some p) (hx : ns[p.toNat]? = some x) : (behindL ns ms)[i]? = some x := by
  unfold behindL
  rw [List.getElem?_map, hp]
  show some (ns.getD p.toNat 0) = some x
  rw [List.getD_eq_getElem?_getD, hx]
  rfl
theorem behind_len (ns ms : List Int) : (behindL ns ms).length = ms.length := by
  unfold behindL
  rw [List.length_map]
theorem take_more {l : List Int} {i : Nat} {x : Int} (h : l[i]? = some x) : l.take (i + 1) = l.take i ++ [x] := by
  rw [List.take_add_one, h]
  rfl
theorem flat_ints : ∀ ns : List Int, (ns.map V.int).all flatV = true
  | [] => rfl
  | n :: r => by
    show (flatV (V.int n) && (r.map V.int).all flatV) = true
    rw [flat_ints r]
    rfl
theorem eqV_int (i j : Int) : eqV (.int i) (.int j) = (i == j) := rfl
end Fo
namespace Fo
open PySem PySem.Spec PyProof.Rows L2
def spChecks : Sp := fun vs H Q _ => ∃ (a b : Addr) (n m : Nat) (ns ms : List Int), vs = [.ref a, .ref b] ∧ H a = some (.lst (ns.map V.int)) ∧ H b = some (.lst (ms.map V.int)) ∧ IsOrd n ns ∧ 1 ≤ n ∧ n ≤ 12 ∧ IsOrd m ms ∧ 1 ≤ m ∧ m ≤ 12 ∧ ∀ H', Same H H' → Q .non H'
def spFit : Sp := fun vs H Q _ => ∃ (a b : Addr) (ns ms : List Int), vs = [.ref a, .ref b] ∧ H a = some (.lst (ns.map V.int)) ∧ H b = some (.lst (ms.map V.int)) ∧ ns.length = ms.length ∧ Q .non H
def spPlaces : Sp := fun vs H Q _ => ∃ (a : Addr) (n : Nat) (ns : List Int), vs = [.ref a] ∧ H a = some (.lst (ns.map V.int)) ∧ IsOrd n ns ∧ 1 ≤ n ∧ n ≤ 12 ∧
  ∀ (ps : List Int) (l : Addr) (H' : Hp), IsBack ns ps → H l = none → H' l = some (.lst (ps.map V.int)) → Same H H' → Q (.ref l) H'
def spBehind : Sp := fun vs H Q _ => ∃ (a b : Addr) (n : Nat) (ns ms : List Int), vs = [.ref a, .ref b] ∧ H a = some (.lst (ns.map V.int)) ∧ H b = some (.lst (ms.map V.int)) ∧ IsOrd n ns ∧ IsOrd n ms ∧ 1 ≤ n ∧ n ≤ 12 ∧
  ∀ (l : Addr) (H' : Hp), H l = none → H' l = some (.lst ((behindL ns ms).map V.int)) → Same H H' → Q (.ref l) H'
section
variable {P : Program} {w : World} {K : PySem.W.Frag} {mg : Str → Option Value} {base : Heap}
theorem scChecks : FnScope ["one", "other"] ["one", "other"] (defScope s_check_orders) := ⟨rfl, rfl, rfl, by decide +kernel, rfl, by decide +kernel, by decide +kernel⟩
theorem ok_checks {f fC : Addr} {fd fdC : FuncData} {k : Nat} (T : Df K mg "check_orders" s_check_orders ["one", "other"] f fd) (T_check_order : Df K mg "check_order" s_check_order ["thing"] fC fdC) (G_check_order : FnOk P w K mg base CX0 k fC fdC ["thing"] spCheck) : FnOk P w K mg base CX0 (k + 1) f fd ["one", "other"] spChecks := by
  refine T.F.ok scChecks (fun vs H Q E h => ?_) (fun cdv A outer s H vs Q E hr h => ?_)
  · obtain ⟨a, b, n, m, ns, ms, rfl, _⟩ := h
    rfl
  · obtain ⟨a, b, n, m, ns, ms, rfl, ha, hb, o1, n1, n2, o2, m1, m2, q⟩ := h
    refine ⟨_, 
      (pss_cons (ps_expr (pe_call G_check_order hr (by rfl) T_check_order.g T_check_order.F.kp T_check_order.b .nil pass0 (pa_cons (pv 0) pa_nil)))
      (pss_one (ps_expr (pe_call G_check_order hr (by rfl) T_check_order.g T_check_order.F.kp T_check_order.b .nil pass0 (pa_cons (pv 1) pa_nil))))), ?_⟩
    refine ⟨_, rfl, a, n, ns, rfl, ha, o1, n1, n2, fun H1 s1 => ?_⟩
    exact ⟨_, rfl, b, m, ms, rfl, s1 _ _ hb, o2, m1, m2, fun H2 s2 => q H2 (s1.trans s2)⟩
theorem scFit : FnScope ["one", "other"] ["one", "other"] (defScope s_check_fit) := ⟨rfl, rfl, rfl, by decide +kernel, rfl, by decide +kernel, by decide +kernel⟩
theorem ok_fit {f : Addr} {fd : FuncData} {k : Nat} (T : Df K mg "check_fit" s_check_fit ["one", "other"] f fd) (B : Bi mg) : FnOk P w K mg base CX0 (k + 1) f fd ["one", "other"] spFit := by
  refine T.F.ok scFit (fun vs H Q E h => ?_) (fun cdv A outer s H vs Q E hr h => ?_)
  · obtain ⟨a, b, ns, ms, rfl, _⟩ := h
    rfl
  · obtain ⟨a, b, ns, ms, rfl, ha, hb, e, q⟩ := h
    refine ⟨_, 
      (pss_one (ps_if (pt_cmpR op_ne (pe_callB call_len_seq (by rfl) B.len PySem.boot_len (pa_cons (pv 0) pa_nil)) (pe_callB call_len_seq (by rfl) B.len PySem.boot_len (pa_cons (pv 1) pa_nil)) (nomark _))
        (pss_one ps_never)
        pss_nil)), ?_⟩
    refine ⟨_, rfl, a, _, rfl, .inl (SqL.of ha), _, rfl, b, _, rfl, .inl (SqL.of hb), rfl, _, rfl, ?_⟩
    rw [List.length_map, List.length_map, e]
    exact iteNS rfl q
end
end Fo
namespace Fo
open PySem PySem.Spec PyProof.Rows L2
def two (vs : List V) (H : Hp) (a b : Addr) (n : Nat) (xs ys : List Int) : Prop := vs = [.ref a, .ref b] ∧ H a = some (.lst (xs.map V.int)) ∧ H b = some (.lst (ys.map V.int)) ∧ IsOrd n xs ∧ IsOrd n ys ∧ 1 ≤ n ∧ n ≤ 12
end Fo
namespace Fo
open PySem PySem.Spec PyProof.Rows L2
/-! ### lists of lists -/
def LL (H : Hp) : List Addr → List (List Int) → Prop
  | [], [] => True
  | a :: as, r :: rs => H a = some (.lst (r.map V.int)) ∧ LL H as rs
  | _, _ => False
theorem LL.len {H : Hp} : ∀ {as : List Addr} {rs : List (List Int)}, LL H as rs → as.length = rs.length
  | [], [], _ => rfl
  | [], _ :: _, h => h.elim
  | _ :: _, [], h => h.elim
  | a :: as, r :: rs, h => by rw [List.length_cons, List.length_cons, LL.len h.2]
theorem LL.keep {H H' : Hp} : ∀ {as : List Addr} {rs : List (List Int)}, LL H as rs → (∀ a ∈ as, ∀ o, H a = some o → H' a = some o) → LL H' as rs
  | [], [], _, _ => trivial
  | [], _ :: _, h, _ => h.elim
  | _ :: _, [], h, _ => h.elim
  | a :: as, r :: rs, h, k => ⟨k a List.mem_cons_self _ h.1, LL.keep h.2 fun b hb => k b (List.mem_cons_of_mem _ hb)⟩
theorem LL.same {H H' : Hp} {as : List Addr} {rs : List (List Int)} (h : LL H as rs) (s : Same H H') : LL H' as rs := h.keep fun a _ o e => s a o e
theorem LL.get {H : Hp} : ∀ {as : List Addr} {rs : List (List Int)} {i : Nat} {a : Addr}, LL H as rs → as[i]? = some a → ∃ r, rs[i]? = some r ∧ H a = some (.lst (r.map V.int))
  | [], [], _, _, _, e => by simp at e
  | [], _ :: _, _, _, h, _ => h.elim
  | _ :: _, [], _, _, h, _ => h.elim
  | a :: as, r :: rs, 0, b, h, e => by
    have e2 : a = b := Option.some.inj e
    subst e2
    exact ⟨r, rfl, h.1⟩
  | a :: as, r :: rs, i + 1, b, h, e => LL.get (i := i) h.2 e
theorem LL.tracked {H : Hp} {as : List Addr} {rs : List (List Int)} (h : LL H as rs) {a : Addr} (ha : a ∈ as) : ∃ o, H a = some o := by
  obtain ⟨i, hi⟩ := List.mem_iff_getElem?.mp ha
  obtain ⟨r, _, e⟩ := h.get hi
  exact ⟨_, e⟩
theorem LL.snoc {H : Hp} : ∀ {as : List Addr} {rs : List (List Int)} {a : Addr} {r : List Int}, LL H as rs → H a = some (.lst (r.map V.int)) → LL H (as ++ [a]) (rs ++ [r])
  | [], [], _, _, _, e => ⟨e, trivial⟩
  | [], _ :: _, _, _, h, _ => h.elim
  | _ :: _, [], _, _, h, _ => h.elim
  | b :: as, s :: rs, _, _, h, e => ⟨h.1, LL.snoc h.2 e⟩
theorem LL.drop {H : Hp} : ∀ {as : List Addr} {rs : List (List Int)} (k : Nat), LL H as rs → LL H (as.drop k) (rs.drop k)
  | as, rs, 0, h => h
  | [], [], k + 1, _ => trivial
  | [], _ :: _, _ + 1, h => h.elim
  | _ :: _, [], _ + 1, h => h.elim
  | _ :: as, _ :: rs, k + 1, h => LL.drop k h.2
theorem dp_LL {K : PySem.W.Frag} {H : Hp} : ∀ {as : List Addr} {rs : List (List Int)}, LL H as rs → DpAll K H (as.map V.ref) (rs.map dL)
  | [], [], _ => .nil
  | [], _ :: _, h => h.elim
  | _ :: _, [], h => h.elim
  | _ :: _, _ :: _, h => .cons (dp_list h.1) (dp_LL h.2)
theorem dp_lists {K : PySem.W.Frag} {H : Hp} {l : Addr} {as : List Addr} {rs : List (List Int)} (hl : H l = some (.lst (as.map V.ref))) (h : LL H as rs) : Dp K H (.ref l) (dLL rs) := .lst (SqL.of hl) (dp_LL h)
theorem ref_at {as : List Addr} {i : Nat} {a : Addr} (h : as[i]? = some a) : (as.map V.ref)[i]? = some (V.ref a) := by
  rw [List.getElem?_map, h]
  rfl
theorem ref_at_inv {as : List Addr} {i : Nat} {v : V} (h : (as.map V.ref)[i]? = some v) : ∃ a, as[i]? = some a ∧ v = V.ref a := by
  rw [List.getElem?_map] at h
  cases e : as[i]? with
  | none => rw [e] at h; cases h
  | some x => rw [e] at h; exact ⟨x, rfl, (Option.some.inj h).symm⟩
theorem cutV_tail (xs : List V) (k : Nat) : cutV xs (some (k : Int)) none = xs.drop k := by
  unfold cutV
  rw [HT.sIx_none, HT.sIx_nat]
  by_cases h : k ≤ xs.length
  · rw [Nat.min_eq_left h, List.take_of_length_le (by rw [List.length_drop]; exact Nat.le_refl _)]
  · rw [Nat.min_eq_right (by omega), List.drop_of_length_le (Nat.le_refl _), List.drop_of_length_le (by omega), List.take_nil]
end Fo
namespace Fo
open PySem PySem.Spec PyProof.Rows L2
/-! ### sums -/
def ind (b : Bool) : Nat := if b then 1 else 0
def sumN (l : List Int) (f : Int → Nat) : Nat := (l.map f).sum
theorem sumN_nil (f : Int → Nat) : sumN [] f = 0 := rfl
theorem sumN_cons (a : Int) (l : List Int) (f : Int → Nat) : sumN (a :: l) f = f a + sumN l f := by
  unfold sumN
  rw [List.map_cons, List.sum_cons]
theorem sumN_append (l m : List Int) (f : Int → Nat) : sumN (l ++ m) f = sumN l f + sumN m f := by
  unfold sumN
  rw [List.map_append, List.sum_append]
theorem sumN_perm {l m : List Int} (h : l.Perm m) (f : Int → Nat) : sumN l f = sumN m f := by
  induction h with
  | nil => rfl
  | cons x _ ih => rw [sumN_cons, sumN_cons, ih]
  | swap x y l => rw [sumN_cons, sumN_cons, sumN_cons, sumN_cons]; omega
  | trans _ _ h1 h2 => exact h1.trans h2
theorem sumN_congr {l : List Int} {f g : Int → Nat} (h : ∀ x ∈ l, f x = g x) : sumN l f = sumN l g := by
  unfold sumN
  rw [List.map_congr_left h]
theorem sumN_map (l : List Int) (g : Int → Int) (f : Int → Nat) : sumN (l.map g) f = sumN l (fun x => f (g x)) := by
  unfold sumN
  rw [List.map_map]
  rfl
theorem sumN_zero {l : List Int} {f : Int → Nat} (h : ∀ x ∈ l, f x = 0) : sumN l f = 0 := by
  rw [sumN_congr h]
  induction l with
  | nil => rfl
  | cons a l ih => rw [sumN_cons, ih fun x hx => h x (List.mem_cons_of_mem _ hx)]
theorem sumN_add (l : List Int) (f g : Int → Nat) : sumN l (fun x => f x + g x) = sumN l f + sumN l g := by
  induction l with
  | nil => rfl
  | cons a l ih => rw [sumN_cons, sumN_cons, sumN_cons, ih]; omega
theorem sumN_swap (l m : List Int) (f : Int → Int → Nat) : sumN l (fun i => sumN m (fun j => f i j)) = sumN m (fun j => sumN l (fun i => f i j)) := by
  induction l with
  | nil => exact (sumN_zero fun x _ => rfl).symm
  | cons a l ih =>
    rw [sumN_cons, ih, ← sumN_add]
    exact sumN_congr fun x _ => by rw [sumN_cons]
theorem filter_len (l : List Int) (p : Int → Bool) : (l.filter p).length = sumN l (fun x => ind (p x)) := by
  induction l with
  | nil => rfl
  | cons a l ih =>
    rw [sumN_cons, List.filter_cons]
    unfold ind at ih ⊢
    cases p a
    · simp only [Bool.false_eq_true, if_false]; omega
    · simp only [if_true, List.length_cons]; omega
/-! ### a list by its places -/
def g0 (s : List Int) (i : Int) : Int := s.getD i.toNat 0
theorem g0_at {s : List Int} {i : Nat} {x : Int} (h : s[i]? = some x) : g0 s (i : Int) = x := by
  unfold g0
  rw [Int.toNat_natCast, List.getD_eq_getElem?_getD, h]
  rfl
theorem by_places (s : List Int) : s = (rg s.length).map (g0 s) := by
  apply List.ext_getElem?
  intro i
  unfold rg
  rw [List.getElem?_map, List.getElem?_map]
  by_cases h : i < s.length
  · rw [List.getElem?_range h, List.getElem?_eq_getElem h]
    show some s[i] = some (g0 s (i : Int))
    rw [g0_at (List.getElem?_eq_getElem h)]
  · rw [List.getElem?_eq_none (by omega), List.getElem?_eq_none (by rw [List.length_range]; omega)]
    rfl
theorem rg_succ (n : Nat) : rg (n + 1) = rg n ++ [(n : Int)] := by
  unfold rg
  rw [List.range_succ, List.map_append]
  rfl
/-- how many of the later ones are less -/
def cntL (s : List Int) (i : Nat) : Nat := ((s.drop (i + 1)).filter (fun x => decide (x < g0 s i))).length
def invF (n : Nat) (a : Int → Int) : Nat := sumN (rg n) fun i => sumN (rg n) fun j => ind (decide (i < j) && decide (a j < a i))
def invN (s : List Int) : Nat := sumN (rg s.length) fun i => cntL s i.toNat
theorem drop_sum (n i : Nat) (f : Int → Nat) : sumN ((rg n).drop (i + 1)) f = sumN (rg n) fun j => if (i : Int) < j then f j else 0 := by
  induction n with
  | zero => rfl
  | succ n ih =>
    rw [rg_succ, sumN_append, ← ih, List.drop_append, sumN_append, rg_len]
    congr 1
    by_cases h : i + 1 ≤ n
    · rw [show i + 1 - n = 0 by omega, List.drop_zero, sumN_cons, sumN_cons, sumN_nil, sumN_nil, if_pos (by omega)]
    · rw [show i + 1 - n = (i - n) + 1 by omega, List.drop_succ_cons, List.drop_nil, sumN_cons, sumN_nil, sumN_nil, if_neg (by omega)]
theorem cnt_sum (s : List Int) (i : Nat) : cntL s i = sumN (rg s.length) fun j => ind (decide ((i : Int) < j) && decide (g0 s j < g0 s i)) := by
  unfold cntL
  rw [filter_len]
  have e : s.drop (i + 1) = ((rg s.length).drop (i + 1)).map (g0 s) := by
    rw [List.map_drop, ← by_places]
  rw [e, sumN_map, drop_sum]
  apply sumN_congr
  intro j _
  unfold ind
  by_cases h : (i : Int) < j
  · simp [h]
  · simp [h]
theorem inv_eq (s : List Int) : invN s = invF s.length (g0 s) := by
  unfold invN invF
  apply sumN_congr
  intro i hi
  have := rg_mem.mp hi
  rw [cnt_sum, Int.toNat_of_nonneg this.1]
/-! ### places of things -/
def pos (ys : List Int) (x : Int) : Int := ((ys.idxOf x : Nat) : Int)
def seatsL (xs ys : List Int) : List Int := xs.map (pos ys)
theorem pos_of {n : Nat} {ys : List Int} (o : IsOrd n ys) {j : Nat} {x : Int} (h : ys[j]? = some x) : pos ys x = (j : Int) := by
  obtain ⟨hj, e⟩ := List.getElem?_eq_some_iff.mp h
  have m : x ∈ ys := List.mem_of_getElem? h
  have hi : ys.idxOf x < ys.length := List.idxOf_lt_length_iff.mpr m
  have h2 : ys[ys.idxOf x]? = some x := by
    rw [List.getElem?_eq_getElem hi]
    exact congrArg some (List.getElem_idxOf hi)
  unfold pos
  rw [nd_ix o.nodup h2 h]
theorem pos_at {n : Nat} {ys : List Int} (o : IsOrd n ys) {x : Int} (h0 : 0 ≤ x) (h1 : x < n) : ∃ j : Nat, j < n ∧ ys[j]? = some x ∧ pos ys x = (j : Int) := by
  obtain ⟨j, hj, e⟩ := ord_at o (t := x.toNat) (by omega)
  rw [Int.toNat_of_nonneg h0] at e
  exact ⟨j, hj, e, pos_of o e⟩
theorem back_pos {n : Nat} {ys ps : List Int} (o : IsOrd n ys) (h : IsBack ys ps) {x : Int} (h0 : 0 ≤ x) (h1 : x < n) : ps[x.toNat]? = some (pos ys x) := by
  obtain ⟨j, hj, e, ep⟩ := pos_at o h0 h1
  rw [ep]
  exact h.2 j x e
theorem seats_len (xs ys : List Int) : (seatsL xs ys).length = xs.length := by
  unfold seatsL
  rw [List.length_map]
theorem seats_at {xs ys : List Int} {i : Nat} {x : Int} (h : xs[i]? = some x) : (seatsL xs ys)[i]? = some (pos ys x) := by
  unfold seatsL
  rw [List.getElem?_map, h]
  rfl
theorem seats_self {n : Nat} {ys : List Int} (o : IsOrd n ys) : seatsL ys ys = rg n := by
  apply List.ext_getElem?
  intro i
  by_cases h : i < n
  · obtain ⟨x, hx, _⟩ := ord_ix o h
    rw [seats_at hx, pos_of o hx]
    unfold rg
    rw [List.getElem?_map, List.getElem?_range h]
    rfl
  · rw [List.getElem?_eq_none (by rw [seats_len, o.len]; omega), List.getElem?_eq_none (by rw [rg_len]; omega)]
theorem seats_ord {n : Nat} {xs ys : List Int} (ox : IsOrd n xs) (oy : IsOrd n ys) : IsOrd n (seatsL xs ys) := by
  have h : (seatsL xs ys).Perm (seatsL ys ys) := List.Perm.map _ (ox.trans oy.symm)
  rw [seats_self oy] at h
  exact h
theorem g0_ord {n : Nat} {s : List Int} (o : IsOrd n s) : s = (rg n).map (g0 s) := by
  have e := by_places s
  rw [o.len] at e
  exact e
/-- inversions from the other side -/
theorem inv_turn {n : Nat} {s t : List Int} (os : IsOrd n s) (ot : IsOrd n t) (h : ∀ u ∈ rg n, g0 s (g0 t u) = u) : invN s = invN t := by
  rw [inv_eq, inv_eq, os.len, ot.len]
  unfold invF
  have p1 : ∀ f : Int → Nat, sumN (rg n) f = sumN (rg n) fun u => f (g0 t u) := fun f => by
    have e : sumN ((rg n).map (g0 t)) f = sumN (rg n) fun u => f (g0 t u) := sumN_map _ _ _
    rw [← e, ← g0_ord ot]
    exact (sumN_perm ot f).symm
  rw [p1]
  rw [sumN_congr (g := fun u => sumN (rg n) fun v => ind (decide (g0 t u < g0 t v) && decide (v < u))) (fun u hu => by
    rw [p1]
    exact sumN_congr fun v hv => by rw [h u hu, h v hv])]
  rw [sumN_swap]
  apply sumN_congr
  intro v _
  apply sumN_congr
  intro u _
  rw [Bool.and_comm]
theorem seats_turn {n : Nat} {xs ys : List Int} (ox : IsOrd n xs) (oy : IsOrd n ys) : ∀ u ∈ rg n, g0 (seatsL xs ys) (g0 (seatsL ys xs) u) = u := by
  intro u hu
  have hb := rg_mem.mp hu
  obtain ⟨y, hy, y0, y1⟩ := ord_ix oy (j := u.toNat) (by omega)
  have e1 : g0 (seatsL ys xs) u = pos xs y := by
    have := g0_at (seats_at (ys := xs) hy)
    rw [Int.toNat_of_nonneg hb.1] at this
    exact this
  obtain ⟨j, hj, ej, pj⟩ := pos_at ox y0 y1
  rw [e1, pj, g0_at (seats_at (ys := ys) ej), pos_of oy hy]
  omega
/-! ### how far two orders are -/
def farSwap (xs ys : List Int) : Int := ((invN (seatsL xs ys) : Nat) : Int)
def spotL (xs ys : List Int) : List Int := (rg xs.length).filter fun p => !decide (g0 xs p = g0 ys p)
def farSpot (xs ys : List Int) : Int := (((spotL xs ys).length : Nat) : Int)
def absI (i : Int) : Int := if i < 0 then -i else i
def gapsL (xs ys : List Int) : List Int := (rg xs.length).map fun p => absI (p - g0 (seatsL xs ys) p)
def maxL (l : List Int) : Int := l.foldr max 0
def farShift (xs ys : List Int) : Int := maxL (gapsL xs ys)
theorem maxL_of : ∀ {l : List Int} {m : Int}, (∀ x ∈ l, 0 ≤ x) → m ∈ l → (∀ x ∈ l, x ≤ m) → maxL l = m := by
  intro l m h0 hm hle
  have key : ∀ l : List Int, (∀ x ∈ l, x ≤ m) → maxL l ≤ m := by
    intro l hl
    induction l with
    | nil => exact h0 m hm
    | cons a l ih =>
      show max a (maxL l) ≤ m
      have h1 := hl a List.mem_cons_self
      have h2 := ih fun x hx => hl x (List.mem_cons_of_mem _ hx)
      omega
  have key2 : ∀ l : List Int, ∀ x ∈ l, x ≤ maxL l := by
    intro l
    induction l with
    | nil => intro x hx; exact absurd hx List.not_mem_nil
    | cons a l ih =>
      intro x hx
      show x ≤ max a (maxL l)
      rcases List.mem_cons.mp hx with rfl | hx
      · omega
      · have := ih x hx
        omega
  have := key l hle
  have := key2 l m hm
  omega
theorem gaps_nonneg (xs ys : List Int) : ∀ x ∈ gapsL xs ys, 0 ≤ x := by
  intro x hx
  obtain ⟨p, _, rfl⟩ := List.mem_map.mp hx
  unfold absI
  split <;> omega
theorem maxL_mem {l : List Int} (h0 : ∀ x ∈ l, 0 ≤ x) (hl : 0 < l.length) : maxL l ∈ l ∧ ∀ x ∈ l, x ≤ maxL l := by
  induction l with
  | nil => exact absurd hl (Nat.lt_irrefl _)
  | cons a l ih =>
    show max a (maxL l) ∈ a :: l ∧ ∀ x ∈ a :: l, x ≤ max a (maxL l)
    by_cases c : 0 < l.length
    · obtain ⟨h1, h2⟩ := ih (fun x hx => h0 x (List.mem_cons_of_mem _ hx)) c
      constructor
      · by_cases d : maxL l ≤ a
        · rw [Int.max_eq_left d]
          exact List.mem_cons_self
        · rw [Int.max_eq_right (by omega)]
          exact List.mem_cons_of_mem _ h1
      · intro x hx
        rcases List.mem_cons.mp hx with rfl | hx
        · omega
        · have := h2 x hx
          omega
    · have e : l = [] := List.eq_nil_of_length_eq_zero (by omega)
      subst e
      have := h0 a List.mem_cons_self
      have e2 : max a (maxL []) = a := by show max a 0 = a; omega
      rw [e2]
      exact ⟨List.mem_cons_self, fun x hx => by rw [List.mem_singleton.mp hx]; exact Int.le_refl _⟩
theorem farSwap_turn {n : Nat} {xs ys : List Int} (ox : IsOrd n xs) (oy : IsOrd n ys) : farSwap ys xs = farSwap xs ys := by
  unfold farSwap
  rw [inv_turn (seats_ord ox oy) (seats_ord oy ox) (seats_turn ox oy)]
theorem inv_rg (n : Nat) : invN (rg n) = 0 := by
  rw [inv_eq]
  unfold invF
  apply sumN_zero
  intro i hi
  apply sumN_zero
  intro j hj
  rw [rg_len] at hi hj
  have hi2 := rg_mem.mp hi
  have hj2 := rg_mem.mp hj
  have e : ∀ k : Int, k ∈ rg n → g0 (rg n) k = k := fun k hk => by
    have := rg_mem.mp hk
    have z : (rg n)[k.toNat]? = some k := by
      unfold rg
      rw [List.getElem?_map, List.getElem?_range (by omega)]
      show some ((k.toNat : Nat) : Int) = some k
      rw [Int.toNat_of_nonneg this.1]
    have z2 := g0_at z
    rw [Int.toNat_of_nonneg this.1] at z2
    exact z2
  rw [e i hi, e j hj]
  unfold ind
  by_cases c : i < j
  · have d : ¬ j < i := by omega
    simp [c, d]
  · simp [c]
theorem farSwap_self {n : Nat} {xs : List Int} (ox : IsOrd n xs) : farSwap xs xs = 0 := by
  unfold farSwap
  rw [seats_self ox, inv_rg]
  rfl
theorem farSpot_turn {xs ys : List Int} (h : xs.length = ys.length) : farSpot ys xs = farSpot xs ys := by
  unfold farSpot spotL
  rw [h]
  congr 3
  funext p
  congr 1
  by_cases c : g0 ys p = g0 xs p
  · rw [decide_eq_true c, decide_eq_true c.symm]
  · rw [decide_eq_false c, decide_eq_false fun e => c e.symm]
theorem farSpot_self (xs : List Int) : farSpot xs xs = 0 := by
  unfold farSpot spotL
  have e : ((rg xs.length).filter fun p => !decide (g0 xs p = g0 xs p)) = [] := by
    rw [List.filter_eq_nil_iff]
    intro a _
    simp
  rw [e]
  rfl
theorem gaps_len (xs ys : List Int) : (gapsL xs ys).length = xs.length := by
  unfold gapsL
  rw [List.length_map, rg_len]
theorem gaps_sub {n : Nat} {xs ys : List Int} (ox : IsOrd n xs) (oy : IsOrd n ys) : ∀ g ∈ gapsL ys xs, g ∈ gapsL xs ys := by
  intro g hg
  obtain ⟨u, hu, rfl⟩ := List.mem_map.mp hg
  rw [oy.len] at hu
  have hb := (seats_ord oy ox).mem (x := g0 (seatsL ys xs) u) (by
    have e := g0_ord (seats_ord oy ox)
    rw [e]
    exact List.mem_map.mpr ⟨u, hu, by rw [← e]⟩)
  refine List.mem_map.mpr ⟨g0 (seatsL ys xs) u, by rw [ox.len]; exact rg_mem.mpr hb, ?_⟩
  rw [seats_turn ox oy u hu]
  unfold absI
  split <;> split <;> omega
theorem farShift_turn {n : Nat} {xs ys : List Int} (ox : IsOrd n xs) (oy : IsOrd n ys) (hn : 1 ≤ n) : farShift ys xs = farShift xs ys := by
  unfold farShift
  obtain ⟨h1, h2⟩ := maxL_mem (gaps_nonneg xs ys) (by rw [gaps_len, ox.len]; exact hn)
  exact maxL_of (gaps_nonneg ys xs) (gaps_sub oy ox _ h1) fun x hx => h2 x (gaps_sub ox oy x hx)
theorem farShift_self {n : Nat} {xs : List Int} (ox : IsOrd n xs) (hn : 1 ≤ n) : farShift xs xs = 0 := by
  unfold farShift
  have z : ∀ g ∈ gapsL xs xs, g = 0 := by
    intro g hg
    obtain ⟨u, hu, rfl⟩ := List.mem_map.mp hg
    rw [ox.len] at hu
    have hb := rg_mem.mp hu
    rw [seats_self ox]
    have e : (rg n)[u.toNat]? = some u := by
      unfold rg
      rw [List.getElem?_map, List.getElem?_range (by omega)]
      show some ((u.toNat : Nat) : Int) = some u
      rw [Int.toNat_of_nonneg hb.1]
    have z2 := g0_at e
    rw [Int.toNat_of_nonneg hb.1] at z2
    rw [z2]
    unfold absI
    split <;> omega
  obtain ⟨h1, _⟩ := maxL_mem (gaps_nonneg xs xs) (by rw [gaps_len, ox.len]; exact hn)
  exact z _ h1
end Fo
namespace Fo
open PySem PySem.Spec PyProof.Rows L2
theorem pos_ord {n : Nat} {xs : List Int} (o : IsOrd n xs) : IsOrd n ((rg n).map (pos xs)) := by
  have h : ((rg n).map (pos xs)).Perm (seatsL xs xs) := List.Perm.map _ o.symm
  rw [seats_self o] at h
  exact h
theorem pos_in {n : Nat} {xs : List Int} (o : IsOrd n xs) {t : Int} (h : t ∈ rg n) : pos xs t ∈ rg n := by
  have := (pos_ord o).mem (List.mem_map.mpr ⟨t, h, rfl⟩)
  exact rg_mem.mpr this
theorem pos_inj {n : Nat} {xs : List Int} (o : IsOrd n xs) {t u : Int} (ht : t ∈ rg n) (hu : u ∈ rg n) (e : pos xs t = pos xs u) : t = u := by
  have h1 := rg_mem.mp ht
  have h2 := rg_mem.mp hu
  obtain ⟨i, _, ei, pi⟩ := pos_at o h1.1 h1.2
  obtain ⟨j, _, ej, pj⟩ := pos_at o h2.1 h2.2
  have : i = j := by omega
  subst this
  exact Option.some.inj (ei.symm.trans ej)
/-- a sum over the places is a sum over the things -/
theorem sum_pos {n : Nat} {xs : List Int} (o : IsOrd n xs) (f : Int → Nat) : sumN (rg n) f = sumN (rg n) fun t => f (pos xs t) := by
  have e : sumN ((rg n).map (pos xs)) f = sumN (rg n) fun t => f (pos xs t) := sumN_map _ _ _
  rw [← e]
  exact (sumN_perm (pos_ord o) f).symm
theorem sum_g0 {n : Nat} {xs : List Int} (o : IsOrd n xs) (f : Int → Nat) : sumN (rg n) f = sumN (rg n) fun p => f (g0 xs p) := by
  have e : sumN ((rg n).map (g0 xs)) f = sumN (rg n) fun t => f (g0 xs t) := sumN_map _ _ _
  rw [← e, ← g0_ord o]
  exact (sumN_perm o f).symm
theorem g0_pos {n : Nat} {xs : List Int} (o : IsOrd n xs) {t : Int} (h : t ∈ rg n) : g0 xs (pos xs t) = t := by
  have h1 := rg_mem.mp h
  obtain ⟨j, _, ej, pj⟩ := pos_at o h1.1 h1.2
  rw [pj]
  exact g0_at ej
theorem pos_g0 {n : Nat} {xs : List Int} (o : IsOrd n xs) {p : Int} (h : p ∈ rg n) : pos xs (g0 xs p) = p := by
  have h1 := rg_mem.mp h
  obtain ⟨x, hx, _⟩ := ord_ix o (j := p.toNat) (by omega)
  have e := g0_at hx
  rw [Int.toNat_of_nonneg h1.1] at e
  rw [e, pos_of o hx]
  omega
theorem g0_in {n : Nat} {xs : List Int} (o : IsOrd n xs) {p : Int} (h : p ∈ rg n) : g0 xs p ∈ rg n := by
  have h1 := rg_mem.mp h
  obtain ⟨x, hx, x0, x1⟩ := ord_ix o (j := p.toNat) (by omega)
  have e := g0_at hx
  rw [Int.toNat_of_nonneg h1.1] at e
  rw [e]
  exact rg_mem.mpr ⟨x0, x1⟩
end Fo
namespace Fo
open PySem PySem.Spec PyProof.Rows L2
/-! ### rounds -/
def it (f : Int → Int) : Nat → Int → Int
  | 0, t => t
  | j + 1, t => f (it f j t)
theorem it_add (f : Int → Int) (i j : Nat) (t : Int) : it f (i + j) t = it f i (it f j t) := by
  induction i with
  | zero => rw [Nat.zero_add]; rfl
  | succ i ih => rw [Nat.succ_add]; show f (it f (i + j) t) = f (it f i (it f j t)); rw [ih]
theorem nodup_len : ∀ {l m : List Int}, l.Nodup → (∀ x ∈ l, x ∈ m) → l.length ≤ m.length
  | [], m, _, _ => Nat.zero_le _
  | a :: l, m, hn, hs => by
    obtain ⟨h1, h2⟩ := List.nodup_cons.mp hn
    have ha := hs a List.mem_cons_self
    have ih := nodup_len (l := l) (m := m.erase a) h2 fun x hx => by
      have ne : x ≠ a := fun e => h1 (by rw [← e]; exact hx)
      exact (List.mem_erase_of_ne ne).mpr (hs x (List.mem_cons_of_mem _ hx))
    rw [List.length_erase_of_mem ha] at ih
    have : 0 < m.length := List.length_pos_of_mem ha
    rw [List.length_cons]
    omega
/-- f leads things to things, no two to one -/
structure Bij (n : Nat) (f : Int → Int) : Prop where
  into : ∀ t ∈ rg n, f t ∈ rg n
  inj : ∀ t ∈ rg n, ∀ u ∈ rg n, f t = f u → t = u
section
variable {n : Nat} {f : Int → Int}
theorem Bij.it_in (b : Bij n f) {t : Int} (ht : t ∈ rg n) : ∀ j, it f j t ∈ rg n
  | 0 => ht
  | j + 1 => b.into _ (b.it_in ht j)
theorem Bij.it_inj (b : Bij n f) {t u : Int} (ht : t ∈ rg n) (hu : u ∈ rg n) : ∀ j, it f j t = it f j u → t = u
  | 0, e => e
  | j + 1, e => b.it_inj ht hu j (b.inj _ (b.it_in ht j) _ (b.it_in hu j) e)
theorem Bij.again (b : Bij n f) {t : Int} (ht : t ∈ rg n) : ∃ j, j < n ∧ it f (j + 1) t = t := by
  by_cases h : ∃ j, j < n ∧ it f (j + 1) t = t
  · exact h
  · exfalso
    have nd : ((List.range (n + 1)).map (fun j => it f j t)).Nodup := by
      have : (List.range (n + 1)).Pairwise (fun i j => it f i t ≠ it f j t) := by
        have hp : (List.range (n + 1)).Pairwise (fun i j => i < j ∧ j < n + 1) := by
          rw [List.pairwise_iff_getElem]
          intro i j hi hj hij
          rw [List.getElem_range, List.getElem_range]
          rw [List.length_range] at hj
          exact ⟨hij, hj⟩
        refine hp.imp fun {i j} hij e => ?_
        have ej : it f j t = it f i (it f (j - i) t) := by rw [← it_add, show i + (j - i) = j by omega]
        rw [ej] at e
        have z := b.it_inj ht (b.it_in ht (j - i)) i e
        exact h ⟨j - i - 1, by omega, by rw [show j - i - 1 + 1 = j - i by omega]; exact z.symm⟩
      exact List.Pairwise.map _ (fun i j h => h) this
    have hl := nodup_len (m := rg n) nd fun x hx => by
      obtain ⟨j, _, rfl⟩ := List.mem_map.mp hx
      exact b.it_in ht j
    rw [List.length_map, List.length_range, rg_len] at hl
    omega
end
def per (n : Nat) (f : Int → Int) (t : Int) : Nat := ((List.range n).find? (fun j => decide (it f (j + 1) t = t))).getD 0 + 1
def cyc (n : Nat) (f : Int → Int) (t : Int) : List Int := (List.range (per n f t)).map fun j => it f j t
section
variable {n : Nat} {f : Int → Int}
theorem Bij.per_spec (b : Bij n f) {t : Int} (ht : t ∈ rg n) : 1 ≤ per n f t ∧ per n f t ≤ n ∧ it f (per n f t) t = t ∧ ∀ j, 1 ≤ j → j < per n f t → it f j t ≠ t := by
  obtain ⟨j0, h0, e0⟩ := b.again ht
  cases e : (List.range n).find? (fun j => decide (it f (j + 1) t = t)) with
  | none =>
    have := List.find?_eq_none.mp e j0 (List.mem_range.mpr h0)
    simp [e0] at this
  | some i =>
    obtain ⟨h1, h2, h3⟩ := List.find?_range_eq_some.mp e
    have hp : per n f t = i + 1 := by
      unfold per
      rw [e]
      rfl
    rw [hp]
    have hi := List.mem_range.mp h2
    refine ⟨by omega, by omega, of_decide_eq_true h1, fun j hj1 hj2 ez => ?_⟩
    have := h3 (j - 1) (by omega)
    rw [show j - 1 + 1 = j by omega, decide_eq_true ez] at this
    cases this
theorem cyc_len (t : Int) : (cyc n f t).length = per n f t := by
  unfold cyc
  rw [List.length_map, List.length_range]
theorem cyc_at {t : Int} {j : Nat} (h : j < per n f t) : (cyc n f t)[j]? = some (it f j t) := by
  unfold cyc
  rw [List.getElem?_map, List.getElem?_range h]
  rfl
theorem Bij.cyc_in (b : Bij n f) {t u : Int} (ht : t ∈ rg n) (h : u ∈ cyc n f t) : u ∈ rg n := by
  obtain ⟨j, _, rfl⟩ := List.mem_map.mp h
  exact b.it_in ht j
theorem Bij.cyc_it (b : Bij n f) {t : Int} (ht : t ∈ rg n) : ∀ m, it f m t ∈ cyc n f t := by
  obtain ⟨p1, p2, p3, p4⟩ := b.per_spec ht
  intro m
  induction m with
  | zero => exact List.mem_map.mpr ⟨0, List.mem_range.mpr p1, rfl⟩
  | succ m ih =>
    obtain ⟨j, hj, e⟩ := List.mem_map.mp ih
    have hj2 := List.mem_range.mp hj
    show f (it f m t) ∈ _
    rw [← e]
    by_cases c : j + 1 < per n f t
    · exact List.mem_map.mpr ⟨j + 1, List.mem_range.mpr c, rfl⟩
    · have : j + 1 = per n f t := by omega
      have e2 : f (it f j t) = t := by
        have z := p3
        rw [← this] at z
        exact z
      rw [e2]
      exact List.mem_map.mpr ⟨0, List.mem_range.mpr p1, rfl⟩
theorem Bij.cyc_self (b : Bij n f) {t : Int} (ht : t ∈ rg n) : t ∈ cyc n f t := b.cyc_it ht 0
theorem Bij.cyc_symm (b : Bij n f) {t u : Int} (ht : t ∈ rg n) (h : u ∈ cyc n f t) : t ∈ cyc n f u := by
  obtain ⟨p1, p2, p3, p4⟩ := b.per_spec ht
  have hu := b.cyc_in ht h
  obtain ⟨j, hj, rfl⟩ := List.mem_map.mp h
  have hj2 := List.mem_range.mp hj
  have := b.cyc_it hu (per n f t - j)
  rw [← it_add, show per n f t - j + j = per n f t by omega, p3] at this
  exact this
theorem Bij.cyc_trans (b : Bij n f) {t u v : Int} (ht : t ∈ rg n) (h1 : u ∈ cyc n f t) (h2 : v ∈ cyc n f u) : v ∈ cyc n f t := by
  obtain ⟨i, _, rfl⟩ := List.mem_map.mp h1
  obtain ⟨j, _, rfl⟩ := List.mem_map.mp h2
  rw [← it_add]
  exact b.cyc_it ht _
end
def mnL : List Int → Int
  | [] => 0
  | [a] => a
  | a :: b :: r => min a (mnL (b :: r))
theorem mnL_spec : ∀ {l : List Int}, 0 < l.length → mnL l ∈ l ∧ ∀ x ∈ l, mnL l ≤ x
  | [], h => absurd h (Nat.lt_irrefl _)
  | [a], _ => ⟨List.mem_cons_self, fun x hx => by rw [List.mem_singleton.mp hx]; exact Int.le_refl _⟩
  | a :: b :: r, _ => by
    obtain ⟨h1, h2⟩ := mnL_spec (l := b :: r) (by simp)
    show min a (mnL (b :: r)) ∈ _ ∧ ∀ x ∈ _, min a (mnL (b :: r)) ≤ x
    constructor
    · by_cases c : a ≤ mnL (b :: r)
      · rw [Int.min_eq_left c]
        exact List.mem_cons_self
      · rw [Int.min_eq_right (by omega)]
        exact List.mem_cons_of_mem _ h1
    · intro x hx
      rcases List.mem_cons.mp hx with rfl | hx
      · omega
      · have := h2 x hx
        omega
theorem mnL_of {l : List Int} {m : Int} (hm : m ∈ l) (h : ∀ x ∈ l, m ≤ x) : mnL l = m := by
  obtain ⟨h1, h2⟩ := mnL_spec (l := l) (List.length_pos_of_mem hm)
  have := h2 m hm
  have := h _ h1
  omega
def mn (n : Nat) (f : Int → Int) (t : Int) : Int := mnL (cyc n f t)
section
variable {n : Nat} {f : Int → Int}
theorem Bij.mn_spec (b : Bij n f) {t : Int} (ht : t ∈ rg n) : mn n f t ∈ cyc n f t ∧ ∀ u ∈ cyc n f t, mn n f t ≤ u :=
  mnL_spec (by rw [cyc_len]; exact (b.per_spec ht).1)
theorem Bij.mn_same (b : Bij n f) {t u : Int} (ht : t ∈ rg n) (h : u ∈ cyc n f t) : mn n f u = mn n f t := by
  have hu := b.cyc_in ht h
  obtain ⟨h1, h2⟩ := b.mn_spec ht
  refine mnL_of (b.cyc_trans hu (b.cyc_symm ht h) h1) fun x hx => h2 x (b.cyc_trans ht h hx)
theorem Bij.mn_mn (b : Bij n f) {t : Int} (ht : t ∈ rg n) : mn n f (mn n f t) = mn n f t := b.mn_same ht (b.mn_spec ht).1
theorem Bij.mn_in (b : Bij n f) {t : Int} (ht : t ∈ rg n) : mn n f t ∈ rg n := b.cyc_in ht (b.mn_spec ht).1
theorem Bij.mn_le (b : Bij n f) {t : Int} (ht : t ∈ rg n) : mn n f t ≤ t := (b.mn_spec ht).2 t (b.cyc_self ht)
/-- whose least is t lies in t's round -/
theorem Bij.of_mn (b : Bij n f) {t x : Int} (ht : t ∈ rg n) (hx : x ∈ rg n) (e : mn n f x = t) : x ∈ cyc n f t := by
  have h := (b.mn_spec hx).1
  rw [e] at h
  exact b.cyc_symm hx h
/-- a round that is told -/
def told (n : Nat) (f : Int → Int) (t : Int) : Bool := decide (1 < per n f t) && decide (t = mn n f t)
def roundsL (n : Nat) (f : Int → Int) : List (List Int) := ((rg n).filter (told n f)).map (cyc n f)
def leftL (n : Nat) (f : Int → Int) (T : Int) : List Int := (rg n).filter fun x => decide (T ≤ mn n f x)
def doneL (n : Nat) (f : Int → Int) (T : Int) : List (List Int) := ((rg n).filter fun u => decide (u < T) && told n f u).map (cyc n f)
theorem Bij.left_all (b : Bij n f) : leftL n f 0 = rg n := by
  unfold leftL
  rw [List.filter_eq_self]
  intro x hx
  apply decide_eq_true
  exact (rg_mem.mp (b.mn_in hx)).1
theorem done_none : doneL n f 0 = [] := by
  unfold doneL
  rw [List.filter_eq_nil_iff.mpr]
  · rfl
  · intro x hx
    have := (rg_mem.mp hx).1
    simp
    omega
theorem Bij.done_all (b : Bij n f) {T : Int} (h : leftL n f T = []) : doneL n f T = roundsL n f := by
  unfold doneL roundsL
  congr 1
  apply List.filter_congr
  intro u hu
  have hm : ¬ T ≤ mn n f u := by
    have := List.filter_eq_nil_iff.mp h u hu
    simpa using this
  by_cases c : told n f u = true
  · have c2 := c
    unfold told at c2
    rw [Bool.and_eq_true] at c2
    have e := of_decide_eq_true c2.2
    rw [c, decide_eq_true (show u < T by omega)]
    rfl
  · have c3 : told n f u = false := by simpa using c
    rw [c3, Bool.and_false]
/-- t the least of what is left -/
theorem Bij.least (b : Bij n f) {T t : Int} (hm : t ∈ leftL n f T) (hle : ∀ x ∈ leftL n f T, t ≤ x) : t ∈ rg n ∧ T ≤ t ∧ mn n f t = t ∧ ∀ x ∈ rg n, T ≤ mn n f x → t ≤ mn n f x := by
  obtain ⟨h1, h2⟩ := List.mem_filter.mp hm
  have h2' : T ≤ mn n f t := of_decide_eq_true h2
  have key : ∀ x ∈ rg n, T ≤ mn n f x → t ≤ mn n f x := fun x hx hT => hle _ (List.mem_filter.mpr ⟨b.mn_in hx, decide_eq_true (by rw [b.mn_mn hx]; exact hT)⟩)
  have a1 := key t h1 h2'
  have a2 := b.mn_le h1
  exact ⟨h1, by omega, by omega, key⟩
theorem Bij.left_step (b : Bij n f) {T t : Int} (hm : t ∈ leftL n f T) (hle : ∀ x ∈ leftL n f T, t ≤ x) : (leftL n f T).filter (fun x => !decide (x ∈ cyc n f t)) = leftL n f (t + 1) := by
  obtain ⟨ht, hT, e, key⟩ := b.least hm hle
  unfold leftL
  rw [List.filter_filter]
  apply List.filter_congr
  intro x hx
  by_cases c : x ∈ cyc n f t
  · have := b.mn_same ht c
    rw [decide_eq_true c, decide_eq_false (show ¬ t + 1 ≤ mn n f x by omega)]
    rfl
  · have ne : mn n f x ≠ t := fun z => c (b.of_mn ht hx z)
    rw [decide_eq_false c]
    by_cases d : T ≤ mn n f x
    · have := key x hx d
      rw [decide_eq_true d, decide_eq_true (show t + 1 ≤ mn n f x by omega)]
      rfl
    · rw [decide_eq_false d, decide_eq_false (show ¬ t + 1 ≤ mn n f x by omega)]
      rfl
theorem rg_split {n : Nat} {t : Int} (ht : t ∈ rg n) : ∃ B : List Int, rg n = rg t.toNat ++ t :: B ∧ ∀ x ∈ B, t < x := by
  induction n with
  | zero => exact absurd ht List.not_mem_nil
  | succ n ih =>
    have hb := rg_mem.mp ht
    by_cases c : t = (n : Int)
    · subst c
      exact ⟨[], by rw [rg_succ, Int.toNat_natCast], fun x hx => absurd hx List.not_mem_nil⟩
    · obtain ⟨B, e, hB⟩ := ih (rg_mem.mpr ⟨hb.1, by omega⟩)
      refine ⟨B ++ [(n : Int)], by rw [rg_succ, e, List.append_assoc]; rfl, fun x hx => ?_⟩
      rcases List.mem_append.mp hx with hx | hx
      · exact hB x hx
      · rw [List.mem_singleton.mp hx]
        omega
theorem Bij.done_step (b : Bij n f) {T t : Int} (hm : t ∈ leftL n f T) (hle : ∀ x ∈ leftL n f T, t ≤ x) : doneL n f (t + 1) = doneL n f T ++ (if 1 < per n f t then [cyc n f t] else []) := by
  obtain ⟨ht, hT, e, key⟩ := b.least hm hle
  obtain ⟨B, eB, hB⟩ := rg_split ht
  unfold doneL
  rw [eB, List.filter_append, List.filter_append, List.filter_cons, List.filter_cons]
  have f1 : (rg t.toNat).filter (fun u => decide (u < t + 1) && told n f u) = (rg t.toNat).filter (fun u => decide (u < T) && told n f u) := by
    apply List.filter_congr
    intro u hu
    have hub := rg_mem.mp hu
    have htb := rg_mem.mp ht
    have hun : u ∈ rg n := rg_mem.mpr ⟨hub.1, by omega⟩
    rw [decide_eq_true (show u < t + 1 by omega)]
    by_cases c : told n f u = true
    · have c2 := c
      unfold told at c2
      rw [Bool.and_eq_true] at c2
      have e2 := of_decide_eq_true c2.2
      have : u < T := by
        by_cases d : T ≤ mn n f u
        · have := key u hun d
          omega
        · omega
      rw [decide_eq_true this]
    · have c3 : told n f u = false := by simpa using c
      rw [c3, Bool.and_false, Bool.and_false]
  have f2 : B.filter (fun u => decide (u < t + 1) && told n f u) = [] := by
    rw [List.filter_eq_nil_iff]
    intro x hx
    have := hB x hx
    rw [decide_eq_false (show ¬ x < t + 1 by omega)]
    simp
  have f3 : B.filter (fun u => decide (u < T) && told n f u) = [] := by
    rw [List.filter_eq_nil_iff]
    intro x hx
    have := hB x hx
    rw [decide_eq_false (show ¬ x < T by omega)]
    simp
  have et : told n f t = decide (1 < per n f t) := by
    unfold told
    rw [decide_eq_true e.symm, Bool.and_true]
  rw [f1, f2, f3, et, decide_eq_true (show t < t + 1 by omega), decide_eq_false (show ¬ t < T by omega)]
  by_cases c : 1 < per n f t
  · rw [decide_eq_true c, if_pos c]
    simp
  · rw [decide_eq_false c, if_neg c]
    simp
theorem per_id {t : Int} (hn : 1 ≤ n) : per n (fun x => x) t = 1 := by
  unfold per
  have : (List.range n).find? (fun j => decide (it (fun x => x) (j + 1) t = t)) = some 0 := by
    rw [List.find?_range_eq_some]
    exact ⟨decide_eq_true rfl, List.mem_range.mpr (by omega), fun j hj => absurd hj (Nat.not_lt_zero _)⟩
  rw [this]
  rfl
end
/-! ### the follower of a thing -/
def fol (xs ys : List Int) (t : Int) : Int := g0 xs (pos ys t)
theorem fol_bij {n : Nat} {xs ys : List Int} (ox : IsOrd n xs) (oy : IsOrd n ys) : Bij n (fol xs ys) := by
  refine ⟨fun t ht => g0_in ox (pos_in oy ht), fun t ht u hu e => ?_⟩
  have h1 := pos_g0 ox (pos_in oy ht)
  have h2 := pos_g0 ox (pos_in oy hu)
  unfold fol at e
  rw [e] at h1
  exact pos_inj oy ht hu (h1.symm.trans h2)
theorem fol_self {n : Nat} {xs : List Int} (ox : IsOrd n xs) : ∀ t ∈ rg n, fol xs xs t = t := fun t ht => g0_pos ox ht
end Fo
namespace Fo
open PySem PySem.Spec PyProof.Rows L2
def spFol : Sp := fun vs H Q _ => ∃ (a b : Addr) (n : Nat) (xs ys : List Int), two vs H a b n xs ys ∧ ∀ (l : Addr) (H' : Hp), H l = none → H' l = some (.lst (((rg n).map (fol xs ys)).map V.int)) → Same H H' → Q (.ref l) H'
def spRound : Sp := fun vs H Q _ => ∃ (t : Int) (l : Addr) (n : Nat) (f : Int → Int), vs = [.int t, .ref l] ∧ H l = some (.lst (((rg n).map f).map V.int)) ∧ Bij n f ∧ t ∈ rg n ∧ n ≤ 12 ∧ ∀ (r : Addr) (H' : Hp), H r = none → H' r = some (.lst ((cyc n f t).map V.int)) → Same H H' → Q (.ref r) H'
def spRounds : Sp := fun vs H Q _ => ∃ (a b : Addr) (n : Nat) (xs ys : List Int), two vs H a b n xs ys ∧ ∀ (l : Addr) (as : List Addr) (H' : Hp), H l = none → H' l = some (.lst (as.map V.ref)) → LL H' as (roundsL n (fol xs ys)) → (∀ a ∈ as, H a = none ∧ a ≠ l) → as.Nodup → Same H H' → Q (.ref l) H'
def stepsI (n : Nat) (f : Int → Int) : Int := ((roundsL n f).map fun r => (r.length : Int) - 1).sum
def spSteps : Sp := fun vs H Q _ => ∃ (a b : Addr) (n : Nat) (xs ys : List Int), two vs H a b n xs ys ∧ ∀ (H' : Hp), Same H H' → Q (.int (stepsI n (fol xs ys))) H'
theorem rg_at {n : Nat} {f : Int → Int} {t : Int} (h : t ∈ rg n) : ((rg n).map f)[t.toNat]? = some (f t) := by
  have hb := rg_mem.mp h
  unfold rg
  rw [List.map_map, List.getElem?_map, List.getElem?_range (by omega)]
  show some (f ((t.toNat : Nat) : Int)) = some (f t)
  rw [Int.toNat_of_nonneg hb.1]
theorem rounds_len {n : Nat} {f : Int → Int} : (roundsL n f).length ≤ n := by
  unfold roundsL
  rw [List.length_map]
  have := List.length_filter_le (told n f) (rg n)
  rw [rg_len] at this
  exact this
section
variable {P : Program} {w : World} {K : PySem.W.Frag} {mg : Str → Option Value} {base : Heap}
theorem scFol : FnScope ["one", "other", "followers", "follower", "thing"] ["one", "other"] (defScope s_followers_between) := ⟨rfl, rfl, rfl, by decide +kernel, rfl, by decide +kernel, by decide +kernel⟩
set_option maxHeartbeats 2000000 in
theorem ok_fol {f : Addr} {fd : FuncData} {k : Nat} (T : Df K mg "followers_between" s_followers_between ["one", "other"] f fd) (B : Bi mg) : FnOk P w K mg base CX0 (k + 1) f fd ["one", "other"] spFol := by
  refine T.F.ok scFol (fun vs H Q E h => ?_) (fun cdv A outer s H vs Q E hr h => ?_)
  · obtain ⟨a, b, n, xs, ys, ⟨rfl, _⟩, _⟩ := h
    rfl
  · obtain ⟨a, b, n, xs, ys, ⟨rfl, ha, hb, ox, oy, hn1, hn2⟩, q⟩ := h
    have hxl : (xs.map V.int).length = n := by rw [List.length_map, ox.len]
    have hyl : (ys.map V.int).length = n := by rw [List.length_map, oy.len]
    have hz : ∀ m : Nat, (List.replicate m [V.int 0]).flatten = (List.replicate m (0 : Int)).map V.int := by
      intro m
      induction m with
      | zero => rfl
      | succ m ih => rw [List.replicate_succ, List.replicate_succ, List.flatten_cons, ih]; rfl
    refine ⟨_, 
      (pss_cons (ps_set (i := 2) scFol.nd rfl (.inl rfl) (pe_op op_rep (pe_lst (pa_cons pe_int pa_nil)) (pe_callB call_len_seq (by rfl) B.len PySem.boot_len (pa_cons (pv 0) pa_nil))))
      (pss_cons (ps_for PassesOwn.never rfl (pi_zip (by rfl) B.zip (pa_cons (pv 0) (pa_cons (pv 1) pa_nil))) (pg_tup (by rfl) (pgs_cons (pg_name (i := 3) scFol.nd rfl (.inl rfl)) (pgs_cons (pg_name (i := 4) scFol.nd rfl (.inl rfl)) pgs_nil)))
        (pss_one (ps_asg (pv 3) (pg_sub (pv 2) (pv 4) set_list))))
      (pss_one (ps_ret (pv 2))))), ?_⟩
    refine ⟨line_small (by show 1 ≤ 16777216; decide), fun z nz => ?_⟩
    have s1 := same_new (o := .lst [.int 0]) nz
    refine ⟨_, rfl, a, _, rfl, .inl (SqL.of (s1 _ _ ha)), z, _, _, rfl, rfl, upd_same, by omega, by rw [hxl]; omega, line_small (by rw [hxl, Int.toNat_natCast]; show 1 * n ≤ _; omega), fun l nl => ?_⟩
    have s2 := s1.trans (same_new (o := .lst (List.replicate (((xs.map V.int).length : Nat) : Int).toNat [V.int 0]).flatten) nl)
    have nHl : H l = none := s1.free nl
    refine ⟨_, rfl, _, rfl, a, b, _, _, rfl, SqL.of (s2 _ _ ha), SqL.of (s2 _ _ hb), ?_⟩
    refine RZ.for_zipL (xs := xs.map V.int) (ys := ys.map V.int) (by rw [hxl, hyl]) (fun i σ H3 => ∃ (y3 y4 : Option V) (ps : List Int), σ = [some (.ref a), some (.ref b), some (.ref l), y3, y4] ∧ H3 l = some (.lst (ps.map V.int)) ∧ ps.length = n ∧ (∀ (j : Nat) (x y : Int), j < i → xs[j]? = some x → ys[j]? = some y → ps[y.toNat]? = some x) ∧ Same H H3)
      ⟨none, none, List.replicate n 0, rfl, by rw [upd_same, hz, hxl, Int.toNat_natCast], by rw [List.length_replicate], fun j x y hj => absurd hj (Nat.not_lt_zero _), s2⟩ (fun i σ H3 hP => by obtain ⟨_, _, _, _, _, _, _, sm⟩ := hP; exact ⟨SqL.of (sm _ _ ha), SqL.of (sm _ _ hb)⟩) (fun i x y t σ H3 hx hy hP nt => ?_) (fun σ H3 hP => ?_)
    · obtain ⟨y3, y4, ps, rfl, hl3, el, hat, sm⟩ := hP
      obtain ⟨u, eu, rfl⟩ := int_at_inv hx
      obtain ⟨v, ev, rfl⟩ := int_at_inv hy
      have hv := oy.mem (List.mem_of_getElem? ev)
      have s3 := same_new (o := .tup [.int u, .int v]) nt
      have hl4 := s3 _ _ hl3
      refine ⟨t, _, rfl, .inl (.inl upd_same), rfl, _, _, rfl, _, _, rfl, rfl, ?_⟩
      refine ⟨_, rfl, _, rfl, _, rfl, l, _, _, v.toNat, rfl, rfl, hl4, ix_n (by omega) (by rw [List.length_map]; omega), ?_⟩
      refine ⟨_, _, ps.set v.toNat u, rfl, by rw [upd_same, List.map_set], by rw [List.length_set]; exact el, fun j x y hj hx2 hy2 => ?_, fun c o e => ?_⟩
      · by_cases c : j = i
        · subst c
          have e1 : x = u := Option.some.inj (hx2.symm.trans eu)
          have e2 : y = v := Option.some.inj (hy2.symm.trans ev)
          subst e1 e2
          rw [List.getElem?_set_self (by omega)]
        · have hy3 := oy.mem (List.mem_of_getElem? hy2)
          have ne : v.toNat ≠ y.toNat := fun e => c (nd_ix oy.nodup hy2 (by rw [ev]; congr 1; omega))
          rw [List.getElem?_set_ne ne]
          exact hat j x y (by omega) hx2 hy2
      · rw [upd_ne (ne_of_none e nHl)]
        exact s3 _ _ (sm _ _ e)
    · obtain ⟨y3, y4, ps, rfl, hl3, el, hat, sm⟩ := hP
      rw [hxl] at hat
      have eps : ps = (rg n).map (fol xs ys) := by
        apply List.ext_getElem?
        intro t
        by_cases c : t < n
        · obtain ⟨j, hj, ej⟩ := ord_at oy c
          obtain ⟨x, hx, _⟩ := ord_ix ox hj
          have e1 := hat j x _ hj hx ej
          rw [Int.toNat_natCast] at e1
          have e2 := rg_at (n := n) (f := fol xs ys) (t := (t : Int)) (rg_mem.mpr ⟨by omega, by omega⟩)
          rw [Int.toNat_natCast] at e2
          rw [e1, e2]
          unfold fol
          rw [pos_of oy ej, g0_at hx]
        · rw [List.getElem?_eq_none (by omega), List.getElem?_eq_none (by rw [List.length_map, rg_len]; omega)]
      subst eps
      exact ⟨_, rfl, q l H3 nHl hl3 sm⟩
theorem scRound : FnScope ["thing", "followers", "things", "follower"] ["thing", "followers"] (defScope s_round_from) := ⟨rfl, rfl, rfl, by decide +kernel, rfl, by decide +kernel, by decide +kernel⟩
set_option maxHeartbeats 2000000 in
theorem ok_round {f : Addr} {fd : FuncData} {k : Nat} (T : Df K mg "round_from" s_round_from ["thing", "followers"] f fd) : FnOk P w K mg base CX0 (k + 1) f fd ["thing", "followers"] spRound := by
  refine T.F.ok scRound (fun vs H Q E h => ?_) (fun cdv A outer s H vs Q E hr h => ?_)
  · obtain ⟨t, l, n, g, rfl, _⟩ := h
    rfl
  · obtain ⟨t, l, n, g, rfl, hl, hb, ht, hn, q⟩ := h
    have htb := rg_mem.mp ht
    obtain ⟨p1, p2, p3, p4⟩ := hb.per_spec ht
    refine ⟨_, 
      (pss_cons (ps_set (i := 2) scRound.nd rfl (.inl rfl) (pe_lst (pa_cons (pv 0) pa_nil)))
      (pss_cons (ps_set (i := 3) scRound.nd rfl (.inl rfl) (pe_ix ix_list (pv 1) (pv 0) (fun _ _ => rfl)))
      (pss_cons (ps_while PassesOwn.never (pt_cmpR op_ne (pv 3) (pv 0) (nomark _))
        (pss_cons (ps_expr (pe_bm PySem.F.plainAttrs_list PySem.F.slot_list_append PySem.F.type_list_append mt_append (pv 2) (pa_cons (pv 3) pa_nil)))
        (pss_one (ps_set (i := 3) scRound.nd rfl (.inl rfl) (pe_ix ix_list (pv 1) (pv 3) (fun _ _ => rfl))))))
      (pss_one (ps_ret (pv 2)))))), ?_⟩
    refine ⟨_, rfl, line_small (by show 1 ≤ 16777216; decide), fun r nr => ?_⟩
    have s1 := same_new (o := .lst [.int t]) nr
    refine ⟨_, rfl, _, rfl, l, _, _, _, rfl, rfl, SqL.of (s1 _ _ hl), at_of (j := t.toNat) (by omega) (int_at (rg_at ht)), ?_⟩
    refine ⟨fun m σ H3 => ∃ j : Nat, 1 ≤ j ∧ j ≤ per n g t ∧ m = per n g t - j ∧ σ = [some (.int t), some (.ref l), some (.ref r), some (.int (it g j t))] ∧ H3 r = some (.lst (((cyc n g t).take j).map V.int)) ∧ Same H H3,
      ⟨_, 1, by omega, p1, rfl, rfl, ?_, s1⟩, fun m σ H3 hW => ?_⟩
    · rw [upd_same, take_more (l := cyc n g t) (i := 0) (cyc_at p1)]
      rfl
    obtain ⟨j, j1, j2, rfl, rfl, hr3, sm⟩ := hW
    refine ⟨_, rfl, _, rfl, rfl, _, rfl, ?_⟩
    by_cases c : it g j t = t
    · have ej : j = per n g t := by
        by_cases d : j < per n g t
        · exact absurd c (p4 j j1 d)
        · omega
      refine iteNS (congrArg V.int c) ⟨_, rfl, q r H3 nr ?_ sm⟩
      rw [ej, List.take_of_length_le (by rw [cyc_len]; exact Nat.le_refl _)] at hr3
      exact hr3
    · have hj : j < per n g t := by
        by_cases d : j = per n g t
        · rw [d] at c
          exact absurd p3 c
        · omega
      rw [decide_eq_false (fun e => c (V.int.inj e))]
      have hin := hb.it_in ht j
      have hib := rg_mem.mp hin
      refine iteT ⟨fun σ' H' => σ' = [some (.int t), some (.ref l), some (.ref r), some (.int (it g (j + 1) t))] ∧ H' r = some (.lst (((cyc n g t).take (j + 1)).map V.int)) ∧ Same H H', fun σ' H' hN => ?_, ?_⟩
      · obtain ⟨e1, e2, e3⟩ := hN
        exact ⟨per n g t - (j + 1), by omega, j + 1, by omega, by omega, rfl, e1, e2, e3⟩
      · refine ⟨_, rfl, .inl ⟨rfl, _, SqL.of hr3⟩, _, rfl, r, _, _, rfl, rfl, hr3, line_lt (by rw [List.length_map, List.length_take]; omega), ?_⟩
        have nlr : l ≠ r := ne_of_none hl nr
        refine ⟨_, rfl, _, rfl, l, _, _, _, rfl, rfl, SqL.of (by rw [upd_ne nlr]; exact sm _ _ hl), at_of (j := (it g j t).toNat) (by omega) (int_at (rg_at hin)), rfl, ?_, fun u o e => ?_⟩
        · rw [upd_same, take_more (cyc_at hj), List.map_append]
          rfl
        · rw [upd_ne (ne_of_none e nr)]
          exact sm _ _ e
theorem scRounds : FnScope ["one", "other", "followers", "starts", "thing", "things"] ["one", "other"] (defScope s_rounds_between) := ⟨rfl, rfl, rfl, by decide +kernel, rfl, by decide +kernel, by decide +kernel⟩
set_option maxHeartbeats 4000000 in
theorem ok_rounds {f f1 f2 f3 f4 : Addr} {fd d1 d2 d3 d4 : FuncData} {k : Nat} (T : Df K mg "rounds_between" s_rounds_between ["one", "other"] f fd) (T_check_orders : Df K mg "check_orders" s_check_orders ["one", "other"] f1 d1) (T_check_fit : Df K mg "check_fit" s_check_fit ["one", "other"] f2 d2) (T_followers_between : Df K mg "followers_between" s_followers_between ["one", "other"] f3 d3) (T_round_from : Df K mg "round_from" s_round_from ["thing", "followers"] f4 d4)
    (G_check_orders : FnOk P w K mg base CX0 (k + 1) f1 d1 ["one", "other"] spChecks) (B : Bi mg) : FnOk P w K mg base CX0 (k + 2) f fd ["one", "other"] spRounds := by
  have G_check_fit : FnOk P w K mg base CX0 (k + 1) f2 d2 ["one", "other"] spFit := ok_fit T_check_fit B
  have G_followers_between : FnOk P w K mg base CX0 (k + 1) f3 d3 ["one", "other"] spFol := ok_fol T_followers_between B
  have G_round_from : FnOk P w K mg base CX0 (k + 1) f4 d4 ["thing", "followers"] spRound := ok_round T_round_from
  refine T.F.ok scRounds (fun vs H Q E h => ?_) (fun cdv A outer s H vs Q E hr h => ?_)
  · obtain ⟨a, b, n, xs, ys, ⟨rfl, _⟩, _⟩ := h
    rfl
  · obtain ⟨a, b, n, xs, ys, ⟨rfl, ha, hb, ox, oy, hn1, hn2⟩, q⟩ := h
    have hxl : (xs.map V.int).length = n := by rw [List.length_map, ox.len]
    have bj := fol_bij ox oy
    refine ⟨_, 
      (pss_cons (ps_expr (pe_call G_check_orders hr (by rfl) T_check_orders.g T_check_orders.F.kp T_check_orders.b .nil pass0 (pa_cons (pv 0) (pa_cons (pv 1) pa_nil))))
      (pss_cons (ps_expr (pe_call G_check_fit hr (by rfl) T_check_fit.g T_check_fit.F.kp T_check_fit.b .nil pass0 (pa_cons (pv 0) (pa_cons (pv 1) pa_nil))))
      (pss_cons (ps_set (i := 2) scRounds.nd rfl (.inr rfl) (pe_call G_followers_between hr (by rfl) T_followers_between.g T_followers_between.F.kp T_followers_between.b .nil pass0 (pa_cons (pv 0) (pa_cons (pv 1) pa_nil))))
      (pss_cons (ps_setLc (i := 3) (own := [("thing", 4)]) (g := (gName 4)) (tt := tYes) (te := (tCall spRound [] E0 (tCons (tVar 4) (tCons (tVar 2) tNil)))) (by rfl) scRounds.nd rfl rfl (sw_true rfl rfl rfl (by decide +kernel)) (pi_range1 (by rfl) B.range (pa_cons (pe_callB call_len_seq (by rfl) B.len PySem.boot_len (pa_cons (pv 0) pa_nil)) pa_nil)) (blkOk_by (N := ["one", "other", "followers", "starts", "thing", "things"]) (sc := defScope s_rounds_between) (by decide +kernel)) (fun _ _ _ _ _ => (pg_name (i := 4) scRounds.nd rfl (.inl rfl))) (fun _ _ _ _ _ => pts_nil) (fun _ _ _ _ _ => (pe_call G_round_from hr (by rfl) T_round_from.g T_round_from.F.kp T_round_from.b .nil pass0 (pa_cons (pv 4) (pa_cons (pv 2) pa_nil)))))
      (pss_one (ps_ret (pe_lc (own := [("things", 5)]) (g := (gName 5)) (tt := (tAnd (tTest (tOp (rI0 fun i j => .bl (decide (j < i))) (tCB (rLenS K) (tCons (tVar 5) tNil)) (tC (.int 1)))) (tTest (tOp rEq (tOp (rIxL K) (tVar 5) (tC (.int 0))) (tCB (rMin K) (tCons (tVar 5) tNil)))))) (te := (tVar 5)) rfl scRounds.nd (pi_list (pv 3)) (blkOk_by (N := ["one", "other", "followers", "starts", "thing", "things"]) (sc := defScope s_rounds_between) (by decide +kernel)) (fun _ _ _ _ _ => (pg_name (i := 5) scRounds.nd rfl (.inl rfl))) (fun _ _ _ _ _ => (pts_one (PW.pt (pw_and (pt_cmpR op_gt (pe_callB call_len_seq (by rfl) B.len PySem.boot_len (pa_cons (pv 5) pa_nil)) pe_int (nomark _)) (pw_and1 (pt_cmpR op_eq (pe_ix ix_list (pv 5) pe_int (fun _ _ => rfl)) (pe_callB (cr_min rfl) (by rfl) B.min (by decide +kernel) (pa_cons (pv 5) pa_nil)) (nomark _))))))) (fun _ _ _ _ _ => (pv 5))))))))), ?_⟩
    refine ⟨_, rfl, _, rfl, a, b, n, n, xs, ys, rfl, ha, hb, ox, hn1, hn2, oy, hn1, hn2, fun H1 s1 => ?_⟩
    refine ⟨_, rfl, _, rfl, a, b, xs, ys, rfl, s1 _ _ ha, s1 _ _ hb, by rw [ox.len, oy.len], ?_⟩
    refine ⟨_, rfl, _, rfl, a, b, n, xs, ys, ⟨rfl, s1 _ _ ha, s1 _ _ hb, ox, oy, hn1, hn2⟩, fun fl H2 nfl hfl s2 => ?_⟩
    have s12 := s1.trans s2
    -- starts
    refine ⟨_, rfl, a, _, rfl, .inl (SqL.of (s12 _ _ ha)), _, rfl, by omega, by rw [hxl]; omega, fun D nD => ?_⟩
    rw [hxl, Int.toNat_natCast]
    have nHD : H D = none := s12.free nD
    have nflD : fl ≠ D := ne_of_none hfl nD
    refine lc_range (lo := 0) (n := n) (fun m H3 => ∃ as : List Addr, H3 D = some (.lst (as.map V.ref)) ∧ LL H3 as ((rg m).map (cyc n (fol xs ys))) ∧ (∀ c ∈ as, H c = none ∧ c ≠ D) ∧ as.Nodup ∧ H3 fl = some (.lst (((rg n).map (fol xs ys)).map V.int)) ∧ Same H H3)
      ⟨[], upd_same, trivial, fun c hc => absurd hc List.not_mem_nil, List.nodup_nil, by rw [upd_ne nflD]; exact hfl, s12.trans (same_new nD)⟩ (fun m H3 hm hP => ?_) (fun H3 hP => ?_)
    · obtain ⟨as, hD3, hLL, hfr, hnd, hf3, sm⟩ := hP
      have hmr : (0 + (m : Int)) ∈ rg n := rg_mem.mpr ⟨by omega, by omega⟩
      refine ⟨rfl, _, rfl, _, rfl, 0 + (m : Int), fl, n, fol xs ys, rfl, hf3, bj, hmr, hn2, fun r H4 nr hr4 s4 => ?_⟩
      have hlen := hLL.len
      rw [List.length_map, rg_len] at hlen
      have nrD : r ≠ D := (ne_of_none hD3 nr).symm
      refine ⟨_, s4 _ _ hD3, line_lt (by rw [List.length_map]; omega), as ++ [r], by rw [upd_same, List.map_append]; rfl, ?_, fun c hc => ?_, ?_, by rw [upd_ne nflD]; exact s4 _ _ hf3, fun u o e => ?_⟩
      · rw [rg_succ, List.map_append]
        have h1 : LL (upd H4 D (.lst (as.map V.ref ++ [.ref r]))) as ((rg m).map (cyc n (fol xs ys))) := hLL.keep fun c hc o e => by rw [upd_ne (hfr c hc).2]; exact s4 _ _ e
        refine h1.snoc ?_
        rw [upd_ne nrD, ← Int.zero_add (m : Int)]
        exact hr4
      · rcases List.mem_append.mp hc with hc | hc
        · exact hfr c hc
        · rw [List.mem_singleton.mp hc]
          exact ⟨sm.free nr, nrD⟩
      · rw [List.nodup_append]
        refine ⟨hnd, List.nodup_cons.mpr ⟨List.not_mem_nil, List.nodup_nil⟩, fun x hx y hy e => ?_⟩
        rw [List.mem_singleton.mp hy] at e
        obtain ⟨o, eo⟩ := hLL.tracked hx
        rw [e, nr] at eo
        cases eo
      · rw [upd_ne (ne_of_none e nHD)]
        exact s4 _ _ (sm _ _ e)
    · obtain ⟨as, hD3, hLL, hfr, hnd, hf3, sm⟩ := hP
      have hlen := hLL.len
      rw [List.length_map, rg_len] at hlen
      refine ⟨_, rfl, D, rfl, ⟨_, SqL.of hD3⟩, fun G nG => ?_⟩
      have nHG : H G = none := sm.free nG
      refine lc_list (K := K) (a := D) (xs := as.map V.ref) (fun m H4 => ∃ bs : List Addr, H4 G = some (.lst (bs.map V.ref)) ∧ LL H4 bs (((rg m).filter (told n (fol xs ys))).map (cyc n (fol xs ys))) ∧ bs.Sublist (as.take m) ∧ Same H3 H4)
        ⟨[], upd_same, trivial, List.nil_sublist _, same_new nG⟩ (fun m H4 _ hP => by obtain ⟨_, _, _, _, s4⟩ := hP; exact SqL.of (s4 _ _ hD3)) (fun m x H4 hx hP => ?_) (fun H4 hP => ?_)
      · obtain ⟨bs, hG4, hLb, hsub, s4⟩ := hP
        obtain ⟨r, er, rfl⟩ := ref_at_inv hx
        have hm : m < n := by
          have := (List.getElem?_eq_some_iff.mp er).1
          omega
        obtain ⟨row, erow, hrow⟩ := hLL.get er
        have erow2 : row = cyc n (fol xs ys) (m : Int) := by
          unfold rg at erow
          rw [List.map_map, List.getElem?_map, List.getElem?_range hm] at erow
          exact (Option.some.inj erow).symm
        subst erow2
        have hrow4 := s4 _ _ hrow
        have hmr : (m : Int) ∈ rg n := rg_mem.mpr ⟨by omega, by omega⟩
        have hper := bj.per_spec hmr
        have ner : r ≠ G := ne_of_none hrow nG
        have hclen : ((cyc n (fol xs ys) (m : Int)).map V.int).length = per n (fol xs ys) (m : Int) := by rw [List.length_map, cyc_len]
        have etk : as.take (m + 1) = as.take m ++ [r] := by rw [List.take_add_one, er]; rfl
        have efm : (rg (m + 1)).filter (told n (fol xs ys)) = (rg m).filter (told n (fol xs ys)) ++ (if told n (fol xs ys) (m : Int) then [(m : Int)] else []) := by
          rw [rg_succ, List.filter_append, List.filter_cons]
          rfl
        have no : told n (fol xs ys) (m : Int) = false → ∃ bs : List Addr, H4 G = some (.lst (bs.map V.ref)) ∧ LL H4 bs (((rg (m + 1)).filter (told n (fol xs ys))).map (cyc n (fol xs ys))) ∧ bs.Sublist (as.take (m + 1)) ∧ Same H3 H4 := fun et => by
          refine ⟨bs, hG4, ?_, ?_, s4⟩
          · rw [efm, et]
            simpa using hLb
          · rw [etk]
            exact hsub.trans (List.sublist_append_left _ _)
        refine ⟨rfl, _, rfl, r, _, rfl, .inl (SqL.of hrow4), _, 1, rfl, rfl, _, rfl, ite2 (fun c => ?_) (fun c => ?_)⟩
        · have hp : 1 < per n (fol xs ys) (m : Int) := by
            have : (1 : Int) < ((((cyc n (fol xs ys) (m : Int)).map V.int).length : Nat) : Int) := of_decide_eq_true c
            rw [hclen] at this
            omega
          refine ⟨_, rfl, r, _, 0, _, rfl, rfl, SqL.of hrow4, atI_nat (j := 0) (int_at (cyc_at (j := 0) (by omega))), _, rfl, r, cyc n (fol xs ys) (m : Int), rfl, SqL.of hrow4, by rw [cyc_len]; omega, fun z hz hzle => ?_⟩
          have ez : mn n (fol xs ys) (m : Int) = z := mnL_of hz hzle
          have eit : it (fol xs ys) 0 (m : Int) = (m : Int) := rfl
          rw [eit]
          refine ⟨rfl, _, rfl, ?_⟩
          by_cases d : (m : Int) = z
          · have et : told n (fol xs ys) (m : Int) = true := by
              unfold told
              rw [decide_eq_true hp, decide_eq_true (show (m : Int) = mn n (fol xs ys) (m : Int) by rw [ez]; exact d)]
              rfl
            rw [decide_eq_true (congrArg V.int d)]
            refine iteT ⟨_, rfl, _, hG4, line_lt ?_, bs ++ [r], by rw [upd_same, List.map_append]; rfl, ?_, ?_, fun u o e => ?_⟩
            · rw [List.length_map]
              have := hsub.length_le
              rw [List.length_take] at this
              omega
            · rw [efm, et, if_pos rfl, List.map_append]
              have h1 : LL (upd H4 G (.lst (bs.map V.ref ++ [.ref r]))) bs (((rg m).filter (told n (fol xs ys))).map (cyc n (fol xs ys))) := hLb.keep fun c hc o e => by
                have hca : c ∈ as := List.mem_of_mem_take (hsub.subset hc)
                obtain ⟨o2, e2⟩ := hLL.tracked hca
                rw [upd_ne (ne_of_none e2 nG)]
                exact e
              refine h1.snoc ?_
              rw [upd_ne ner]
              exact hrow4
            · rw [etk]
              exact hsub.append (List.Sublist.refl _)
            · rw [upd_ne (ne_of_none e nG)]
              exact s4 _ _ e
          · have et : told n (fol xs ys) (m : Int) = false := by
              unfold told
              rw [decide_eq_false (show ¬ ((m : Int) = mn n (fol xs ys) (m : Int)) by rw [ez]; exact d), Bool.and_false]
            rw [decide_eq_false (fun e => d (V.int.inj e))]
            exact iteF (no et)
        · have et : told n (fol xs ys) (m : Int) = false := by
            unfold told
            rw [decide_eq_false (fun hp => c (decide_eq_true (by rw [hclen]; omega))), Bool.false_and]
          exact iteF (no et)
      · obtain ⟨bs, hG4, hLb, hsub, s4⟩ := hP
        rw [List.length_map, hlen] at hLb hsub
        refine q G bs H4 nHG hG4 hLb (fun c hc => ?_) ?_ (sm.trans s4)
        · have hca : c ∈ as := List.mem_of_mem_take (hsub.subset hc)
          obtain ⟨o2, e2⟩ := hLL.tracked hca
          exact ⟨(hfr c hca).1, ne_of_none e2 nG⟩
        · exact (hnd.sublist (List.take_sublist n as)).sublist hsub
theorem scSteps : FnScope ["one", "other", "things"] ["one", "other"] (defScope s_steps_between) := ⟨rfl, rfl, rfl, by decide +kernel, rfl, by decide +kernel, by decide +kernel⟩
set_option maxHeartbeats 2000000 in
theorem ok_steps {f f1 : Addr} {fd d1 : FuncData} {k : Nat} (T : Df K mg "steps_between" s_steps_between ["one", "other"] f fd) (T_rounds_between : Df K mg "rounds_between" s_rounds_between ["one", "other"] f1 d1) (G_rounds_between : FnOk P w K mg base CX0 k f1 d1 ["one", "other"] spRounds) (B : Bi mg) : FnOk P w K mg base CX0 (k + 1) f fd ["one", "other"] spSteps := by
  refine T.F.ok scSteps (fun vs H Q E h => ?_) (fun cdv A outer s H vs Q E hr h => ?_)
  · obtain ⟨a, b, n, xs, ys, ⟨rfl, _⟩, _⟩ := h
    rfl
  · obtain ⟨a, b, n, xs, ys, ⟨rfl, ha, hb, ox, oy, hn1, hn2⟩, q⟩ := h
    refine ⟨_, 
      (pss_one (ps_ret (pe_callB (cr_sum rfl) (by rfl) B.sum (by decide +kernel) (pa_cons (pe_lc (own := [("things", 2)]) (g := (gName 2)) (tt := tYes) (te := (tOp (rI0 fun i j => .int (i - j)) (tCB (rLenS K) (tCons (tVar 2) tNil)) (tC (.int 1)))) rfl scSteps.nd (pi_list (pe_call G_rounds_between hr (by rfl) T_rounds_between.g T_rounds_between.F.kp T_rounds_between.b .nil pass0 (pa_cons (pv 0) (pa_cons (pv 1) pa_nil)))) (blkOk_by (N := ["one", "other", "things"]) (sc := defScope s_steps_between) (by decide +kernel)) (fun _ _ _ _ _ => (pg_name (i := 2) scSteps.nd rfl (.inl rfl))) (fun _ _ _ _ _ => pts_nil) (fun _ _ _ _ _ => (pe_op op_sub (pe_callB call_len_seq (by rfl) B.len PySem.boot_len (pa_cons (pv 2) pa_nil)) pe_int))) pa_nil)))), ?_⟩
    refine ⟨_, rfl, _, rfl, a, b, n, xs, ys, ⟨rfl, ha, hb, ox, oy, hn1, hn2⟩, fun l as H1 nl hl hLL hfr hnd s1 => ?_⟩
    refine ⟨l, rfl, ⟨_, SqL.of hl⟩, fun D nD => ?_⟩
    have hlen := hLL.len
    have hrl := rounds_len (n := n) (f := fol xs ys)
    refine lc_list (K := K) (a := l) (xs := as.map V.ref) (fun m H3 => H3 D = some (.lst ((((roundsL n (fol xs ys)).map fun r => (r.length : Int) - 1).take m).map V.int)) ∧ Same H1 H3) ⟨upd_same, same_new nD⟩ (fun m H3 _ hP => SqL.of (hP.2 _ _ hl)) (fun m x H3 hx hP => ?_) (fun H3 hP => ?_)
    · obtain ⟨r, er, rfl⟩ := ref_at_inv hx
      obtain ⟨hD3, sm⟩ := hP
      obtain ⟨row, erow, hrow⟩ := hLL.get er
      have em : ((roundsL n (fol xs ys)).map fun r => (r.length : Int) - 1)[m]? = some ((row.length : Int) - 1) := by rw [List.getElem?_map, erow]; rfl
      refine ⟨rfl, _, rfl, r, _, rfl, .inl (SqL.of (sm _ _ hrow)), _, 1, rfl, rfl, _, hD3, line_lt (by rw [List.length_map, List.length_take, List.length_map]; omega), ?_, fun u o e => ?_⟩
      · rw [upd_same, take_more em, List.map_append, List.length_map]
        rfl
      · rw [upd_ne (ne_of_none e nD)]
        exact sm _ _ e
    · obtain ⟨hD3, sm⟩ := hP
      rw [List.take_of_length_le (by rw [List.length_map, List.length_map, hlen]; exact Nat.le_refl _)] at hD3
      exact ⟨D, _, rfl, SqL.of hD3, q H3 (s1.trans sm)⟩
end
end Fo
namespace Fo
open PySem PySem.Spec PyProof.Rows L2
abbrev rMax2 : List V → Hp → VK → Prop := fun xs H Q => ∃ i j, xs = [.int i, .int j] ∧ Q (.int (if j > i then j else i)) H
abbrev rMin2 : List V → Hp → VK → Prop := fun xs H Q => ∃ i j, xs = [.int i, .int j] ∧ Q (.int (if j < i then j else i)) H
abbrev rInt1 : List V → Hp → VK → Prop := fun xs H Q => (∃ i, xs = [.int i] ∧ Q (.int i) H) ∨ ∃ k, xs = [.bl k] ∧ Q (.int (if k then 1 else 0)) H
/-- where a thing stands in an order -/
theorem idx_read {K : PySem.W.Frag} {H : Hp} {a : Addr} {n : Nat} {ys : List Int} {x : Int} {Q : VK} (o : IsOrd n ys) (h : H a = some (.lst (ys.map V.int))) (x0 : 0 ≤ x) (x1 : x < n) (q : Q (.int (pos ys x)) H) : rIndex K (.ref a) [.int x] H Q := by
  obtain ⟨j, hj, ej, pj⟩ := pos_at o x0 x1
  refine ⟨a, _, _, j, _, rfl, rfl, SqL.of h, rfl, flat_ints ys, int_at ej, ?_, fun u z' hu hz' => ?_, ?_⟩
  · show (x == x) = true
    exact beq_self_eq_true _
  · obtain ⟨y, ey, rfl⟩ := int_at_inv hz'
    show (y == x) = false
    rw [beq_eq_false_iff_ne]
    intro e
    subst e
    exact absurd (nd_ix o.nodup ey ej) (by omega)
  · rw [← pj]
    exact q
theorem idx_facts {n : Nat} {ys : List Int} {x : Int} (o : IsOrd n ys) (x0 : 0 ≤ x) (x1 : x < n) : ∃ j : Nat, (ys.map V.int)[j]? = some (V.int x) ∧ eqV (V.int x) (V.int x) = true ∧ (∀ (m : Nat) (z' : V), m < j → (ys.map V.int)[m]? = some z' → eqV z' (V.int x) = false) ∧ ((j : Nat) : Int) = pos ys x := by
  obtain ⟨j, hj, ej, pj⟩ := pos_at o x0 x1
  refine ⟨j, int_at ej, ?_, fun u z' hu hz' => ?_, pj.symm⟩
  · show (x == x) = true
    exact beq_self_eq_true _
  · obtain ⟨y, ey, rfl⟩ := int_at_inv hz'
    show (y == x) = false
    rw [beq_eq_false_iff_ne]
    intro e
    subst e
    exact absurd (nd_ix o.nodup ey ej) (by omega)
end Fo
namespace Fo
open PySem PySem.Spec PyProof.Rows L2
theorem rem_filter : ∀ {l : List Int} {j : Nat} {k : Int}, l.Nodup → l[j]? = some k → l.eraseIdx j = l.filter (fun x => !decide (x = k))
  | [], j, k, _, h => by simp at h
  | a :: l, 0, k, hn, h => by
    have e : a = k := Option.some.inj h
    subst e
    obtain ⟨h1, _⟩ := List.nodup_cons.mp hn
    rw [List.eraseIdx_cons_zero, List.filter_cons, decide_eq_true rfl]
    symm
    show (if (!true) = true then _ else l.filter _) = l
    rw [if_neg (by decide), List.filter_eq_self]
    intro x hx
    rw [decide_eq_false (fun e => h1 (by rw [← e]; exact hx))]
    rfl
  | a :: l, j + 1, k, hn, h => by
    obtain ⟨h1, h2⟩ := List.nodup_cons.mp hn
    have hk : k ∈ l := List.mem_of_getElem? (l := l) (i := j) h
    have ih := rem_filter (l := l) (j := j) (k := k) h2 h
    rw [List.eraseIdx_cons_succ, ih, List.filter_cons, decide_eq_false (show ¬ a = k from fun e => h1 (by rw [e]; exact hk))]
    rfl
def remL (L S : List Int) : List Int := L.filter fun x => !decide (x ∈ S)
theorem rem_step (L S : List Int) (k : Int) : (remL L S).filter (fun x => !decide (x = k)) = remL L (S ++ [k]) := by
  unfold remL
  rw [List.filter_filter]
  apply List.filter_congr
  intro x _
  by_cases c : x = k
  · rw [decide_eq_true c, decide_eq_true (show x ∈ S ++ [k] by rw [c]; simp)]
    rfl
  · by_cases d : x ∈ S
    · rw [decide_eq_true d, decide_eq_true (show x ∈ S ++ [k] from List.mem_append_left _ d)]
      simp
    · rw [decide_eq_false c, decide_eq_false d, decide_eq_false (show ¬ x ∈ S ++ [k] by simp [c, d])]
      rfl
section
variable {n : Nat} {f : Int → Int}
theorem Bij.cyc_nodup (b : Bij n f) {t : Int} (ht : t ∈ rg n) : (cyc n f t).Nodup := by
  obtain ⟨p1, p2, p3, p4⟩ := b.per_spec ht
  unfold cyc
  have hp : (List.range (per n f t)).Pairwise (fun i j => i < j ∧ j < per n f t) := by
    rw [List.pairwise_iff_getElem]
    intro i j hi hj hij
    rw [List.getElem_range, List.getElem_range]
    rw [List.length_range] at hj
    exact ⟨hij, hj⟩
  refine List.Pairwise.map _ (fun i j h => h) (hp.imp fun {i j} hij e => ?_)
  have ej : it f j t = it f i (it f (j - i) t) := by rw [← it_add, show i + (j - i) = j by omega]
  rw [ej] at e
  have z := b.it_inj ht (b.it_in ht (j - i)) i e
  exact p4 (j - i) (by omega) (by omega) z.symm
theorem Bij.cyc_new (b : Bij n f) {t : Int} (ht : t ∈ rg n) {j : Nat} (hj : j < per n f t) : it f j t ∉ (cyc n f t).take j := by
  intro h
  obtain ⟨i, hi⟩ := List.mem_iff_getElem?.mp h
  have hil : i < j := by
    have := (List.getElem?_eq_some_iff.mp hi).1
    rw [List.length_take] at this
    omega
  rw [List.getElem?_take_of_lt hil] at hi
  have := nd_ix (b.cyc_nodup ht) hi (cyc_at hj)
  omega
theorem left_nodup (T : Int) : (leftL n f T).Nodup := List.Pairwise.filter _ (rg_nodup n)
theorem rows_len (b : Bij n f) : ∀ r ∈ roundsL n f, r.length ≤ n := by
  intro r hr
  obtain ⟨t, ht, rfl⟩ := List.mem_map.mp hr
  rw [cyc_len]
  exact (b.per_spec (List.mem_filter.mp ht).1).2.1
end
def spDue : Sp := fun vs H Q _ => ∃ (a b : Addr) (n : Nat) (xs ys : List Int), two vs H a b n xs ys ∧ ∀ (l : Addr) (as : List Addr) (H' : Hp), H l = none → H' l = some (.lst (as.map V.ref)) → LL H' as (roundsL n (fol xs ys)) → Same H H' → Q (.ref l) H'
def spIs : Sp := fun vs H Q _ => ∃ (a b : Addr) (as bs : List Addr) (rs : List (List Int)), vs = [.ref a, .ref b] ∧ H a = some (.lst (as.map V.ref)) ∧ LL H as rs ∧ H b = some (.lst (bs.map V.ref)) ∧ LL H bs rs ∧ ∀ H', Same H H' → Q (.bl true) H'
def spLaw (K : PySem.W.Frag) : Sp := fun vs H Q _ => ∃ (a : Addr) (ns : List Int), vs = [.ref a] ∧ SqL K H a (ns.map V.int) ∧ ns.length ≤ 63 ∧ ∀ H', Q (.bl true) H'
theorem steps_sum (rs : List (List Int)) : (rs.map fun r => (r.length : Int) - 1).sum = (rs.map fun r => (r.length : Int)).sum - (rs.length : Int) := by
  induction rs with
  | nil => rfl
  | cons r rs ih =>
    rw [List.map_cons, List.sum_cons, ih, List.map_cons, List.sum_cons, List.length_cons]
    omega
theorem rounds_self {n : Nat} {xs : List Int} (ox : IsOrd n xs) (hn : 1 ≤ n) : roundsL n (fol xs xs) = [] := by
  unfold roundsL
  rw [List.filter_eq_nil_iff.mpr]
  · rfl
  · intro t ht
    have hp : per n (fol xs xs) t = 1 := by
      unfold per
      have : (List.range n).find? (fun j => decide (it (fol xs xs) (j + 1) t = t)) = some 0 := by
        rw [List.find?_range_eq_some]
        exact ⟨decide_eq_true (fol_self ox t ht), List.mem_range.mpr (by omega), fun j hj => absurd hj (Nat.not_lt_zero _)⟩
      rw [this]
      rfl
    unfold told
    rw [hp]
    simp
section
variable {P : Program} {w : World} {K : PySem.W.Frag} {mg : Str → Option Value} {base : Heap}
theorem scDue : FnScope ["one", "other", "left", "found", "row", "after"] ["one", "other"] (defScope s_law_due) := ⟨rfl, rfl, rfl, by decide +kernel, rfl, by decide +kernel, by decide +kernel⟩
set_option maxHeartbeats 4000000 in
theorem ok_due {f : Addr} {fd : FuncData} {k : Nat} (T : Df K mg "_law_due" s_law_due ["one", "other"] f fd) (B : Bi mg) : FnOk P w K mg base CX0 (k + 1) f fd ["one", "other"] spDue := by
  refine T.F.ok scDue (fun vs H Q E h => ?_) (fun cdv A outer s H vs Q E hr h => ?_)
  · obtain ⟨a, b, n, xs, ys, ⟨rfl, _⟩, _⟩ := h
    rfl
  · obtain ⟨a, b, n, xs, ys, ⟨rfl, ha, hb, ox, oy, hn1, hn2⟩, q⟩ := h
    have hxl : (xs.map V.int).length = n := by rw [List.length_map, ox.len]
    have bj := fol_bij ox oy
    refine ⟨_, 
      (pss_cons (ps_set (i := 2) scDue.nd rfl (.inl rfl) (pe_listRg rfl (by rfl) B.list (prg_1 (by rfl) B.range (pe_callB call_len_seq (by rfl) B.len PySem.boot_len (pa_cons (pv 0) pa_nil)))))
      (pss_cons (ps_set (i := 3) scDue.nd rfl (.inl rfl) (pe_lst pa_nil))
      (pss_cons (ps_while PassesOwn.never (pt_cmpR (op_neD hr.units) (pv 2) (pe_lst pa_nil) (nomark _))
        (pss_cons (ps_set (i := 4) scDue.nd rfl (.inl rfl) (pe_lst (pa_cons (pe_callB (cr_min rfl) (by rfl) B.min (by decide +kernel) (pa_cons (pv 2) pa_nil)) pa_nil)))
        (pss_cons (ps_expr (pe_bm PySem.F.plainAttrs_list PySem.F.slot_list_remove PySem.F.type_list_remove mt_remove (pv 2) (pa_cons (pe_ix ix_list (pv 4) pe_int (fun _ _ => rfl)) pa_nil)))
        (pss_cons (ps_set (i := 5) scDue.nd rfl (.inl rfl) (pe_ix ix_list (pv 0) (pe_bm PySem.F.plainAttrs_list PySem.F.slot_list_index PySem.F.type_list_index mt_index (pv 1) (pa_cons (pe_ix ix_list (pv 4) pe_int (fun _ _ => rfl)) pa_nil)) (fun _ _ => rfl)))
        (pss_cons (ps_while PassesOwn.never (pt_cmpR op_ne (pv 5) (pe_ix ix_list (pv 4) pe_int (fun _ _ => rfl)) (nomark _))
          (pss_cons (ps_expr (pe_bm PySem.F.plainAttrs_list PySem.F.slot_list_append PySem.F.type_list_append mt_append (pv 4) (pa_cons (pv 5) pa_nil)))
          (pss_cons (ps_expr (pe_bm PySem.F.plainAttrs_list PySem.F.slot_list_remove PySem.F.type_list_remove mt_remove (pv 2) (pa_cons (pv 5) pa_nil)))
          (pss_one (ps_set (i := 5) scDue.nd rfl (.inl rfl) (pe_ix ix_list (pv 0) (pe_bm PySem.F.plainAttrs_list PySem.F.slot_list_index PySem.F.type_list_index mt_index (pv 1) (pa_cons (pv 5) pa_nil)) (fun _ _ => rfl)))))))
        (pss_one (ps_if (pt_cmpR op_gt (pe_callB call_len_seq (by rfl) B.len PySem.boot_len (pa_cons (pv 4) pa_nil)) pe_int (nomark _))
          (pss_one (ps_expr (pe_bm PySem.F.plainAttrs_list PySem.F.slot_list_append PySem.F.type_list_append mt_append (pv 3) (pa_cons (pv 4) pa_nil))))
          pss_nil)))))))
      (pss_one (ps_ret (pv 3)))))), ?_⟩
    refine ⟨_, rfl, a, _, rfl, .inl (SqL.of ha), _, rfl, RgOk.of_le (by omega) (by rw [hxl]; omega) (by omega) (by omega), fun lf nlf => ?_⟩
    rw [hxl]
    have s1 := same_new (o := .lst (rgV 0 (n : Int))) nlf
    refine ⟨Nat.zero_le _, fun fo nfo => ?_⟩
    have s2 := s1.trans (same_new (o := .lst []) nfo)
    have nHfo : H fo = none := s1.free nfo
    have nlo : lf ≠ fo := ne_of_none upd_same nfo
    have hlf2 : (upd (upd H lf (.lst (rgV 0 (n : Int)))) fo (.lst [])) lf = some (.lst ((leftL n (fol xs ys) 0).map V.int)) := by rw [upd_ne nlo, upd_same, rg_V, bj.left_all]
    -- while left != []
    refine ⟨fun m σ H3 => ∃ (T : Int) (as : List Addr) (y4 y5 : Option V), σ = [some (.ref a), some (.ref b), some (.ref lf), some (.ref fo), y4, y5] ∧ m = (leftL n (fol xs ys) T).length ∧ H3 lf = some (.lst ((leftL n (fol xs ys) T).map V.int)) ∧ H3 fo = some (.lst (as.map V.ref)) ∧ LL H3 as (doneL n (fol xs ys) T) ∧ (∀ c ∈ as, c ≠ lf ∧ c ≠ fo) ∧ Same H H3,
      ⟨_, 0, [], none, none, rfl, rfl, hlf2, upd_same, by rw [done_none]; trivial, fun c hc => absurd hc List.not_mem_nil, s2⟩, fun m σ H3 hW => ?_⟩
    obtain ⟨T, as, y4, y5, rfl, rfl, hl3, hf3, hLL, hfr, sm⟩ := hW
    refine ⟨_, rfl, Nat.zero_le _, fun e ne => ?_⟩
    have se := same_new (o := .lst []) ne
    refine ⟨dL (leftL n (fol xs ys) T), dL [], dp_list (se _ _ hl3), dp_list (ns := []) upd_same, shaped_list _, shaped_list _, _, rfl, ?_⟩
    rw [eqv_ints]
    have hl4 := se _ _ hl3
    have hf4 := se _ _ hf3
    have hLL4 := hLL.same se
    have sm4 := sm.trans se
    have nelf : e ≠ lf := (ne_of_none hl3 ne).symm
    generalize upd H3 e (.lst []) = H4 at hl4 hf4 hLL4 sm4 ⊢
    by_cases cn : leftL n (fol xs ys) T = []
    · refine iteNS cn ⟨_, rfl, q fo as H4 nHfo hf4 ?_ sm4⟩
      rw [← bj.done_all cn]
      exact hLL4
    rw [decide_eq_false cn]
    have hpos : 0 < (leftL n (fol xs ys) T).length := by
      cases h : leftL n (fol xs ys) T with
      | nil => exact absurd h cn
      | cons _ _ => simp
    refine iteT ⟨fun σ' H' => ∃ (T' : Int) (as : List Addr) (y4 y5 : Option V), σ' = [some (.ref a), some (.ref b), some (.ref lf), some (.ref fo), y4, y5] ∧ (leftL n (fol xs ys) T').length < (leftL n (fol xs ys) T).length ∧ H' lf = some (.lst ((leftL n (fol xs ys) T').map V.int)) ∧ H' fo = some (.lst (as.map V.ref)) ∧ LL H' as (doneL n (fol xs ys) T') ∧ (∀ c ∈ as, c ≠ lf ∧ c ≠ fo) ∧ Same H H', fun σ' H' hN => ?_, ?_⟩
    · obtain ⟨T', as', z4, z5, e1, lt, r⟩ := hN
      exact ⟨_, lt, T', as', z4, z5, e1, rfl, r⟩
    -- row = [min(left)]
    refine ⟨_, rfl, lf, _, rfl, SqL.of hl4, hpos, fun t htm htle => ⟨line_small (by show 1 ≤ 16777216; decide), fun rw' nrw => ?_⟩⟩
    obtain ⟨ht, hT, emn, key⟩ := bj.least htm htle
    have htb := rg_mem.mp ht
    obtain ⟨p1, p2, p3, p4⟩ := bj.per_spec ht
    have s5 := same_new (o := .lst [.int t]) nrw
    have nrl : lf ≠ rw' := ne_of_none hl4 nrw
    have nrf : fo ≠ rw' := ne_of_none hf4 nrw
    have nHrw : H rw' = none := sm4.free nrw
    -- left.remove(row[0])
    obtain ⟨j0, ej0⟩ := List.mem_iff_getElem?.mp htm
    have hl5 := s5 _ _ hl4
    refine ⟨_, rfl, .inl ⟨rfl, _, SqL.of hl5⟩, _, rfl, rw', _, 0, _, rfl, rfl, SqL.of upd_same, rfl, lf, _, t, j0, rfl, rfl, hl5, ej0, fun m hm em => absurd (nd_ix (left_nodup T) em ej0) (by omega), ?_⟩
    have hl6 : (upd (upd H4 rw' (.lst [.int t])) lf (.lst (((leftL n (fol xs ys) T).eraseIdx j0).map V.int))) lf = some (.lst ((remL (leftL n (fol xs ys) T) ((cyc n (fol xs ys) t).take 1)).map V.int)) := by
      rw [upd_same, rem_filter (left_nodup T) ej0, take_more (l := cyc n (fol xs ys) t) (i := 0) (cyc_at p1), List.take_zero, ← rem_step]
      have e0 : remL (leftL n (fol xs ys) T) [] = leftL n (fol xs ys) T := by
        unfold remL
        rw [List.filter_eq_self]
        intro x _
        rw [decide_eq_false List.not_mem_nil]
        rfl
      rw [e0]
      rfl
    have hr6 : (upd (upd H4 rw' (.lst [.int t])) lf (.lst (((leftL n (fol xs ys) T).eraseIdx j0).map V.int))) rw' = some (.lst (((cyc n (fol xs ys) t).take 1).map V.int)) := by
      rw [upd_ne nrl.symm, upd_same, take_more (l := cyc n (fol xs ys) t) (i := 0) (cyc_at p1)]
      rfl
    have hf6 : (upd (upd H4 rw' (.lst [.int t])) lf (.lst (((leftL n (fol xs ys) T).eraseIdx j0).map V.int))) fo = some (.lst (as.map V.ref)) := by
      rw [upd_ne nlo.symm]
      exact s5 _ _ hf4
    have hLL6 : LL (upd (upd H4 rw' (.lst [.int t])) lf (.lst (((leftL n (fol xs ys) T).eraseIdx j0).map V.int))) as (doneL n (fol xs ys) T) := hLL4.keep fun c hc o eo => by
      rw [upd_ne (hfr c hc).1]
      exact s5 _ _ eo
    have sm6 : Same H (upd (upd H4 rw' (.lst [.int t])) lf (.lst (((leftL n (fol xs ys) T).eraseIdx j0).map V.int))) := fun c o eo => by
      rw [upd_ne (ne_of_none eo nlf)]
      exact s5 _ _ (sm4 _ _ eo)
    have nas : ∀ c ∈ as, c ≠ rw' := fun c hc => by
      obtain ⟨o, eo⟩ := hLL4.tracked hc
      exact ne_of_none eo nrw
    generalize upd (upd H4 rw' (.lst [.int t])) lf (.lst (((leftL n (fol xs ys) T).eraseIdx j0).map V.int)) = H6 at hl6 hr6 hf6 hLL6 sm6 ⊢
    -- the follower of a thing
    have step : ∀ x ∈ rg n, ∃ j : Nat, (ys.map V.int)[j]? = some (V.int x) ∧ eqV (V.int x) (V.int x) = true ∧ (∀ (m : Nat) (z' : V), m < j → (ys.map V.int)[m]? = some z' → eqV z' (V.int x) = false) ∧ xs[j]? = some (fol xs ys x) := fun x hx => by
      have hxb := rg_mem.mp hx
      obtain ⟨j, a1, a2, a3, a4⟩ := idx_facts oy hxb.1 hxb.2
      have hpb := rg_mem.mp (pos_in oy hx)
      obtain ⟨v, hv, _⟩ := ord_ix ox (j := j) (by omega)
      refine ⟨j, a1, a2, a3, ?_⟩
      rw [hv]
      unfold fol
      rw [← a4, g0_at hv]
    obtain ⟨j1, a1, b1, c1, x1⟩ := step t ht
    refine ⟨_, rfl, _, rfl, .inl ⟨rfl, _, SqL.of (sm6 _ _ hb)⟩, _, rfl, rw', _, 0, _, rfl, rfl, SqL.of hr6, atI_nat (j := 0) (int_at (by rw [List.getElem?_take_of_lt (by omega)]; exact cyc_at p1)), b, _, _, j1, _, rfl, rfl, SqL.of (sm6 _ _ hb), rfl, flat_ints ys, a1, b1, c1, a, _, _, _, rfl, rfl, SqL.of (sm6 _ _ ha), atI_nat (j := j1) (int_at x1), ?_⟩
    -- while after != row[0]
    refine ⟨fun m σ H7 => ∃ j : Nat, 1 ≤ j ∧ j ≤ per n (fol xs ys) t ∧ m = per n (fol xs ys) t - j ∧ σ = [some (.ref a), some (.ref b), some (.ref lf), some (.ref fo), some (.ref rw'), some (.int (it (fol xs ys) j t))] ∧ H7 lf = some (.lst ((remL (leftL n (fol xs ys) T) ((cyc n (fol xs ys) t).take j)).map V.int)) ∧ H7 rw' = some (.lst (((cyc n (fol xs ys) t).take j).map V.int)) ∧ H7 fo = some (.lst (as.map V.ref)) ∧ LL H7 as (doneL n (fol xs ys) T) ∧ Same H H7,
      ⟨_, 1, by omega, p1, rfl, rfl, hl6, hr6, hf6, hLL6, sm6⟩, fun m σ H7 hW => ?_⟩
    obtain ⟨j, jj1, jj2, rfl, rfl, hl7, hr7, hf7, hLL7, sm7⟩ := hW
    have hr70 : atI (((cyc n (fol xs ys) t).take j).map V.int) 0 = some (V.int t) := atI_nat (j := 0) (int_at (by rw [List.getElem?_take_of_lt (by omega)]; exact cyc_at p1))
    refine ⟨_, rfl, _, rfl, rw', _, 0, _, rfl, rfl, SqL.of hr7, hr70, rfl, _, rfl, ?_⟩
    by_cases c : it (fol xs ys) j t = t
    · have ej : j = per n (fol xs ys) t := by
        by_cases d : j < per n (fol xs ys) t
        · exact absurd c (p4 j jj1 d)
        · omega
      subst ej
      rw [List.take_of_length_le (by rw [cyc_len]; exact Nat.le_refl _)] at hl7 hr7
      have estep : remL (leftL n (fol xs ys) T) (cyc n (fol xs ys) t) = leftL n (fol xs ys) (t + 1) := bj.left_step htm htle
      have hless : (leftL n (fol xs ys) (t + 1)).length < (leftL n (fol xs ys) T).length := by
        rw [← estep]
        unfold remL
        rw [List.length_filter_lt_length_iff_exists]
        exact ⟨t, htm, by rw [decide_eq_true (bj.cyc_self ht)]; decide⟩
      rw [estep] at hl7
      have edone := bj.done_step htm htle
      refine iteNS (congrArg V.int c) ?_
      refine ⟨_, rfl, rw', _, rfl, .inl (SqL.of hr7), _, 1, rfl, rfl, _, rfl, ite2 (fun d => ?_) (fun d => ?_)⟩
      · have hp : 1 < per n (fol xs ys) t := by
          have : (1 : Int) < ((((cyc n (fol xs ys) t).map V.int).length : Nat) : Int) := of_decide_eq_true d
          rw [List.length_map, cyc_len] at this
          omega
        have hlen := hLL7.len
        refine ⟨_, rfl, .inl ⟨rfl, _, SqL.of hf7⟩, _, rfl, fo, _, _, rfl, rfl, hf7, line_lt ?_, ?_⟩
        · rw [List.length_map, hlen]
          unfold doneL
          rw [List.length_map]
          have := List.length_filter_le (fun u => decide (u < T) && told n (fol xs ys) u) (rg n)
          rw [rg_len] at this
          omega
        · refine ⟨t + 1, as ++ [rw'], _, _, rfl, hless, by rw [upd_ne nlo]; exact hl7, by rw [upd_same, List.map_append]; rfl, ?_, fun c hc => ?_, fun c o eo => ?_⟩
          · rw [edone, if_pos hp]
            refine LL.snoc (hLL7.keep fun c hc o eo => by rw [upd_ne (hfr c hc).2]; exact eo) ?_
            rw [upd_ne nrf.symm]
            exact hr7
          · rcases List.mem_append.mp hc with hc | hc
            · exact hfr c hc
            · rw [List.mem_singleton.mp hc]
              exact ⟨nrl.symm, nrf.symm⟩
          · rw [upd_ne (ne_of_none eo nHfo)]
            exact sm7 _ _ eo
      · have hp : ¬ 1 < per n (fol xs ys) t := fun hp => d (decide_eq_true (by rw [List.length_map, cyc_len]; omega))
        refine ⟨t + 1, as, _, _, rfl, hless, hl7, hf7, ?_, hfr, sm7⟩
        rw [edone, if_neg hp, List.append_nil]
        exact hLL7
    · have hj : j < per n (fol xs ys) t := by
        by_cases d : j = per n (fol xs ys) t
        · rw [d] at c
          exact absurd p3 c
        · omega
      rw [decide_eq_false (fun e => c (V.int.inj e))]
      have hin := bj.it_in ht j
      refine iteT ⟨fun σ' H' => σ' = [some (.ref a), some (.ref b), some (.ref lf), some (.ref fo), some (.ref rw'), some (.int (it (fol xs ys) (j + 1) t))] ∧ H' lf = some (.lst ((remL (leftL n (fol xs ys) T) ((cyc n (fol xs ys) t).take (j + 1))).map V.int)) ∧ H' rw' = some (.lst (((cyc n (fol xs ys) t).take (j + 1)).map V.int)) ∧ H' fo = some (.lst (as.map V.ref)) ∧ LL H' as (doneL n (fol xs ys) T) ∧ Same H H', fun σ' H' hN => ?_, ?_⟩
      · obtain ⟨e1, e2⟩ := hN
        exact ⟨per n (fol xs ys) t - (j + 1), by omega, j + 1, by omega, by omega, rfl, e1, e2⟩
      -- row.append(after)
      refine ⟨_, rfl, .inl ⟨rfl, _, SqL.of hr7⟩, _, rfl, rw', _, _, rfl, rfl, hr7, line_lt (by rw [List.length_map, List.length_take]; omega), ?_⟩
      have hl8 : (upd H7 rw' (.lst (((cyc n (fol xs ys) t).take j).map V.int ++ [.int (it (fol xs ys) j t)]))) lf = some (.lst ((remL (leftL n (fol xs ys) T) ((cyc n (fol xs ys) t).take j)).map V.int)) := by rw [upd_ne nrl]; exact hl7
      -- left.remove(after)
      have hmem : it (fol xs ys) j t ∈ remL (leftL n (fol xs ys) T) ((cyc n (fol xs ys) t).take j) := by
        unfold remL
        rw [List.mem_filter]
        refine ⟨?_, by rw [decide_eq_false (bj.cyc_new ht hj)]; rfl⟩
        unfold leftL
        rw [List.mem_filter]
        exact ⟨hin, decide_eq_true (by rw [bj.mn_same ht (bj.cyc_it ht j), emn]; exact hT)⟩
      have hndr : (remL (leftL n (fol xs ys) T) ((cyc n (fol xs ys) t).take j)).Nodup := List.Pairwise.filter _ (left_nodup T)
      obtain ⟨j2, ej2⟩ := List.mem_iff_getElem?.mp hmem
      refine ⟨_, rfl, .inl ⟨rfl, _, SqL.of hl8⟩, _, rfl, lf, _, _, j2, rfl, rfl, hl8, ej2, fun m hm em => absurd (nd_ix hndr em ej2) (by omega), ?_⟩
      obtain ⟨j3, a3, b3, c3, x3⟩ := step _ hin
      have sm9 : Same H (upd (upd H7 rw' (.lst (((cyc n (fol xs ys) t).take j).map V.int ++ [.int (it (fol xs ys) j t)]))) lf (.lst (((remL (leftL n (fol xs ys) T) ((cyc n (fol xs ys) t).take j)).eraseIdx j2).map V.int))) := fun c o eo => by
        rw [upd_ne (ne_of_none eo nlf), upd_ne (ne_of_none eo nHrw)]
        exact sm7 _ _ eo
      refine ⟨_, rfl, _, rfl, .inl ⟨rfl, _, SqL.of (sm9 _ _ hb)⟩, _, rfl, b, _, _, j3, _, rfl, rfl, SqL.of (sm9 _ _ hb), rfl, flat_ints ys, a3, b3, c3, a, _, _, _, rfl, rfl, SqL.of (sm9 _ _ ha), atI_nat (j := j3) (int_at x3), ?_⟩
      refine ⟨rfl, ?_, ?_, ?_, ?_, sm9⟩
      · rw [upd_same, rem_filter hndr ej2, rem_step, ← take_more (cyc_at hj)]
      · rw [upd_ne nrl.symm, upd_same, take_more (cyc_at hj), List.map_append]
        rfl
      · rw [upd_ne nlo.symm, upd_ne nrf]
        exact hf7
      · exact hLL7.keep fun c hc o eo => by
          rw [upd_ne (hfr c hc).1, upd_ne (nas c hc)]
          exact eo
theorem scIs : FnScope ["found", "due", "row", "thing"] ["found", "due"] (defScope s_law_is) := ⟨rfl, rfl, rfl, by decide +kernel, rfl, by decide +kernel, by decide +kernel⟩
set_option maxHeartbeats 2000000 in
theorem ok_is {f : Addr} {fd : FuncData} {k : Nat} (T : Df K mg "_law_is" s_law_is ["found", "due"] f fd) (B : Bi mg) : FnOk P w K mg base CX0 (k + 1) f fd ["found", "due"] spIs := by
  refine T.F.ok scIs (fun vs H Q E h => ?_) (fun cdv A outer s H vs Q E hr h => ?_)
  · obtain ⟨a, b, as, bs, rs, rfl, _⟩ := h
    rfl
  · obtain ⟨a, b, as, bs, rs, rfl, ha, hLa, hb, hLb, q⟩ := h
    refine ⟨_, 
      (pss_cons (ps_if (PW.pt (pw_or (pt_not (pt_val (pe_callB call_isi (by rfl) B.isinstance (by decide +kernel) (pa_cons (pv 0) (pa_cons (pe_bltn (v := .ty "list") (by rfl) B.list (by decide +kernel) rfl) pa_nil))))) (pw_or1 (pt_cmpR (op_neD hr.units) (pv 0) (pv 1) (nomark _)))))
        (pss_one (ps_ret pe_bl))
        pss_nil)
      (pss_cons (ps_for PassesOwn.never rfl (pi_list (pv 0)) (pg_name (i := 2) scIs.nd rfl (.inl rfl))
        (pss_one (ps_if (PW.pt (pw_or (pt_not (pt_val (pe_callB call_isi (by rfl) B.isinstance (by decide +kernel) (pa_cons (pv 2) (pa_cons (pe_bltn (v := .ty "list") (by rfl) B.list (by decide +kernel) rfl) pa_nil))))) (pw_or1 (pt_cmpR (op_neD hr.units) (pe_lc (own := [("thing", 3)]) (g := (gName 3)) (tt := (tB (tCB (rIsi K) (tCons (tVar 3) (tCons (tC (.ty "bool")) tNil))))) (te := (tVar 3)) rfl scIs.nd (pi_list (pv 2)) (blkOk_by (N := ["found", "due", "row", "thing"]) (sc := defScope s_law_is) (by decide +kernel)) (fun _ _ _ _ _ => (pg_name (i := 3) scIs.nd rfl (.inl rfl))) (fun _ _ _ _ _ => (pts_one (pt_val (pe_callB call_isi (by rfl) B.isinstance (by decide +kernel) (pa_cons (pv 3) (pa_cons (pe_bltn (v := .ty "bool") (by rfl) B.bool (by decide +kernel) rfl) pa_nil)))))) (fun _ _ _ _ _ => (pv 3))) (pe_lst pa_nil) (nomark _)))))
          (pss_one (ps_ret pe_bl))
          pss_nil)))
      (pss_one (ps_ret pe_bl)))), ?_⟩
    refine ⟨_, rfl, _, _, _, _, true, rfl, .ty _, .base (.lst ha), kit_ty (by decide +kernel), true, rfl, iteF ?_⟩
    refine ⟨_, rfl, _, rfl, dLL rs, dLL rs, dp_lists ha hLa, dp_lists hb hLb, shaped_lists _, shaped_lists _, _, rfl, ?_⟩
    rw [eqv_lists]
    refine iteF ?_
    refine ⟨_, rfl, a, rfl, ⟨_, SqL.of ha⟩, ?_⟩
    refine for_list (xs := as.map V.ref) (fun m σ H3 => ∃ y2 y3 : Option V, σ = [some (.ref a), some (.ref b), y2, y3] ∧ Same H H3) ⟨none, none, rfl, Same.refl _⟩ (fun m σ H3 _ hP => by obtain ⟨_, _, _, sm⟩ := hP; exact SqL.of (sm _ _ ha)) (fun m x σ H3 hx hP => ?_) (fun σ H3 hP => ?_)
    · obtain ⟨y2, y3, rfl, sm⟩ := hP
      obtain ⟨r, er, rfl⟩ := ref_at_inv hx
      obtain ⟨row, erow, hrow⟩ := hLa.get er
      have hrow3 := sm _ _ hrow
      refine ⟨_, rfl, _, _, _, _, true, rfl, .ty _, .base (.lst hrow3), kit_ty (by decide +kernel), true, rfl, iteF ?_⟩
      refine ⟨_, rfl, r, rfl, ⟨_, SqL.of hrow3⟩, fun c nc => ?_⟩
      refine lc_list (K := K) (a := r) (xs := row.map V.int) (fun i H9 => H9 c = some (.lst []) ∧ Same H3 H9) ⟨upd_same, same_new nc⟩ (fun i H9 _ hP => SqL.of (hP.2 _ _ hrow3)) (fun i x H9 hx hP => ?_) (fun H9 hP => ?_)
      · obtain ⟨y, ey, rfl⟩ := int_at_inv hx
        exact ⟨rfl, _, rfl, _, _, _, _, false, rfl, .ty _, .base (.int _), kit_ty (by decide +kernel), false, rfl, iteF hP⟩
      · obtain ⟨hc9, s9⟩ := hP
        refine ⟨Nat.zero_le _, fun e ne => ?_⟩
        have se := same_new (o := .lst []) ne
        refine ⟨dL [], dL [], dp_list (ns := []) (se _ _ hc9), dp_list (ns := []) upd_same, shaped_list _, shaped_list _, _, rfl, ?_⟩
        rw [eqv_list]
        exact iteF ⟨_, _, rfl, (sm.trans s9).trans se⟩
    · obtain ⟨y2, y3, rfl, sm⟩ := hP
      exact q H3 sm
theorem scLaw : FnScope ["script", "deck", "k", "one", "other", "due", "handed", "turn", "found", "at", "row", "many"] ["script"] (defScope s_law) := ⟨rfl, rfl, rfl, by decide +kernel, rfl, by decide +kernel, by decide +kernel⟩
set_option maxHeartbeats 4000000 in
theorem ok_law {f f1 f2 f3 f4 f5 f6 f7 f8 : Addr} {fd d1 d2 d3 d4 d5 d6 d7 d8 : FuncData} (T : Fun K "law" "law" s_law f fd) (T__law_deck : Df K mg "_law_deck" s_law_deck ["script"] f1 d1) (T__law_order : Df K mg "_law_order" s_law_order ["deck", "n"] f2 d2) (T__law_things : Df K mg "_law_things" s_law_things ["deck"] f3 d3) (T__law_near : Df K mg "_law_near" s_law_near ["deck", "order"] f4 d4) (T__law_due : Df K mg "_law_due" s_law_due ["one", "other"] f5 d5) (T__law_is : Df K mg "_law_is" s_law_is ["found", "due"] f6 d6) (T_rounds_between : Df K mg "rounds_between" s_rounds_between ["one", "other"] f7 d7) (T_steps_between : Df K mg "steps_between" s_steps_between ["one", "other"] f8 d8)
    (G__law_deck : FnOk P w K mg base CX0 6 f1 d1 ["script"] (spDeck K)) (G__law_order : FnOk P w K mg base CX0 6 f2 d2 ["deck", "n"] spOrder) (G__law_things : FnOk P w K mg base CX0 6 f3 d3 ["deck"] spThings) (G__law_near : FnOk P w K mg base CX0 6 f4 d4 ["deck", "order"] spNear) (G__law_due : FnOk P w K mg base CX0 6 f5 d5 ["one", "other"] spDue) (G__law_is : FnOk P w K mg base CX0 6 f6 d6 ["found", "due"] spIs) (G_rounds_between : FnOk P w K mg base CX0 6 f7 d7 ["one", "other"] spRounds) (G_steps_between : FnOk P w K mg base CX0 6 f8 d8 ["one", "other"] spSteps)
    (B : Bi mg) : FnOk P w K mg base CX0 7 f fd ["script"] (spLaw K) := by
  refine T.ok scLaw (fun vs H Q E h => ?_) (fun cdv A outer s H vs Q E hr h => ?_)
  · obtain ⟨a, ns, rfl, _⟩ := h
    rfl
  · obtain ⟨a, ns, rfl, hS, hlen, q⟩ := h
    refine ⟨_, 
      (pss_cons (ps_set (i := 1) scLaw.nd rfl (.inl rfl) (pe_call G__law_deck hr (by rfl) T__law_deck.g T__law_deck.F.kp T__law_deck.b .nil pass0 (pa_cons (pv 0) pa_nil)))
      (pss_cons (ps_for PassesOwn.never rfl (pi_range1 (by rfl) B.range (pa_cons pe_int pa_nil)) (pg_name (i := 2) scLaw.nd rfl (.inl rfl))
        (pss_cons (ps_set (i := 3) scLaw.nd rfl (.inl rfl) (pe_call G__law_order hr (by rfl) T__law_order.g T__law_order.F.kp T__law_order.b .nil pass0 (pa_cons (pv 1) (pa_cons (pe_call G__law_things hr (by rfl) T__law_things.g T__law_things.F.kp T__law_things.b .nil pass0 (pa_cons (pv 1) pa_nil)) pa_nil))))
        (pss_cons (ps_set (i := 4) scLaw.nd rfl (.inl rfl) (pe_call G__law_near hr (by rfl) T__law_near.g T__law_near.F.kp T__law_near.b .nil pass0 (pa_cons (pv 1) (pa_cons (pv 3) pa_nil))))
        (pss_cons (ps_set (i := 5) scLaw.nd rfl (.inl rfl) (pe_call G__law_due hr (by rfl) T__law_due.g T__law_due.F.kp T__law_due.b .nil pass0 (pa_cons (pv 3) (pa_cons (pv 4) pa_nil))))
        (pss_cons (ps_set (i := 6) scLaw.nd rfl (.inl rfl) (pe_lst (pa_cons (pe_callTy call_list_of (by rfl) B.list (by decide +kernel) (pa_cons (pv 3) pa_nil)) (pa_cons (pe_callTy call_list_of (by rfl) B.list (by decide +kernel) (pa_cons (pv 4) pa_nil)) pa_nil))))
        (pss_cons (ps_for PassesOwn.never rfl (pi_range1 (by rfl) B.range (pa_cons pe_int pa_nil)) (pg_name (i := 7) scLaw.nd rfl (.inl rfl))
          (pss_cons (ps_set (i := 8) scLaw.nd rfl (.inl rfl) (pe_call G_rounds_between hr (by rfl) T_rounds_between.g T_rounds_between.F.kp T_rounds_between.b .nil pass0 (pa_cons (pe_ix ix_list (pv 6) pe_int (fun _ _ => rfl)) (pa_cons (pe_ix ix_list (pv 6) pe_int (fun _ _ => rfl)) pa_nil))))
          (pss_cons (ps_if (pt_not (pt_val (pe_call G__law_is hr (by rfl) T__law_is.g T__law_is.F.kp T__law_is.b .nil pass0 (pa_cons (pv 8) (pa_cons (pv 5) pa_nil)))))
            (pss_one (ps_ret pe_bl))
            pss_nil)
          (pss_cons (ps_for PassesOwn.never rfl (pi_enum (by rfl) B.enumerate (pa_cons (pv 8) pa_nil)) (pg_tup (by rfl) (pgs_cons (pg_name (i := 9) scLaw.nd rfl (.inl rfl)) (pgs_cons (pg_name (i := 10) scLaw.nd rfl (.inl rfl)) pgs_nil)))
            (pss_cons (ps_expr (pe_bm PySem.F.plainAttrs_list PySem.F.slot_list_append PySem.F.type_list_append mt_append (pv 10) (pa_cons (pe_op op_add pe_int (pv 9)) pa_nil)))
            (pss_one (ps_if (pt_cmpR (op_neD hr.units) (pe_slice sl_list (pv 8) (po_some (pe_op op_add (pv 9) pe_int)) po_none) (pe_slice sl_list (pv 5) (po_some (pe_op op_add (pv 9) pe_int)) po_none) (nomark _))
              (pss_one (ps_ret pe_bl))
              pss_nil))))
          (pss_one (ps_expr (pe_bm PySem.F.plainAttrs_list PySem.F.slot_list_append PySem.F.type_list_append mt_append (pv 8) (pa_cons (pe_lst pa_nil) pa_nil))))))))
        (pss_cons (ps_set (i := 11) scLaw.nd rfl (.inl rfl) (pe_call G_steps_between hr (by rfl) T_steps_between.g T_steps_between.F.kp T_steps_between.b .nil pass0 (pa_cons (pe_ix ix_list (pv 6) pe_int (fun _ _ => rfl)) (pa_cons (pe_ix ix_list (pv 6) pe_int (fun _ _ => rfl)) pa_nil))))
        (pss_cons (ps_if (PW.pt (pw_or (pt_not (pt_val (pe_callB call_isi (by rfl) B.isinstance (by decide +kernel) (pa_cons (pv 11) (pa_cons (pe_bltn (v := .ty "int") (by rfl) B.int (by decide +kernel) rfl) pa_nil))))) (pw_or (pt_val (pe_callB call_isi (by rfl) B.isinstance (by decide +kernel) (pa_cons (pv 11) (pa_cons (pe_bltn (v := .ty "bool") (by rfl) B.bool (by decide +kernel) rfl) pa_nil)))) (pw_or1 (pt_cmpR op_ne (pv 11) (pe_op op_sub (pe_callB (cr_sum rfl) (by rfl) B.sum (by decide +kernel) (pa_cons (pe_lc (own := [("row", 10)]) (g := (gName 10)) (tt := tYes) (te := (tCB (rLenS K) (tCons (tVar 10) tNil))) rfl scLaw.nd (pi_list (pv 5)) (blkOk_by (N := ["script", "deck", "k", "one", "other", "due", "handed", "turn", "found", "at", "row", "many"]) (sc := defScope s_law) (by decide +kernel)) (fun _ _ _ _ _ => (pg_name (i := 10) scLaw.nd rfl (.inl rfl))) (fun _ _ _ _ _ => pts_nil) (fun _ _ _ _ _ => (pe_callB call_len_seq (by rfl) B.len PySem.boot_len (pa_cons (pv 10) pa_nil)))) pa_nil)) (pe_callB call_len_seq (by rfl) B.len PySem.boot_len (pa_cons (pv 5) pa_nil))) (nomark _))))))
          (pss_one (ps_ret pe_bl))
          pss_nil)
        (pss_one (ps_if (PW.pt (pw_or (pt_cmpR (op_neD hr.units) (pv 6) (pe_lst (pa_cons (pv 3) (pa_cons (pv 4) pa_nil))) (nomark _)) (pw_or1 (pt_cmpR (op_neD hr.units) (pe_call G_rounds_between hr (by rfl) T_rounds_between.g T_rounds_between.F.kp T_rounds_between.b .nil pass0 (pa_cons (pe_ix ix_list (pv 6) pe_int (fun _ _ => rfl)) (pa_cons (pe_ix ix_list (pv 6) pe_int (fun _ _ => rfl)) pa_nil))) (pe_lst pa_nil) (nomark _)))))
          (pss_one (ps_ret pe_bl))
          pss_nil))))))))))
      (pss_one (ps_ret (pe_and (pe_cmpR (op_eqD hr.units) (pe_call G_rounds_between hr (by rfl) T_rounds_between.g T_rounds_between.F.kp T_rounds_between.b .nil pass0 (pa_cons (pe_lst (pa_cons pe_int (pa_cons pe_int (pa_cons pe_int pa_nil)))) (pa_cons (pe_lst (pa_cons pe_int (pa_cons pe_int (pa_cons pe_int pa_nil)))) pa_nil))) (pe_lst (pa_cons (pe_lst (pa_cons pe_int (pa_cons pe_int (pa_cons pe_int pa_nil)))) pa_nil)) (nomark _)) (pe_one (pe_cmpR op_eq (pe_call G_steps_between hr (by rfl) T_steps_between.g T_steps_between.F.kp T_steps_between.b .nil pass0 (pa_cons (pe_lst (pa_cons pe_int (pa_cons pe_int (pa_cons pe_int pa_nil)))) (pa_cons (pe_lst (pa_cons pe_int (pa_cons pe_int (pa_cons pe_int pa_nil)))) pa_nil))) pe_int (nomark _)))))))), ?_⟩
    refine ⟨_, rfl, a, ns, rfl, hS, hlen, fun D H0 D0 _ _ => ?_⟩
    refine ⟨10, rfl, by decide, by decide, ?_⟩
    refine for_range (n := 10) (fun i σ H1 => ∃ y2 y3 y4 y5 y6 y7 y8 y9 y10 y11, σ = [some (.ref a), some (.ref D.d), y2, y3, y4, y5, y6, y7, y8, y9, y10, y11] ∧ DkAt H1 D)
      ⟨_, _, _, _, _, _, _, _, _, _, rfl, D0⟩ (fun i σ H1 _ hP => ?_) (fun σ H1 hP => ?_)
    · obtain ⟨y2, y3, y4, y5, y6, y7, y8, y9, y10, y11, rfl, D1⟩ := hP
      refine ⟨_, rfl, _, rfl, D, rfl, D1, fun n H2 hn1 hn2 D2 k2 => ?_⟩
      refine ⟨D, n, rfl, D2, hn1, hn2, fun xs o H3 ho no h3 nfo D3 k3 => ?_⟩
      refine ⟨_, rfl, _, rfl, D, o, n, xs, rfl, D3, h3, ho, hn1, hn2, fun zs p H4 hz np h4 nfp D4 k4 => ?_⟩
      have ho4 := k4 o _ h3 nfo
      have bj := fol_bij ho hz
      -- due
      refine ⟨_, rfl, _, rfl, o, p, n, xs, zs, ⟨rfl, ho4, h4, ho, hz, hn1, hn2⟩, fun du ds H5 ndu hdu hLd s5 => ?_⟩
      have ho5 := s5 _ _ ho4
      have hp5 := s5 _ _ h4
      -- handed
      refine ⟨_, rfl, o, _, rfl, .inl (SqL.of ho5), fun h1 n1 => ?_⟩
      have s1 := same_new (o := .lst (xs.map V.int)) n1
      refine ⟨_, rfl, p, _, rfl, .inl (SqL.of (s1 _ _ hp5)), fun h2 n2 => ?_⟩
      have s2 := same_new (o := .lst (zs.map V.int)) n2
      refine ⟨line_small (by show 2 ≤ 16777216; decide), fun hh n3 => ?_⟩
      have s3 := same_new (o := .lst [.ref h1, .ref h2]) n3
      have ss := (s1.trans s2).trans s3
      have hh1 := s3 _ _ (s2 _ _ (upd_same (H := H5) (a := h1) (o := .lst (xs.map V.int))))
      have hh2 := s3 _ _ (upd_same (H := upd H5 h1 (.lst (xs.map V.int))) (a := h2) (o := .lst (zs.map V.int)))
      have hh3 := upd_same (H := upd (upd H5 h1 (.lst (xs.map V.int))) h2 (.lst (zs.map V.int))) (a := hh) (o := .lst [.ref h1, .ref h2])
      have ho6 := ss _ _ ho5
      have hp6 := ss _ _ hp5
      have hd6 := ss _ _ hdu
      have hLd6 := hLd.same ss
      have D6 := (D4.same s5).same ss
      generalize upd (upd (upd H5 h1 (.lst (xs.map V.int))) h2 (.lst (zs.map V.int))) hh (.lst [.ref h1, .ref h2]) = H6 at ho6 hp6 hd6 hLd6 D6 hh1 hh2 hh3 ⊢
      have hrl := rounds_len (n := n) (f := fol xs zs)
      have hdl := hLd6.len
      refine ⟨2, rfl, by decide, by decide, ?_⟩
      refine for_range (n := 2) (fun m σ H7 => ∃ (y7 y8 y9 y10 : Option V), σ = [some (.ref a), some (.ref D.d), some (.int (0 + i)), some (.ref o), some (.ref p), some (.ref du), some (.ref hh), y7, y8, y9, y10, y11] ∧ Same H6 H7)
        ⟨_, _, _, _, rfl, Same.refl _⟩ (fun m σ H7 _ hP => ?_) (fun σ H7 hP => ?_)
      · obtain ⟨z7, z8, z9, z10, rfl, s7⟩ := hP
        refine ⟨_, rfl, hh, _, 0, _, rfl, rfl, SqL.of (s7 _ _ hh3), at2_0, _, rfl, hh, _, 1, _, rfl, rfl, SqL.of (s7 _ _ hh3), at2_1, h1, h2, n, xs, zs, ⟨rfl, s7 _ _ hh1, s7 _ _ hh2, ho, hz, hn1, hn2⟩, fun fo fs H8 nfo8 hf8 hLf hfr hnd s8 => ?_⟩
        have t8 := s7.trans s8
        refine ⟨_, rfl, _, rfl, fo, du, fs, ds, _, rfl, hf8, hLf, t8 _ _ hd6, hLd6.same t8, fun H9 s9 => ⟨_, rfl, iteF ?_⟩⟩
        have t9 := t8.trans s9
        have hfl := hLf.len
        -- for at, row in enumerate(found)
        refine ⟨_, rfl, fo, _, rfl, SqL.of (s9 _ _ hf8), ?_⟩
        refine for_enumL (xs := fs.map V.ref) (fun j σ H10 => ∃ (y9 y10 : Option V), σ = [some (.ref a), some (.ref D.d), some (.int (0 + i)), some (.ref o), some (.ref p), some (.ref du), some (.ref hh), some (.int (0 + m)), some (.ref fo), y9, y10, y11] ∧ H10 fo = some (.lst (fs.map V.ref)) ∧ LL H10 (fs.drop j) ((roundsL n (fol xs zs)).drop j) ∧ Same H7 H10)
          ⟨_, _, rfl, s9 _ _ hf8, hLf.same s9, s8.trans s9⟩ (fun j σ H10 hP => by obtain ⟨_, _, _, hf, _⟩ := hP; exact SqL.of hf) (fun j x t σ H10 hx hP nt => ?_) (fun σ H10 hP => ?_)
        · obtain ⟨w9, w10, rfl, hf10, hL10, s10⟩ := hP
          obtain ⟨c, ec, rfl⟩ := ref_at_inv hx
          have hj := (List.getElem?_eq_some_iff.mp ec).1
          obtain ⟨row, erow, hrow⟩ := hL10.get (i := 0) (a := c) (by rw [List.getElem?_drop, Nat.add_zero]; exact ec)
          rw [List.getElem?_drop, Nat.add_zero] at erow
          have hrlen := rows_len bj row (List.mem_of_getElem? erow)
          have st := same_new (o := .tup [.int (j : Nat), .ref c]) nt
          have hcm : c ∈ fs := List.mem_of_getElem? ec
          have hcf := hfr c hcm
          refine ⟨t, _, rfl, .inl (.inl upd_same), rfl, _, _, rfl, _, _, rfl, rfl, ?_⟩
          have hrow2 := st _ _ hrow
          refine ⟨_, rfl, .inl ⟨rfl, _, SqL.of hrow2⟩, _, rfl, 99, (j : Int), rfl, rfl, c, _, _, rfl, rfl, hrow2, line_lt (by rw [List.length_map]; omega), ?_⟩
          have s11 : Same H7 (upd (upd H10 t (.tup [.int (j : Nat), .ref c])) c (.lst (row.map V.int ++ [.int (99 + (j : Int))]))) := fun u ob e => by
            rw [upd_ne (ne_of_none e hcf.1)]
            exact st _ _ (s10 _ _ e)
          have hf11 : (upd (upd H10 t (.tup [.int (j : Nat), .ref c])) c (.lst (row.map V.int ++ [.int (99 + (j : Int))]))) fo = some (.lst (fs.map V.ref)) := by
            rw [upd_ne hcf.2.symm]
            exact st _ _ hf10
          have hL11 : LL (upd (upd H10 t (.tup [.int (j : Nat), .ref c])) c (.lst (row.map V.int ++ [.int (99 + (j : Int))]))) (fs.drop (j + 1)) ((roundsL n (fol xs zs)).drop (j + 1)) := by
            have h0 := LL.drop 1 hL10
            rw [List.drop_drop, List.drop_drop] at h0
            refine h0.keep fun u hu ob e => ?_
            have nuc : u ≠ c := fun ez => by
              subst ez
              obtain ⟨i2, hi2⟩ := List.mem_iff_getElem?.mp hu
              rw [List.getElem?_drop] at hi2
              have := nd_ix hnd hi2 ec
              omega
            rw [upd_ne nuc]
            exact st _ _ e
          generalize upd (upd H10 t (.tup [.int (j : Nat), .ref c])) c (.lst (row.map V.int ++ [.int (99 + (j : Int))])) = H11 at s11 hf11 hL11 ⊢
          have t11 := s7.trans s11
          -- the slices
          refine ⟨_, rfl, _, rfl, (j : Int), 1, rfl, rfl, _, rfl, fo, _, rfl, SqL.of hf11, fun q1 nq1 => ?_⟩
          have u1 := same_new (o := .lst (cutV (fs.map V.ref) (some ((j : Int) + 1)) none)) nq1
          refine ⟨_, rfl, _, rfl, (j : Int), 1, rfl, rfl, _, rfl, du, _, rfl, SqL.of (u1 _ _ (t11 _ _ hd6)), fun q2 nq2 => ?_⟩
          have u2 := same_new (o := .lst (cutV (ds.map V.ref) (some ((j : Int) + 1)) none)) nq2
          have e1 : cutV (fs.map V.ref) (some ((j : Int) + 1)) none = (fs.drop (j + 1)).map V.ref := by rw [show (j : Int) + 1 = ((j + 1 : Nat) : Int) by omega, cutV_tail, List.map_drop]
          have e2 : cutV (ds.map V.ref) (some ((j : Int) + 1)) none = (ds.drop (j + 1)).map V.ref := by rw [show (j : Int) + 1 = ((j + 1 : Nat) : Int) by omega, cutV_tail, List.map_drop]
          refine ⟨dLL ((roundsL n (fol xs zs)).drop (j + 1)), dLL ((roundsL n (fol xs zs)).drop (j + 1)), dp_lists (by rw [u2 _ _ upd_same, e1]) ((hL11.same u1).same u2), dp_lists (by rw [upd_same, e2]) (LL.drop (j + 1) (((hLd6.same t11).same u1).same u2)), shaped_lists _, shaped_lists _, _, rfl, ?_⟩
          rw [eqv_lists]
          exact iteF ⟨_, _, rfl, u2 _ _ (u1 _ _ hf11), (hL11.same u1).same u2, (s11.trans u1).trans u2⟩
        · obtain ⟨w9, w10, rfl, hf10, hL10, s10⟩ := hP
          refine ⟨_, rfl, .inl ⟨rfl, _, SqL.of hf10⟩, Nat.zero_le _, fun e ne => ?_⟩
          have se := same_new (o := .lst []) ne
          refine ⟨fo, _, _, rfl, rfl, se _ _ hf10, line_lt (by rw [List.length_map]; omega), ?_⟩
          refine ⟨_, _, _, _, rfl, fun u ob ez => ?_⟩
          have e7 := s7 _ _ ez
          rw [upd_ne (ne_of_none e7 nfo8)]
          exact se _ _ (s10 _ _ e7)
      · obtain ⟨z7, z8, z9, z10, rfl, s7⟩ := hP
        -- many
        refine ⟨_, rfl, hh, _, 0, _, rfl, rfl, SqL.of (s7 _ _ hh3), at2_0, _, rfl, hh, _, 1, _, rfl, rfl, SqL.of (s7 _ _ hh3), at2_1, h1, h2, n, xs, zs, ⟨rfl, s7 _ _ hh1, s7 _ _ hh2, ho, hz, hn1, hn2⟩, fun H8 s8 => ?_⟩
        have t8 := s7.trans s8
        refine ⟨_, rfl, _, _, _, _, true, rfl, .ty _, .base (.int _), kit_ty (by decide +kernel), true, rfl, iteF ?_⟩
        refine ⟨_, rfl, _, _, _, _, false, rfl, .ty _, .base (.int _), kit_ty (by decide +kernel), false, rfl, iteF ?_⟩
        have hd8 := t8 _ _ hd6
        have hLd8 := hLd6.same t8
        refine ⟨_, rfl, _, rfl, du, rfl, ⟨_, SqL.of hd8⟩, fun c nc => ?_⟩
        refine lc_list (K := K) (a := du) (xs := ds.map V.ref) (fun j H9 => H9 c = some (.lst ((((roundsL n (fol xs zs)).map fun r => (r.length : Int)).take j).map V.int)) ∧ Same H8 H9) ⟨upd_same, same_new nc⟩ (fun j H9 _ hP => SqL.of (hP.2 _ _ hd8)) (fun j x H9 hx hP => ?_) (fun H9 hP => ?_)
        · obtain ⟨r, er, rfl⟩ := ref_at_inv hx
          obtain ⟨hc9, s9⟩ := hP
          obtain ⟨row, erow, hrow⟩ := hLd8.get er
          have em : ((roundsL n (fol xs zs)).map fun r => (r.length : Int))[j]? = some (row.length : Int) := by rw [List.getElem?_map, erow]; rfl
          refine ⟨rfl, _, rfl, r, _, rfl, .inl (SqL.of (s9 _ _ hrow)), _, hc9, line_lt (by rw [List.length_map, List.length_take, List.length_map]; omega), ?_, fun u ob e => ?_⟩
          · rw [upd_same, take_more em, List.map_append, List.length_map]
            rfl
          · rw [upd_ne (ne_of_none e nc)]
            exact s9 _ _ e
        · obtain ⟨hc9, s9⟩ := hP
          rw [List.take_of_length_le (by rw [List.length_map, List.length_map, hdl]; exact Nat.le_refl _)] at hc9
          have t9 := t8.trans s9
          refine ⟨c, _, rfl, SqL.of hc9, _, rfl, du, _, rfl, .inl (SqL.of (t9 _ _ hd6)), _, _, rfl, rfl, rfl, _, rfl, ?_⟩
          refine iteNS (congrArg V.int ?_) ?_
          · rw [List.length_map, hdl]
            unfold stepsI
            exact steps_sum _
          refine ⟨_, rfl, _, rfl, _, rfl, line_small (by show 2 ≤ 16777216; decide), fun e ne => ?_⟩
          have se := same_new (o := .lst [.ref o, .ref p]) ne
          have te := t9.trans se
          refine ⟨dLL [xs, zs], dLL [xs, zs], .lst (SqL.of (te _ _ hh3)) (.cons (dp_list (te _ _ hh1)) (.cons (dp_list (te _ _ hh2)) .nil)), .lst (SqL.of upd_same) (.cons (dp_list (te _ _ ho6)) (.cons (dp_list (te _ _ hp6)) .nil)), shaped_lists _, shaped_lists _, _, rfl, ?_⟩
          rw [eqv_lists]
          refine iteF ?_
          refine ⟨_, rfl, hh, _, 0, _, rfl, rfl, SqL.of (te _ _ hh3), at2_0, _, rfl, hh, _, 0, _, rfl, rfl, SqL.of (te _ _ hh3), at2_0, h1, h1, n, xs, xs, ⟨rfl, te _ _ hh1, te _ _ hh1, ho, ho, hn1, hn2⟩, fun fo fs H10 nfo10 hf10 hL10 _ _ s10 => ?_⟩
          rw [rounds_self ho hn1] at hL10
          refine ⟨Nat.zero_le _, fun e2 ne2 => ?_⟩
          have se2 := same_new (o := .lst []) ne2
          refine ⟨dLL [], dLL [], dp_lists (se2 _ _ hf10) (hL10.same se2), dp_lists (as := []) (rs := []) upd_same trivial, shaped_lists _, shaped_lists _, _, rfl, ?_⟩
          rw [eqv_lists]
          exact iteF ⟨_, _, _, _, _, _, _, _, _, _, rfl, D6.same ((te.trans s10).trans se2)⟩
    · obtain ⟨y2, y3, y4, y5, y6, y7, y8, y9, y10, y11, rfl, D1⟩ := hP
      refine ⟨line_small (by show 3 ≤ 16777216; decide), fun a1 na1 => ⟨line_small (by show 3 ≤ 16777216; decide), fun b1 nb1 => ?_⟩⟩
      refine ⟨a1, b1, 3, [0, 1, 2], [1, 2, 0], ⟨rfl, same_new nb1 _ _ upd_same, upd_same, (show List.Perm [0, 1, 2] (rg 3) by decide), (show List.Perm [1, 2, 0] (rg 3) by decide), by decide, by decide⟩, fun l2 as2 H2 nl2 hl2 hL2 _ _ s2 => ?_⟩
      have er : roundsL 3 (fol [0, 1, 2] [1, 2, 0]) = [[0, 2, 1]] := by decide +kernel
      rw [er] at hL2
      refine ⟨line_small (by show 3 ≤ 16777216; decide), fun c1 nc1 => ⟨line_small (by show 1 ≤ 16777216; decide), fun c2 nc2 => ?_⟩⟩
      have sc1 := same_new (o := .lst [.int 0, .int 2, .int 1]) nc1
      have sc2 := same_new (o := .lst [.ref c1]) nc2
      refine ⟨dLL [[0, 2, 1]], dLL [[0, 2, 1]], dp_lists (sc2 _ _ (sc1 _ _ hl2)) ((hL2.same sc1).same sc2), dp_lists (as := [c1]) (rs := [[0, 2, 1]]) upd_same ⟨sc2 _ _ upd_same, trivial⟩, shaped_lists _, shaped_lists _, _, rfl, ?_⟩
      rw [eqv_lists]
      refine iteT ?_
      refine ⟨line_small (by show 3 ≤ 16777216; decide), fun a3 na3 => ⟨line_small (by show 3 ≤ 16777216; decide), fun b3 nb3 => ?_⟩⟩
      refine ⟨a3, b3, 3, [0, 1, 2], [1, 2, 0], ⟨rfl, same_new nb3 _ _ upd_same, upd_same, (show List.Perm [0, 1, 2] (rg 3) by decide), (show List.Perm [1, 2, 0] (rg 3) by decide), by decide, by decide⟩, fun H4 s4 => ?_⟩
      have e2 : stepsI 3 (fol [0, 1, 2] [1, 2, 0]) = 2 := by
        unfold stepsI
        rw [er]
        decide
      rw [e2]
      exact ⟨rfl, q _⟩
end
end Fo
--LAWCALL ok_law F_law T__law_deck T__law_order T__law_things T__law_near T__law_due T__law_is T_rounds_between T_steps_between (ok_deck (k := 5) T__law_deck B) (ok_order (k := 4) T__law_order T__law_draw B) (ok_things (k := 4) T__law_things T__law_draw B) (ok_near (k := 3) T__law_near T__law_draw T__law_order B) (ok_due (k := 5) T__law_due B) (ok_is (k := 5) T__law_is B) (ok_rounds (k := 4) T_rounds_between T_check_orders T_check_fit T_followers_between T_round_from (ok_checks (k := 4) T_check_orders T_check_order (ok_check (k := 1) T_check_order T_is_order T_is_whole B m_MOST_THINGS)) B) (ok_steps (k := 5) T_steps_between T_rounds_between (ok_rounds (k := 3) T_rounds_between T_check_orders T_check_fit T_followers_between T_round_from (ok_checks (k := 3) T_check_orders T_check_order (ok_check (k := 0) T_check_order T_is_order T_is_whole B m_MOST_THINGS)) B) B) B
namespace Fo
open PySem PySem.Spec PyProof.Rows L2
theorem all_mk {l : PySem.W.OpenLaw} {w : World} {K : PySem.W.Frag} {h : Heap} {mg : Str → Option Value} {fa : Addr} (X : K.In h) (G : h.Ns mainGlobals mg) (hfa : mg "law" = some (.ref fa))
    {f0 f1 f2 f3 f4 f5 f6 f7 f8 f9 f10 f11 f12 f13 f14 f15 f16 : Addr} {od0 an0 od1 an1 od2 an2 od3 an3 od4 an4 od5 an5 od6 an6 od7 an7 od8 an8 od9 an9 od10 an10 od11 an11 od12 an12 od13 an13 od14 an14 od15 an15 od16 an16 : Option Addr} {sl0 sl1 sl2 sl3 sl4 sl5 sl6 sl7 sl8 sl9 sl10 sl11 sl12 sl13 sl14 sl15 sl16 : Array (Option Value)} {oc0 kV0 dc0 pm0 cd0 ct0 oc1 kV1 dc1 pm1 cd1 ct1 oc2 kV2 dc2 pm2 cd2 ct2 oc3 kV3 dc3 pm3 cd3 ct3 oc4 kV4 dc4 pm4 cd4 ct4 oc5 kV5 dc5 pm5 cd5 ct5 oc6 kV6 dc6 pm6 cd6 ct6 oc7 kV7 dc7 pm7 cd7 ct7 oc8 kV8 dc8 pm8 cd8 ct8 oc9 kV9 dc9 pm9 cd9 ct9 oc10 kV10 dc10 pm10 cd10 ct10 oc11 kV11 dc11 pm11 cd11 ct11 oc12 kV12 dc12 pm12 cd12 ct12 oc13 kV13 dc13 pm13 cd13 ct13 oc14 kV14 dc14 pm14 cd14 ct14 oc15 kV15 dc15 pm15 cd15 ct15 oc16 kV16 dc16 pm16 cd16 ct16 : Value} {tk_MOST_THINGS : Tok}
    (a0 : PySem.W.nsIn K mainGlobals "is_whole" = some (some (.ref f0))) (l0 : K.lookup f0 = some ⟨oc0, od0, .func (PySem.W.fnOf "is_whole" "is_whole" (defArgs s_is_whole) (defBody s_is_whole) (defScope s_is_whole) .none kV0 dc0 pm0 an0 cd0 ct0), sl0⟩) (c0 : PySem.W.codeIn K cd0 "is_whole" = true) (k0 : PySem.W.keepIn K (.ref f0) = true)
    (a1 : PySem.W.nsIn K mainGlobals "is_order" = some (some (.ref f1))) (l1 : K.lookup f1 = some ⟨oc1, od1, .func (PySem.W.fnOf "is_order" "is_order" (defArgs s_is_order) (defBody s_is_order) (defScope s_is_order) .none kV1 dc1 pm1 an1 cd1 ct1), sl1⟩) (c1 : PySem.W.codeIn K cd1 "is_order" = true) (k1 : PySem.W.keepIn K (.ref f1) = true)
    (a2 : PySem.W.nsIn K mainGlobals "check_order" = some (some (.ref f2))) (l2 : K.lookup f2 = some ⟨oc2, od2, .func (PySem.W.fnOf "check_order" "check_order" (defArgs s_check_order) (defBody s_check_order) (defScope s_check_order) .none kV2 dc2 pm2 an2 cd2 ct2), sl2⟩) (c2 : PySem.W.codeIn K cd2 "check_order" = true) (k2 : PySem.W.keepIn K (.ref f2) = true)
    (a3 : PySem.W.nsIn K mainGlobals "check_orders" = some (some (.ref f3))) (l3 : K.lookup f3 = some ⟨oc3, od3, .func (PySem.W.fnOf "check_orders" "check_orders" (defArgs s_check_orders) (defBody s_check_orders) (defScope s_check_orders) .none kV3 dc3 pm3 an3 cd3 ct3), sl3⟩) (c3 : PySem.W.codeIn K cd3 "check_orders" = true) (k3 : PySem.W.keepIn K (.ref f3) = true)
    (a4 : PySem.W.nsIn K mainGlobals "check_fit" = some (some (.ref f4))) (l4 : K.lookup f4 = some ⟨oc4, od4, .func (PySem.W.fnOf "check_fit" "check_fit" (defArgs s_check_fit) (defBody s_check_fit) (defScope s_check_fit) .none kV4 dc4 pm4 an4 cd4 ct4), sl4⟩) (c4 : PySem.W.codeIn K cd4 "check_fit" = true) (k4 : PySem.W.keepIn K (.ref f4) = true)
    (a5 : PySem.W.nsIn K mainGlobals "rounds_between" = some (some (.ref f5))) (l5 : K.lookup f5 = some ⟨oc5, od5, .func (PySem.W.fnOf "rounds_between" "rounds_between" (defArgs s_rounds_between) (defBody s_rounds_between) (defScope s_rounds_between) .none kV5 dc5 pm5 an5 cd5 ct5), sl5⟩) (c5 : PySem.W.codeIn K cd5 "rounds_between" = true) (k5 : PySem.W.keepIn K (.ref f5) = true)
    (a6 : PySem.W.nsIn K mainGlobals "followers_between" = some (some (.ref f6))) (l6 : K.lookup f6 = some ⟨oc6, od6, .func (PySem.W.fnOf "followers_between" "followers_between" (defArgs s_followers_between) (defBody s_followers_between) (defScope s_followers_between) .none kV6 dc6 pm6 an6 cd6 ct6), sl6⟩) (c6 : PySem.W.codeIn K cd6 "followers_between" = true) (k6 : PySem.W.keepIn K (.ref f6) = true)
    (a7 : PySem.W.nsIn K mainGlobals "round_from" = some (some (.ref f7))) (l7 : K.lookup f7 = some ⟨oc7, od7, .func (PySem.W.fnOf "round_from" "round_from" (defArgs s_round_from) (defBody s_round_from) (defScope s_round_from) .none kV7 dc7 pm7 an7 cd7 ct7), sl7⟩) (c7 : PySem.W.codeIn K cd7 "round_from" = true) (k7 : PySem.W.keepIn K (.ref f7) = true)
    (a8 : PySem.W.nsIn K mainGlobals "steps_between" = some (some (.ref f8))) (l8 : K.lookup f8 = some ⟨oc8, od8, .func (PySem.W.fnOf "steps_between" "steps_between" (defArgs s_steps_between) (defBody s_steps_between) (defScope s_steps_between) .none kV8 dc8 pm8 an8 cd8 ct8), sl8⟩) (c8 : PySem.W.codeIn K cd8 "steps_between" = true) (k8 : PySem.W.keepIn K (.ref f8) = true)
    (a9 : PySem.W.nsIn K mainGlobals "_law_deck" = some (some (.ref f9))) (l9 : K.lookup f9 = some ⟨oc9, od9, .func (PySem.W.fnOf "_law_deck" "_law_deck" (defArgs s_law_deck) (defBody s_law_deck) (defScope s_law_deck) .none kV9 dc9 pm9 an9 cd9 ct9), sl9⟩) (c9 : PySem.W.codeIn K cd9 "_law_deck" = true) (k9 : PySem.W.keepIn K (.ref f9) = true)
    (a10 : PySem.W.nsIn K mainGlobals "_law_draw" = some (some (.ref f10))) (l10 : K.lookup f10 = some ⟨oc10, od10, .func (PySem.W.fnOf "_law_draw" "_law_draw" (defArgs s_law_draw) (defBody s_law_draw) (defScope s_law_draw) .none kV10 dc10 pm10 an10 cd10 ct10), sl10⟩) (c10 : PySem.W.codeIn K cd10 "_law_draw" = true) (k10 : PySem.W.keepIn K (.ref f10) = true)
    (a11 : PySem.W.nsIn K mainGlobals "_law_order" = some (some (.ref f11))) (l11 : K.lookup f11 = some ⟨oc11, od11, .func (PySem.W.fnOf "_law_order" "_law_order" (defArgs s_law_order) (defBody s_law_order) (defScope s_law_order) .none kV11 dc11 pm11 an11 cd11 ct11), sl11⟩) (c11 : PySem.W.codeIn K cd11 "_law_order" = true) (k11 : PySem.W.keepIn K (.ref f11) = true)
    (a12 : PySem.W.nsIn K mainGlobals "_law_things" = some (some (.ref f12))) (l12 : K.lookup f12 = some ⟨oc12, od12, .func (PySem.W.fnOf "_law_things" "_law_things" (defArgs s_law_things) (defBody s_law_things) (defScope s_law_things) .none kV12 dc12 pm12 an12 cd12 ct12), sl12⟩) (c12 : PySem.W.codeIn K cd12 "_law_things" = true) (k12 : PySem.W.keepIn K (.ref f12) = true)
    (a13 : PySem.W.nsIn K mainGlobals "_law_near" = some (some (.ref f13))) (l13 : K.lookup f13 = some ⟨oc13, od13, .func (PySem.W.fnOf "_law_near" "_law_near" (defArgs s_law_near) (defBody s_law_near) (defScope s_law_near) .none kV13 dc13 pm13 an13 cd13 ct13), sl13⟩) (c13 : PySem.W.codeIn K cd13 "_law_near" = true) (k13 : PySem.W.keepIn K (.ref f13) = true)
    (a14 : PySem.W.nsIn K mainGlobals "_law_due" = some (some (.ref f14))) (l14 : K.lookup f14 = some ⟨oc14, od14, .func (PySem.W.fnOf "_law_due" "_law_due" (defArgs s_law_due) (defBody s_law_due) (defScope s_law_due) .none kV14 dc14 pm14 an14 cd14 ct14), sl14⟩) (c14 : PySem.W.codeIn K cd14 "_law_due" = true) (k14 : PySem.W.keepIn K (.ref f14) = true)
    (a15 : PySem.W.nsIn K mainGlobals "_law_is" = some (some (.ref f15))) (l15 : K.lookup f15 = some ⟨oc15, od15, .func (PySem.W.fnOf "_law_is" "_law_is" (defArgs s_law_is) (defBody s_law_is) (defScope s_law_is) .none kV15 dc15 pm15 an15 cd15 ct15), sl15⟩) (c15 : PySem.W.codeIn K cd15 "_law_is" = true) (k15 : PySem.W.keepIn K (.ref f15) = true)
    (a16 : PySem.W.nsIn K mainGlobals "law" = some (some (.ref f16))) (l16 : K.lookup f16 = some ⟨oc16, od16, .func (PySem.W.fnOf "law" "law" (defArgs s_law) (defBody s_law) (defScope s_law) .none kV16 dc16 pm16 an16 cd16 ct16), sl16⟩) (c16 : PySem.W.codeIn K cd16 "law" = true) (k16 : PySem.W.keepIn K (.ref f16) = true)
    (g_MOST_THINGS : PySem.W.nsIn K mainGlobals "MOST_THINGS" = some (some (.int 12 tk_MOST_THINGS)))
    (z_all : PySem.W.nsIn K mainGlobals "all" = some none)
    (z_bool : PySem.W.nsIn K mainGlobals "bool" = some none)
    (z_enumerate : PySem.W.nsIn K mainGlobals "enumerate" = some none)
    (z_int : PySem.W.nsIn K mainGlobals "int" = some none)
    (z_isinstance : PySem.W.nsIn K mainGlobals "isinstance" = some none)
    (z_len : PySem.W.nsIn K mainGlobals "len" = some none)
    (z_list : PySem.W.nsIn K mainGlobals "list" = some none)
    (z_max : PySem.W.nsIn K mainGlobals "max" = some none)
    (z_min : PySem.W.nsIn K mainGlobals "min" = some none)
    (z_range : PySem.W.nsIn K mainGlobals "range" = some none)
    (z_sorted : PySem.W.nsIn K mainGlobals "sorted" = some none)
    (z_sum : PySem.W.nsIn K mainGlobals "sum" = some none)
    (z_zip : PySem.W.nsIn K mainGlobals "zip" = some none)
    : ∃ fd : FuncData, (∀ (s : Shared) (v : Value), BindsTo s fd ⟨[v], []⟩ [("script", v)]) ∧ ∀ base : Heap, K.In base → base.Ns mainGlobals mg → FnOk l.prog w K mg base CX0 7 fa fd ["script"] (spLaw K) := by
  have e := hfa.symm.trans (PySem.W.mg_of X G a16)
  cases e
  have F0 := fun_mk (st := s_is_whole) l0 c0 k0
  have F1 := fun_mk (st := s_is_order) l1 c1 k1
  have F2 := fun_mk (st := s_check_order) l2 c2 k2
  have F3 := fun_mk (st := s_check_orders) l3 c3 k3
  have F4 := fun_mk (st := s_check_fit) l4 c4 k4
  have F5 := fun_mk (st := s_rounds_between) l5 c5 k5
  have F6 := fun_mk (st := s_followers_between) l6 c6 k6
  have F7 := fun_mk (st := s_round_from) l7 c7 k7
  have F8 := fun_mk (st := s_steps_between) l8 c8 k8
  have F9 := fun_mk (st := s_law_deck) l9 c9 k9
  have F10 := fun_mk (st := s_law_draw) l10 c10 k10
  have F11 := fun_mk (st := s_law_order) l11 c11 k11
  have F12 := fun_mk (st := s_law_things) l12 c12 k12
  have F13 := fun_mk (st := s_law_near) l13 c13 k13
  have F14 := fun_mk (st := s_law_due) l14 c14 k14
  have F15 := fun_mk (st := s_law_is) l15 c15 k15
  have F16 := fun_mk (st := s_law) l16 c16 k16
  have T_is_whole : Df K mg "is_whole" s_is_whole ["thing"] f0 _ := ⟨F0, F0.binds (ps := ["thing"]) (fun _ _ _ _ _ _ us hl => match us, hl with | [_], _ => rfl), PySem.W.mg_of X G a0⟩
  have T_is_order : Df K mg "is_order" s_is_order ["thing"] f1 _ := ⟨F1, F1.binds (ps := ["thing"]) (fun _ _ _ _ _ _ us hl => match us, hl with | [_], _ => rfl), PySem.W.mg_of X G a1⟩
  have T_check_order : Df K mg "check_order" s_check_order ["thing"] f2 _ := ⟨F2, F2.binds (ps := ["thing"]) (fun _ _ _ _ _ _ us hl => match us, hl with | [_], _ => rfl), PySem.W.mg_of X G a2⟩
  have T_check_orders : Df K mg "check_orders" s_check_orders ["one", "other"] f3 _ := ⟨F3, F3.binds (ps := ["one", "other"]) (fun _ _ _ _ _ _ us hl => match us, hl with | [_, _], _ => rfl), PySem.W.mg_of X G a3⟩
  have T_check_fit : Df K mg "check_fit" s_check_fit ["one", "other"] f4 _ := ⟨F4, F4.binds (ps := ["one", "other"]) (fun _ _ _ _ _ _ us hl => match us, hl with | [_, _], _ => rfl), PySem.W.mg_of X G a4⟩
  have T_rounds_between : Df K mg "rounds_between" s_rounds_between ["one", "other"] f5 _ := ⟨F5, F5.binds (ps := ["one", "other"]) (fun _ _ _ _ _ _ us hl => match us, hl with | [_, _], _ => rfl), PySem.W.mg_of X G a5⟩
  have T_followers_between : Df K mg "followers_between" s_followers_between ["one", "other"] f6 _ := ⟨F6, F6.binds (ps := ["one", "other"]) (fun _ _ _ _ _ _ us hl => match us, hl with | [_, _], _ => rfl), PySem.W.mg_of X G a6⟩
  have T_round_from : Df K mg "round_from" s_round_from ["thing", "followers"] f7 _ := ⟨F7, F7.binds (ps := ["thing", "followers"]) (fun _ _ _ _ _ _ us hl => match us, hl with | [_, _], _ => rfl), PySem.W.mg_of X G a7⟩
  have T_steps_between : Df K mg "steps_between" s_steps_between ["one", "other"] f8 _ := ⟨F8, F8.binds (ps := ["one", "other"]) (fun _ _ _ _ _ _ us hl => match us, hl with | [_, _], _ => rfl), PySem.W.mg_of X G a8⟩
  have T__law_deck : Df K mg "_law_deck" s_law_deck ["script"] f9 _ := ⟨F9, F9.binds (ps := ["script"]) (fun _ _ _ _ _ _ us hl => match us, hl with | [_], _ => rfl), PySem.W.mg_of X G a9⟩
  have T__law_draw : Df K mg "_law_draw" s_law_draw ["deck", "many"] f10 _ := ⟨F10, F10.binds (ps := ["deck", "many"]) (fun _ _ _ _ _ _ us hl => match us, hl with | [_, _], _ => rfl), PySem.W.mg_of X G a10⟩
  have T__law_order : Df K mg "_law_order" s_law_order ["deck", "n"] f11 _ := ⟨F11, F11.binds (ps := ["deck", "n"]) (fun _ _ _ _ _ _ us hl => match us, hl with | [_, _], _ => rfl), PySem.W.mg_of X G a11⟩
  have T__law_things : Df K mg "_law_things" s_law_things ["deck"] f12 _ := ⟨F12, F12.binds (ps := ["deck"]) (fun _ _ _ _ _ _ us hl => match us, hl with | [_], _ => rfl), PySem.W.mg_of X G a12⟩
  have T__law_near : Df K mg "_law_near" s_law_near ["deck", "order"] f13 _ := ⟨F13, F13.binds (ps := ["deck", "order"]) (fun _ _ _ _ _ _ us hl => match us, hl with | [_, _], _ => rfl), PySem.W.mg_of X G a13⟩
  have T__law_due : Df K mg "_law_due" s_law_due ["one", "other"] f14 _ := ⟨F14, F14.binds (ps := ["one", "other"]) (fun _ _ _ _ _ _ us hl => match us, hl with | [_, _], _ => rfl), PySem.W.mg_of X G a14⟩
  have T__law_is : Df K mg "_law_is" s_law_is ["found", "due"] f15 _ := ⟨F15, F15.binds (ps := ["found", "due"]) (fun _ _ _ _ _ _ us hl => match us, hl with | [_, _], _ => rfl), PySem.W.mg_of X G a15⟩
  have B : Bi mg := ⟨PySem.W.mg_none_of X G z_all, PySem.W.mg_none_of X G z_bool, PySem.W.mg_none_of X G z_enumerate, PySem.W.mg_none_of X G z_int, PySem.W.mg_none_of X G z_isinstance, PySem.W.mg_none_of X G z_len, PySem.W.mg_none_of X G z_list, PySem.W.mg_none_of X G z_max, PySem.W.mg_none_of X G z_min, PySem.W.mg_none_of X G z_range, PySem.W.mg_none_of X G z_sorted, PySem.W.mg_none_of X G z_sum, PySem.W.mg_none_of X G z_zip⟩
  have m_MOST_THINGS := PySem.W.mg_of X G g_MOST_THINGS
  exact ⟨PySem.W.fnOf "law" "law" (defArgs s_law) (defBody s_law) (defScope s_law) .none kV16 dc16 pm16 an16 cd16 ct16, fun s v => .of_eq rfl, fun base _ _ => ok_law F16 T__law_deck T__law_order T__law_things T__law_near T__law_due T__law_is T_rounds_between T_steps_between (ok_deck (k := 5) T__law_deck B) (ok_order (k := 4) T__law_order T__law_draw B) (ok_things (k := 4) T__law_things T__law_draw B) (ok_near (k := 3) T__law_near T__law_draw T__law_order B) (ok_due (k := 5) T__law_due B) (ok_is (k := 5) T__law_is B) (ok_rounds (k := 4) T_rounds_between T_check_orders T_check_fit T_followers_between T_round_from (ok_checks (k := 4) T_check_orders T_check_order (ok_check (k := 1) T_check_order T_is_order T_is_whole B m_MOST_THINGS)) B) (ok_steps (k := 5) T_steps_between T_rounds_between (ok_rounds (k := 3) T_rounds_between T_check_orders T_check_fit T_followers_between T_round_from (ok_checks (k := 3) T_check_orders T_check_order (ok_check (k := 0) T_check_order T_is_order T_is_whole B m_MOST_THINGS)) B) B) B⟩
end Fo
open PySem PySem.W PyProof.Rows
set_option maxRecDepth 100000 in
set_option maxHeartbeats 0 in
theorem PySem.Challenge.cw_farorders_k11_rounds_and_steps_holds : PySem.Challenge.rw_farorders_k11_rounds_and_steps.Holds := by
  w_on; o_law; k_head; (case hw => w_witness2)
  k_fill
  refine L2.walk_of (l := PySem.Challenge.rw_farorders_k11_rounds_and_steps) (n := 63) (k := 7) (x := "script") (CX := fun _ => L2.CX0) (sp := fun w => Fo.spLaw _) rfl (by decide) rfl ⟨rfl, by decide, by decide⟩ (fun w h Y => PySem.W.kIn_of Y) ?F (fun _ _ a ns hl _ hS => ⟨a, ns, rfl, hS, hl, fun _ => rfl⟩) (fun _ _ _ _ _ h => h)
  case F =>
    intro w mg fa h KX G hmg
    refine' Fo.all_mk KX G hmg ?a0 ?l0 ?c0 ?k0 ?a1 ?l1 ?c1 ?k1 ?a2 ?l2 ?c2 ?k2 ?a3 ?l3 ?c3 ?k3 ?a4 ?l4 ?c4 ?k4 ?a5 ?l5 ?c5 ?k5 ?a6 ?l6 ?c6 ?k6 ?a7 ?l7 ?c7 ?k7 ?a8 ?l8 ?c8 ?k8 ?a9 ?l9 ?c9 ?k9 ?a10 ?l10 ?c10 ?k10 ?a11 ?l11 ?c11 ?k11 ?a12 ?l12 ?c12 ?k12 ?a13 ?l13 ?c13 ?k13 ?a14 ?l14 ?c14 ?k14 ?a15 ?l15 ?c15 ?k15 ?a16 ?l16 ?c16 ?k16 ?g_MOST_THINGS ?z_all ?z_bool ?z_enumerate ?z_int ?z_isinstance ?z_len ?z_list ?z_max ?z_min ?z_range ?z_sorted ?z_sum ?z_zip
    (case a0 => k_is); (case l0 => k_is); (case c0 => k_is); (case k0 => k_is); (case a1 => k_is); (case l1 => k_is); (case c1 => k_is); (case k1 => k_is); (case a2 => k_is); (case l2 => k_is); (case c2 => k_is); (case k2 => k_is); (case a3 => k_is); (case l3 => k_is); (case c3 => k_is); (case k3 => k_is); (case a4 => k_is); (case l4 => k_is); (case c4 => k_is); (case k4 => k_is); (case a5 => k_is); (case l5 => k_is); (case c5 => k_is); (case k5 => k_is); (case a6 => k_is); (case l6 => k_is); (case c6 => k_is); (case k6 => k_is); (case a7 => k_is); (case l7 => k_is); (case c7 => k_is); (case k7 => k_is); (case a8 => k_is); (case l8 => k_is); (case c8 => k_is); (case k8 => k_is); (case a9 => k_is); (case l9 => k_is); (case c9 => k_is); (case k9 => k_is); (case a10 => k_is); (case l10 => k_is); (case c10 => k_is); (case k10 => k_is); (case a11 => k_is); (case l11 => k_is); (case c11 => k_is); (case k11 => k_is); (case a12 => k_is); (case l12 => k_is); (case c12 => k_is); (case k12 => k_is); (case a13 => k_is); (case l13 => k_is); (case c13 => k_is); (case k13 => k_is); (case a14 => k_is); (case l14 => k_is); (case c14 => k_is); (case k14 => k_is); (case a15 => k_is); (case l15 => k_is); (case c15 => k_is); (case k15 => k_is); (case a16 => k_is); (case l16 => k_is); (case c16 => k_is); (case k16 => k_is); (case g_MOST_THINGS => k_is); (case z_all => k_is); (case z_bool => k_is); (case z_enumerate => k_is); (case z_int => k_is); (case z_isinstance => k_is); (case z_len => k_is); (case z_list => k_is); (case z_max => k_is); (case z_min => k_is); (case z_range => k_is); (case z_sorted => k_is); (case z_sum => k_is); (case z_zip => k_is)

