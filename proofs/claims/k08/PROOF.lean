import PyProof.Rows.All
import Wide.All
import OpenK.AllK
import Wide.FinOn
import HandS.ForMost
import HandS.IsInst
import HandS.Conv
import HandS.Style
import HandS.More
import HandS.Evl
import PySem.Challenge.RW_farorders_k08_ends_of_walks
set_option Elab.async false
set_option linter.all false
set_option maxRecDepth 100000
namespace Fo
open PySem PySem.Spec PyProof.Rows L2
/-! ### lists and orders -/
def rg (n : Nat) : List Int := (List.range n).map fun k => ((k : Nat) : Int)
def IsOrd (n : Nat) (ns : List Int) : Prop := ns.Perm (rg n)
theorem rg_len (n : Nat) : (rg n).length = n := by
  unfold rg
  rw [List.length_map, List.length_range]
theorem rg_mem {n : Nat} {x : Int} : x ∈ rg n ↔ 0 ≤ x ∧ x < n := by
  unfold rg
  rw [List.mem_map]
  constructor
  · rintro ⟨k, hk, rfl⟩
    have := List.mem_range.mp hk
    omega
  · rintro ⟨h0, h1⟩
    exact ⟨x.toNat, List.mem_range.mpr (by omega), by omega⟩
theorem rg_nodup (n : Nat) : (rg n).Nodup := by
  unfold rg
  exact List.Pairwise.map _ (fun a b h e => h (by omega)) List.nodup_range
theorem rg_sorted (n : Nat) : (rg n).Pairwise (· ≤ ·) := by
  unfold rg
  exact List.Pairwise.map _ (fun a b h => by omega) List.pairwise_lt_range
theorem rg_V (n : Nat) : rgV 0 (n : Int) = (rg n).map V.int := by
  unfold rgV rg
  rw [List.map_map, show ((n : Int) - 0).toNat = n by omega]
  apply List.map_congr_left
  intro a _
  show V.int (0 + (a : Int)) = V.int (a : Int)
  rw [Int.zero_add]
theorem IsOrd.len {n : Nat} {ns : List Int} (h : IsOrd n ns) : ns.length = n := (List.Perm.length_eq h).trans (rg_len n)
theorem IsOrd.mem {n : Nat} {ns : List Int} (h : IsOrd n ns) {x : Int} (m : x ∈ ns) : 0 ≤ x ∧ x < n := rg_mem.mp ((List.Perm.mem_iff h).mp m)
theorem IsOrd.nodup {n : Nat} {ns : List Int} (h : IsOrd n ns) : ns.Nodup := (List.Perm.nodup_iff h).mpr (rg_nodup n)
/-- two sorted lists of the same things are one -/
theorem sorted_eq : ∀ {a b : List Int}, a.Perm b → a.Pairwise (· ≤ ·) → b.Pairwise (· ≤ ·) → a = b := by
  intro a b hp ha hb
  exact List.Perm.eq_of_pairwise (fun x y _ _ h1 h2 => by omega) ha hb hp
/-- the things at p and p + 1 change places -/
def sw (xs : List Int) (p : Nat) : List Int := (xs.set p (xs.getD (p + 1) 0)).set (p + 1) (xs.getD p 0)
theorem split2 : ∀ {xs : List Int} {p : Nat}, p + 1 < xs.length → ∃ A a b B, xs = A ++ a :: b :: B ∧ A.length = p
  | [], p, h => by simp at h
  | [_], p, h => by simp at h
  | a :: b :: r, 0, _ => ⟨[], a, b, r, rfl, rfl⟩
  | a :: b :: r, p + 1, h => by
    obtain ⟨A, x, y, B, e, l⟩ := split2 (xs := b :: r) (p := p) (by simpa using h)
    exact ⟨a :: A, x, y, B, by rw [e]; rfl, by rw [List.length_cons, l]⟩
theorem sw_at : ∀ (A : List Int) (a b : Int) (B : List Int), sw (A ++ a :: b :: B) A.length = A ++ b :: a :: B
  | [], a, b, B => rfl
  | x :: A, a, b, B => by
    have ih := sw_at A a b B
    unfold sw at ih ⊢
    show x :: _ = x :: _
    exact congrArg (x :: ·) ih
theorem sw_perm {xs : List Int} {p : Nat} (h : p + 1 < xs.length) : (sw xs p).Perm xs := by
  obtain ⟨A, a, b, B, rfl, rfl⟩ := split2 h
  rw [sw_at]
  exact List.Perm.append_left A (List.Perm.swap a b B)
theorem sw_len (xs : List Int) (p : Nat) : (sw xs p).length = xs.length := by
  unfold sw
  rw [List.length_set, List.length_set]
theorem sw_ord {n : Nat} {xs : List Int} {p : Nat} (o : IsOrd n xs) (h : p + 1 < n) : IsOrd n (sw xs p) :=
  (sw_perm (by rw [o.len]; exact h)).trans o
theorem sw_V {xs : List Int} {p : Nat} {a b : Int} (ha : xs[p]? = some a) (hb : xs[p + 1]? = some b) : ((xs.map V.int).set p (V.int b)).set (p + 1) (V.int a) = (sw xs p).map V.int := by
  unfold sw
  rw [List.getD_eq_getElem?_getD, List.getD_eq_getElem?_getD, ha, hb, List.map_set, List.map_set]
  rfl
theorem pop_ins {xs : List Int} {p : Nat} {a : Int} (h : p + 1 < xs.length) (ha : xs[p]? = some a) : (xs.eraseIdx p).take (p + 1) ++ [a] ++ (xs.eraseIdx p).drop (p + 1) = sw xs p := by
  obtain ⟨A, x, y, B, rfl, rfl⟩ := split2 h
  have ex : x = a := by
    rw [List.getElem?_append_right (Nat.le_refl _), Nat.sub_self] at ha
    exact Option.some.inj ha
  subst ex
  rw [sw_at, List.eraseIdx_append_of_length_le (Nat.le_refl _), Nat.sub_self]
  show (A ++ y :: B).take (A.length + 1) ++ [x] ++ (A ++ y :: B).drop (A.length + 1) = _
  rw [List.take_append, List.drop_append]
  have t : A.length + 1 - A.length = 1 := by omega
  rw [t, List.take_of_length_le (by omega), List.drop_of_length_le (by omega)]
  simp
/-- the order at a walk's end -/
def wEnd (xs : List Int) (ws : List Int) : List Int := ws.foldl (fun x p => sw x p.toNat) xs
theorem wEnd_more {xs ws : List Int} {i : Nat} {p : Int} (h : ws[i]? = some p) : wEnd xs (ws.take (i + 1)) = sw (wEnd xs (ws.take i)) p.toNat := by
  unfold wEnd
  rw [List.take_add_one, h, List.foldl_append]
  rfl
theorem wEnd_ord {n : Nat} {xs : List Int} (o : IsOrd n xs) : ∀ {ws : List Int}, (∀ p ∈ ws, 0 ≤ p ∧ p + 1 < n) → IsOrd n (wEnd xs ws) := by
  intro ws
  induction ws generalizing xs with
  | nil => intro _; exact o
  | cons p ws ih =>
    intro h
    have hp := h p List.mem_cons_self
    exact ih (sw_ord o (by omega)) fun q hq => h q (List.mem_cons_of_mem _ hq)
theorem int_at {ns : List Int} {i : Nat} {x : Int} (h : ns[i]? = some x) : (ns.map V.int)[i]? = some (V.int x) := by
  rw [List.getElem?_map, h]
  rfl
theorem int_at_inv {ns : List Int} {i : Nat} {v : V} (h : (ns.map V.int)[i]? = some v) : ∃ x, ns[i]? = some x ∧ v = V.int x := by
  rw [List.getElem?_map] at h
  cases e : ns[i]? with
  | none => rw [e] at h; cases h
  | some x => rw [e] at h; exact ⟨x, rfl, (Option.some.inj h).symm⟩
theorem line_small {n : Nat} (h : n ≤ 16777216) : n ≤ sizeLine := by rw [sizeLine_eq]; exact h
theorem line_lt {n : Nat} (h : n < 16777216) : n < sizeLine := by rw [sizeLine_eq]; exact h
/-! ### data of ints -/
theorem dp_ints {K : PySem.W.Frag} {H : Hp} : ∀ ns : List Int, DpAll K H (ns.map V.int) (ns.map PyData.int)
  | [] => .nil
  | n :: r => .cons (.int n) (dp_ints r)
theorem dp_list {K : PySem.W.Frag} {H : Hp} {a : Addr} {ns : List Int} (h : H a = some (.lst (ns.map V.int))) : Dp K H (.ref a) (.list (ns.map PyData.int)) := .lst (SqL.of h) (dp_ints ns)
theorem eqv_int (i j : Int) : PyData.eqv (.int i) (.int j) = (i == j) := rfl
end Fo
namespace Fo
open PySem PySem.Spec PyProof.Rows L2
abbrev dI (ns : List Int) : List PyData := ns.map PyData.int
abbrev dL (ns : List Int) : PyData := .list (dI ns)
abbrev dLL (l : List (List Int)) : PyData := .list (l.map dL)
theorem lay_ints : ∀ ns : List Int, PyData.canLayAll0 (dI ns) = true
  | [] => rfl
  | n :: r => by
    show (PyData.canLay0 (.int n) && PyData.canLayAll0 (dI r)) = true
    rw [lay_ints r]
    rfl
theorem depth_ints : ∀ ns : List Int, PyData.depthAll (dI ns) = 0
  | [] => by simp [PyData.depthAll]
  | n :: r => by
    show PyData.depthAll (.int n :: dI r) = 0
    rw [PyData.depthAll, depth_ints r]
    simp [PyData.depth]
theorem lay_list (ns : List Int) : PyData.canLay0 (dL ns) = true := by
  rw [PyData.canLay0]
  exact lay_ints ns
theorem depth_list (ns : List Int) : PyData.depth (dL ns) = 1 := by
  rw [PyData.depth, depth_ints]
theorem shaped_list (ns : List Int) : SeqAt.shaped (dL ns) = true := by
  unfold SeqAt.shaped
  rw [lay_list, depth_list]
  rfl
theorem lay_lists : ∀ l : List (List Int), PyData.canLayAll0 (l.map dL) = true
  | [] => rfl
  | n :: r => by
    show (PyData.canLay0 (dL n) && PyData.canLayAll0 (r.map dL)) = true
    rw [lay_lists r, lay_list]
    rfl
theorem depth_lists : ∀ l : List (List Int), PyData.depthAll (l.map dL) ≤ 1
  | [] => by simp [PyData.depthAll]
  | n :: r => by
    show PyData.depthAll (dL n :: r.map dL) ≤ 1
    rw [PyData.depthAll, depth_list]
    have := depth_lists r
    omega
theorem shaped_lists (l : List (List Int)) : SeqAt.shaped (dLL l) = true := by
  unfold SeqAt.shaped
  rw [Bool.and_eq_true_iff]
  constructor
  · rw [PyData.canLay0]
    exact lay_lists l
  · apply decide_eq_true
    rw [PyData.depth]
    have := depth_lists l
    omega
theorem eqv_list (ns : List Int) : PyData.eqv (dL ns) (dL ns) = true := SeqAt.eqv_refl _ (lay_list ns)
theorem eqv_lists (l : List (List Int)) : PyData.eqv (dLL l) (dLL l) = true := SeqAt.eqv_refl _ (SeqAt.canLay_of_shaped (shaped_lists l))
theorem eqvAll_ints : ∀ a b : List Int, PyData.eqvAll (dI a) (dI b) = decide (a = b)
  | [], [] => by simp [PyData.eqvAll]
  | [], _ :: _ => by simp [PyData.eqvAll]
  | _ :: _, [] => by simp [PyData.eqvAll]
  | x :: a, y :: b => by
    show PyData.eqvAll (.int x :: dI a) (.int y :: dI b) = _
    rw [PyData.eqvAll, eqvAll_ints a b]
    show ((x == y) && decide (a = b)) = decide (x :: a = y :: b)
    by_cases h : x = y
    · subst h
      simp
    · simp [h]
theorem eqv_ints (a b : List Int) : PyData.eqv (dL a) (dL b) = decide (a = b) := by
  rw [PyData.eqv]
  exact eqvAll_ints a b
end Fo
namespace Fo
open PySem PySem.Spec PyProof.Rows L2
/-! ### slices of ints -/
def cutI (ws : List Int) (lo hi : Option Int) : List Int := (ws.drop (HT.sIx ws.length 0 lo)).take (HT.sIx ws.length ws.length hi - HT.sIx ws.length 0 lo)
theorem cut_ints (ws : List Int) (lo hi : Option Int) : cutV (ws.map V.int) lo hi = (cutI ws lo hi).map V.int := by
  unfold cutV cutI
  rw [List.length_map, List.map_take, List.map_drop]
theorem cutI_mem {ws : List Int} {lo hi : Option Int} {x : Int} (h : x ∈ cutI ws lo hi) : x ∈ ws := List.mem_of_mem_drop (List.mem_of_mem_take h)
theorem cutI_len (ws : List Int) (lo hi : Option Int) : (cutI ws lo hi).length ≤ ws.length := by
  unfold cutI
  rw [List.length_take, List.length_drop]
  omega
theorem cutI_head (ws : List Int) (k : Nat) : cutI ws none (some (k : Int)) = ws.take k := by
  unfold cutI
  rw [HT.sIx_none, HT.sIx_nat, List.drop_zero, Nat.sub_zero]
  by_cases h : k ≤ ws.length
  · rw [Nat.min_eq_left h]
  · rw [Nat.min_eq_right (by omega), List.take_length, List.take_of_length_le (by omega)]
end Fo
namespace Fo
open PySem PySem.Spec PyProof.Rows L2
/-! ### the text -/
def topS (i : Nat) : Stmt := PySem.Challenge.pw_farorders_k08_ends_of_walks.main.body.getD i (.Pass ⟨0, 0, 0, 0⟩)
abbrev s_OrderError : Stmt := topS 1
abbrev s_NoOrder : Stmt := topS 2
abbrev s_NoPlace : Stmt := topS 3
abbrev s_is_whole : Stmt := topS 5
abbrev s_is_order : Stmt := topS 8
abbrev s_check_order : Stmt := topS 9
abbrev s_is_walk : Stmt := topS 11
abbrev s_walk_end : Stmt := topS 12
abbrev s_exchange : Stmt := topS 13
abbrev s_law_deck : Stmt := topS 15
abbrev s_law_draw : Stmt := topS 16
abbrev s_law_order : Stmt := topS 17
abbrev s_law_things : Stmt := topS 18
abbrev s_law_walk : Stmt := topS 19
abbrev s_law : Stmt := topS 20
/-- a def of the text, where it stands -/
structure Df (K : PySem.W.Frag) (mg : Str → Option Value) (x : Str) (st : Stmt) (ps : List Str) (f : Addr) (fd : FuncData) : Prop where
  F : Fun K x x st f fd
  b : Binds K fd ps []
  g : mg x = some (.ref f)
/-- the built-in names as they were -/
structure Bi (mg : Str → Option Value) : Prop where
  all : mg "all" = none
  bool : mg "bool" = none
  int : mg "int" = none
  isinstance : mg "isinstance" = none
  len : mg "len" = none
  list : mg "list" = none
  max : mg "max" = none
  min : mg "min" = none
  range : mg "range" = none
  sorted : mg "sorted" = none
end Fo
namespace Fo
open PySem PySem.Spec PyProof.Rows L2
/-! ### the deck: a list of its pools and a number; a pool: three numbers -/
structure Dk where
  d : Addr
  pl : Addr
  as : List Addr
def Dk.Foot (D : Dk) (b : Addr) : Prop := b = D.d ∨ b = D.pl ∨ b ∈ D.as
structure DkAt (H : Hp) (D : Dk) : Prop where
  top : ∃ i : Int, H D.d = some (.lst [.ref D.pl, .int i])
  pools : H D.pl = some (.lst (D.as.map V.ref))
  len : 0 < D.as.length
  len2 : D.as.length ≤ 63
  at_ : ∀ a ∈ D.as, ∃ x y z : Int, H a = some (.lst [.int x, .int y, .int z])
def Keep (D : Dk) (H H' : Hp) : Prop := ∀ b o, H b = some o → ¬ D.Foot b → H' b = some o
theorem Keep.refl {D : Dk} (H : Hp) : Keep D H H := fun _ _ e _ => e
theorem Keep.trans {D : Dk} {H H1 H2 : Hp} (a : Keep D H H1) (b : Keep D H1 H2) : Keep D H H2 := fun c o e f => b c o (a c o e f) f
theorem Keep.new {D : Dk} {H : Hp} {p : Addr} {o : HO} (e : H p = none) : Keep D H (upd H p o) := fun b u h _ => by
  rw [upd_ne (ne_of_none h e)]
  exact h
theorem Keep.foot {D : Dk} {H : Hp} {p : Addr} {o : HO} (f : D.Foot p) : Keep D H (upd H p o) := fun b u h nf => by
  rw [upd_ne (fun e => nf (by rw [e]; exact f))]
  exact h
theorem Keep.of_same {D : Dk} {H H' : Hp} (h : Same H H') : Keep D H H' := fun b o e _ => h b o e
theorem same_new {H : Hp} {p : Addr} {o : HO} (h : H p = none) : Same H (upd H p o) := fun b x e => by
  rw [upd_ne (ne_of_none e h)]
  exact e
section
variable {H : Hp} {D : Dk}
theorem DkAt.tracked (h : DkAt H D) {b : Addr} (f : D.Foot b) : ∃ o, H b = some o := by
  rcases f with rfl | rfl | f
  · obtain ⟨i, e⟩ := h.top
    exact ⟨_, e⟩
  · exact ⟨_, h.pools⟩
  · obtain ⟨x, y, z, e⟩ := h.at_ b f
    exact ⟨_, e⟩
theorem DkAt.notFoot (h : DkAt H D) {p : Addr} (e : H p = none) : ¬ D.Foot p := fun f => by
  obtain ⟨o, q⟩ := h.tracked f
  rw [e] at q
  cases q
theorem DkAt.upd (h : DkAt H D) {p : Addr} {o : HO} (nf : ¬ D.Foot p) : DkAt (upd H p o) D where
  top := by
    obtain ⟨i, e⟩ := h.top
    exact ⟨i, by rw [upd_ne (fun q => nf (.inl q.symm))]; exact e⟩
  pools := by
    rw [upd_ne (fun q => nf (.inr (.inl q.symm)))]
    exact h.pools
  len := h.len
  len2 := h.len2
  at_ := fun a ha => by
    obtain ⟨x, y, z, e⟩ := h.at_ a ha
    exact ⟨x, y, z, by rw [upd_ne (fun q => nf (.inr (.inr (by rw [← q]; exact ha))))]; exact e⟩
theorem DkAt.new (h : DkAt H D) {p : Addr} {o : HO} (e : H p = none) : DkAt (L2.upd H p o) D := h.upd (h.notFoot e)
theorem DkAt.same (h : DkAt H D) {H' : Hp} (s : Same H H') : DkAt H' D := ⟨by obtain ⟨i, e⟩ := h.top; exact ⟨i, s _ _ e⟩, s _ _ h.pools, h.len, h.len2, fun a ha => by
  obtain ⟨x, y, z, e⟩ := h.at_ a ha
  exact ⟨x, y, z, s _ _ e⟩⟩
theorem DkAt.a_ne_d (h : DkAt H D) {a : Addr} (ha : a ∈ D.as) : a ≠ D.d := by
  obtain ⟨x, y, z, e⟩ := h.at_ a ha
  obtain ⟨i, e2⟩ := h.top
  exact ne_of e e2 (by intro q; cases q)
theorem DkAt.a_ne_pl (h : DkAt H D) {a : Addr} (ha : a ∈ D.as) : a ≠ D.pl := by
  obtain ⟨x, y, z, e⟩ := h.at_ a ha
  refine ne_of e h.pools ?_
  cases q : D.as with
  | nil => intro z; cases z
  | cons b r => intro z; cases z
theorem DkAt.d_ne_pl (h : DkAt H D) : D.d ≠ D.pl := by
  obtain ⟨i, e⟩ := h.top
  refine ne_of e h.pools ?_
  rcases q : D.as with _ | ⟨b, _ | ⟨c, r⟩⟩ <;> (intro z; cases z)
theorem DkAt.pool (h : DkAt H D) {a : Addr} (ha : a ∈ D.as) {x y z : Int} : DkAt (L2.upd H a (.lst [.int x, .int y, .int z])) D where
  top := by
    obtain ⟨i, e⟩ := h.top
    exact ⟨i, by rw [upd_ne (h.a_ne_d ha).symm]; exact e⟩
  pools := by
    rw [upd_ne (h.a_ne_pl ha).symm]
    exact h.pools
  len := h.len
  len2 := h.len2
  at_ := fun b hb => by
    by_cases q : b = a
    · subst q
      exact ⟨x, y, z, upd_same⟩
    · obtain ⟨x', y', z', e⟩ := h.at_ b hb
      exact ⟨x', y', z', by rw [upd_ne q]; exact e⟩
theorem DkAt.step (h : DkAt H D) {i : Int} : DkAt (L2.upd H D.d (.lst [.ref D.pl, .int i])) D where
  top := ⟨i, upd_same⟩
  pools := by
    rw [upd_ne h.d_ne_pl.symm]
    exact h.pools
  len := h.len
  len2 := h.len2
  at_ := fun b hb => by
    obtain ⟨x', y', z', e⟩ := h.at_ b hb
    exact ⟨x', y', z', by rw [upd_ne (h.a_ne_d hb)]; exact e⟩
end
/-! ### the promises of the law's own defs -/
def spDeck (K : PySem.W.Frag) : Sp := fun vs H Q _ => ∃ (a : Addr) (ns : List Int), vs = [.ref a] ∧ SqL K H a (ns.map V.int) ∧ ns.length ≤ 63 ∧
  ∀ (D : Dk) (H' : Hp), DkAt H' D → Same H H' → (∀ b, D.Foot b → H b = none) → Q (.ref D.d) H'
def spDraw : Sp := fun vs H Q _ => ∃ (D : Dk) (many : Int), vs = [.ref D.d, .int many] ∧ DkAt H D ∧ 0 < many ∧ many < 1000000 ∧
  ∀ (v : Int) (H' : Hp), 0 ≤ v → v < many → DkAt H' D → Keep D H H' → Q (.int v) H'
def spThings : Sp := fun vs H Q _ => ∃ (D : Dk), vs = [.ref D.d] ∧ DkAt H D ∧
  ∀ (n : Nat) (H' : Hp), 1 ≤ n → n ≤ 12 → DkAt H' D → Keep D H H' → Q (.int n) H'
def spOrder : Sp := fun vs H Q _ => ∃ (D : Dk) (n : Nat), vs = [.ref D.d, .int n] ∧ DkAt H D ∧ 1 ≤ n ∧ n ≤ 12 ∧
  ∀ (ns : List Int) (l : Addr) (H' : Hp), IsOrd n ns → H l = none → H' l = some (.lst (ns.map V.int)) → ¬ D.Foot l → DkAt H' D → Keep D H H' → Q (.ref l) H'
section
variable {P : Program} {w : World} {K : PySem.W.Frag} {mg : Str → Option Value} {base : Heap}
/-! ### a draw -/
theorem scDraw : FnScope ["deck", "many", "pool", "found", "number"] ["deck", "many"] (defScope s_law_draw) := ⟨rfl, rfl, rfl, by decide +kernel, rfl, by decide +kernel, by decide +kernel⟩
theorem at3_0 {x y z : V} : atI [x, y, z] 0 = some x := rfl
theorem at3_1 {x y z : V} : atI [x, y, z] 1 = some y := rfl
theorem at3_2 {x y z : V} : atI [x, y, z] 2 = some z := rfl
theorem at2_0 {x y : V} : atI [x, y] 0 = some x := rfl
theorem at2_1 {x y : V} : atI [x, y] 1 = some y := rfl
set_option maxHeartbeats 2000000 in
theorem ok_draw {f : Addr} {fd : FuncData} {k : Nat} (T : Df K mg "_law_draw" s_law_draw ["deck", "many"] f fd) (B : Bi mg) : FnOk P w K mg base CX0 (k + 1) f fd ["deck", "many"] spDraw := by
  refine T.F.ok scDraw (fun vs H Q E h => ?_) (fun cdv A outer s H vs Q E hr h => ?_)
  · obtain ⟨D, m, rfl, _⟩ := h
    rfl
  · obtain ⟨D, m, rfl, hD, hm0, hm1, q⟩ := h
    refine ⟨_, pss_cons (ps_set (i := 2) scDraw.nd rfl (.inl rfl) (pe_ix ix_list (pe_ix ix_list (pv 0) pe_int (fun _ _ => rfl)) (pe_op op_mod (pe_ix ix_list (pv 0) pe_int (fun _ _ => rfl)) (pe_callB call_len_seq (by rfl) B.len PySem.boot_len (pa_cons (pe_ix ix_list (pv 0) pe_int (fun _ _ => rfl)) pa_nil))) (fun _ _ => rfl)))
      (pss_cons (ps_asg (pe_op op_add (pe_ix ix_list (pv 0) pe_int (fun _ _ => rfl)) pe_int) (pg_sub (pv 0) pe_int set_list))
      (Evl.pss_cut (ps_if (PW.pt (pw_and (pt_cmpR op_eq (pe_ix ix_list (pv 2) pe_int (fun _ _ => rfl)) pe_int (nomark _)) (pw_and1 (pt_cmpR op_gt (pe_ix ix_list (pv 2) pe_int (fun _ _ => rfl)) pe_int (nomark _)))))
        (pss_cons (ps_set (i := 3) scDraw.nd rfl (.inl rfl) (pe_op op_mod (pe_ix ix_list (pv 2) pe_int (fun _ _ => rfl)) (pv 1)))
        (pss_cons (ps_asg (pe_op op_fdiv (pe_ix ix_list (pv 2) pe_int (fun _ _ => rfl)) (pv 1)) (pg_sub (pv 2) pe_int set_list))
        (pss_one (ps_ret (pv 3))))) pss_nil)
      (pss_cons (ps_asg (pe_op op_add (pe_ix ix_list (pv 2) pe_int (fun _ _ => rfl)) pe_int) (pg_sub (pv 2) pe_int set_list))
      (pss_cons (ps_set (i := 4) scDraw.nd rfl (.inl rfl) (pe_op op_mod (pe_op op_add (pe_op op_mod (pe_ix ix_list (pv 2) pe_int (fun _ _ => rfl)) pe_int) (pe_op op_mul pe_int (pe_ix ix_list (pv 2) pe_int (fun _ _ => rfl)))) pe_int))
      (pss_cons (ps_set (i := 4) scDraw.nd rfl (.inl rfl) (pe_op op_mod (pe_op op_mul (pv 4) (pv 4)) pe_int))
      (pss_cons (ps_set (i := 4) scDraw.nd rfl (.inl rfl) (pe_op op_mod (pe_op op_mul (pv 4) (pe_op op_add (pv 4) pe_int)) pe_int))
      (pss_one (ps_ret (pe_op op_mod (pe_op op_fdiv (pv 4) pe_int) (pv 1)))))))))), ?_⟩
    obtain ⟨i, hd⟩ := hD.top
    have hl := hD.len
    -- pool = deck[0][deck[1] % len(deck[0])]
    obtain ⟨j, hj, ej⟩ : ∃ j : Nat, j < D.as.length ∧ i % (((D.as.map V.ref).length : Nat) : Int) = (j : Int) := by
      rw [List.length_map]
      have h1 := Int.emod_nonneg i (show ((D.as.length : Nat) : Int) ≠ 0 by omega)
      have h2 := Int.emod_lt_of_pos i (show (0 : Int) < ((D.as.length : Nat) : Int) by omega)
      exact ⟨(i % ((D.as.length : Nat) : Int)).toNat, by omega, by omega⟩
    obtain ⟨a, ea⟩ : ∃ a, D.as[j]? = some a := ⟨D.as[j], List.getElem?_eq_getElem hj⟩
    have ha : a ∈ D.as := List.mem_of_getElem? ea
    have eV : (D.as.map V.ref)[j]? = some (V.ref a) := by rw [List.getElem?_map, ea]; rfl
    obtain ⟨x, y, z, hp⟩ := hD.at_ a ha
    refine ⟨_, rfl, D.d, _, 0, _, rfl, rfl, SqL.of hd, at2_0, _, rfl, D.d, _, 1, _, rfl, rfl, SqL.of hd, at2_1, _, rfl, D.d, _, 0, _, rfl, rfl, SqL.of hd, at2_0, D.pl, _, rfl, .inl (SqL.of hD.pools), i, _, rfl, rfl, ?_, D.pl, _, _, .ref a, rfl, rfl, SqL.of hD.pools, at_of ej eV, ?_⟩
    · rw [List.length_map]; omega
    -- deck[1] = deck[1] + 1
    refine ⟨_, rfl, D.d, _, 1, _, rfl, rfl, SqL.of hd, at2_1, i, 1, rfl, rfl, _, rfl, D.d, _, 1, 1, rfl, rfl, hd, rfl, ?_⟩
    have hD1 : DkAt (upd H D.d (.lst [.ref D.pl, .int (i + 1)])) D := hD.step
    have k1 : Keep D H (upd H D.d (.lst [.ref D.pl, .int (i + 1)])) := Keep.foot (.inl rfl)
    have hp1 : (upd H D.d (.lst [.ref D.pl, .int (i + 1)])) a = some (.lst [.int x, .int y, .int z]) := by
      rw [upd_ne (hD.a_ne_d ha)]
      exact hp
    refine ⟨fun σ' H' => σ' = [some (.ref D.d), some (.int m), some (.ref a), none, none] ∧ H' = upd H D.d (.lst [.ref D.pl, .int (i + 1)]), ?_, fun σ' H' hM => ?_⟩
    · -- if pool[1] == 1 and pool[0] > 0
      refine ⟨_, rfl, a, _, 1, _, rfl, rfl, SqL.of hp1, at3_1, rfl, _, rfl, ite2 (fun _ => ?_) (fun _ => iteF ⟨rfl, rfl⟩)⟩
      refine ⟨_, rfl, a, _, 0, _, rfl, rfl, SqL.of hp1, at3_0, x, 0, rfl, rfl, _, rfl, ite2 (fun _ => ?_) (fun _ => ⟨rfl, rfl⟩)⟩
      -- found = pool[0] % many; pool[0] = pool[0] // many
      refine ⟨_, rfl, a, _, 0, _, rfl, rfl, SqL.of hp1, at3_0, _, rfl, x, m, rfl, rfl, hm0, ?_⟩
      refine ⟨_, rfl, a, _, 0, _, rfl, rfl, SqL.of hp1, at3_0, _, rfl, x, m, rfl, rfl, ⟨hm0, by omega⟩, _, rfl, a, _, 0, 0, rfl, rfl, hp1, rfl, ?_⟩
      exact ⟨_, rfl, q _ _ (Int.emod_nonneg x (by omega)) (Int.emod_lt_of_pos x hm0) (hD1.pool ha) (k1.trans (Keep.foot (.inr (.inr ha))))⟩
    · obtain ⟨rfl, rfl⟩ := hM
      -- pool[2] = pool[2] + 1
      refine ⟨_, rfl, a, _, 2, _, rfl, rfl, SqL.of hp1, at3_2, z, 1, rfl, rfl, _, rfl, a, _, 2, 2, rfl, rfl, hp1, rfl, ?_⟩
      have hD2 : DkAt (upd (upd H D.d (.lst [.ref D.pl, .int (i + 1)])) a (.lst [.int x, .int y, .int (z + 1)])) D := hD1.pool ha
      have k2 : Keep D H (upd (upd H D.d (.lst [.ref D.pl, .int (i + 1)])) a (.lst [.int x, .int y, .int (z + 1)])) := k1.trans (Keep.foot (.inr (.inr ha)))
      have hp2 : (upd (upd H D.d (.lst [.ref D.pl, .int (i + 1)])) a (.lst [.int x, .int y, .int (z + 1)])) a = some (.lst [.int x, .int y, .int (z + 1)]) := upd_same
      refine ⟨_, rfl, a, _, 0, _, rfl, rfl, SqL.of hp2, at3_0, x, 99999999977, rfl, rfl, (show (0 : Int) < 99999999977 by decide), _, rfl, a, _, 2, _, rfl, rfl, SqL.of hp2, at3_2, 700001, z + 1, rfl, rfl, .inl ⟨by decide, by decide⟩, _, _, rfl, rfl, _, 99999999947, rfl, rfl, (show (0 : Int) < 99999999947 by decide), ?_⟩
      have b1 := Int.emod_nonneg (x % 99999999977 + 700001 * (z + 1)) (show (99999999947 : Int) ≠ 0 by decide)
      have b2 := Int.emod_lt_of_pos (x % 99999999977 + 700001 * (z + 1)) (show (0 : Int) < 99999999947 by decide)
      refine ⟨_, rfl, _, rfl, _, _, rfl, rfl, .inl ⟨?_, ?_⟩, _, 99999999821, rfl, rfl, (show (0 : Int) < 99999999821 by decide), ?_⟩
      · exact Int.lt_of_lt_of_le (by decide) b1
      · exact Int.lt_trans b2 (by decide)
      generalize hn : (x % 99999999977 + 700001 * (z + 1)) % 99999999947 = n1
      have c1 := Int.emod_nonneg (n1 * n1) (show (99999999821 : Int) ≠ 0 by decide)
      have c2 := Int.emod_lt_of_pos (n1 * n1) (show (0 : Int) < 99999999821 by decide)
      refine ⟨_, rfl, _, rfl, _, 19, rfl, rfl, _, _, rfl, rfl, .inl ⟨?_, ?_⟩, _, 9999999967, rfl, rfl, (show (0 : Int) < 9999999967 by decide), ?_⟩
      · exact Int.lt_of_lt_of_le (by decide) c1
      · exact Int.lt_trans c2 (by decide)
      refine ⟨_, rfl, _, 13, rfl, rfl, ⟨by decide, by decide⟩, _, rfl, _, m, rfl, rfl, hm0, ?_⟩
      exact q _ _ (Int.emod_nonneg _ (by omega)) (Int.emod_lt_of_pos _ hm0) hD2 k2
end
end Fo
namespace Fo
open PySem PySem.Spec PyProof.Rows L2
section
variable {P : Program} {w : World} {K : PySem.W.Frag} {mg : Str → Option Value} {base : Heap}
/-! ### how many things -/
theorem scThings : FnScope ["deck"] ["deck"] (defScope s_law_things) := ⟨rfl, rfl, rfl, by decide +kernel, rfl, by decide +kernel, by decide +kernel⟩
set_option maxHeartbeats 2000000 in
theorem ok_things {f fD : Addr} {fd fdD : FuncData} {k : Nat} (T : Df K mg "_law_things" s_law_things ["deck"] f fd) (TD : Df K mg "_law_draw" s_law_draw ["deck", "many"] fD fdD) (B : Bi mg) : FnOk P w K mg base CX0 (k + 2) f fd ["deck"] spThings := by
  have GD : FnOk P w K mg base CX0 (k + 1) fD fdD ["deck", "many"] spDraw := ok_draw TD B
  refine T.F.ok scThings (fun vs H Q E h => ?_) (fun cdv A outer s H vs Q E hr h => ?_)
  · obtain ⟨D, rfl, _⟩ := h
    rfl
  · obtain ⟨D, rfl, hD, q⟩ := h
    refine ⟨_, pss_one (ps_ret (pe_ix ix_list (pe_lst
      (pa_cons (pe_op op_add pe_int (pe_call GD hr (by rfl) TD.g TD.F.kp TD.b .nil pass0 (pa_cons (pv 0) (pa_cons pe_int pa_nil))))
      (pa_cons (pe_op op_add pe_int (pe_call GD hr (by rfl) TD.g TD.F.kp TD.b .nil pass0 (pa_cons (pv 0) (pa_cons pe_int pa_nil))))
      (pa_cons (pe_op op_add pe_int (pe_call GD hr (by rfl) TD.g TD.F.kp TD.b .nil pass0 (pa_cons (pv 0) (pa_cons pe_int pa_nil))))
      (pa_cons pe_int pa_nil)))))
      (pe_call GD hr (by rfl) TD.g TD.F.kp TD.b .nil pass0 (pa_cons (pv 0) (pa_cons pe_int pa_nil))) (fun _ _ => rfl))), ?_⟩
    refine ⟨_, rfl, D, 4, rfl, hD, by decide, by decide, fun v1 H1 l1 u1 D1 k1 => ⟨1, v1, rfl, rfl, ?_⟩⟩
    refine ⟨_, rfl, D, 8, rfl, D1, by decide, by decide, fun v2 H2 l2 u2 D2 k2 => ⟨1, v2, rfl, rfl, ?_⟩⟩
    refine ⟨_, rfl, D, 12, rfl, D2, by decide, by decide, fun v3 H3 l3 u3 D3 k3 => ⟨1, v3, rfl, rfl, ?_⟩⟩
    refine ⟨line_small (by show 4 ≤ 16777216; decide), fun p np => ?_⟩
    refine ⟨_, rfl, D, 4, rfl, D3.new np, by decide, by decide, fun v4 H4 l4 u4 D4 k4 => ?_⟩
    have hp : H4 p = some (.lst [.int (1 + v1), .int (1 + v2), .int (1 + v3), .int 12]) := k4 p _ upd_same (D3.notFoot np)
    have kk : Keep D H H4 := ((k1.trans k2).trans k3).trans ((Keep.new np).trans k4)
    have fin : ∀ v : Int, 1 ≤ v → v ≤ 12 → Q (.int v) H4 := fun v h1 h2 => by
      have z := q v.toNat H4 (by omega) (by omega) D4 kk
      rw [Int.toNat_of_nonneg (by omega)] at z
      exact z
    have hv : v4 = 0 ∨ v4 = 1 ∨ v4 = 2 ∨ v4 = 3 := by omega
    rcases hv with rfl | rfl | rfl | rfl
    · exact ⟨p, _, 0, _, rfl, rfl, SqL.of hp, rfl, fin _ (by omega) (by omega)⟩
    · exact ⟨p, _, 1, _, rfl, rfl, SqL.of hp, rfl, fin _ (by omega) (by omega)⟩
    · exact ⟨p, _, 2, _, rfl, rfl, SqL.of hp, rfl, fin _ (by omega) (by omega)⟩
    · exact ⟨p, _, 3, _, rfl, rfl, SqL.of hp, rfl, fin _ (by omega) (by omega)⟩
/-! ### the deck is made -/
theorem scDeck : FnScope ["script", "pools", "k", "cell"] ["script"] (defScope s_law_deck) := ⟨rfl, rfl, rfl, by decide +kernel, rfl, by decide +kernel, by decide +kernel⟩
set_option maxHeartbeats 2000000 in
theorem ok_deck {f : Addr} {fd : FuncData} {k : Nat} (T : Df K mg "_law_deck" s_law_deck ["script"] f fd) (B : Bi mg) : FnOk P w K mg base CX0 (k + 1) f fd ["script"] (spDeck K) := by
  refine T.F.ok scDeck (fun vs H Q E h => ?_) (fun cdv A outer s H vs Q E hr h => ?_)
  · obtain ⟨a, ns, rfl, _⟩ := h
    rfl
  · obtain ⟨a, ns, rfl, hS, hlen, q⟩ := h
    refine ⟨_, pss_cons (ps_set (i := 1) scDeck.nd rfl (.inl rfl) (pe_lst pa_nil))
      (pss_cons (ps_for PassesOwn.never rfl (pi_range1 (by rfl) B.range (pa_cons (pe_callB (call_max2 rfl) (by rfl) B.max (by decide +kernel) (pa_cons pe_int (pa_cons (pe_callB (call_min2 rfl) (by rfl) B.min (by decide +kernel) (pa_cons pe_int (pa_cons (pe_callB call_len_seq (by rfl) B.len PySem.boot_len (pa_cons (pv 0) pa_nil)) pa_nil))) pa_nil))) pa_nil)) (pg_name (i := 2) scDeck.nd rfl (.inl rfl))
        (pss_cons (ps_set (i := 3) scDeck.nd rfl (.inl rfl) pe_int)
        (Evl.pss_cut (ps_if (pt_cmpR op_lt (pv 2) (pe_callB call_len_seq (by rfl) B.len PySem.boot_len (pa_cons (pv 0) pa_nil)) (nomark _)) (pss_one (ps_set (i := 3) scDeck.nd rfl (.inl rfl) (pe_ix ix_list (pv 0) (pv 2) (fun _ _ => rfl)))) pss_nil)
        (pss_one (ps_expr (pe_bm PySem.F.plainAttrs_list PySem.F.slot_list_append PySem.F.type_list_append mt_append (pv 1) (pa_cons (pe_lst (pa_cons (pv 3) (pa_cons (pe_callTy call_int1 (by rfl) B.int (by decide +kernel) (pa_cons (pe_cmpR op_ge (pv 3) (pe_op op_pow pe_int pe_int) (nomark _)) pa_nil)) (pa_cons (pe_op op_mul pe_int (pv 2)) pa_nil)))) pa_nil)))))))
      (pss_one (ps_ret (pe_lst (pa_cons (pv 1) (pa_cons pe_int pa_nil)))))), ?_⟩
    refine ⟨Nat.zero_le _, fun pl np => ?_⟩
    have s1 : Same H (upd H pl (.lst [])) := same_new np
    have hlm : (ns.map V.int).length = ns.length := List.length_map _
    obtain ⟨m, hm1, hm2, em⟩ : ∃ m : Nat, 1 ≤ m ∧ m ≤ 63 ∧ (if (if ((ns.map V.int).length : Int) < 63 then ((ns.map V.int).length : Int) else 63) > 1 then (if ((ns.map V.int).length : Int) < 63 then ((ns.map V.int).length : Int) else 63) else 1) = (m : Int) := by
      rw [hlm]
      refine ⟨max 1 (min 63 ns.length), by omega, by omega, ?_⟩
      split <;> split <;> omega
    refine ⟨.ref a, rfl, a, _, rfl, .inl (s1.seq hS), 63, _, rfl, 1, _, rfl, _, rfl, ?_, ?_, ?_⟩
    · rw [em]; omega
    · rw [em]; omega
    · rw [em, Int.toNat_natCast]
      refine for_range (n := m) (fun i σ H3 => ∃ (as : List Addr) (yk yc : Option V), σ = [some (.ref a), some (.ref pl), yk, yc] ∧ as.length = i ∧ H3 pl = some (.lst (as.map V.ref)) ∧ (∀ b ∈ as, (∃ x y z : Int, H3 b = some (.lst [.int x, .int y, .int z])) ∧ H b = none) ∧ Same H H3)
        ⟨[], none, none, rfl, rfl, upd_same, (fun b hb => absurd hb List.not_mem_nil), s1⟩ (fun i σ H3 hi hP => ?_) (fun σ H3 hP => ?_)
      · obtain ⟨as, yk, yc, rfl, el, hpl, hat, sm⟩ := hP
        refine ⟨fun σ' H' => ∃ c : Int, σ' = [some (.ref a), some (.ref pl), some (.int (0 + i)), some (.int c)] ∧ H' = H3, ?_, fun σ' H' hM => ?_⟩
        · refine ⟨_, rfl, .ref a, rfl, a, _, rfl, .inl (sm.seq hS), _, _, rfl, rfl, _, rfl, ite2 (fun hc => ?_) (fun _ => ⟨0, rfl, rfl⟩)⟩
          have hlt : (0 + (i : Int)) < (ns.map V.int).length := of_decide_eq_true hc
          rw [hlm] at hlt
          have hix : i < ns.length := by omega
          exact ⟨_, rfl, _, rfl, a, _, _, _, rfl, rfl, sm.seq hS, at_of (j := i) (by omega) (int_at (List.getElem?_eq_getElem hix)), ns[i], rfl, rfl⟩
        · obtain ⟨c, rfl, rfl⟩ := hM
          refine ⟨_, rfl, .inl ⟨rfl, _, SqL.of hpl⟩, _, rfl, _, rfl, 10, 18, rfl, rfl, ⟨by decide, by decide, by decide⟩, _, _, rfl, rfl, .inr ⟨_, rfl, _, rfl, 31, _, rfl, rfl, .inl ⟨by decide, by decide⟩, line_small (by show 3 ≤ 16777216; decide), fun p np2 => ?_⟩⟩
          have hpl2 : (upd H' p (.lst [.int c, .int (if decide ((10 : Int) ^ (18 : Int).toNat ≤ c) = true then 1 else 0), .int (31 * (0 + (i : Int)))])) pl = some (.lst (as.map V.ref)) := same_new np2 _ _ hpl
          refine ⟨pl, _, _, rfl, rfl, hpl2, line_lt (by rw [List.length_map]; omega), ?_⟩
          have npl : p ≠ pl := (ne_of_none hpl np2).symm
          refine ⟨as ++ [p], _, _, rfl, by rw [List.length_append, el]; rfl, by rw [upd_same, List.map_append]; rfl, fun b hb => ?_, fun b o e => ?_⟩
          · rcases List.mem_append.mp hb with hb | hb
            · obtain ⟨⟨x, y, z, e⟩, n⟩ := hat b hb
              refine ⟨⟨x, y, z, ?_⟩, n⟩
              rw [upd_ne (show b ≠ pl from ?_), upd_ne (ne_of_none e np2)]
              · exact e
              · intro z
                rw [z] at e
                rw [hpl] at e
                cases as with
                | nil => cases e
                | cons u r => cases e
            · have eb : b = p := List.mem_singleton.mp hb
              subst eb
              exact ⟨⟨_, _, _, by rw [upd_ne npl]; exact upd_same⟩, sm.free np2⟩
          · rw [upd_ne (ne_of_none e np), upd_ne (ne_of_none (sm _ _ e) np2)]
            exact sm _ _ e
      · obtain ⟨as, yk, yc, rfl, el, hpl, hat, sm⟩ := hP
        refine ⟨_, rfl, line_small (by show 2 ≤ 16777216; decide), fun d nd => ?_⟩
        refine q ⟨d, pl, as⟩ _ ⟨⟨0, upd_same⟩, ?_, ?_, ?_, fun b hb => ?_⟩ (sm.trans (same_new nd)) (fun b hb => ?_)
        · exact same_new nd _ _ hpl
        · show 0 < as.length
          omega
        · show as.length ≤ 63
          omega
        · obtain ⟨⟨x, y, z, e⟩, n⟩ := hat b hb
          exact ⟨x, y, z, same_new nd _ _ e⟩
        · rcases hb with rfl | rfl | hb
          · exact sm.free nd
          · exact np
          · exact (hat b hb).2
end
end Fo
namespace Fo
open PySem PySem.Spec PyProof.Rows L2
theorem pop_perm : ∀ {xs : List Int} {k : Nat} {y : Int}, xs[k]? = some y → (y :: xs.eraseIdx k).Perm xs
  | [], k, y, h => by simp at h
  | a :: r, 0, y, h => by
    have e : a = y := Option.some.inj h
    subst e
    exact List.Perm.refl _
  | a :: r, k + 1, y, h => by
    have ih := pop_perm (xs := r) (k := k) (y := y) h
    show (y :: a :: r.eraseIdx k).Perm (a :: r)
    exact (List.Perm.swap a y _).trans (List.Perm.cons a ih)
theorem map_erase : ∀ (xs : List Int) (k : Nat), (xs.map V.int).eraseIdx k = (xs.eraseIdx k).map V.int
  | [], k => rfl
  | a :: r, 0 => rfl
  | a :: r, k + 1 => congrArg (V.int a :: ·) (map_erase r k)
/-- what len asks of a list or a tuple -/
abbrev rLenS (K : PySem.W.Frag) : List V → Hp → VK → Prop := fun xs H Q => ∃ p ys, xs = [.ref p] ∧ (SqL K H p ys ∨ SqT K H p ys) ∧ Q (.int ys.length) H
theorem seq_ix {i : Int} {k n : Nat} (e : i = (k : Int)) (h : k < n) : seqIndex? i n = some k := by
  subst e
  unfold seqIndex?
  have h1 : ¬ ((k : Int) < 0) := by omega
  simp only [h1, if_false]
  have h2 : (decide ((0 : Int) ≤ (k : Int)) && decide ((k : Int) < (n : Int))) = true := by
    simp
    omega
  rw [if_pos h2, Int.toNat_natCast]
theorem ix_n {i : Int} {k n : Nat} (e : i = (k : Int)) (h : k < n) : ixN n i = some k := by
  subst e
  unfold ixN
  rw [if_pos (by omega), if_pos (by omega), Int.toNat_natCast]
section
variable {P : Program} {w : World} {K : PySem.W.Frag} {mg : Str → Option Value} {base : Heap}
theorem scOrder : FnScope ["deck", "n", "left", "way", "k", "p"] ["deck", "n"] (defScope s_law_order) := ⟨rfl, rfl, rfl, by decide +kernel, rfl, by decide +kernel, by decide +kernel⟩
set_option maxHeartbeats 4000000 in
theorem ok_order {f fD : Addr} {fd fdD : FuncData} {k : Nat} (T : Df K mg "_law_order" s_law_order ["deck", "n"] f fd) (TD : Df K mg "_law_draw" s_law_draw ["deck", "many"] fD fdD) (B : Bi mg) : FnOk P w K mg base CX0 (k + 2) f fd ["deck", "n"] spOrder := by
  have GD : FnOk P w K mg base CX0 (k + 1) fD fdD ["deck", "many"] spDraw := ok_draw TD B
  refine T.F.ok scOrder (fun vs H Q E h => ?_) (fun cdv A outer s H vs Q E hr h => ?_)
  · obtain ⟨D, n, rfl, _⟩ := h
    rfl
  · obtain ⟨D, n, rfl, hD, hn1, hn2, q⟩ := h
    refine ⟨_, pss_cons (ps_set (i := 2) scOrder.nd rfl (.inr rfl) (pe_listRg rfl (by rfl) B.list (prg_1 (by rfl) B.range (pv 1))))
      (pss_cons (ps_set (i := 3) scOrder.nd rfl (.inl rfl) (pe_call GD hr (by rfl) TD.g TD.F.kp TD.b .nil pass0 (pa_cons (pv 0) (pa_cons pe_int pa_nil))))
      (pss_cons (ps_if (pt_cmpR op_eq (pv 3) pe_int (nomark _)) (pss_one (ps_ret (pe_lc (own := [("k", 4)]) (g := gName 4) (tt := tYes) (te := tBM K "list" rPopAt (tVar 2) (tCons (tCall spDraw [] E0 (tCons (tVar 0) (tCons (tCB (rLenS K) (tCons (tVar 2) tNil)) tNil))) tNil)) rfl scOrder.nd (pi_range1 (by rfl) B.range (pa_cons (pv 1) pa_nil)) (blkOk_by (N := ["deck", "n", "left", "way", "k", "p"]) (sc := defScope s_law_order) (by decide +kernel)) (fun _ _ _ _ _ => pg_name (i := 4) scOrder.nd rfl (.inl rfl)) (fun _ _ _ _ _ => pts_nil)
          (fun _ _ _ _ _ => pe_bm PySem.F.plainAttrs_list PySem.F.slot_list_pop PySem.F.type_list_pop mt_popAt (pv 2) (pa_cons (pe_call GD hr (by rfl) TD.g TD.F.kp TD.b .nil pass0 (pa_cons (pv 0) (pa_cons (pe_callB call_len_seq (by rfl) B.len PySem.boot_len (pa_cons (pv 2) pa_nil)) pa_nil))) pa_nil))))) pss_nil)
      (Evl.pss_cut (ps_if (pt_cmpR op_eq (pv 3) pe_int (nomark _)) (pss_one (ps_set (i := 2) scOrder.nd rfl (.inr rfl) (pe_revL (pv 2)))) pss_nil)
      (pss_cons (ps_for PassesOwn.never rfl (pi_range1 (by rfl) B.range (pa_cons (pe_op op_mul (pe_call GD hr (by rfl) TD.g TD.F.kp TD.b .nil pass0 (pa_cons (pv 0) (pa_cons pe_int pa_nil))) (pe_callTy call_int1 (by rfl) B.int (by decide +kernel) (pa_cons (pe_cmpR op_gt (pv 1) pe_int (nomark _)) pa_nil))) pa_nil)) (pg_name (i := 4) scOrder.nd rfl (.inl rfl))
        (pss_cons (ps_set (i := 5) scOrder.nd rfl (.inl rfl) (pe_call GD hr (by rfl) TD.g TD.F.kp TD.b .nil pass0 (pa_cons (pv 0) (pa_cons (pe_op op_sub (pv 1) pe_int) pa_nil))))
        (pss_one (ps_asg (pe_tup (pa_cons (pe_ix ix_list (pv 2) (pe_op op_add (pv 5) pe_int) (fun _ _ => rfl)) (pa_cons (pe_ix ix_list (pv 2) (pv 5) (fun _ _ => rfl)) pa_nil))) (pg_tup (by rfl) (pgs_cons (pg_sub (pv 2) (pv 5) set_list) (pgs_cons (pg_sub (pv 2) (pe_op op_add (pv 5) pe_int) set_list) pgs_nil)))))))
      (pss_one (ps_ret (pv 2))))))), ?_⟩
    -- left = list(range(n))
    refine ⟨_, rfl, n, rfl, RgOk.of_le (by omega) (by omega) (by omega) (by omega), fun l nl => ?_⟩
    have hl0 : (upd H l (.lst (rgV 0 (n : Int)))) l = some (.lst ((rg n).map V.int)) := by rw [upd_same, rg_V]
    have D0 := hD.new (o := .lst (rgV 0 (n : Int))) nl
    have nf := hD.notFoot nl
    -- way = draw 4
    refine ⟨_, rfl, D, 4, rfl, D0, by decide, by decide, fun way H1 w0 w1 D1 k1 => ?_⟩
    have hl1 := k1 l _ hl0 nf
    have kk1 : Keep D H H1 := (Keep.new nl).trans k1
    -- if way == 0
    refine ⟨_, rfl, rfl, _, rfl, ite2 (fun _ => ?_) (fun _ => ?_)⟩
    · refine ⟨_, rfl, n, rfl, by omega, by omega, ?_⟩
      rw [Int.toNat_natCast]
      intro p np
      have npf := D1.notFoot np
      have lp : l ≠ p := ne_of_none hl1 np
      refine lc_range (lo := 0) (n := n) (fun i H3 => ∃ (rest acc : List Int), (acc ++ rest).Perm (rg n) ∧ acc.length = i ∧ H3 l = some (.lst (rest.map V.int)) ∧ H3 p = some (.lst (acc.map V.int)) ∧ DkAt H3 D ∧ ∀ b o, H b = some o → ¬ D.Foot b → H3 b = some o)
        ⟨rg n, [], List.Perm.refl _, rfl, by rw [upd_ne lp]; exact hl1, upd_same, D1.new np, fun b o e f => by rw [upd_ne (ne_of_none (kk1 b o e f) np)]; exact kk1 b o e f⟩ (fun i H3 hi hP => ?_) (fun H3 hP => ?_)
      · obtain ⟨rest, acc, hperm, el, hl3, hp3, D3, kp3⟩ := hP
        have hlen : rest.length = n - i := by
          have := List.Perm.length_eq hperm
          rw [List.length_append, rg_len] at this
          omega
        have hlm : (rest.map V.int).length = rest.length := List.length_map _
        refine ⟨rfl, ?_⟩
        refine ⟨_, rfl, .inl ⟨rfl, _, SqL.of hl3⟩, _, rfl, _, rfl, l, _, rfl, .inl (SqL.of hl3), D, _, rfl, D3, by rw [hlm]; omega, by rw [hlm]; omega, fun v H4 v0 v1 D4 k4 => ?_⟩
        rw [hlm] at v1
        obtain ⟨y, ey⟩ : ∃ y, rest[v.toNat]? = some y := ⟨rest[v.toNat]'(by omega), List.getElem?_eq_getElem (by omega)⟩
        have hl4 := k4 l _ hl3 nf
        have hp4 := k4 p _ hp3 npf
        refine ⟨l, _, v, v.toNat, _, rfl, rfl, hl4, by omega, by omega, seq_ix (by omega) (by rw [hlm]; omega), int_at ey, ?_⟩
        refine ⟨acc.map V.int, by rw [upd_ne lp.symm]; exact hp4, line_lt (by rw [List.length_map]; omega), rest.eraseIdx v.toNat, acc ++ [y], ?_, by rw [List.length_append, el]; rfl, ?_, by rw [upd_same, List.map_append]; rfl, ?_, fun b o e f => ?_⟩
        · rw [List.append_assoc]
          exact (List.Perm.append_left acc (pop_perm ey)).trans hperm
        · rw [upd_ne lp, upd_same, map_erase]
        · exact (D4.upd nf).upd npf
        · have e4 := k4 b o (kp3 b o e f) f
          have nbl : b ≠ l := ne_of_none e nl
          have nbp : b ≠ p := ne_of_none (kk1 b o e f) np
          rw [upd_ne nbp, upd_ne nbl]
          exact e4
      · obtain ⟨rest, acc, hperm, el, hl3, hp3, D3, kp3⟩ := hP
        have hr0 : rest = [] := by
          have := List.Perm.length_eq hperm
          rw [List.length_append, rg_len] at this
          exact List.eq_nil_of_length_eq_zero (by omega)
        subst hr0
        rw [List.append_nil] at hperm
        have hHp : H p = none := by
          cases e : H p with
          | none => rfl
          | some o =>
            have z := kk1 p o e npf
            rw [np] at z
            cases z
        exact q acc p H3 hperm hHp hp3 npf D3 kp3
    · -- if way == 1: left = left[::-1]
      refine ⟨fun σ' H' => ∃ (l2 : Addr) (ns : List Int), σ' = [some (.ref D.d), some (.int n), some (.ref l2), some (.int way), none, none] ∧ IsOrd n ns ∧ H' l2 = some (.lst (ns.map V.int)) ∧ H l2 = none ∧ DkAt H' D ∧ Keep D H H', ?_, fun σ' H' hM => ?_⟩
      · refine ⟨_, rfl, rfl, _, rfl, ite2 (fun _ => ?_) (fun _ => ⟨l, rg n, rfl, List.Perm.refl _, hl1, nl, D1, kk1⟩)⟩
        refine ⟨_, rfl, l, _, rfl, SqL.of hl1, fun p np => ?_⟩
        have npf := D1.notFoot np
        refine ⟨p, (rg n).reverse, rfl, List.reverse_perm _, by rw [upd_same, List.map_reverse], ?_, D1.new np, kk1.trans (Keep.new np)⟩
        cases e : H p with
        | none => rfl
        | some o =>
          have z := kk1 p o e npf
          rw [np] at z
          cases z
      · obtain ⟨l2, ns, rfl, ho, hl2, nl2, D2, k2⟩ := hM
        have nf2 := hD.notFoot nl2
        refine ⟨_, rfl, D, 7, rfl, D2, by decide, by decide, fun v H3 v0 v1 D3 k3 => ⟨_, rfl, _, 1, rfl, rfl, .inr ⟨_, rfl, v, _, rfl, rfl, .inl ⟨by omega, by omega⟩, _, rfl, ?_⟩⟩⟩
        have hl3 := k3 l2 _ hl2 nf2
        obtain ⟨m, em, hm⟩ : ∃ m : Nat, v * (if decide ((1 : Int) < (n : Int)) = true then 1 else 0) = (m : Int) ∧ (m ≤ 6 ∧ (n = 1 → m = 0)) := by
          by_cases c : (1 : Int) < (n : Int)
          · rw [decide_eq_true c, if_pos rfl, Int.mul_one]
            exact ⟨v.toNat, by omega, by omega, by omega⟩
          · rw [decide_eq_false c, if_neg (by decide), Int.mul_zero]
            exact ⟨0, by omega, by omega, fun _ => rfl⟩
        refine ⟨by rw [em]; omega, by rw [em]; omega, ?_⟩
        rw [em, Int.toNat_natCast]
        refine for_range (n := m) (fun i σ H4 => ∃ (y4 y5 : Option V) (ns : List Int), σ = [some (.ref D.d), some (.int n), some (.ref l2), some (.int way), y4, y5] ∧ IsOrd n ns ∧ H4 l2 = some (.lst (ns.map V.int)) ∧ DkAt H4 D ∧ Keep D H H4)
          ⟨_, _, ns, rfl, ho, hl3, D3, k2.trans k3⟩ (fun i σ H4 hi hP => ?_) (fun σ H4 hP => ?_)
        · obtain ⟨y4, y5, xs, rfl, ho4, hl4, D4, k4⟩ := hP
          have hn : 2 ≤ n := by
            by_cases c : n = 1
            · have := hm.2 c
              omega
            · omega
          refine ⟨_, rfl, _, rfl, (n : Int), 1, rfl, rfl, D, _, rfl, D4, by omega, by omega, fun p H5 p0 p1 D5 k5 => ?_⟩
          have hl5 := k5 l2 _ hl4 nf2
          have hxl : xs.length = n := ho4.len
          obtain ⟨a, ea⟩ : ∃ a, xs[p.toNat]? = some a := ⟨xs[p.toNat]'(by omega), List.getElem?_eq_getElem (by omega)⟩
          obtain ⟨b, eb⟩ : ∃ b, xs[p.toNat + 1]? = some b := ⟨xs[p.toNat + 1]'(by omega), List.getElem?_eq_getElem (by omega)⟩
          refine ⟨_, rfl, _, rfl, p, 1, rfl, rfl, l2, _, _, _, rfl, rfl, SqL.of hl5, at_of (j := p.toNat + 1) (by omega) (int_at eb), _, rfl, _, rfl, l2, _, _, _, rfl, rfl, SqL.of hl5, at_of (j := p.toNat) (by omega) (int_at ea), line_small (by show 2 ≤ 16777216; decide), fun t nt => ?_⟩
          have ntl : l2 ≠ t := ne_of_none hl5 nt
          have hl6 : (upd H5 t (.tup [.int b, .int a])) l2 = some (.lst (xs.map V.int)) := same_new nt _ _ hl5
          refine ⟨t, _, rfl, .inl (.inl upd_same), rfl, _, _, rfl, _, rfl, _, rfl, l2, _, _, p.toNat, rfl, rfl, hl6, ix_n (by omega) (by rw [List.length_map]; omega), ?_⟩
          refine ⟨_, _, rfl, _, rfl, _, rfl, p, 1, rfl, rfl, l2, _, _, p.toNat + 1, rfl, rfl, upd_same, ix_n (by omega) (by rw [List.length_set, List.length_map]; omega), ?_⟩
          refine ⟨rfl, _, _, sw xs p.toNat, rfl, sw_ord ho4 (by omega), by rw [upd_same, sw_V ea eb], ((D5.new nt).upd nf2).upd nf2, fun c o e f => ?_⟩
          have nc : c ≠ l2 := ne_of_none e nl2
          have e5 := k5 c o (k4 c o e f) f
          rw [upd_ne nc, upd_ne nc]
          exact same_new nt _ _ e5
        · obtain ⟨y4, y5, xs, rfl, ho4, hl4, D4, k4⟩ := hP
          exact ⟨_, rfl, q xs l2 H4 ho4 nl2 hl4 nf2 D4 k4⟩
end
end Fo
namespace Fo
open PySem PySem.Spec PyProof.Rows L2
/-! ### whole numbers, orders -/
def spWhole : Sp := fun vs H Q _ => ∃ i : Int, vs = [.int i] ∧ Q (.bl true) H
def spIsOrd : Sp := fun vs H Q _ => ∃ (a : Addr) (n : Nat) (ns : List Int), vs = [.ref a] ∧ H a = some (.lst (ns.map V.int)) ∧ IsOrd n ns ∧ 1 ≤ n ∧ n ≤ 12 ∧ ∀ H', Same H H' → Q (.bl true) H'
def spCheck : Sp := fun vs H Q _ => ∃ (a : Addr) (n : Nat) (ns : List Int), vs = [.ref a] ∧ H a = some (.lst (ns.map V.int)) ∧ IsOrd n ns ∧ 1 ≤ n ∧ n ≤ 12 ∧ ∀ H', Same H H' → Q .non H'
section
variable {P : Program} {w : World} {K : PySem.W.Frag} {mg : Str → Option Value} {base : Heap}
theorem scWhole : FnScope ["thing"] ["thing"] (defScope s_is_whole) := ⟨rfl, rfl, rfl, by decide +kernel, rfl, by decide +kernel, by decide +kernel⟩
theorem ok_whole {f : Addr} {fd : FuncData} {k : Nat} (T : Df K mg "is_whole" s_is_whole ["thing"] f fd) (B : Bi mg) : FnOk P w K mg base CX0 (k + 1) f fd ["thing"] spWhole := by
  refine T.F.ok scWhole (fun vs H Q E h => ?_) (fun cdv A outer s H vs Q E hr h => ?_)
  · obtain ⟨i, rfl, _⟩ := h
    rfl
  · obtain ⟨i, rfl, q⟩ := h
    refine ⟨_, pss_one (ps_ret (pe_and (pe_callB call_isi (by rfl) B.isinstance (by decide +kernel) (pa_cons (pv 0) (pa_cons (pe_bltn (v := .ty "int") (by rfl) B.int (by decide +kernel) rfl) pa_nil)))
      (pe_one (pe_not (pe_callB call_isi (by rfl) B.isinstance (by decide +kernel) (pa_cons (pv 0) (pa_cons (pe_bltn (v := .ty "bool") (by rfl) B.bool (by decide +kernel) rfl) pa_nil))))))), ?_⟩
    refine ⟨_, rfl, _, _, _, _, true, rfl, .ty _, .base (.int _), kit_ty (by decide +kernel), true, rfl, iteT ?_⟩
    exact ⟨_, rfl, _, _, _, _, false, rfl, .ty _, .base (.int _), kit_ty (by decide +kernel), false, rfl, q⟩
theorem scIsOrd : FnScope ["thing", "number"] ["thing"] (defScope s_is_order) := ⟨rfl, rfl, rfl, by decide +kernel, rfl, by decide +kernel, by decide +kernel⟩
theorem all_true (n : Nat) : (List.replicate n true).all id = true := by simp
set_option maxHeartbeats 2000000 in
theorem ok_is_order {f fW : Addr} {fd fdW : FuncData} {k : Nat} {t : Tok} (T : Df K mg "is_order" s_is_order ["thing"] f fd) (TW : Df K mg "is_whole" s_is_whole ["thing"] fW fdW) (B : Bi mg) (mM : mg "MOST_THINGS" = some (.int 12 t)) : FnOk P w K mg base CX0 (k + 2) f fd ["thing"] spIsOrd := by
  have GW : FnOk P w K mg base CX0 (k + 1) fW fdW ["thing"] spWhole := ok_whole TW B
  refine T.F.ok scIsOrd (fun vs H Q E h => ?_) (fun cdv A outer s H vs Q E hr h => ?_)
  · obtain ⟨a, n, ns, rfl, _⟩ := h
    rfl
  · obtain ⟨a, n, ns, rfl, hl, ho, hn1, hn2, q⟩ := h
    have hlm : (ns.map V.int).length = n := by rw [List.length_map, ho.len]
    refine ⟨_, pss_cons (ps_if (PW.pt (pw_or (pt_not (pt_val (pe_callB call_isi (by rfl) B.isinstance (by decide +kernel) (pa_cons (pv 0) (pa_cons (pe_bltn (v := .ty "list") (by rfl) B.list (by decide +kernel) rfl) pa_nil)))))
        (pw_or (pt_cmpR op_lt (pe_callB call_len_seq (by rfl) B.len PySem.boot_len (pa_cons (pv 0) pa_nil)) pe_int (nomark _)) (pw_or1 (pt_cmpR op_gt (pe_callB call_len_seq (by rfl) B.len PySem.boot_len (pa_cons (pv 0) pa_nil)) (pe_glob (v := .int 12) (by rfl) mM ⟨_, rfl⟩) (nomark _))))))
        (pss_one (ps_ret pe_bl)) pss_nil)
      (pss_cons (ps_if (pt_not (pt_val (pe_callB (cr_all rfl) (by rfl) B.all (by decide +kernel) (pa_cons (pe_lc (own := [("number", 1)]) (g := gName 1) (tt := tYes) (te := tCall spWhole [] E0 (tCons (tVar 1) tNil)) rfl scIsOrd.nd (pi_list (pv 0)) (blkOk_by (N := ["thing", "number"]) (sc := defScope s_is_order) (by decide +kernel)) (fun _ _ _ _ _ => pg_name (i := 1) scIsOrd.nd rfl (.inl rfl)) (fun _ _ _ _ _ => pts_nil)
          (fun _ _ _ _ _ => pe_call GW hr (by rfl) TW.g TW.F.kp TW.b .nil pass0 (pa_cons (pv 1) pa_nil))) pa_nil)))) (pss_one (ps_ret pe_bl)) pss_nil)
      (pss_one (ps_ret (pe_cmpR (op_eqD hr.units) (pe_callB cr_sorted (by rfl) B.sorted (by decide +kernel) (pa_cons (pv 0) pa_nil)) (pe_listRg rfl (by rfl) B.list (prg_1 (by rfl) B.range (pe_callB call_len_seq (by rfl) B.len PySem.boot_len (pa_cons (pv 0) pa_nil)))) (nomark _))))), ?_⟩
    refine ⟨_, rfl, _, _, _, _, true, rfl, .ty _, .base (.lst hl), kit_ty (by decide +kernel), true, rfl, iteF ?_⟩
    refine ⟨_, rfl, a, _, rfl, .inl (SqL.of hl), _, 1, rfl, rfl, _, rfl, ite2 (fun c => absurd (of_decide_eq_true c) (by rw [hlm]; omega)) (fun _ => ?_)⟩
    refine ⟨_, rfl, a, _, rfl, .inl (SqL.of hl), _, 12, rfl, rfl, _, rfl, ite2 (fun c => absurd (of_decide_eq_true c) (by rw [hlm]; omega)) (fun _ => ?_)⟩
    refine ⟨_, rfl, a, rfl, ⟨_, SqL.of hl⟩, fun p np => ?_⟩
    refine lc_list (K := K) (a := a) (xs := ns.map V.int) (fun i H3 => H3 p = some (.lst ((List.replicate i true).map V.bl)) ∧ Same H H3) ⟨upd_same, same_new np⟩ (fun i H3 _ hP => SqL.of (hP.2 _ _ hl)) (fun i x H3 hx hP => ?_) (fun H3 hP => ?_)
    · obtain ⟨y, ey, rfl⟩ := int_at_inv hx
      obtain ⟨hp3, sm⟩ := hP
      refine ⟨rfl, _, rfl, y, rfl, _, hp3, line_lt (by
        rw [List.length_map, List.length_replicate]
        have := (List.getElem?_eq_some_iff.mp hx).1
        omega), ?_, fun b o e => ?_⟩
      · rw [upd_same, List.replicate_succ', List.map_append]
        rfl
      · rw [upd_ne (ne_of_none e np)]
        exact sm _ _ e
    · obtain ⟨hp3, sm⟩ := hP
      have hl3 := sm _ _ hl
      refine ⟨p, _, rfl, SqL.of hp3, _, rfl, ?_⟩
      rw [all_true]
      refine iteF ?_
      refine ⟨_, rfl, a, ns, rfl, SqL.of hl3, by rw [ho.len]; omega, fun ns' s1 hperm hsrt ns1 => ?_⟩
      have hl4 := same_new (o := .lst (ns'.map V.int)) ns1 _ _ hl3
      refine ⟨_, rfl, a, _, rfl, .inl (SqL.of hl4), _, rfl, RgOk.of_le (by omega) (by rw [hlm]; omega) (by omega) (by omega), fun s2 ns2 => ?_⟩
      have e1 : ns' = rg n := sorted_eq (hperm.trans ho) hsrt (rg_sorted n)
      subst e1
      rw [hlm]
      have h1 : (upd (upd H3 s1 (.lst ((rg n).map V.int))) s2 (.lst (rgV 0 (n : Int)))) s1 = some (.lst ((rg n).map V.int)) := same_new ns2 _ _ upd_same
      have h2 : (upd (upd H3 s1 (.lst ((rg n).map V.int))) s2 (.lst (rgV 0 (n : Int)))) s2 = some (.lst ((rg n).map V.int)) := by rw [upd_same, rg_V]
      refine ⟨_, _, dp_list h1, dp_list h2, shaped_list _, shaped_list _, ?_⟩
      rw [eqv_list]
      exact q _ ((sm.trans (same_new ns1)).trans (same_new ns2))
theorem scCheck : FnScope ["thing"] ["thing"] (defScope s_check_order) := ⟨rfl, rfl, rfl, by decide +kernel, rfl, by decide +kernel, by decide +kernel⟩
theorem ok_check {f fO fW : Addr} {fd fdO fdW : FuncData} {k : Nat} {t : Tok} (T : Df K mg "check_order" s_check_order ["thing"] f fd) (TO : Df K mg "is_order" s_is_order ["thing"] fO fdO) (TW : Df K mg "is_whole" s_is_whole ["thing"] fW fdW) (B : Bi mg) (mM : mg "MOST_THINGS" = some (.int 12 t)) : FnOk P w K mg base CX0 (k + 3) f fd ["thing"] spCheck := by
  have GO : FnOk P w K mg base CX0 (k + 2) fO fdO ["thing"] spIsOrd := ok_is_order TO TW B mM
  refine T.F.ok scCheck (fun vs H Q E h => ?_) (fun cdv A outer s H vs Q E hr h => ?_)
  · obtain ⟨a, n, ns, rfl, _⟩ := h
    rfl
  · obtain ⟨a, n, ns, rfl, hl, ho, hn1, hn2, q⟩ := h
    refine ⟨_, pss_one (ps_if (pt_not (pt_val (pe_call GO hr (by rfl) TO.g TO.F.kp TO.b .nil pass0 (pa_cons (pv 0) pa_nil)))) (pss_one ps_never) pss_nil), ?_⟩
    exact ⟨_, rfl, a, n, ns, rfl, hl, ho, hn1, hn2, fun H' sm => ⟨_, rfl, iteF (q H' sm)⟩⟩
end
end Fo
namespace Fo
open PySem PySem.Spec PyProof.Rows L2
/-! ### walks -/
def IsWalk (n : Nat) (ws : List Int) : Prop := ∀ p ∈ ws, 0 ≤ p ∧ p + 1 < n
def spIsWalk : Sp := fun vs H Q _ => ∃ (b : Addr) (n : Nat) (ws : List Int), vs = [.ref b, .int n] ∧ H b = some (.lst (ws.map V.int)) ∧ IsWalk n ws ∧ ws.length ≤ 1000 ∧ ∀ H', Same H H' → Q (.bl true) H'
def spExch : Sp := fun vs H Q _ => ∃ (a : Addr) (p : Int) (xs : List Int), vs = [.ref a, .int p] ∧ H a = some (.lst (xs.map V.int)) ∧ 0 ≤ p ∧ p + 1 < xs.length ∧
  ∀ H', H' a = some (.lst ((sw xs p.toNat).map V.int)) → (∀ b o, b ≠ a → H b = some o → H' b = some o) → Q .non H'
def spWalkEnd : Sp := fun vs H Q _ => ∃ (a b : Addr) (n : Nat) (ns ws : List Int), vs = [.ref a, .ref b] ∧ H a = some (.lst (ns.map V.int)) ∧ H b = some (.lst (ws.map V.int)) ∧ IsOrd n ns ∧ 1 ≤ n ∧ n ≤ 12 ∧ IsWalk n ws ∧ ws.length ≤ 1000 ∧
  ∀ (H' : Hp) (l : Addr), Same H H' → H l = none → H' l = some (.lst ((wEnd ns ws).map V.int)) → Q (.ref l) H'
section
variable {P : Program} {w : World} {K : PySem.W.Frag} {mg : Str → Option Value} {base : Heap}
theorem scExch : FnScope ["row", "place"] ["row", "place"] (defScope s_exchange) := ⟨rfl, rfl, rfl, by decide +kernel, rfl, by decide +kernel, by decide +kernel⟩
theorem ok_exch {f : Addr} {fd : FuncData} {k : Nat} (T : Df K mg "exchange" s_exchange ["row", "place"] f fd) : FnOk P w K mg base CX0 (k + 1) f fd ["row", "place"] spExch := by
  refine T.F.ok scExch (fun vs H Q E h => ?_) (fun cdv A outer s H vs Q E hr h => ?_)
  · obtain ⟨a, p, xs, rfl, _⟩ := h
    rfl
  · obtain ⟨l2, p, xs, rfl, hl5, p0, p1, q⟩ := h
    refine ⟨_, pss_one (ps_asg (pe_tup (pa_cons (pe_ix ix_list (pv 0) (pe_op op_add (pv 1) pe_int) (fun _ _ => rfl)) (pa_cons (pe_ix ix_list (pv 0) (pv 1) (fun _ _ => rfl)) pa_nil))) (pg_tup (by rfl) (pgs_cons (pg_sub (pv 0) (pv 1) set_list) (pgs_cons (pg_sub (pv 0) (pe_op op_add (pv 1) pe_int) set_list) pgs_nil)))), ?_⟩
    obtain ⟨a, ea⟩ : ∃ a, xs[p.toNat]? = some a := ⟨xs[p.toNat]'(by omega), List.getElem?_eq_getElem (by omega)⟩
    obtain ⟨b, eb⟩ : ∃ b, xs[p.toNat + 1]? = some b := ⟨xs[p.toNat + 1]'(by omega), List.getElem?_eq_getElem (by omega)⟩
    refine ⟨_, rfl, _, rfl, p, 1, rfl, rfl, l2, _, _, _, rfl, rfl, SqL.of hl5, at_of (j := p.toNat + 1) (by omega) (int_at eb), _, rfl, _, rfl, l2, _, _, _, rfl, rfl, SqL.of hl5, at_of (j := p.toNat) (by omega) (int_at ea), line_small (by show 2 ≤ 16777216; decide), fun t nt => ?_⟩
    have hl6 : (upd H t (.tup [.int b, .int a])) l2 = some (.lst (xs.map V.int)) := same_new nt _ _ hl5
    refine ⟨t, _, rfl, .inl (.inl upd_same), rfl, _, _, rfl, _, rfl, _, rfl, l2, _, _, p.toNat, rfl, rfl, hl6, ix_n (by omega) (by rw [List.length_map]; omega), ?_⟩
    refine ⟨_, _, rfl, _, rfl, _, rfl, p, 1, rfl, rfl, l2, _, _, p.toNat + 1, rfl, rfl, upd_same, ix_n (by omega) (by rw [List.length_set, List.length_map]; omega), ?_⟩
    refine ⟨rfl, q _ (by rw [upd_same, sw_V ea eb]) fun c o nc e => ?_⟩
    rw [upd_ne nc, upd_ne nc]
    exact same_new nt _ _ e
theorem scIsWalk : FnScope ["thing", "n", "place"] ["thing", "n"] (defScope s_is_walk) := ⟨rfl, rfl, rfl, by decide +kernel, rfl, by decide +kernel, by decide +kernel⟩
set_option maxHeartbeats 2000000 in
theorem ok_is_walk {f fW : Addr} {fd fdW : FuncData} {k : Nat} (T : Df K mg "is_walk" s_is_walk ["thing", "n"] f fd) (TW : Df K mg "is_whole" s_is_whole ["thing"] fW fdW) (B : Bi mg) : FnOk P w K mg base CX0 (k + 2) f fd ["thing", "n"] spIsWalk := by
  have GW : FnOk P w K mg base CX0 (k + 1) fW fdW ["thing"] spWhole := ok_whole TW B
  refine T.F.ok scIsWalk (fun vs H Q E h => ?_) (fun cdv A outer s H vs Q E hr h => ?_)
  · obtain ⟨b, n, ws, rfl, _⟩ := h
    rfl
  · obtain ⟨a, n, ws, rfl, hl, hw, hlen, q⟩ := h
    refine ⟨_, pss_cons (ps_if (pt_not (pt_val (pe_callB call_isi (by rfl) B.isinstance (by decide +kernel) (pa_cons (pv 0) (pa_cons (pe_bltn (v := .ty "list") (by rfl) B.list (by decide +kernel) rfl) pa_nil))))) (pss_one (ps_ret pe_bl)) pss_nil)
      (pss_one (ps_ret (pe_callB (cr_all rfl) (by rfl) B.all (by decide +kernel) (pa_cons (pe_lc (own := [("place", 2)]) (g := gName 2) (tt := tYes) (te := tAndV (tCall spWhole [] E0 (tCons (tVar 2) tNil)) (tChain (rI0 fun i j => .bl (decide (i ≤ j))) (rI0 fun i j => .bl (decide (i < j))) (tC (.int 0)) (tVar 2) (tOp (rI0 fun i j => .int (i - j)) (tVar 1) (tC (.int 1))))) rfl scIsWalk.nd (pi_list (pv 0)) (blkOk_by (N := ["thing", "n", "place"]) (sc := defScope s_is_walk) (by decide +kernel)) (fun _ _ _ _ _ => pg_name (i := 2) scIsWalk.nd rfl (.inl rfl)) (fun _ _ _ _ _ => pts_nil)
          (fun _ _ _ _ _ => pe_and (pe_call GW hr (by rfl) TW.g TW.F.kp TW.b .nil pass0 (pa_cons (pv 2) pa_nil)) (pe_one (pe_chain op_le op_lt pe_int (pv 2) (pe_op op_sub (pv 1) pe_int))))) pa_nil)))), ?_⟩
    refine ⟨_, rfl, _, _, _, _, true, rfl, .ty _, .base (.lst hl), kit_ty (by decide +kernel), true, rfl, iteF ?_⟩
    refine ⟨_, rfl, a, rfl, ⟨_, SqL.of hl⟩, fun p np => ?_⟩
    refine lc_list (K := K) (a := a) (xs := ws.map V.int) (fun i H3 => H3 p = some (.lst ((List.replicate i true).map V.bl)) ∧ Same H H3) ⟨upd_same, same_new np⟩ (fun i H3 _ hP => SqL.of (hP.2 _ _ hl)) (fun i x H3 hx hP => ?_) (fun H3 hP => ?_)
    · obtain ⟨y, ey, rfl⟩ := int_at_inv hx
      obtain ⟨hp3, sm⟩ := hP
      have hy := hw y (List.mem_of_getElem? ey)
      refine ⟨rfl, _, rfl, y, rfl, _, rfl, iteT ?_⟩
      refine ⟨_, rfl, 0, y, rfl, rfl, _, rfl, ?_⟩
      rw [decide_eq_true hy.1]
      refine iteT ⟨_, rfl, (n : Int), 1, rfl, rfl, y, _, rfl, rfl, ?_⟩
      dsimp only
      rw [decide_eq_true (show y < (n : Int) - 1 by omega)]
      refine ⟨_, hp3, line_lt (by
        rw [List.length_map, List.length_replicate]
        have := (List.getElem?_eq_some_iff.mp ey).1
        omega), ?_, fun b o e => ?_⟩
      · rw [upd_same, List.replicate_succ', List.map_append]
        rfl
      · rw [upd_ne (ne_of_none e np)]
        exact sm _ _ e
    · obtain ⟨hp3, sm⟩ := hP
      refine ⟨p, _, rfl, SqL.of hp3, ?_⟩
      rw [all_true]
      exact q H3 sm
theorem scWalkEnd : FnScope ["order", "walk", "end", "place"] ["order", "walk"] (defScope s_walk_end) := ⟨rfl, rfl, rfl, by decide +kernel, rfl, by decide +kernel, by decide +kernel⟩
set_option maxHeartbeats 2000000 in
theorem ok_walk_end {f fC fO fW fI fE : Addr} {fd fdC fdO fdW fdI fdE : FuncData} {k : Nat} {t : Tok} (T : Df K mg "walk_end" s_walk_end ["order", "walk"] f fd) (TC : Df K mg "check_order" s_check_order ["thing"] fC fdC) (TO : Df K mg "is_order" s_is_order ["thing"] fO fdO) (TW : Df K mg "is_whole" s_is_whole ["thing"] fW fdW)
    (TI : Df K mg "is_walk" s_is_walk ["thing", "n"] fI fdI) (TE : Df K mg "exchange" s_exchange ["row", "place"] fE fdE) (B : Bi mg) (mM : mg "MOST_THINGS" = some (.int 12 t)) : FnOk P w K mg base CX0 (k + 4) f fd ["order", "walk"] spWalkEnd := by
  have GC : FnOk P w K mg base CX0 (k + 3) fC fdC ["thing"] spCheck := ok_check TC TO TW B mM
  have GI : FnOk P w K mg base CX0 (k + 3) fI fdI ["thing", "n"] spIsWalk := ok_is_walk (k := k + 1) TI TW B
  have GE : FnOk P w K mg base CX0 (k + 3) fE fdE ["row", "place"] spExch := ok_exch (k := k + 2) TE
  refine T.F.ok scWalkEnd (fun vs H Q E h => ?_) (fun cdv A outer s H vs Q E hr h => ?_)
  · obtain ⟨a, b, n, ns, ws, rfl, _⟩ := h
    rfl
  · obtain ⟨a, b, n, ns, ws, rfl, ha, hb, ho, hn1, hn2, hw, hlen, q⟩ := h
    have hlm : (ns.map V.int).length = n := by rw [List.length_map, ho.len]
    refine ⟨_, pss_cons (ps_expr (pe_call GC hr (by rfl) TC.g TC.F.kp TC.b .nil pass0 (pa_cons (pv 0) pa_nil)))
      (pss_cons (ps_if (pt_not (pt_val (pe_call GI hr (by rfl) TI.g TI.F.kp TI.b .nil pass0 (pa_cons (pv 1) (pa_cons (pe_callB call_len_seq (by rfl) B.len PySem.boot_len (pa_cons (pv 0) pa_nil)) pa_nil))))) (pss_one ps_never) pss_nil)
      (pss_cons (ps_set (i := 2) scWalkEnd.nd rfl (.inl rfl) (pe_callTy call_list_of (by rfl) B.list (by decide +kernel) (pa_cons (pv 0) pa_nil)))
      (pss_cons (ps_for PassesOwn.never rfl (pi_list (pv 1)) (pg_name (i := 3) scWalkEnd.nd rfl (.inl rfl)) (pss_one (ps_expr (pe_call GE hr (by rfl) TE.g TE.F.kp TE.b .nil pass0 (pa_cons (pv 2) (pa_cons (pv 3) pa_nil))))))
      (pss_one (ps_ret (pv 2)))))), ?_⟩
    refine ⟨_, rfl, a, n, ns, rfl, ha, ho, hn1, hn2, fun H1 s1 => ?_⟩
    refine ⟨_, rfl, _, rfl, a, _, rfl, .inl (SqL.of (s1 _ _ ha)), b, n, ws, by rw [hlm]; rfl, s1 _ _ hb, hw, hlen, fun H2 s2 => ⟨_, rfl, iteF ?_⟩⟩
    have s12 := s1.trans s2
    refine ⟨_, rfl, a, _, rfl, .inl (SqL.of (s12 _ _ ha)), fun l nl => ?_⟩
    have s3 := s12.trans (same_new (o := .lst (ns.map V.int)) nl)
    have nHl : H l = none := s12.free nl
    have nbl : b ≠ l := ne_of_none hb nHl
    refine ⟨_, rfl, b, rfl, ⟨_, SqL.of (s3 _ _ hb)⟩, ?_⟩
    refine for_list (xs := ws.map V.int) (fun i σ H3 => ∃ y3, σ = [some (.ref a), some (.ref b), some (.ref l), y3] ∧ H3 l = some (.lst ((wEnd ns (ws.take i)).map V.int)) ∧ Same H H3)
      ⟨none, rfl, upd_same, s3⟩ (fun i σ H3 _ hP => by obtain ⟨y3, _, _, sm⟩ := hP; exact SqL.of (sm _ _ hb)) (fun i x σ H3 hx hP => ?_) (fun σ H3 hP => ?_)
    · obtain ⟨y3, rfl, hl3, sm⟩ := hP
      obtain ⟨p, ep, rfl⟩ := int_at_inv hx
      have hp := hw p (List.mem_of_getElem? ep)
      have ho3 : IsOrd n (wEnd ns (ws.take i)) := wEnd_ord ho fun z hz => hw z (List.mem_of_mem_take hz)
      refine ⟨_, rfl, _, rfl, l, p, _, rfl, hl3, hp.1, by rw [ho3.len]; exact hp.2, fun H4 h4 kp => ⟨_, rfl, by rw [wEnd_more ep]; exact h4, fun c o e => ?_⟩⟩
      exact kp c o (ne_of_none e nHl) (sm _ _ e)
    · obtain ⟨y3, rfl, hl3, sm⟩ := hP
      rw [List.length_map, List.take_length] at hl3
      exact ⟨_, rfl, q H3 l sm nHl hl3⟩
end
end Fo
namespace Fo
open PySem PySem.Spec PyProof.Rows L2
def spWalk : Sp := fun vs H Q _ => ∃ (D : Dk) (n : Nat), vs = [.ref D.d, .int n] ∧ DkAt H D ∧ 1 ≤ n ∧ n ≤ 12 ∧
  ∀ (ws : List Int) (l : Addr) (H' : Hp), IsWalk n ws → ws.length ≤ 120 → H l = none → H' l = some (.lst (ws.map V.int)) → ¬ D.Foot l → DkAt H' D → Keep D H H' → Q (.ref l) H'
theorem walk_rep {n : Nat} {ws : List Int} (h : IsWalk n ws) (k : Nat) : IsWalk n (List.replicate k ws).flatten := fun p hp => by
  obtain ⟨l, hl, hp⟩ := List.mem_flatten.mp hp
  rw [(List.mem_replicate.mp hl).2] at hp
  exact h p hp
theorem map_rep (ws : List Int) (k : Nat) : (List.replicate k (ws.map V.int)).flatten = ((List.replicate k ws).flatten).map V.int := by
  rw [List.map_flatten, List.map_replicate]
theorem rep_len (ws : List Int) (k : Nat) : (List.replicate k ws).flatten.length = k * ws.length := by
  rw [List.length_flatten, List.map_replicate, List.sum_replicate_nat]
section
variable {P : Program} {w : World} {K : PySem.W.Frag} {mg : Str → Option Value} {base : Heap}
theorem scLawWalk : FnScope ["deck", "n", "walk", "way", "k"] ["deck", "n"] (defScope s_law_walk) := ⟨rfl, rfl, rfl, by decide +kernel, rfl, by decide +kernel, by decide +kernel⟩
theorem keep_none {D : Dk} {H H1 : Hp} (k : Keep D H H1) {p : Addr} (np : H1 p = none) (nf : ¬ D.Foot p) : H p = none := by
  cases e : H p with
  | none => rfl
  | some o =>
    have z := k p o e nf
    rw [np] at z
    cases z
set_option maxHeartbeats 4000000 in
theorem ok_law_walk {f fD : Addr} {fd fdD : FuncData} {k : Nat} (T : Df K mg "_law_walk" s_law_walk ["deck", "n"] f fd) (TD : Df K mg "_law_draw" s_law_draw ["deck", "many"] fD fdD) (B : Bi mg) : FnOk P w K mg base CX0 (k + 2) f fd ["deck", "n"] spWalk := by
  have GD : FnOk P w K mg base CX0 (k + 1) fD fdD ["deck", "many"] spDraw := ok_draw TD B
  refine T.F.ok scLawWalk (fun vs H Q E h => ?_) (fun cdv A outer s H vs Q E hr h => ?_)
  · obtain ⟨D, n, rfl, _⟩ := h
    rfl
  · obtain ⟨D, n, rfl, hD, hn1, hn2, q⟩ := h
    refine ⟨_, pss_cons (ps_if (pt_cmpR op_eq (pv 1) pe_int (nomark _)) (pss_one (ps_ret (pe_lst pa_nil))) pss_nil)
      (pss_cons (ps_setLc (i := 2) (own := [("k", 4)]) (g := gName 4) (tt := tYes) (te := tCall spDraw [] E0 (tCons (tVar 0) (tCons (tOp (rI0 fun i j => .int (i - j)) (tVar 1) (tC (.int 1))) tNil))) (by rfl) scLawWalk.nd rfl rfl (sw_true rfl rfl rfl (by decide +kernel))
        (pi_range1 (by rfl) B.range (pa_cons (pe_call GD hr (by rfl) TD.g TD.F.kp TD.b .nil pass0 (pa_cons (pv 0) (pa_cons (pe_ix ix_list (pe_lst (pa_cons pe_int (pa_cons pe_int (pa_cons pe_int pa_nil)))) (pe_call GD hr (by rfl) TD.g TD.F.kp TD.b .nil pass0 (pa_cons (pv 0) (pa_cons pe_int pa_nil))) (fun _ _ => rfl)) pa_nil))) pa_nil))
        (blkOk_by (N := ["deck", "n", "walk", "way", "k"]) (sc := defScope s_law_walk) (by decide +kernel)) (fun _ _ _ _ _ => pg_name (i := 4) scLawWalk.nd rfl (.inl rfl)) (fun _ _ _ _ _ => pts_nil)
        (fun _ _ _ _ _ => pe_call GD hr (by rfl) TD.g TD.F.kp TD.b .nil pass0 (pa_cons (pv 0) (pa_cons (pe_op op_sub (pv 1) pe_int) pa_nil))))
      (pss_cons (ps_set (i := 3) scLawWalk.nd rfl (.inl rfl) (pe_call GD hr (by rfl) TD.g TD.F.kp TD.b .nil pass0 (pa_cons (pv 0) (pa_cons pe_int pa_nil))))
      (Evl.pss_cut (ps_if (pt_cmpR op_eq (pv 3) pe_int (nomark _)) (pss_one (ps_set (i := 2) scLawWalk.nd rfl (.inl rfl) (pe_op op_cat (pe_listRg rfl (by rfl) B.list (prg_1 (by rfl) B.range (pe_op op_sub (pv 1) pe_int))) (pe_slice sl_list (pv 2) po_none (po_some pe_int))))) pss_nil)
      (Evl.pss_cut (ps_if (pt_cmpR op_eq (pv 3) pe_int (nomark _)) (pss_one (ps_set (i := 2) scLawWalk.nd rfl (.inl rfl) (pe_op op_cat (pe_slice sl_list (pv 2) po_none (po_some pe_int)) (pe_revL (pe_slice sl_list (pv 2) po_none (po_some pe_int)))))) pss_nil)
      (Evl.pss_cut (ps_if (pt_cmpR op_eq (pv 3) pe_int (nomark _)) (pss_one (ps_set (i := 2) scLawWalk.nd rfl (.inl rfl) (pe_op op_rep (pe_slice sl_list (pv 2) po_none (po_some pe_int)) (pe_callB call_len_seq (by rfl) B.len PySem.boot_len (pa_cons (pv 2) pa_nil))))) pss_nil)
      (pss_one (ps_ret (pv 2)))))))), ?_⟩
    -- if n == 1
    refine ⟨_, rfl, rfl, _, rfl, ite2 (fun _ => ?_) (fun hn => ?_)⟩
    · refine ⟨Nat.zero_le _, fun p np => ?_⟩
      exact q [] p _ (fun p hp => absurd hp List.not_mem_nil) (by decide) np upd_same (hD.notFoot np) (hD.new np) (Keep.new np)
    have hn : 2 ≤ n := by
      by_cases c : n = 1
      · subst c
        exact absurd (decide_eq_true rfl) hn
      · omega
    -- walk = [..]
    refine ⟨_, rfl, line_small (by show 3 ≤ 16777216; decide), fun t nt => ?_⟩
    refine ⟨_, rfl, D, 3, rfl, hD.new nt, by decide, by decide, fun v H1 v0 v1 D1 k1 => ?_⟩
    have ht : H1 t = some (.lst [.int 5, .int 12, .int 121]) := k1 t _ upd_same (hD.notFoot nt)
    have kk1 : Keep D H H1 := (Keep.new nt).trans k1
    obtain ⟨m, em, hm0, hm1⟩ : ∃ m : Int, atI [V.int 5, V.int 12, V.int 121] v = some (.int m) ∧ 0 < m ∧ m ≤ 121 := by
      have hv : v = 0 ∨ v = 1 ∨ v = 2 := by omega
      rcases hv with rfl | rfl | rfl
      · exact ⟨5, rfl, by decide, by decide⟩
      · exact ⟨12, rfl, by decide, by decide⟩
      · exact ⟨121, rfl, by decide, by decide⟩
    refine ⟨t, _, v, _, rfl, rfl, SqL.of ht, em, D, m, rfl, D1, hm0, by omega, fun u H2 u0 u1 D2 k2 => ?_⟩
    have kk2 : Keep D H H2 := kk1.trans k2
    refine ⟨u, rfl, by omega, by omega, fun l nl => ?_⟩
    have nf := D2.notFoot nl
    refine lc_range (lo := 0) (n := u.toNat) (fun i H3 => ∃ ws : List Int, IsWalk n ws ∧ ws.length = i ∧ H3 l = some (.lst (ws.map V.int)) ∧ DkAt H3 D ∧ Keep D H H3)
      ⟨[], fun p hp => absurd hp List.not_mem_nil, rfl, upd_same, D2.new nl, kk2.trans (Keep.new nl)⟩ (fun i H3 hi hP => ?_) (fun H3 hP => ?_)
    · obtain ⟨ws, hw, el, hl, D3, k3⟩ := hP
      refine ⟨rfl, _, rfl, _, rfl, (n : Int), 1, rfl, rfl, D, _, rfl, D3, by omega, by omega, fun p H4 p0 p1 D4 k4 => ?_⟩
      have hl4 := k4 l _ hl nf
      refine ⟨_, hl4, line_lt (by rw [List.length_map]; omega), ws ++ [p], fun z hz => ?_, by rw [List.length_append, el]; rfl, by rw [upd_same, List.map_append]; rfl, D4.upd nf, fun c o e f => ?_⟩
      · rcases List.mem_append.mp hz with hz | hz
        · exact hw z hz
        · rw [List.mem_singleton.mp hz]
          omega
      · have nc : c ≠ l := ne_of_none (kk2 c o e f) nl
        rw [upd_ne nc]
        exact k4 c o (k3 c o e f) f
    · obtain ⟨ws, hw, el, hl, D3, k3⟩ := hP
      have nHl : H l = none := keep_none kk2 nl nf
      -- way = draw 4
      refine ⟨_, rfl, D, 4, rfl, D3, by decide, by decide, fun way H4 w0 w1 D4 k4 => ?_⟩
      refine ⟨fun σ' H' => ∃ (l : Addr) (ws : List Int), σ' = [some (.ref D.d), some (.int n), some (.ref l), some (.int way), none] ∧ IsWalk n ws ∧ ws.length ≤ 120 ∧ H' l = some (.lst (ws.map V.int)) ∧ H l = none ∧ DkAt H' D ∧ Keep D H H', ?_, fun σ' H' hM => ?_⟩
      · refine ⟨_, rfl, rfl, _, rfl, ite2 (fun _ => ?_) (fun _ => ⟨l, ws, rfl, hw, by omega, k4 l _ hl nf, nHl, D4, k3.trans k4⟩)⟩
        have hl4 := k4 l _ hl nf
        have kk4 := k3.trans k4
        refine ⟨_, rfl, (n : Int), 1, rfl, rfl, _, rfl, RgOk.of_le (by omega) (by omega) (by omega) (by omega), fun a na => ?_⟩
        have hl5 := same_new (o := .lst (rgV 0 ((n : Int) - 1))) na _ _ hl4
        refine ⟨_, rfl, 10, rfl, l, _, rfl, SqL.of hl5, fun b nb => ?_⟩
        have ha5 : (upd (upd H4 a (.lst (rgV 0 ((n : Int) - 1)))) b (.lst (cutV (ws.map V.int) none (some 10)))) a = some (.lst ((rg (n - 1)).map V.int)) := by
          rw [same_new nb _ _ upd_same, show (n : Int) - 1 = ((n - 1 : Nat) : Int) by omega, rg_V]
        have hb5 : (upd (upd H4 a (.lst (rgV 0 ((n : Int) - 1)))) b (.lst (cutV (ws.map V.int) none (some 10)))) b = some (.lst ((cutI ws none (some 10)).map V.int)) := by rw [upd_same, cut_ints]
        have hcl : (cutI ws none (some 10)).length ≤ 10 := by
          rw [show (some (10 : Int)) = some (((10 : Nat) : Int)) from rfl, cutI_head, List.length_take]
          omega
        have D5 := (D4.new (o := .lst (rgV 0 ((n : Int) - 1))) na).new (o := .lst (cutV (ws.map V.int) none (some 10))) nb
        have k5 := kk4.trans ((Keep.new (D := D) (o := .lst (rgV 0 ((n : Int) - 1))) na).trans (Keep.new (o := .lst (cutV (ws.map V.int) none (some 10))) nb))
        refine ⟨a, b, _, _, rfl, rfl, ha5, hb5, line_small (by rw [List.length_map, List.length_map, rg_len]; omega), fun p np => ?_⟩
        refine ⟨p, rg (n - 1) ++ cutI ws none (some 10), rfl, fun z hz => ?_, by rw [List.length_append, rg_len]; omega, by rw [upd_same, List.map_append], keep_none k5 np (D5.notFoot np), D5.new np, k5.trans (Keep.new np)⟩
        rcases List.mem_append.mp hz with hz | hz
        · have := rg_mem.mp hz
          omega
        · exact hw z (cutI_mem hz)
      obtain ⟨l, ws, rfl, hw, el, hl4, nHl, D4, kk4⟩ := hM
      refine ⟨fun σ' H' => ∃ (l : Addr) (ws : List Int), σ' = [some (.ref D.d), some (.int n), some (.ref l), some (.int way), none] ∧ IsWalk n ws ∧ ws.length ≤ 120 ∧ H' l = some (.lst (ws.map V.int)) ∧ H l = none ∧ DkAt H' D ∧ Keep D H H', ?_, fun σ' H' hM => ?_⟩
      · refine ⟨_, rfl, rfl, _, rfl, ite2 (fun _ => ?_) (fun _ => ⟨l, ws, rfl, hw, by omega, hl4, nHl, D4, kk4⟩)⟩
        refine ⟨_, rfl, 60, rfl, l, _, rfl, SqL.of hl4, fun a na => ?_⟩
        have s1 := same_new (o := .lst (cutV (ws.map V.int) none (some 60))) na
        refine ⟨_, rfl, 60, rfl, l, _, rfl, SqL.of (s1 _ _ hl4), fun b nb => ?_⟩
        have s2 := s1.trans (same_new (o := .lst (cutV (ws.map V.int) none (some 60))) nb)
        refine ⟨b, _, rfl, SqL.of upd_same, fun c nc => ?_⟩
        have s3 := s2.trans (same_new (o := .lst (cutV (ws.map V.int) none (some 60)).reverse) nc)
        have hcl : (cutI ws none (some 60)).length ≤ 60 := by
          rw [show (some (60 : Int)) = some (((60 : Nat) : Int)) from rfl, cutI_head, List.length_take]
          omega
        have ha := same_new (o := .lst (cutV (ws.map V.int) none (some 60)).reverse) nc _ _ (same_new (o := .lst (cutV (ws.map V.int) none (some 60))) nb _ _ (upd_same (H := H') (a := a) (o := .lst (cutV (ws.map V.int) none (some 60)))))
        refine ⟨a, c, _, _, rfl, rfl, ha, upd_same, line_small (by rw [List.length_reverse, cut_ints, List.length_map]; omega), fun p np => ?_⟩
        have s4 := s3.trans (same_new (o := .lst (cutV (ws.map V.int) none (some 60) ++ (cutV (ws.map V.int) none (some 60)).reverse)) np)
        refine ⟨p, cutI ws none (some 60) ++ (cutI ws none (some 60)).reverse, rfl, fun z hz => ?_, by rw [List.length_append, List.length_reverse]; omega, by rw [upd_same, cut_ints, List.map_append, List.map_reverse], ?_, D4.same s4, kk4.trans (Keep.of_same s4)⟩
        · rcases List.mem_append.mp hz with hz | hz
          · exact hw z (cutI_mem hz)
          · exact hw z (cutI_mem (List.mem_reverse.mp hz))
        · exact keep_none kk4 (s3.free np) ((D4.same s3).notFoot np)
      obtain ⟨l, ws, rfl, hw, el, hl4, nHl, D4, kk4⟩ := hM
      refine ⟨fun σ' H' => ∃ (l : Addr) (ws : List Int), σ' = [some (.ref D.d), some (.int n), some (.ref l), some (.int way), none] ∧ IsWalk n ws ∧ ws.length ≤ 120 ∧ H' l = some (.lst (ws.map V.int)) ∧ H l = none ∧ DkAt H' D ∧ Keep D H H', ?_, fun σ' H' hM => ?_⟩
      · refine ⟨_, rfl, rfl, _, rfl, ite2 (fun _ => ?_) (fun _ => ⟨l, ws, rfl, hw, by omega, hl4, nHl, D4, kk4⟩)⟩
        refine ⟨_, rfl, 1, rfl, l, _, rfl, SqL.of hl4, fun a na => ?_⟩
        have s1 := same_new (o := .lst (cutV (ws.map V.int) none (some 1))) na
        have hcl : (cutI ws none (some 1)).length ≤ 1 := by
          rw [show (some (1 : Int)) = some (((1 : Nat) : Int)) from rfl, cutI_head, List.length_take]
          omega
        have hprod : (ws.map V.int).length * (cutI ws none (some 1)).length ≤ 120 := by
          rw [List.length_map]
          have := Nat.mul_le_mul_left ws.length hcl
          omega
        refine ⟨_, rfl, l, _, rfl, .inl (SqL.of (s1 _ _ hl4)), a, _, _, rfl, rfl, upd_same, by omega, by rw [List.length_map]; omega, ?_, fun p np => ?_⟩
        · rw [cut_ints, List.length_map, Int.toNat_natCast, Nat.mul_comm]
          exact line_small (by omega)
        have s2 := s1.trans (same_new (o := .lst (List.replicate (((ws.map V.int).length : Nat) : Int).toNat (cutV (ws.map V.int) none (some 1))).flatten) np)
        refine ⟨p, (List.replicate (((ws.map V.int).length : Nat) : Int).toNat (cutI ws none (some 1))).flatten, rfl, walk_rep (fun z hz => hw z (cutI_mem hz)) _, ?_, by rw [upd_same, cut_ints, map_rep], keep_none kk4 (s1.free np) ((D4.same s1).notFoot np), D4.same s2, kk4.trans (Keep.of_same s2)⟩
        rw [rep_len, Int.toNat_natCast]
        exact hprod
      obtain ⟨l, ws, rfl, hw, el, hl4, nHl, D4, kk4⟩ := hM
      exact ⟨_, rfl, q ws l H' hw el nHl hl4 (hD.notFoot nHl) D4 kk4⟩
end
end Fo
namespace Fo
open PySem PySem.Spec PyProof.Rows L2
def spLaw (K : PySem.W.Frag) : Sp := fun vs H Q _ => ∃ (a : Addr) (ns : List Int), vs = [.ref a] ∧ SqL K H a (ns.map V.int) ∧ ns.length ≤ 63 ∧ ∀ H', Q (.bl true) H'
section
variable {P : Program} {w : World} {K : PySem.W.Frag} {mg : Str → Option Value} {base : Heap}
theorem scLaw : FnScope ["script", "deck", "k", "order", "turn", "walk", "due", "p", "thing", "handed", "again", "found", "one"] ["script"] (defScope s_law) := ⟨rfl, rfl, rfl, by decide +kernel, rfl, by decide +kernel, by decide +kernel⟩
set_option maxHeartbeats 4000000 in
theorem ok_law {f fDk fD fO fT fW fE : Addr} {fd fdDk fdD fdO fdT fdW fdE : FuncData} (T : Fun K "law" "law" s_law f fd) (T__law_deck : Df K mg "_law_deck" s_law_deck ["script"] fDk fdDk) (T__law_order : Df K mg "_law_order" s_law_order ["deck", "n"] fO fdO) (T__law_things : Df K mg "_law_things" s_law_things ["deck"] fT fdT) (T__law_draw : Df K mg "_law_draw" s_law_draw ["deck", "many"] fD fdD) (T__law_walk : Df K mg "_law_walk" s_law_walk ["deck", "n"] fW fdW) (T_walk_end : Df K mg "walk_end" s_walk_end ["order", "walk"] fE fdE)
    (G_walk_end : FnOk P w K mg base CX0 4 fE fdE ["order", "walk"] spWalkEnd) (B : Bi mg) : FnOk P w K mg base CX0 5 f fd ["script"] (spLaw K) := by
  have G__law_deck : FnOk P w K mg base CX0 4 fDk fdDk ["script"] (spDeck K) := ok_deck (k := 3) T__law_deck B
  have G__law_order : FnOk P w K mg base CX0 4 fO fdO ["deck", "n"] spOrder := ok_order (k := 2) T__law_order T__law_draw B
  have G__law_things : FnOk P w K mg base CX0 4 fT fdT ["deck"] spThings := ok_things (k := 2) T__law_things T__law_draw B
  have G__law_walk : FnOk P w K mg base CX0 4 fW fdW ["deck", "n"] spWalk := ok_law_walk (k := 2) T__law_walk T__law_draw B
  refine T.ok scLaw (fun vs H Q E h => ?_) (fun cdv A outer s H vs Q E hr h => ?_)
  · obtain ⟨a, ns, rfl, _⟩ := h
    rfl
  · obtain ⟨a, ns, rfl, hS, hlen, q⟩ := h
    refine ⟨_, 
      (pss_cons (ps_set (i := 1) scLaw.nd rfl (.inl rfl) (pe_call G__law_deck hr (by rfl) T__law_deck.g T__law_deck.F.kp T__law_deck.b .nil pass0 (pa_cons (pv 0) pa_nil)))
      (pss_cons (ps_for PassesOwn.never rfl (pi_range1 (by rfl) B.range (pa_cons pe_int pa_nil)) (pg_name (i := 2) scLaw.nd rfl (.inl rfl))
        (pss_cons (ps_set (i := 3) scLaw.nd rfl (.inl rfl) (pe_call G__law_order hr (by rfl) T__law_order.g T__law_order.F.kp T__law_order.b .nil pass0 (pa_cons (pv 1) (pa_cons (pe_call G__law_things hr (by rfl) T__law_things.g T__law_things.F.kp T__law_things.b .nil pass0 (pa_cons (pv 1) pa_nil)) pa_nil))))
        (pss_one (ps_for PassesOwn.never rfl (pi_range1 (by rfl) B.range (pa_cons pe_int pa_nil)) (pg_name (i := 4) scLaw.nd rfl (.inl rfl))
          (pss_cons (ps_set (i := 5) scLaw.nd rfl (.inl rfl) (pe_call G__law_walk hr (by rfl) T__law_walk.g T__law_walk.F.kp T__law_walk.b .nil pass0 (pa_cons (pv 1) (pa_cons (pe_callB call_len_seq (by rfl) B.len PySem.boot_len (pa_cons (pv 3) pa_nil)) pa_nil))))
          (pss_cons (ps_set (i := 6) scLaw.nd rfl (.inl rfl) (pe_callTy call_list_of (by rfl) B.list (by decide +kernel) (pa_cons (pv 3) pa_nil)))
          (pss_cons (ps_for PassesOwn.never rfl (pi_list (pv 5)) (pg_name (i := 7) scLaw.nd rfl (.inl rfl))
            (pss_cons (ps_set (i := 8) scLaw.nd rfl (.inl rfl) (pe_bm PySem.F.plainAttrs_list PySem.F.slot_list_pop PySem.F.type_list_pop mt_popAt (pv 6) (pa_cons (pv 7) pa_nil)))
            (pss_one (ps_expr (pe_bm PySem.F.plainAttrs_list PySem.F.slot_list_insert PySem.F.type_list_insert mt_insert (pv 6) (pa_cons (pe_op op_add (pv 7) pe_int) (pa_cons (pv 8) pa_nil)))))))
          (pss_cons (ps_set (i := 9) scLaw.nd rfl (.inl rfl) (pe_lst (pa_cons (pe_callTy call_list_of (by rfl) B.list (by decide +kernel) (pa_cons (pv 3) pa_nil)) (pa_cons (pe_callTy call_list_of (by rfl) B.list (by decide +kernel) (pa_cons (pv 5) pa_nil)) pa_nil))))
          (pss_cons (ps_for PassesOwn.never rfl (pi_range1 (by rfl) B.range (pa_cons pe_int pa_nil)) (pg_name (i := 10) scLaw.nd rfl (.inl rfl))
            (pss_cons (ps_set (i := 11) scLaw.nd rfl (.inl rfl) (pe_call G_walk_end hr (by rfl) T_walk_end.g T_walk_end.F.kp T_walk_end.b .nil pass0 (pa_cons (pe_ix ix_list (pv 9) pe_int (fun _ _ => rfl)) (pa_cons (pe_ix ix_list (pv 9) pe_int (fun _ _ => rfl)) pa_nil))))
            (pss_cons (ps_if (PW.pt (pw_or (pt_not (pt_val (pe_callB call_isi (by rfl) B.isinstance (by decide +kernel) (pa_cons (pv 11) (pa_cons (pe_bltn (v := .ty "list") (by rfl) B.list (by decide +kernel) rfl) pa_nil))))) (pw_or (pt_cmpR (op_neD hr.units) (pv 11) (pv 6) (nomark _)) (pw_or1 (pt_cmpR (op_neD hr.units) (pe_lc (own := [("one", 12)]) (g := (gName 12)) (tt := (tB (tCB (rIsi K) (tCons (tVar 12) (tCons (tC (.ty "bool")) tNil))))) (te := (tVar 12)) rfl scLaw.nd (pi_list (pv 11)) (blkOk_by (N := ["script", "deck", "k", "order", "turn", "walk", "due", "p", "thing", "handed", "again", "found", "one"]) (sc := defScope s_law) (by decide +kernel)) (fun _ _ _ _ _ => (pg_name (i := 12) scLaw.nd rfl (.inl rfl))) (fun _ _ _ _ _ => (pts_one (pt_val (pe_callB call_isi (by rfl) B.isinstance (by decide +kernel) (pa_cons (pv 12) (pa_cons (pe_bltn (v := .ty "bool") (by rfl) B.bool (by decide +kernel) rfl) pa_nil)))))) (fun _ _ _ _ _ => (pv 12))) (pe_lst pa_nil) (nomark _))))))
              (pss_one (ps_ret pe_bl))
              pss_nil)
            (pss_one (ps_expr (pe_bm PySem.F.plainAttrs_list PySem.F.slot_list_append PySem.F.type_list_append mt_append (pv 11) (pa_cons pe_int pa_nil)))))))
          (pss_one (ps_if (pt_cmpR (op_neD hr.units) (pv 9) (pe_lst (pa_cons (pv 3) (pa_cons (pv 5) pa_nil))) (nomark _))
            (pss_one (ps_ret pe_bl))
            pss_nil)))))))))))
      (pss_one (ps_ret (pe_and (pe_cmpR (op_eqD hr.units) (pe_call G_walk_end hr (by rfl) T_walk_end.g T_walk_end.F.kp T_walk_end.b .nil pass0 (pa_cons (pe_lst (pa_cons pe_int pa_nil)) (pa_cons (pe_lst pa_nil) pa_nil))) (pe_lst (pa_cons pe_int pa_nil)) (nomark _)) (pe_one (pe_cmpR (op_eqD hr.units) (pe_call G_walk_end hr (by rfl) T_walk_end.g T_walk_end.F.kp T_walk_end.b .nil pass0 (pa_cons (pe_lst (pa_cons pe_int (pa_cons pe_int (pa_cons pe_int pa_nil)))) (pa_cons (pe_lst (pa_cons pe_int (pa_cons pe_int (pa_cons pe_int pa_nil)))) pa_nil))) (pe_lst (pa_cons pe_int (pa_cons pe_int (pa_cons pe_int pa_nil)))) (nomark _)))))))), ?_⟩
    -- deck
    refine ⟨_, rfl, a, ns, rfl, hS, hlen, fun D H0 D0 _ _ => ?_⟩
    refine ⟨10, rfl, by decide, by decide, ?_⟩
    refine for_range (n := 10) (fun i σ H1 => ∃ y2 y3 y4 y5 y6 y7 y8 y9 y10 y11 y12, σ = [some (.ref a), some (.ref D.d), y2, y3, y4, y5, y6, y7, y8, y9, y10, y11, y12] ∧ DkAt H1 D)
      ⟨_, _, _, _, _, _, _, _, _, _, _, rfl, D0⟩ (fun i σ H1 _ hP => ?_) (fun σ H1 hP => ?_)
    · obtain ⟨y2, y3, y4, y5, y6, y7, y8, y9, y10, y11, y12, rfl, D1⟩ := hP
      -- order
      refine ⟨_, rfl, _, rfl, D, rfl, D1, fun n H2 hn1 hn2 D2 k2 => ?_⟩
      refine ⟨D, n, rfl, D2, hn1, hn2, fun xs o H3 ho no h3 nfo D3 k3 => ?_⟩
      refine ⟨3, rfl, by decide, by decide, ?_⟩
      refine for_range (n := 3) (fun j σ H4 => ∃ y4 y5 y6 y7 y8 y9 y10 y11 y12, σ = [some (.ref a), some (.ref D.d), some (.int (0 + i)), some (.ref o), y4, y5, y6, y7, y8, y9, y10, y11, y12] ∧ DkAt H4 D ∧ H4 o = some (.lst (xs.map V.int)))
        ⟨_, _, _, _, _, _, _, _, _, rfl, D3, h3⟩ (fun j σ H4 _ hP => ?_) (fun σ H4 hP => ?_)
      · obtain ⟨y4, y5, y6, y7, y8, y9, y10, y11, y12, rfl, D4, h4⟩ := hP
        have hxl : (xs.map V.int).length = n := by rw [List.length_map, ho.len]
        -- walk
        refine ⟨_, rfl, _, rfl, o, _, rfl, .inl (SqL.of h4), D, n, by rw [hxl]; rfl, D4, hn1, hn2, fun ws l H5 hw hwl nl h5 nfl D5 k5 => ?_⟩
        have ho5 := k5 o _ h4 nfo
        have hol : o ≠ l := ne_of_none h4 nl
        -- due = list(order)
        refine ⟨_, rfl, o, _, rfl, .inl (SqL.of ho5), fun d nd => ?_⟩
        have nfd := D5.notFoot nd
        have ho6 := same_new (o := .lst (xs.map V.int)) nd _ _ ho5
        have hl6 := same_new (o := .lst (xs.map V.int)) nd _ _ h5
        have nod : o ≠ d := ne_of_none ho5 nd
        have nld : l ≠ d := ne_of_none h5 nd
        -- for p in walk
        refine ⟨_, rfl, l, rfl, ⟨_, SqL.of hl6⟩, ?_⟩
        refine for_list (xs := ws.map V.int) (fun m σ H6 => ∃ y7 y8 : Option V, σ = [some (.ref a), some (.ref D.d), some (.int (0 + i)), some (.ref o), some (.int (0 + j)), some (.ref l), some (.ref d), y7, y8, y9, y10, y11, y12] ∧ DkAt H6 D ∧ H6 o = some (.lst (xs.map V.int)) ∧ H6 l = some (.lst (ws.map V.int)) ∧ H6 d = some (.lst ((wEnd xs (ws.take m)).map V.int)))
          ⟨_, _, rfl, D5.new nd, ho6, hl6, upd_same⟩ (fun m σ H6 _ hP => by obtain ⟨_, _, _, _, _, hl, _⟩ := hP; exact SqL.of hl) (fun m x σ H6 hx hP => ?_) (fun σ H6 hP => ?_)
        · obtain ⟨z7, z8, rfl, D6, ho6, hl6, hd6⟩ := hP
          obtain ⟨p, ep, rfl⟩ := int_at_inv hx
          have hp := hw p (List.mem_of_getElem? ep)
          have oo : IsOrd n (wEnd xs (ws.take m)) := wEnd_ord ho fun z hz => hw z (List.mem_of_mem_take hz)
          have ool := oo.len
          obtain ⟨y, ey⟩ : ∃ y, (wEnd xs (ws.take m))[p.toNat]? = some y := ⟨(wEnd xs (ws.take m))[p.toNat]'(by omega), List.getElem?_eq_getElem (by omega)⟩
          refine ⟨_, rfl, .inl ⟨rfl, _, SqL.of hd6⟩, _, rfl, d, _, p, p.toNat, _, rfl, rfl, hd6, by omega, by omega, seq_ix (by omega) (by rw [List.length_map]; omega), int_at ey, ?_⟩
          refine ⟨_, rfl, .inl ⟨rfl, _, SqL.of upd_same⟩, _, rfl, p, 1, rfl, rfl, _, rfl, d, _, _, _, rfl, rfl, upd_same, line_lt (by rw [map_erase, List.length_map, List.length_eraseIdx]; split <;> omega), by omega, by omega, ?_⟩
          refine ⟨_, _, rfl, (D6.upd nfd).upd nfd, by rw [upd_ne nod, upd_ne nod]; exact ho6, by rw [upd_ne nld, upd_ne nld]; exact hl6, ?_⟩
          rw [upd_same, wEnd_more ep, ← pop_ins (by omega) ey, map_erase, List.map_append, List.map_append, List.map_take, List.map_drop, show (p + 1).toNat = p.toNat + 1 by omega]
          rfl
        · obtain ⟨z7, z8, rfl, D6, ho6, hl6, hd6⟩ := hP
          rw [List.length_map, List.take_length] at hd6
          -- handed
          refine ⟨_, rfl, o, _, rfl, .inl (SqL.of ho6), fun h1 n1 => ?_⟩
          have s1 := same_new (o := .lst (xs.map V.int)) n1
          refine ⟨_, rfl, l, _, rfl, .inl (SqL.of (s1 _ _ hl6)), fun h2 n2 => ?_⟩
          have s2 := same_new (o := .lst (ws.map V.int)) n2
          refine ⟨line_small (by show 2 ≤ 16777216; decide), fun hh n3 => ?_⟩
          have s3 := same_new (o := .lst [.ref h1, .ref h2]) n3
          have ss := (s1.trans s2).trans s3
          have hh1 := s3 _ _ (s2 _ _ (upd_same (H := H6) (a := h1) (o := .lst (xs.map V.int))))
          have hh2 := s3 _ _ (upd_same (H := upd H6 h1 (.lst (xs.map V.int))) (a := h2) (o := .lst (ws.map V.int)))
          refine ⟨2, rfl, by decide, by decide, ?_⟩
          refine for_range (n := 2) (fun m σ H7 => ∃ y10 y11 y12, σ = [some (.ref a), some (.ref D.d), some (.int (0 + i)), some (.ref o), some (.int (0 + j)), some (.ref l), some (.ref d), z7, z8, some (.ref hh), y10, y11, y12] ∧ DkAt H7 D ∧ H7 o = some (.lst (xs.map V.int)) ∧ H7 l = some (.lst (ws.map V.int)) ∧ H7 d = some (.lst ((wEnd xs ws).map V.int)) ∧ H7 h1 = some (.lst (xs.map V.int)) ∧ H7 h2 = some (.lst (ws.map V.int)) ∧ H7 hh = some (.lst [.ref h1, .ref h2]))
            ⟨_, _, _, rfl, D6.same ss, ss _ _ ho6, ss _ _ hl6, ss _ _ hd6, hh1, hh2, upd_same⟩ (fun m σ H7 _ hP => ?_) (fun σ H7 hP => ?_)
          · obtain ⟨y10, y11, y12, rfl, D7, ho7, hl7, hd7, h17, h27, hh7⟩ := hP
            -- found = walk_end(..)
            refine ⟨_, rfl, hh, _, 0, _, rfl, rfl, SqL.of hh7, at2_0, _, rfl, hh, _, 1, _, rfl, rfl, SqL.of hh7, at2_1, h1, h2, n, xs, ws, rfl, h17, h27, ho, hn1, hn2, hw, by omega, fun H8 fo s8 nfo8 hf8 => ?_⟩
            -- the tests
            refine ⟨_, rfl, _, _, _, _, true, rfl, .ty _, .base (.lst hf8), kit_ty (by decide +kernel), true, rfl, iteF ?_⟩
            refine ⟨_, rfl, _, rfl, _, _, dp_list hf8, dp_list (s8 _ _ hd7), shaped_list _, shaped_list _, _, rfl, ?_⟩
            rw [eqv_list]
            refine iteF ?_
            refine ⟨_, rfl, fo, rfl, ⟨_, SqL.of hf8⟩, fun c nc => ?_⟩
            refine lc_list (K := K) (a := fo) (xs := (wEnd xs ws).map V.int) (fun i H9 => H9 c = some (.lst []) ∧ Same H8 H9) ⟨upd_same, same_new nc⟩ (fun i H9 _ hP => SqL.of (hP.2 _ _ hf8)) (fun i x H9 hx hP => ?_) (fun H9 hP => ?_)
            · obtain ⟨y, ey, rfl⟩ := int_at_inv hx
              exact ⟨rfl, _, rfl, _, _, _, _, false, rfl, .ty _, .base (.int _), kit_ty (by decide +kernel), false, rfl, iteF hP⟩
            · obtain ⟨hc9, s9⟩ := hP
              refine ⟨Nat.zero_le _, fun e ne => ?_⟩
              have se := same_new (o := .lst []) ne
              refine ⟨dL [], dL [], dp_list (ns := []) (se _ _ hc9), dp_list (ns := []) upd_same, shaped_list _, shaped_list _, _, rfl, ?_⟩
              rw [eqv_list]
              refine iteF ?_
              -- found.append(0)
              have sA := (s8.trans s9).trans se
              have hfA := se _ _ (s9 _ _ hf8)
              have nn : ∀ b u, H7 b = some u → b ≠ fo := fun b u e => ne_of_none e nfo8
              refine ⟨_, rfl, .inl ⟨rfl, _, SqL.of hfA⟩, fo, _, _, rfl, rfl, hfA, line_lt ?_, ?_⟩
              · rw [List.length_map, (wEnd_ord ho hw).len]
                omega
              · refine ⟨_, _, _, rfl, (D7.same sA).upd (D7.notFoot nfo8), ?_, ?_, ?_, ?_, ?_, ?_⟩
                · rw [upd_ne (nn _ _ ho7)]; exact sA _ _ ho7
                · rw [upd_ne (nn _ _ hl7)]; exact sA _ _ hl7
                · rw [upd_ne (nn _ _ hd7)]; exact sA _ _ hd7
                · rw [upd_ne (nn _ _ h17)]; exact sA _ _ h17
                · rw [upd_ne (nn _ _ h27)]; exact sA _ _ h27
                · rw [upd_ne (nn _ _ hh7)]; exact sA _ _ hh7
          · obtain ⟨y10, y11, y12, rfl, D7, ho7, hl7, hd7, h17, h27, hh7⟩ := hP
            -- if handed != [order, walk]
            refine ⟨_, rfl, _, rfl, _, rfl, line_small (by show 2 ≤ 16777216; decide), fun e ne => ?_⟩
            have se := same_new (o := .lst [.ref o, .ref l]) ne
            refine ⟨dLL [xs, ws], dLL [xs, ws], .lst (SqL.of (se _ _ hh7)) (.cons (dp_list (se _ _ h17)) (.cons (dp_list (se _ _ h27)) .nil)), .lst (SqL.of upd_same) (.cons (dp_list (se _ _ ho7)) (.cons (dp_list (se _ _ hl7)) .nil)), shaped_lists _, shaped_lists _, _, rfl, ?_⟩
            rw [eqv_lists]
            exact iteF ⟨_, _, _, _, _, _, _, _, _, rfl, D7.new ne, se _ _ ho7⟩
      · obtain ⟨y4, y5, y6, y7, y8, y9, y10, y11, y12, rfl, D4, h4⟩ := hP
        exact ⟨_, _, _, _, _, _, _, _, _, _, _, rfl, D4⟩
    · obtain ⟨y2, y3, y4, y5, y6, y7, y8, y9, y10, y11, y12, rfl, D1⟩ := hP
      -- the last row
      refine ⟨line_small (by show 1 ≤ 16777216; decide), fun a1 na1 => ⟨Nat.zero_le _, fun b1 nb1 => ?_⟩⟩
      refine ⟨a1, b1, 1, [0], [], rfl, same_new nb1 _ _ upd_same, upd_same, List.Perm.refl _, by decide, by decide, (fun p hp => absurd hp List.not_mem_nil), by decide, fun H2 l2 s2 nl2 hl2 => ?_⟩
      refine ⟨line_small (by show 1 ≤ 16777216; decide), fun c1 nc1 => ?_⟩
      refine ⟨dL [0], dL [0], dp_list (same_new nc1 _ _ hl2), dp_list (ns := [0]) upd_same, shaped_list _, shaped_list _, _, rfl, ?_⟩
      rw [eqv_list]
      refine iteT ?_
      refine ⟨line_small (by show 3 ≤ 16777216; decide), fun a2 na2 => ⟨line_small (by show 3 ≤ 16777216; decide), fun b2 nb2 => ?_⟩⟩
      refine ⟨a2, b2, 3, [2, 0, 1], [0, 1, 1], rfl, same_new nb2 _ _ upd_same, upd_same, (show List.Perm [2, 0, 1] (rg 3) by decide), by decide, by decide, ?_, by decide, fun H3 l3 s3 nl3 hl3 => ?_⟩
      · intro p hp
        simp at hp
        rcases hp with rfl | rfl <;> decide
      refine ⟨line_small (by show 3 ≤ 16777216; decide), fun c2 nc2 => ?_⟩
      refine ⟨dL [0, 2, 1], dL [0, 2, 1], dp_list (same_new nc2 _ _ hl3), dp_list (ns := [0, 2, 1]) upd_same, shaped_list _, shaped_list _, ?_⟩
      rw [eqv_list]
      exact q _
end
end Fo
--LAWCALL ok_law F_law T__law_deck T__law_order T__law_things T__law_draw T__law_walk T_walk_end (ok_walk_end (k := 0) T_walk_end T_check_order T_is_order T_is_whole T_is_walk T_exchange B m_MOST_THINGS) B
namespace Fo
open PySem PySem.Spec PyProof.Rows L2
theorem all_mk {l : PySem.W.OpenLaw} {w : World} {K : PySem.W.Frag} {h : Heap} {mg : Str → Option Value} {fa : Addr} (X : K.In h) (G : h.Ns mainGlobals mg) (hfa : mg "law" = some (.ref fa))
    {f0 f1 f2 f3 f4 f5 f6 f7 f8 f9 f10 f11 : Addr} {od0 an0 od1 an1 od2 an2 od3 an3 od4 an4 od5 an5 od6 an6 od7 an7 od8 an8 od9 an9 od10 an10 od11 an11 : Option Addr} {sl0 sl1 sl2 sl3 sl4 sl5 sl6 sl7 sl8 sl9 sl10 sl11 : Array (Option Value)} {oc0 kV0 dc0 pm0 cd0 ct0 oc1 kV1 dc1 pm1 cd1 ct1 oc2 kV2 dc2 pm2 cd2 ct2 oc3 kV3 dc3 pm3 cd3 ct3 oc4 kV4 dc4 pm4 cd4 ct4 oc5 kV5 dc5 pm5 cd5 ct5 oc6 kV6 dc6 pm6 cd6 ct6 oc7 kV7 dc7 pm7 cd7 ct7 oc8 kV8 dc8 pm8 cd8 ct8 oc9 kV9 dc9 pm9 cd9 ct9 oc10 kV10 dc10 pm10 cd10 ct10 oc11 kV11 dc11 pm11 cd11 ct11 : Value} {tk_MOST_THINGS : Tok}
    (a0 : PySem.W.nsIn K mainGlobals "is_whole" = some (some (.ref f0))) (l0 : K.lookup f0 = some ⟨oc0, od0, .func (PySem.W.fnOf "is_whole" "is_whole" (defArgs s_is_whole) (defBody s_is_whole) (defScope s_is_whole) .none kV0 dc0 pm0 an0 cd0 ct0), sl0⟩) (c0 : PySem.W.codeIn K cd0 "is_whole" = true) (k0 : PySem.W.keepIn K (.ref f0) = true)
    (a1 : PySem.W.nsIn K mainGlobals "is_order" = some (some (.ref f1))) (l1 : K.lookup f1 = some ⟨oc1, od1, .func (PySem.W.fnOf "is_order" "is_order" (defArgs s_is_order) (defBody s_is_order) (defScope s_is_order) .none kV1 dc1 pm1 an1 cd1 ct1), sl1⟩) (c1 : PySem.W.codeIn K cd1 "is_order" = true) (k1 : PySem.W.keepIn K (.ref f1) = true)
    (a2 : PySem.W.nsIn K mainGlobals "check_order" = some (some (.ref f2))) (l2 : K.lookup f2 = some ⟨oc2, od2, .func (PySem.W.fnOf "check_order" "check_order" (defArgs s_check_order) (defBody s_check_order) (defScope s_check_order) .none kV2 dc2 pm2 an2 cd2 ct2), sl2⟩) (c2 : PySem.W.codeIn K cd2 "check_order" = true) (k2 : PySem.W.keepIn K (.ref f2) = true)
    (a3 : PySem.W.nsIn K mainGlobals "is_walk" = some (some (.ref f3))) (l3 : K.lookup f3 = some ⟨oc3, od3, .func (PySem.W.fnOf "is_walk" "is_walk" (defArgs s_is_walk) (defBody s_is_walk) (defScope s_is_walk) .none kV3 dc3 pm3 an3 cd3 ct3), sl3⟩) (c3 : PySem.W.codeIn K cd3 "is_walk" = true) (k3 : PySem.W.keepIn K (.ref f3) = true)
    (a4 : PySem.W.nsIn K mainGlobals "walk_end" = some (some (.ref f4))) (l4 : K.lookup f4 = some ⟨oc4, od4, .func (PySem.W.fnOf "walk_end" "walk_end" (defArgs s_walk_end) (defBody s_walk_end) (defScope s_walk_end) .none kV4 dc4 pm4 an4 cd4 ct4), sl4⟩) (c4 : PySem.W.codeIn K cd4 "walk_end" = true) (k4 : PySem.W.keepIn K (.ref f4) = true)
    (a5 : PySem.W.nsIn K mainGlobals "exchange" = some (some (.ref f5))) (l5 : K.lookup f5 = some ⟨oc5, od5, .func (PySem.W.fnOf "exchange" "exchange" (defArgs s_exchange) (defBody s_exchange) (defScope s_exchange) .none kV5 dc5 pm5 an5 cd5 ct5), sl5⟩) (c5 : PySem.W.codeIn K cd5 "exchange" = true) (k5 : PySem.W.keepIn K (.ref f5) = true)
    (a6 : PySem.W.nsIn K mainGlobals "_law_deck" = some (some (.ref f6))) (l6 : K.lookup f6 = some ⟨oc6, od6, .func (PySem.W.fnOf "_law_deck" "_law_deck" (defArgs s_law_deck) (defBody s_law_deck) (defScope s_law_deck) .none kV6 dc6 pm6 an6 cd6 ct6), sl6⟩) (c6 : PySem.W.codeIn K cd6 "_law_deck" = true) (k6 : PySem.W.keepIn K (.ref f6) = true)
    (a7 : PySem.W.nsIn K mainGlobals "_law_draw" = some (some (.ref f7))) (l7 : K.lookup f7 = some ⟨oc7, od7, .func (PySem.W.fnOf "_law_draw" "_law_draw" (defArgs s_law_draw) (defBody s_law_draw) (defScope s_law_draw) .none kV7 dc7 pm7 an7 cd7 ct7), sl7⟩) (c7 : PySem.W.codeIn K cd7 "_law_draw" = true) (k7 : PySem.W.keepIn K (.ref f7) = true)
    (a8 : PySem.W.nsIn K mainGlobals "_law_order" = some (some (.ref f8))) (l8 : K.lookup f8 = some ⟨oc8, od8, .func (PySem.W.fnOf "_law_order" "_law_order" (defArgs s_law_order) (defBody s_law_order) (defScope s_law_order) .none kV8 dc8 pm8 an8 cd8 ct8), sl8⟩) (c8 : PySem.W.codeIn K cd8 "_law_order" = true) (k8 : PySem.W.keepIn K (.ref f8) = true)
    (a9 : PySem.W.nsIn K mainGlobals "_law_things" = some (some (.ref f9))) (l9 : K.lookup f9 = some ⟨oc9, od9, .func (PySem.W.fnOf "_law_things" "_law_things" (defArgs s_law_things) (defBody s_law_things) (defScope s_law_things) .none kV9 dc9 pm9 an9 cd9 ct9), sl9⟩) (c9 : PySem.W.codeIn K cd9 "_law_things" = true) (k9 : PySem.W.keepIn K (.ref f9) = true)
    (a10 : PySem.W.nsIn K mainGlobals "_law_walk" = some (some (.ref f10))) (l10 : K.lookup f10 = some ⟨oc10, od10, .func (PySem.W.fnOf "_law_walk" "_law_walk" (defArgs s_law_walk) (defBody s_law_walk) (defScope s_law_walk) .none kV10 dc10 pm10 an10 cd10 ct10), sl10⟩) (c10 : PySem.W.codeIn K cd10 "_law_walk" = true) (k10 : PySem.W.keepIn K (.ref f10) = true)
    (a11 : PySem.W.nsIn K mainGlobals "law" = some (some (.ref f11))) (l11 : K.lookup f11 = some ⟨oc11, od11, .func (PySem.W.fnOf "law" "law" (defArgs s_law) (defBody s_law) (defScope s_law) .none kV11 dc11 pm11 an11 cd11 ct11), sl11⟩) (c11 : PySem.W.codeIn K cd11 "law" = true) (k11 : PySem.W.keepIn K (.ref f11) = true)
    (g_MOST_THINGS : PySem.W.nsIn K mainGlobals "MOST_THINGS" = some (some (.int 12 tk_MOST_THINGS)))
    (z_all : PySem.W.nsIn K mainGlobals "all" = some none)
    (z_bool : PySem.W.nsIn K mainGlobals "bool" = some none)
    (z_int : PySem.W.nsIn K mainGlobals "int" = some none)
    (z_isinstance : PySem.W.nsIn K mainGlobals "isinstance" = some none)
    (z_len : PySem.W.nsIn K mainGlobals "len" = some none)
    (z_list : PySem.W.nsIn K mainGlobals "list" = some none)
    (z_max : PySem.W.nsIn K mainGlobals "max" = some none)
    (z_min : PySem.W.nsIn K mainGlobals "min" = some none)
    (z_range : PySem.W.nsIn K mainGlobals "range" = some none)
    (z_sorted : PySem.W.nsIn K mainGlobals "sorted" = some none)
    : ∃ fd : FuncData, (∀ (s : Shared) (v : Value), BindsTo s fd ⟨[v], []⟩ [("script", v)]) ∧ ∀ base : Heap, K.In base → base.Ns mainGlobals mg → FnOk l.prog w K mg base CX0 5 fa fd ["script"] (spLaw K) := by
  have e := hfa.symm.trans (PySem.W.mg_of X G a11)
  cases e
  have F0 := fun_mk (st := s_is_whole) l0 c0 k0
  have F1 := fun_mk (st := s_is_order) l1 c1 k1
  have F2 := fun_mk (st := s_check_order) l2 c2 k2
  have F3 := fun_mk (st := s_is_walk) l3 c3 k3
  have F4 := fun_mk (st := s_walk_end) l4 c4 k4
  have F5 := fun_mk (st := s_exchange) l5 c5 k5
  have F6 := fun_mk (st := s_law_deck) l6 c6 k6
  have F7 := fun_mk (st := s_law_draw) l7 c7 k7
  have F8 := fun_mk (st := s_law_order) l8 c8 k8
  have F9 := fun_mk (st := s_law_things) l9 c9 k9
  have F10 := fun_mk (st := s_law_walk) l10 c10 k10
  have F11 := fun_mk (st := s_law) l11 c11 k11
  have T_is_whole : Df K mg "is_whole" s_is_whole ["thing"] f0 _ := ⟨F0, F0.binds (ps := ["thing"]) (fun _ _ _ _ _ _ us hl => match us, hl with | [_], _ => rfl), PySem.W.mg_of X G a0⟩
  have T_is_order : Df K mg "is_order" s_is_order ["thing"] f1 _ := ⟨F1, F1.binds (ps := ["thing"]) (fun _ _ _ _ _ _ us hl => match us, hl with | [_], _ => rfl), PySem.W.mg_of X G a1⟩
  have T_check_order : Df K mg "check_order" s_check_order ["thing"] f2 _ := ⟨F2, F2.binds (ps := ["thing"]) (fun _ _ _ _ _ _ us hl => match us, hl with | [_], _ => rfl), PySem.W.mg_of X G a2⟩
  have T_is_walk : Df K mg "is_walk" s_is_walk ["thing", "n"] f3 _ := ⟨F3, F3.binds (ps := ["thing", "n"]) (fun _ _ _ _ _ _ us hl => match us, hl with | [_, _], _ => rfl), PySem.W.mg_of X G a3⟩
  have T_walk_end : Df K mg "walk_end" s_walk_end ["order", "walk"] f4 _ := ⟨F4, F4.binds (ps := ["order", "walk"]) (fun _ _ _ _ _ _ us hl => match us, hl with | [_, _], _ => rfl), PySem.W.mg_of X G a4⟩
  have T_exchange : Df K mg "exchange" s_exchange ["row", "place"] f5 _ := ⟨F5, F5.binds (ps := ["row", "place"]) (fun _ _ _ _ _ _ us hl => match us, hl with | [_, _], _ => rfl), PySem.W.mg_of X G a5⟩
  have T__law_deck : Df K mg "_law_deck" s_law_deck ["script"] f6 _ := ⟨F6, F6.binds (ps := ["script"]) (fun _ _ _ _ _ _ us hl => match us, hl with | [_], _ => rfl), PySem.W.mg_of X G a6⟩
  have T__law_draw : Df K mg "_law_draw" s_law_draw ["deck", "many"] f7 _ := ⟨F7, F7.binds (ps := ["deck", "many"]) (fun _ _ _ _ _ _ us hl => match us, hl with | [_, _], _ => rfl), PySem.W.mg_of X G a7⟩
  have T__law_order : Df K mg "_law_order" s_law_order ["deck", "n"] f8 _ := ⟨F8, F8.binds (ps := ["deck", "n"]) (fun _ _ _ _ _ _ us hl => match us, hl with | [_, _], _ => rfl), PySem.W.mg_of X G a8⟩
  have T__law_things : Df K mg "_law_things" s_law_things ["deck"] f9 _ := ⟨F9, F9.binds (ps := ["deck"]) (fun _ _ _ _ _ _ us hl => match us, hl with | [_], _ => rfl), PySem.W.mg_of X G a9⟩
  have T__law_walk : Df K mg "_law_walk" s_law_walk ["deck", "n"] f10 _ := ⟨F10, F10.binds (ps := ["deck", "n"]) (fun _ _ _ _ _ _ us hl => match us, hl with | [_, _], _ => rfl), PySem.W.mg_of X G a10⟩
  have B : Bi mg := ⟨PySem.W.mg_none_of X G z_all, PySem.W.mg_none_of X G z_bool, PySem.W.mg_none_of X G z_int, PySem.W.mg_none_of X G z_isinstance, PySem.W.mg_none_of X G z_len, PySem.W.mg_none_of X G z_list, PySem.W.mg_none_of X G z_max, PySem.W.mg_none_of X G z_min, PySem.W.mg_none_of X G z_range, PySem.W.mg_none_of X G z_sorted⟩
  have m_MOST_THINGS := PySem.W.mg_of X G g_MOST_THINGS
  exact ⟨PySem.W.fnOf "law" "law" (defArgs s_law) (defBody s_law) (defScope s_law) .none kV11 dc11 pm11 an11 cd11 ct11, fun s v => .of_eq rfl, fun base _ _ => ok_law F11 T__law_deck T__law_order T__law_things T__law_draw T__law_walk T_walk_end (ok_walk_end (k := 0) T_walk_end T_check_order T_is_order T_is_whole T_is_walk T_exchange B m_MOST_THINGS) B⟩
end Fo
open PySem PySem.W PyProof.Rows
set_option maxRecDepth 100000 in
set_option maxHeartbeats 0 in
theorem PySem.Challenge.cw_farorders_k08_ends_of_walks_holds : PySem.Challenge.rw_farorders_k08_ends_of_walks.Holds := by
  w_on; o_law; k_head; (case hw => w_witness2)
  k_fill
  refine L2.walk_of (l := PySem.Challenge.rw_farorders_k08_ends_of_walks) (n := 63) (k := 5) (x := "script") (CX := fun _ => L2.CX0) (sp := fun w => Fo.spLaw _) rfl (by decide) rfl ⟨rfl, by decide, by decide⟩ (fun w h Y => PySem.W.kIn_of Y) ?F (fun _ _ a ns hl _ hS => ⟨a, ns, rfl, hS, hl, fun _ => rfl⟩) (fun _ _ _ _ _ h => h)
  case F =>
    intro w mg fa h KX G hmg
    refine' Fo.all_mk KX G hmg ?a0 ?l0 ?c0 ?k0 ?a1 ?l1 ?c1 ?k1 ?a2 ?l2 ?c2 ?k2 ?a3 ?l3 ?c3 ?k3 ?a4 ?l4 ?c4 ?k4 ?a5 ?l5 ?c5 ?k5 ?a6 ?l6 ?c6 ?k6 ?a7 ?l7 ?c7 ?k7 ?a8 ?l8 ?c8 ?k8 ?a9 ?l9 ?c9 ?k9 ?a10 ?l10 ?c10 ?k10 ?a11 ?l11 ?c11 ?k11 ?g_MOST_THINGS ?z_all ?z_bool ?z_int ?z_isinstance ?z_len ?z_list ?z_max ?z_min ?z_range ?z_sorted
    (case a0 => k_is); (case l0 => k_is); (case c0 => k_is); (case k0 => k_is); (case a1 => k_is); (case l1 => k_is); (case c1 => k_is); (case k1 => k_is); (case a2 => k_is); (case l2 => k_is); (case c2 => k_is); (case k2 => k_is); (case a3 => k_is); (case l3 => k_is); (case c3 => k_is); (case k3 => k_is); (case a4 => k_is); (case l4 => k_is); (case c4 => k_is); (case k4 => k_is); (case a5 => k_is); (case l5 => k_is); (case c5 => k_is); (case k5 => k_is); (case a6 => k_is); (case l6 => k_is); (case c6 => k_is); (case k6 => k_is); (case a7 => k_is); (case l7 => k_is); (case c7 => k_is); (case k7 => k_is); (case a8 => k_is); (case l8 => k_is); (case c8 => k_is); (case k8 => k_is); (case a9 => k_is); (case l9 => k_is); (case c9 => k_is); (case k9 => k_is); (case a10 => k_is); (case l10 => k_is); (case c10 => k_is); (case k10 => k_is); (case a11 => k_is); (case l11 => k_is); (case c11 => k_is); (case k11 => k_is); (case g_MOST_THINGS => k_is); (case z_all => k_is); (case z_bool => k_is); (case z_int => k_is); (case z_isinstance => k_is); (case z_len => k_is); (case z_list => k_is); (case z_max => k_is); (case z_min => k_is); (case z_range => k_is); (case z_sorted => k_is)
