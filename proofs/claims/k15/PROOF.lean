import PyProof.Rows.All
import Wide.All
import OpenK.AllK
import Wide.FinOn
import HandS.ForMost
import HandS.Walk
import HandS.Zip
import HandS.Conv
import HandS.TupAny
import HandS.TupMul
import HandS.TupLe
import HandS.Deep
import HandS.SortRule
import HandS.SortInts
import HandS.IsInst
import PyProof.Draws
import KE.GoesEnum
import HandS.Exc
import HandS.ExcOwn
import HandS.TryMany
import HandS.Small
import HandS.RaiseMore
import HandS.ExcIs
import HandS.Style
import KE.KRevSl
import HandS.Strs
import HandS.TupSets
import KE.SortData
import KE.KIndexOf
import HandS.TryOnly
import KE.DataMinMax
import KE.DataFind
import HandS.SetBool
import HandS.SetFor
import PySem.Challenge.RW_unevenroads_k15_whole_ways_turned_and_tr
set_option Elab.async false
set_option linter.all false
set_option maxRecDepth 100000
set_option maxHeartbeats 4000000
/-! Dw: readings over data. Heaps are left behind: a reading of an expression is told over an environment of cells (data, lists of one's own, the well of draws). -/
namespace Dw
open PySem PySem.Spec PyProof.Rows L2

/-! ### the well (its own list, the list of its cells), and what may change -/
abbrev Wl := Option (Addr × Addr)
def Mu : Wl → Addr → Prop
  | none, _ => False
  | some (w, c), a => a = w ∨ a = c
def WellAt (w c : Addr) (H : Hp) : Prop :=
  w ≠ c ∧ ∃ (xs : List Int) (st t : Int), H w = some (.lst [.ref c, .int st, .int t]) ∧ H c = some (.lst (xs.map V.int)) ∧ (∀ x ∈ xs, 0 ≤ x) ∧ xs.length ≤ 60 ∧ 0 ≤ st ∧ st < 4294967291 ∧ 0 ≤ t
def WOk : Wl → Hp → Prop
  | none, _ => True
  | some (w, c), H => WellAt w c H
structure Ge (W : Wl) (H H' : Hp) : Prop where
  keep : ∀ a o, ¬ Mu W a → H a = some o → H' a = some o
  wl : WOk W H → WOk W H'
section
variable {W : Wl} {H H1 H2 H' : Hp} {p : Addr} {o : HO}
theorem Ge.refl : Ge W H H := ⟨fun _ _ _ h => h, fun h => h⟩
theorem Ge.trans (a : Ge W H H1) (b : Ge W H1 H2) : Ge W H H2 := ⟨fun x o n h => b.keep x o n (a.keep x o n h), fun h => b.wl (a.wl h)⟩
theorem WOk.upd (h : WOk W H) (hp : H p = none ∨ ¬ Mu W p) : WOk W (upd H p o) := by
  rcases W with _ | ⟨w, c⟩
  · trivial
  · obtain ⟨ne, xs, st, t, h1, h2, r⟩ := h
    have n1 : w ≠ p := by
      rcases hp with hp | hp
      · exact ne_of_none h1 hp
      · exact fun e => hp (.inl e.symm)
    have n2 : c ≠ p := by
      rcases hp with hp | hp
      · exact ne_of_none h2 hp
      · exact fun e => hp (.inr e.symm)
    exact ⟨ne, xs, st, t, by rw [upd_ne n1]; exact h1, by rw [upd_ne n2]; exact h2, r⟩
theorem Ge.new (h : H p = none) : Ge W H (upd H p o) :=
  ⟨fun a u _ e => by rw [upd_ne (ne_of_none e h)]; exact e, fun k => k.upd (.inl h)⟩
theorem Ge.new' (g : Ge W H H1) (h : H1 p = none) : Ge W H (upd H1 p o) := g.trans (.new h)
/-- all is kept -/
theorem Ge.of_same (k : ∀ a o, H a = some o → H' a = some o) : Ge W H H' := by
  refine ⟨fun a o _ h => k a o h, fun h => ?_⟩
  rcases W with _ | ⟨w, c⟩
  · trivial
  · obtain ⟨ne, xs, st, t, h1, h2, r⟩ := h
    exact ⟨ne, xs, st, t, k _ _ h1, k _ _ h2, r⟩
theorem Ge.none_same (g : Ge none H H') : ∀ a o, H a = some o → H' a = some o := fun a o h => g.keep a o (fun z => z) h
theorem Ge.lift (g : Ge none H H') : Ge W H H' := .of_same g.none_same
theorem Ge.there (g : Ge W H H') (wo : WOk W H') (h : H p = some o) : H' p ≠ none := by
  by_cases hm : Mu W p
  · rcases W with _ | ⟨w, c⟩
    · exact hm.elim
    · obtain ⟨_, _, _, _, h1, h2, _⟩ := wo
      rcases hm with e | e
      · rw [e, h1]
        exact Option.some_ne_none _
      · rw [e, h2]
        exact Option.some_ne_none _
  · rw [g.keep p o hm h]
    exact Option.some_ne_none _
theorem Ge.fresh (g : Ge W H H') (wo : WOk W H) (h : H' p = none) : H p = none := by
  cases q : H p with
  | none => rfl
  | some o => exact absurd h (g.there (g.wl wo) q)
end

/-- there is an object, and no tuple -/
def NT (o : Option HO) : Prop := o ≠ none ∧ ∀ xs, o ≠ some (.tup xs) ∧ ∀ u, o ≠ some (.frz u (.tup xs))
theorem nt_lst {xs : List V} : NT (some (.lst xs)) := ⟨(fun h => nomatch h), fun _ => ⟨(fun h => nomatch h), fun _ h => nomatch h⟩⟩
theorem nt_dK {xs : List (Key × V)} : NT (some (.dK xs)) := ⟨(fun h => nomatch h), fun _ => ⟨(fun h => nomatch h), fun _ h => nomatch h⟩⟩
theorem nt_dT {xs : List (List Key × V)} : NT (some (.dT xs)) := ⟨(fun h => nomatch h), fun _ => ⟨(fun h => nomatch h), fun _ h => nomatch h⟩⟩
/-- a list that stands where there was none, or a tuple: there was none -/
theorem nt_none {H H' : Hp} {p : Addr} {xs : List V} (h : H' p = some (.lst xs)) (k : ∀ o, H p = some o → H' p = some o) (z : ¬ NT (H p)) : H p = none := by
  cases e : H p with
  | none => rfl
  | some o =>
    have q := k o e
    rw [h] at q
    cases q
    exact absurd (by rw [e]; exact nt_lst) z
theorem WOk.nt {W : Wl} {H : Hp} (h : WOk W H) {a : Addr} (m : Mu W a) : NT (H a) := by
  rcases W with _ | ⟨w, c⟩
  · exact m.elim
  · obtain ⟨_, _, _, _, h1, h2, _⟩ := h
    rcases m with e | e
    · rw [e, h1]
      exact nt_lst
    · rw [e, h2]
      exact nt_lst

def dicO (kvs : List (Int × Int)) : HO := .dK (kvs.map fun q => (.inl q.1, .int q.2))
/-- marks a dict of whole numbers as data: no repr is told of it -/
def mkN : PyData := .list [.int (2 ^ 2000)]
theorem mkN_no : mkN.showable = false := by
  show PyData.showable (.list [.int (2 ^ 2000)]) = false
  simp only [PyData.showable, PyData.showableAll, Bool.and_true]
  decide +kernel
def dictD (kvs : List (Int × Int)) : PyData := .dict ((mkN, .none) :: kvs.map fun q => (.int q.1, .int q.2))
/-- a tuple whose object is known: it has no dict of its own -/
def TupAt (H : Hp) (a : Addr) (xs : List V) : Prop := ∃ o, H a = some (.frz o (.tup xs)) ∧ o.cls = .type "tuple" ∧ o.dict = none
theorem TupAt.tr {H H' : Hp} {a : Addr} {xs : List V} (h : TupAt H a xs) (k : ∀ o, H a = some o → H' a = some o) : TupAt H' a xs := let ⟨o, q, r⟩ := h; ⟨o, k _ q, r⟩
theorem TupAt.up {H : Hp} {a : Addr} {o : Obj} {xs : List V} (hc : o.cls = .type "tuple") (hd : o.dict = none) : TupAt (upd H a (.frz o (.tup xs))) a xs := ⟨o, upd_same, hc, hd⟩
theorem SqT.of {K : PySem.W.Frag} {H : Hp} {a : Addr} {xs : List V} (h : TupAt H a xs) : SqT K H a xs := let ⟨o, q, _⟩ := h; .inl (.inr ⟨o, q⟩)
/-- assumptions that make a rule unusable here (rules of the plain layer that are not shown for known tuples) -/
class NoFz : Prop where
  out : ∀ (H : Hp) (a : Addr) (xs : List V), TupAt H a xs → H a = some (.tup xs)
class OldT : Prop where
  out : ∀ {H : Hp} {a : Addr} {xs : List V}, H a = some (.tup xs) → TupAt H a xs
/-! ### what a value says: data; Z: what it must not touch -/
mutual
inductive Dn (H : Hp) (Z : Addr → Prop) : V → PyData → Prop
  | non : Dn H Z .non .none
  | bl (b : Bool) : Dn H Z (.bl b) (.bool b)
  | int (i : Int) : Dn H Z (.int i) (.int i)
  | str (x : Str) : Dn H Z (.str x) (.str x)
  | lst {a : Addr} {xs : List V} {ds : List PyData} : H a = some (.lst xs) → ¬ Z a → DnAll H Z xs ds → Dn H Z (.ref a) (.list ds)
  | tup {a : Addr} {xs : List V} {ds : List PyData} : TupAt H a xs → ¬ Z a → DnAll H Z xs ds → Dn H Z (.ref a) (.tuple ds)
  | dic {a : Addr} : H a = some (.dK []) → ¬ Z a → Dn H Z (.ref a) (.dict [])
  | dic1 {a : Addr} {k : Int} {v : V} {d : PyData} : H a = some (.dK [(.inl k, v)]) → ¬ Z a → Dn H Z v d → Dn H Z (.ref a) (.dict [(.int k, d)])
  | dicN {a : Addr} {kvs : List (Int × Int)} : H a = some (dicO kvs) → ¬ Z a → Dn H Z (.ref a) (.dict ((mkN, .none) :: kvs.map fun q => (.int q.1, .int q.2)))
inductive DnAll (H : Hp) (Z : Addr → Prop) : List V → List PyData → Prop
  | nil : DnAll H Z [] []
  | cons {v : V} {vs : List V} {d : PyData} {ds : List PyData} : Dn H Z v d → DnAll H Z vs ds → DnAll H Z (v :: vs) (d :: ds)
end
section
variable {H H' : Hp} {Z Z' : Addr → Prop}
mutual
theorem Dn.tr (k : ∀ a o, ¬ Z a → H a = some o → H' a = some o ∧ ¬ Z' a) : ∀ (v : V) (d : PyData), Dn H Z v d → Dn H' Z' v d
  | _, _, .non => .non
  | _, _, .bl b => .bl b
  | _, _, .int i => .int i
  | _, _, .str x => .str x
  | _, _, .lst h n r => .lst (k _ _ n h).1 (k _ _ n h).2 (DnAll.tr k _ _ r)
  | _, _, .tup h n r => .tup (h.tr fun o e => (k _ o n e).1) (let ⟨_, e, _⟩ := h; (k _ _ n e).2) (DnAll.tr k _ _ r)
  | _, _, .dic h n => .dic (k _ _ n h).1 (k _ _ n h).2
  | _, _, .dic1 h n r => .dic1 (k _ _ n h).1 (k _ _ n h).2 (Dn.tr k _ _ r)
  | _, _, .dicN h n => .dicN (k _ _ n h).1 (k _ _ n h).2
theorem DnAll.tr (k : ∀ a o, ¬ Z a → H a = some o → H' a = some o ∧ ¬ Z' a) : ∀ (vs : List V) (ds : List PyData), DnAll H Z vs ds → DnAll H' Z' vs ds
  | _, _, .nil => .nil
  | _, _, .cons a b => .cons (Dn.tr k _ _ a) (DnAll.tr k _ _ b)
end
theorem DnAll.length : ∀ {vs : List V} {ds : List PyData}, DnAll H Z vs ds → vs.length = ds.length
  | _, _, .nil => rfl
  | _, _, .cons _ b => by
    rw [List.length_cons, List.length_cons, b.length]
theorem DnAll.app : ∀ {vs ws : List V} {ds es : List PyData}, DnAll H Z vs ds → DnAll H Z ws es → DnAll H Z (vs ++ ws) (ds ++ es)
  | _, _, _, _, .nil, b => b
  | _, _, _, _, .cons a r, b => .cons a (r.app b)
theorem DnAll.get : ∀ {vs : List V} {ds : List PyData} {i : Nat} {d : PyData}, DnAll H Z vs ds → ds[i]? = some d → ∃ v, vs[i]? = some v ∧ Dn H Z v d
  | _, _, _, _, .nil, e => by simp at e
  | _, _, 0, _, .cons a _, e => by
    have e' := Option.some.inj e
    subst e'
    exact ⟨_, rfl, a⟩
  | _, _, i + 1, d, .cons _ r, e => by
    obtain ⟨v, h1, h2⟩ := DnAll.get (i := i) (d := d) r e
    exact ⟨v, h1, h2⟩
theorem DnAll.getV : ∀ {vs : List V} {ds : List PyData} {i : Nat} {v : V}, DnAll H Z vs ds → vs[i]? = some v → ∃ d, ds[i]? = some d ∧ Dn H Z v d
  | _, _, _, _, .nil, e => by simp at e
  | _, _, 0, _, .cons a _, e => by
    have e' := Option.some.inj e
    subst e'
    exact ⟨_, rfl, a⟩
  | _, _, i + 1, v, .cons _ r, e => by
    obtain ⟨d, h1, h2⟩ := DnAll.getV (i := i) (v := v) r e
    exact ⟨d, h1, h2⟩
theorem DnAll.drop : ∀ {vs : List V} {ds : List PyData} (n : Nat), DnAll H Z vs ds → DnAll H Z (vs.drop n) (ds.drop n)
  | _, _, 0, r => r
  | _, _, _ + 1, .nil => .nil
  | _, _, n + 1, .cons _ r => DnAll.drop n r
theorem DnAll.take : ∀ {vs : List V} {ds : List PyData} (n : Nat), DnAll H Z vs ds → DnAll H Z (vs.take n) (ds.take n)
  | _, _, 0, _ => .nil
  | _, _, _ + 1, .nil => .nil
  | _, _, n + 1, .cons a r => .cons a (DnAll.take n r)
theorem DnAll.set {v : V} {d : PyData} (a : Dn H Z v d) : ∀ {vs : List V} {ds : List PyData} (i : Nat), DnAll H Z vs ds → DnAll H Z (vs.set i v) (ds.set i d)
  | _, _, _, .nil => .nil
  | _, _, 0, .cons _ r => .cons a r
  | _, _, i + 1, .cons b r => .cons b (DnAll.set a i r)
theorem DnAll.rep {vs : List V} {ds : List PyData} (a : DnAll H Z vs ds) : ∀ k : Nat, DnAll H Z (List.replicate k vs).flatten (List.replicate k ds).flatten
  | 0 => .nil
  | k + 1 => by
    rw [List.replicate_succ, List.replicate_succ, List.flatten_cons, List.flatten_cons]
    exact a.app (DnAll.rep a k)
theorem DnAll.ints : ∀ {ns : List Int} {vs : List V}, DnAll H Z vs (ns.map PyData.int) → vs = ns.map V.int
  | [], _, .nil => rfl
  | n :: ns, _, .cons (.int _) r => by rw [r.ints]; rfl
theorem DnAll.of_ints : ∀ (ns : List Int), DnAll H Z (ns.map V.int) (ns.map PyData.int)
  | [] => .nil
  | n :: ns => .cons (.int n) (DnAll.of_ints ns)
theorem DnAll.bls : ∀ {ns : List Bool} {vs : List V}, DnAll H Z vs (ns.map PyData.bool) → vs = ns.map V.bl
  | [], _, .nil => rfl
  | n :: ns, _, .cons (.bl _) r => by rw [r.bls]; rfl
end
/-- for the layer's own rules of data -/
def noDict : PyData → Bool := fun d => !d.hasDict
mutual
theorem Dn.dp {K : PySem.W.Frag} {H : Hp} {Z : Addr → Prop} : ∀ (v : V) (d : PyData), Dn H Z v d → d.hasDict = false → Dp K H v d
  | _, _, .non, _ => .non
  | _, _, .bl b, _ => .bl b
  | _, _, .int i, _ => .int i
  | _, _, .str x, _ => .str x
  | _, _, .lst h _ r, e => .lst (SqL.of h) (DnAll.dp _ _ r (by simpa only [PyData.hasDict] using e))
  | _, _, .tup h _ r, e => .tup (SqT.of h) (DnAll.dp _ _ r (by simpa only [PyData.hasDict] using e))
  | _, _, .dic h _, e => by simp [PyData.hasDict] at e
  | _, _, .dic1 h _ _, e => by simp [PyData.hasDict] at e
  | _, _, .dicN h _, e => by simp [PyData.hasDict] at e
theorem DnAll.dp {K : PySem.W.Frag} {H : Hp} {Z : Addr → Prop} : ∀ (vs : List V) (ds : List PyData), DnAll H Z vs ds → PyData.hasDictAll ds = false → DpAll K H vs ds
  | _, _, .nil, _ => .nil
  | _, _, .cons a b, e => by
    simp only [PyData.hasDictAll, Bool.or_eq_false_iff] at e
    exact .cons (Dn.dp _ _ a e.1) (DnAll.dp _ _ b e.2)
end
theorem canLay_noDict {d : PyData} (h : SeqAt.shaped d = true) : d.hasDict = false := PyData.hasDict_of_canLay d (SeqAt.canLay_of_shaped h)

/-! rules of tuples that tell the new object -/
section
variable {X : Cx}
abbrev rTupA (K : PySem.W.Frag) : List V → Hp → VK → Prop := fun xs H Q => ∃ p ys, xs = [.ref p] ∧ ((SqL K H p ys ∧ ∀ (l : Addr) (o : Obj), H l = none → o.cls = .type "tuple" → o.dict = none → Q (.ref l) (upd H l (.frz o (.tup ys)))) ∨ (SqT K H p ys ∧ Q (.ref p) H))
theorem cr_tupA : CallR X (.type "tuple") (rTupA X.K) := by
  intro pins s σ H xs us Q I r h
  obtain ⟨p, ys, rfl, h⟩ := h
  rcases h with ⟨hq, q⟩ | ⟨hq, q⟩
  · obtain ⟨u, rfl, rx⟩ := vals1 r
    cases rx
    obtain ⟨its, r', pl, hz⟩ := I.list hq
    have hlen := r'.length
    refine call_tuple_list pl.isList (fun h' kp => ?_) (by simp only [List.size_toArray] <;> omega)
    have I1 : Inv X pins σ H { s with heap := h' } := I.kept (t' := s.toks) kp
    have I2 : Inv X pins σ (upd H h'.objs.size (.frz { cls := .type "tuple", data := .seq its.toArray } (.tup ys))) { s with heap := h'.push { cls := .type "tuple", data := .seq its.toArray } } :=
      I1.laid (t' := s.toks) (fun b o e => Heap.get?_push_of_some _ e) (Nat.le_refl _) (show ObjOk X.prog X.w _ _ _ (.frz _ (.tup ys)) from ⟨Heap.get?_push_size _ rfl, hz, its, r', IsTup.new _ _⟩)
    exact ⟨.ref h'.objs.size, _, I2, rfl, q _ _ (I1.hok.fresh (Nat.le_refl _)) rfl rfl⟩
  · exact call_tupleT pins s σ H _ us Q I r ⟨p, ys, rfl, hq, q⟩
def rSlA (K : PySem.W.Frag) : V → Option Int → Option Int → Hp → VK → Prop := fun x lo hi H Q => ∃ a xs, x = .ref a ∧ SqT K H a xs ∧
  (HT.sIx xs.length 0 lo = 0 ∧ HT.sIx xs.length xs.length hi = xs.length → Q (.ref a) H) ∧ (¬ (HT.sIx xs.length 0 lo = 0 ∧ HT.sIx xs.length xs.length hi = xs.length) → ∀ (p : Addr) (o : Obj), H p = none → o.cls = .type "tuple" → o.dict = none → Q (.ref p) (upd H p (.frz o (.tup (cutV xs lo hi)))))
theorem sl_tupA : SlR X (rSlA X.K) := by
  intro pins s σ H x v vl vu lo hi sl Q I rx hs pl pu h
  obtain ⟨a, xs, rfl, hx, q1, q2⟩ := h
  cases rx
  obtain ⟨its, r, ht, hz⟩ := I.tuple hx
  have hlen : its.toArray.size = xs.length := by rw [List.size_toArray]; exact r.length.symm
  refine ⟨"tuple", _, PyProof.Rows.slot_tuple_getitem.lookup, ht.typeIs, ?_⟩
  by_cases hw : HT.sIx xs.length 0 lo = 0 ∧ HT.sIx xs.length xs.length hi = xs.length
  · exact getItem_tuple_whole ht hs pl pu (by rw [hlen]; exact hw) ⟨.ref a, H, I, rfl, q1 hw⟩
  · refine HT.getItem_tuple_cut ht hs pl pu (by rw [hlen]; exact hw) ?_ (by rw [hlen]; exact hz)
    rw [hlen]
    refine ⟨.ref s.heap.objs.size, _, I.laid (t' := s.toks) (o := .frz { cls := .type "tuple", data := .seq (List.take (HT.sIx xs.length xs.length hi - HT.sIx xs.length 0 lo) (List.drop (HT.sIx xs.length 0 lo) its.toArray.toList)).toArray } (.tup (cutV xs lo hi))) (fun b ob q => Heap.get?_push_of_some _ q) (Nat.le_refl _) ?_, rfl, q2 hw _ _ (I.hok.fresh (Nat.le_refl _)) rfl rfl⟩
    exact ⟨Heap.get?_push_size _ rfl, Nat.le_trans (cutV_length xs lo hi) hz, _, (r.drop (HT.sIx xs.length 0 lo)).take (HT.sIx xs.length xs.length hi - HT.sIx xs.length 0 lo), IsTup.new _ _⟩
def rCatA (K : PySem.W.Frag) : R2 := fun x y H Q => ∃ a b xs ys, x = .ref a ∧ y = .ref b ∧ SqT K H a xs ∧ SqT K H b ys ∧ xs.length + ys.length ≤ sizeLine ∧
  (xs = [] → Q (.ref b) H) ∧ (xs ≠ [] → ys = [] → Q (.ref a) H) ∧ (xs ≠ [] → ys ≠ [] → ∀ (p : Addr) (o : Obj), H p = none → o.cls = .type "tuple" → o.dict = none → Q (.ref p) (upd H p (.frz o (.tup (xs ++ ys)))))
theorem op_catA : OpR X (binaryOp .Add) (rCatA X.K) := by
  intro pins s σ H x y v u Q I rx ry h
  obtain ⟨a, b, xs, ys, rfl, rfl, ha, hb, hz, q0, q1, q2⟩ := h
  cases rx
  cases ry
  obtain ⟨its, r1, p1, _⟩ := I.tuple ha
  obtain ⟨its2, r2, p2, _⟩ := I.tuple hb
  by_cases hx : xs = []
  · subst hx
    cases r1
    exact cat_tup0 p1 p2 ⟨.ref b, H, I, rfl, q0 rfl⟩
  · refine HT.cat_tup p1 p2 (fun z => hx (r1.nil_iff.mp z)) (fun z => ⟨.ref a, H, I, rfl, q1 hx (r2.nil_iff.mp z)⟩) (fun z => ?_) (by rw [← r1.length, ← r2.length]; exact hz)
    refine ⟨.ref s.heap.objs.size, _, I.laid (t' := s.toks) (o := .frz { cls := .type "tuple", data := .seq (its ++ its2).toArray } (.tup (xs ++ ys))) (fun b ob q => Heap.get?_push_of_some _ q) (Nat.le_refl _) ?_, rfl, q2 hx (fun w => z (r2.nil_iff.mpr w)) _ _ (I.hok.fresh (Nat.le_refl _)) rfl rfl⟩
    exact ⟨Heap.get?_push_size _ rfl, by rw [List.length_append]; exact hz, _, r1.append r2, IsTup.new _ _⟩
end
/-! ### cells -/
inductive Cell where
  | non
  | val (d : PyData)
  | own (ds : List PyData)
  | dic (kvs : List (Int × Int))
  | hob (o : HO)
  | well
  | raw (a : Addr)
abbrev Cells := List Cell
/-- what holds an object of one's own: a list, a dict -/
inductive Hold where
  | inl (ds : List PyData)
  | inr (kvs : List (Int × Int))
  | hob (o : HO)
def Cell.of : Hold → Cell
  | .inl ds => .own ds
  | .inr kvs => .dic kvs
  | .hob o => .hob o
def ZO (Z O : Addr → Prop) : Addr → Prop := fun a => Z a ∨ O a
def CellR (W : Wl) (Z O : Addr → Prop) (H : Hp) : Cell → Option (Option V) → Prop
  | .non, _ => True
  | .val d, s => ∃ v, s = some (some v) ∧ Dn H (ZO Z O) v d
  | .own ds, s => ∃ p xs, s = some (some (.ref p)) ∧ O p ∧ H p = some (.lst xs) ∧ DnAll H (ZO Z O) xs ds
  | .dic kvs, s => ∃ p, s = some (some (.ref p)) ∧ O p ∧ H p = some (dicO kvs)
  | .hob o, s => ∃ p, s = some (some (.ref p)) ∧ O p ∧ H p = some o
  | .well, s => ∃ w c, W = some (w, c) ∧ s = some (some (.ref w))
  | .raw a, s => s = some (some (.ref a))
structure RelB (W : Wl) (Z O : Addr → Prop) (env : Cells) (σ : L2.St) (H0 H : Hp) : Prop where
  ge : Ge W H0 H
  wl : WOk W H
  mz : ∀ a, Mu W a → Z a
  za : ∀ a, Z a → NT (H0 a)
  oz : ∀ a, O a → H0 a = none
  oh : ∀ a, O a → NT (H a)
  len : env.length = σ.length
  cell : ∀ (i : Nat) (c : Cell), env[i]? = some c → CellR W Z O H c σ[i]?
  uniq : ∀ (i j : Nat) (ds es : Hold) (p : Addr), env[i]? = some (Cell.of ds) → env[j]? = some (Cell.of es) → σ[i]? = some (some (.ref p)) → σ[j]? = some (some (.ref p)) → i = j
/-- outside of Z and O nothing changes -/
def Kp (Z O : Addr → Prop) (H1 H : Hp) : Prop := ∀ a o, ¬ ZO Z O a → H1 a = some o → H a = some o
/-- what a statement may do: outside of Z and O nothing; one's own lists of the end are those of the start, or new -/
structure Stp (Z O O' : Addr → Prop) (H H' : Hp) : Prop where
  kp : Kp Z O H H'
  on : ∀ a, O' a → O a ∨ H a = none
  th : ∀ a, H' a = none → H a = none
section
variable {W : Wl} {Z O O' O2 : Addr → Prop} {H H' H2 : Hp}
theorem Stp.refl : Stp Z O O H H := ⟨fun _ _ _ e => e, fun _ h => .inl h, fun _ h => h⟩
theorem Stp.trans (a : Stp Z O O' H H') (b : Stp Z O' O2 H' H2) : Stp Z O O2 H H2 := by
  have no : ∀ x u, ¬ ZO Z O x → H x = some u → ¬ ZO Z O' x := fun x u z e q => by
    rcases q with q | q
    · exact z (.inl q)
    · rcases a.on x q with q | q
      · exact z (.inr q)
      · rw [q] at e
        cases e
  refine ⟨fun x u z e => b.kp x u (no x u z e) (a.kp x u z e), fun x q => ?_, fun x q => a.th x (b.th x q)⟩
  rcases b.on x q with q | q
  · exact a.on x q
  · exact .inr (a.th x q)
theorem Stp.ge (g : Ge W H H') (wo : WOk W H) (mz : ∀ a, Mu W a → Z a) : Stp Z O O H H' := ⟨fun a o z e => g.keep a o (fun m => z (.inl (mz a m))) e, fun _ h => .inl h, fun a h => g.fresh wo h⟩
end
/-- what is wished of exceptions: E at the hand layer, D over data (a class without arguments, by its name), mg: where the classes stand -/
class XCtx where
  E : WX
  D : Str → Cells → Prop
  mg : Str → Option Value
instance (priority := low) xc0 : XCtx := ⟨fun _ _ _ _ => False, fun _ _ => False, fun _ => none⟩
structure XR (ξ : XCtx) (W : Wl) (Z : Addr → Prop) (H0 : Hp) (O : Addr → Prop) (H : Hp) : Prop where
  ex : ∀ (x : Str) (C : Addr) (O' : Addr → Prop) (env : Cells) (σ : L2.St) (H' : Hp), ξ.mg x = some (.ref C) → RelB W Z O' env σ H0 H' → Stp Z O O' H H' → ξ.D x env → ξ.E (.ref C) none σ H'
theorem XR.step {ξ : XCtx} {W : Wl} {Z O O1 : Addr → Prop} {H0 H H1 : Hp} (S : XR ξ W Z H0 O H) (st : Stp Z O O1 H H1) : XR ξ W Z H0 O1 H1 := ⟨fun x C O' env σ H' hm R s hd => S.ex x C O' env σ H' hm R (st.trans s) hd⟩
structure Rel [ξ : XCtx] (W : Wl) (Z O : Addr → Prop) (env : Cells) (σ : L2.St) (H0 H : Hp) : Prop extends RelB W Z O env σ H0 H where
  xr : XR ξ W Z H0 O H
section
variable {W : Wl} {Z O : Addr → Prop} {env : Cells} {σ : L2.St} {H0 H H' : Hp}
theorem CellR.ge {c : Cell} {s : Option (Option V)} (k : ∀ a o, ¬ Mu W a → H a = some o → H' a = some o) (mz : ∀ a, Mu W a → Z a) (om : ∀ a, O a → ¬ Mu W a) (h : CellR W Z O H c s) : CellR W Z O H' c s := by
  have k' : ∀ a o, ¬ ZO Z O a → H a = some o → H' a = some o ∧ ¬ ZO Z O a := fun a o n e => ⟨k a o (fun m => n (.inl (mz a m))) e, n⟩
  cases c with
  | non => trivial
  | val d =>
    obtain ⟨v, e, q⟩ := h
    exact ⟨v, e, Dn.tr k' _ _ q⟩
  | own ds =>
    obtain ⟨p, xs, e, o, hp, q⟩ := h
    exact ⟨p, xs, e, o, k _ _ (om _ o) hp, DnAll.tr k' _ _ q⟩
  | dic kvs =>
    obtain ⟨p, e, o, hp⟩ := h
    exact ⟨p, e, o, k _ _ (om _ o) hp⟩
  | hob ho =>
    obtain ⟨p, e, o, hp⟩ := h
    exact ⟨p, e, o, k _ _ (om _ o) hp⟩
  | well => exact h
  | raw a => exact h
variable [XCtx]
theorem Rel.om (R : Rel W Z O env σ H0 H) : ∀ a, O a → ¬ Mu W a := fun a o m => (R.za a (R.mz a m)).1 (R.oz a o)
theorem Rel.tr (R : Rel W Z O env σ H0 H) (g : Ge W H H') : Rel W Z O env σ H0 H' where
  ge := R.ge.trans g
  wl := g.wl R.wl
  mz := R.mz
  za := R.za
  oz := R.oz
  oh := fun a o => by
    cases q : H a with
    | none => exact absurd q (R.oh a o).1
    | some u =>
      rw [g.keep a u (R.om a o) q, ← q]
      exact R.oh a o
  len := R.len
  cell := fun i c e => (R.cell i c e).ge g.keep R.mz R.om
  uniq := R.uniq
  xr := R.xr.step (.ge g R.wl R.mz)
theorem Dn.ge {v : V} {d : PyData} (h : Dn H (ZO Z O) v d) (g : Ge W H H') (mz : ∀ a, Mu W a → Z a) : Dn H' (ZO Z O) v d :=
  Dn.tr (fun a o n e => ⟨g.keep a o (fun m => n (.inl (mz a m))) e, n⟩) _ _ h
theorem DnAll.ge {v : List V} {d : List PyData} (h : DnAll H (ZO Z O) v d) (g : Ge W H H') (mz : ∀ a, Mu W a → Z a) : DnAll H' (ZO Z O) v d :=
  DnAll.tr (fun a o n e => ⟨g.keep a o (fun m => n (.inl (mz a m))) e, n⟩) _ _ h
/-- a new address is none of what must not be touched -/
theorem Rel.new (R : Rel W Z O env σ H0 H) {p : Addr} (h : H p = none) : ¬ ZO Z O p := by
  rintro (z | o)
  · cases q : H0 p with
    | none => exact (R.za p z).1 q
    | some o => exact R.ge.there R.wl q h
  · exact (R.oh p o).1 h
/-- what a slot holds is one's own -/
theorem Rel.holds (R : Rel W Z O env σ H0 H) {i : Nat} {x : Hold} (e : env[i]? = some (Cell.of x)) : ∃ q, σ[i]? = some (some (.ref q)) ∧ O q := by
  cases x with
  | inl ds =>
    obtain ⟨q, _, e1, oq, _⟩ := R.cell i _ e
    exact ⟨q, e1, oq⟩
  | inr kvs =>
    obtain ⟨q, e1, oq, _⟩ := R.cell i _ e
    exact ⟨q, e1, oq⟩
  | hob ho =>
    obtain ⟨q, e1, oq, _⟩ := R.cell i _ e
    exact ⟨q, e1, oq⟩
theorem Rel.zmu (R : Rel W Z O env σ H0 H) {p : Addr} (h : ¬ ZO Z O p) : ¬ Mu W p := fun m => h (.inl (R.mz p m))
end
end Dw

set_option maxRecDepth 100000
set_option maxHeartbeats 4000000
/-! Dw1: expressions over data. -/
namespace Dw
open PySem PySem.Spec PyProof.Rows L2
variable [XCtx]

abbrev ME := Cells → (PyData → Prop) → Prop
abbrev ML := Cells → (List PyData → Prop) → Prop
abbrev MT := Cells → (Bool → Prop) → Prop
abbrev MC := Cells → (List Cell → Prop) → Prop

def isN : PyData → Bool
  | .none => true
  | _ => false
/-- data, or a list of one's own whose items are data -/
def Tn (W : Wl) (H : Hp) (Z : Addr → Prop) (v : V) (d : PyData) : Prop :=
  Dn H Z v d ∨ ∃ p xs ds, v = .ref p ∧ d = .list ds ∧ ¬ Mu W p ∧ H p = some (.lst xs) ∧ DnAll H Z xs ds
inductive TnAll (W : Wl) (H : Hp) (Z : Addr → Prop) : List V → List PyData → Prop
  | nil : TnAll W H Z [] []
  | cons {v : V} {vs : List V} {d : PyData} {ds : List PyData} : Tn W H Z v d → TnAll W H Z vs ds → TnAll W H Z (v :: vs) (d :: ds)
section
variable {W : Wl} {Z O : Addr → Prop} {H H' : Hp} {v : V} {d : PyData}
theorem Tn.ge (h : Tn W H (ZO Z O) v d) (g : Ge W H H') (mz : ∀ a, Mu W a → Z a) : Tn W H' (ZO Z O) v d := by
  rcases h with h | ⟨p, xs, ds, e1, e2, n, hp, r⟩
  · exact .inl (h.ge g mz)
  · exact .inr ⟨p, xs, ds, e1, e2, n, g.keep _ _ n hp, r.ge g mz⟩
theorem TnAll.ge (g : Ge W H H') (mz : ∀ a, Mu W a → Z a) : ∀ {vs : List V} {ds : List PyData}, TnAll W H (ZO Z O) vs ds → TnAll W H' (ZO Z O) vs ds
  | _, _, .nil => .nil
  | _, _, .cons a b => .cons (a.ge g mz) (TnAll.ge g mz b)
theorem DnAll.tn {W : Wl} : ∀ {vs : List V} {ds : List PyData}, DnAll H Z vs ds → TnAll W H Z vs ds
  | _, _, .nil => .nil
  | _, _, .cons a b => .cons (.inl a) (DnAll.tn b)
/-- for a list, what stands there -/
theorem Tn.list {ds : List PyData} (h : Tn W H Z v (.list ds)) : ∃ p xs, v = .ref p ∧ H p = some (.lst xs) ∧ DnAll H Z xs ds := by
  rcases h with h | ⟨p, xs, es, e1, e2, _, hp, r⟩
  · cases h with
    | lst hp _ r => exact ⟨_, _, rfl, hp, r⟩
  · cases e2
    exact ⟨p, xs, e1, hp, r⟩
theorem Tn.tuple {ds : List PyData} (h : Tn W H Z v (.tuple ds)) : ∃ p xs, v = .ref p ∧ TupAt H p xs ∧ ¬ Z p ∧ DnAll H Z xs ds := by
  rcases h with h | ⟨p, xs, es, e1, e2, _⟩
  · cases h with
    | tup hp n r => exact ⟨_, _, rfl, hp, n, r⟩
  · cases e2
theorem Tn.int {i : Int} (h : Tn W H Z v (.int i)) : v = .int i := by
  rcases h with h | ⟨p, xs, es, e1, e2, _⟩
  · cases h
    rfl
  · cases e2
theorem Tn.bool {i : Bool} (h : Tn W H Z v (.bool i)) : v = .bl i := by
  rcases h with h | ⟨p, xs, es, e1, e2, _⟩
  · cases h
    rfl
  · cases e2
theorem Tn.str {i : Str} (h : Tn W H Z v (.str i)) : v = .str i := by
  rcases h with h | ⟨p, xs, es, e1, e2, _⟩
  · cases h
    rfl
  · cases e2
theorem Tn.none (h : Tn W H Z v .none) : v = .non := by
  rcases h with h | ⟨p, xs, es, e1, e2, _⟩
  · cases h
    rfl
  · cases e2
theorem Tn.isNone (h : Tn W H Z v d) : decide (v = .non) = isN d := by
  rcases h with h | ⟨p, xs, es, rfl, rfl, _⟩
  · cases h <;> first | rfl | exact decide_eq_false (fun q => nomatch q)
  · exact decide_eq_false (fun q => nomatch q)
theorem Tn.dp {K : PySem.W.Frag} (h : Tn W H Z v d) (e : d.hasDict = false) : Dp K H v d := by
  rcases h with h | ⟨p, xs, ds, rfl, rfl, _, hp, r⟩
  · exact Dn.dp _ _ h e
  · exact .lst (SqL.of hp) (DnAll.dp _ _ r (by simpa only [PyData.hasDict] using e))
end

section
variable {Z O : Addr → Prop} {H : Hp}
/-- a new list of one's own stands at p -/
theorem Dn.own {v : V} {d : PyData} {p : Addr} {o : HO} (h : H p = none) (n : Dn H (ZO Z O) v d) : Dn (upd H p o) (ZO Z fun a => O a ∨ a = p) v d :=
  Dn.tr (fun a u z e => ⟨by rw [upd_ne (ne_of_none e h)]; exact e, by
    rintro (q | q | q)
    · exact z (.inl q)
    · exact z (.inr q)
    · exact ne_of_none e h q⟩) _ _ n
theorem DnAll.own {v : List V} {d : List PyData} {p : Addr} {o : HO} (h : H p = none) (n : DnAll H (ZO Z O) v d) : DnAll (upd H p o) (ZO Z fun a => O a ∨ a = p) v d :=
  DnAll.tr (fun a u z e => ⟨by rw [upd_ne (ne_of_none e h)]; exact e, by
    rintro (q | q | q)
    · exact z (.inl q)
    · exact z (.inr q)
    · exact ne_of_none e h q⟩) _ _ n
/-- .. forgotten again -/
theorem DnAll.unown {v : List V} {d : List PyData} {p : Addr} (n : DnAll H (ZO Z fun a => O a ∨ a = p) v d) : DnAll H (ZO Z O) v d :=
  DnAll.tr (fun a u z q => ⟨q, fun y => z (y.imp id .inl)⟩) _ _ n
end

/-! ### judgements -/
def ES (t : TE) (m : ME) : Prop := ∀ (W : Wl) (Z O : Addr → Prop) (env : Cells) (σ : L2.St) (H0 H : Hp) (P : PyData → Prop) (Q : VK), Rel W Z O env σ H0 H → m env P →
  (∀ d v H', P d → Ge W H H' → Dn H' (ZO Z O) v d → Q v H') → t σ H Q
def BS (t : TE) (m : ME) : Prop := ∀ (W : Wl) (Z O : Addr → Prop) (env : Cells) (σ : L2.St) (H0 H : Hp) (P : PyData → Prop) (Q : VK), Rel W Z O env σ H0 H → m env P →
  (∀ d v H', P d → Ge W H H' → Tn W H' (ZO Z O) v d → Q v H') → t σ H Q
def FS (t : TE) (m : ML) : Prop := ∀ (W : Wl) (Z O : Addr → Prop) (env : Cells) (σ : L2.St) (H0 H : Hp) (P : List PyData → Prop) (Q : VK), Rel W Z O env σ H0 H → m env P →
  (∀ ds p xs H', P ds → Ge W H H' → H p = none → H' p = some (.lst xs) → DnAll H' (ZO Z fun a => O a ∨ a = p) xs ds → Q (.ref p) H') → t σ H Q
def QS (t : TT) (m : MT) : Prop := ∀ (W : Wl) (Z O : Addr → Prop) (env : Cells) (σ : L2.St) (H0 H : Hp) (P : Bool → Prop) (Q : Bool → Hp → Prop), Rel W Z O env σ H0 H → m env P →
  (∀ b H', P b → Ge W H H' → Q b H') → t σ H Q
def AS (n : Nat) (t : TA) (m : ML) : Prop := ∀ (W : Wl) (Z O : Addr → Prop) (env : Cells) (σ : L2.St) (H0 H : Hp) (P : List PyData → Prop) (Q : List V → Hp → Prop), Rel W Z O env σ H0 H → m env P →
  (∀ ds vs H', P ds → ds.length = n → Ge W H H' → DnAll H' (ZO Z O) vs ds → Q vs H') → t σ H Q
def AbS (t : TA) (m : ML) : Prop := ∀ (W : Wl) (Z O : Addr → Prop) (env : Cells) (σ : L2.St) (H0 H : Hp) (P : List PyData → Prop) (Q : List V → Hp → Prop), Rel W Z O env σ H0 H → m env P →
  (∀ ds vs H', P ds → Ge W H H' → TnAll W H' (ZO Z O) vs ds → Q vs H') → t σ H Q
/-- clean data; data or one's own list; a new list; a test; arguments -/
structure JE (X : Cx) (e : Expr) (t : TE) (m : ME) : Prop where
  pe : PE X e t
  es : ES t m
structure JB (X : Cx) (e : Expr) (t : TE) (m : ME) : Prop where
  pe : PE X e t
  es : BS t m
structure JF (X : Cx) (e : Expr) (t : TE) (m : ML) : Prop where
  pe : PE X e t
  es : FS t m
structure JT (X : Cx) (e : Expr) (t : TT) (m : MT) : Prop where
  pe : PT X e t
  es : QS t m
structure JA (X : Cx) (n : Nat) (es : List Expr) (t : TA) (m : ML) : Prop where
  pe : PA X es t
  es : AS n t m
structure JAb (X : Cx) (es : List Expr) (t : TA) (m : ML) : Prop where
  pe : PA X es t
  es : AbS t m

/-! ### forms of meanings -/
def mVar (i : Nat) : ME := fun env P => match env[i]? with
  | some (.val d) => P d
  | _ => False
def mVarB (i : Nat) : ME := fun env P => match env[i]? with
  | some (.val d) => P d
  | some (.own ds) => P (.list ds)
  | _ => False
def mC (d : PyData) : ME := fun _ P => P d
def mNil : ML := fun _ P => P []
def mCons (A : ME) (B : ML) : ML := fun env P => A env fun d => B env fun ds => P (d :: ds)
def mTup (A : ML) : ME := fun env P => A env fun ds => P (.tuple ds)
def mList (A : ML) : ME := fun env P => A env fun ds => P (.list ds)
def onI2 (x y : PyData) (k : Int → Int → Prop) : Prop := match x, y with
  | .int i, .int j => k i j
  | _, _ => False
def onI (x : PyData) (k : Int → Prop) : Prop := match x with
  | .int i => k i
  | _ => False
def onL (x : PyData) (k : List PyData → Prop) : Prop := match x with
  | .list ds => k ds
  | _ => False
def onU (x : PyData) (k : List PyData → Prop) : Prop := match x with
  | .tuple ds => k ds
  | _ => False
/-- a list or a tuple -/
def onLU (x : PyData) (k : List PyData → Prop) : Prop := match x with
  | .list ds => k ds
  | .tuple ds => k ds
  | _ => False
def onB (x : PyData) (k : Bool → Prop) : Prop := match x with
  | .bool b => k b
  | _ => False
def onS (x : PyData) (k : Str → Prop) : Prop := match x with
  | .str b => k b
  | _ => False
def m2 (f : PyData → PyData → (PyData → Prop) → Prop) (A B : ME) : ME := fun env P => A env fun x => B env fun y => f x y P
def m1 (f : PyData → (PyData → Prop) → Prop) (A : ME) : ME := fun env P => A env fun x => f x P
def fI (f : Int → Int → PyData) (x y : PyData) (P : PyData → Prop) : Prop := onI2 x y fun i j => P (f i j)
def fIC (C : Int → Int → Prop) (f : Int → Int → PyData) (x y : PyData) (P : PyData → Prop) : Prop := onI2 x y fun i j => C i j ∧ P (f i j)
def fAdd := fI fun i j => .int (i + j)
def fSub := fI fun i j => .int (i - j)
def fMul := fIC CMul fun i j => .int (i * j)
def fDiv := fIC CDivN fun i j => .int (i.fdiv j)
def fMod := fIC (fun _ j => j ≠ 0) fun i j => .int (i.fmod j)
def fPow := fIC CPow fun i j => .int (i ^ j.toNat)
def fLt := fI fun i j => .bool (decide (i < j))
def fLe := fI fun i j => .bool (decide (i ≤ j))
def fGt := fI fun i j => .bool (decide (j < i))
def fGe := fI fun i j => .bool (decide (j ≤ i))
def fEq (x y : PyData) (P : PyData → Prop) : Prop := SeqAt.shaped x = true ∧ SeqAt.shaped y = true ∧ P (.bool (PyData.eqv x y))
def fNe (x y : PyData) (P : PyData → Prop) : Prop := SeqAt.shaped x = true ∧ SeqAt.shaped y = true ∧ P (.bool (!PyData.eqv x y))
def fIsN (x : PyData) (P : PyData → Prop) : Prop := P (.bool (isN x))
def fNotN (x : PyData) (P : PyData → Prop) : Prop := P (.bool (!isN x))
def fNeg (x : PyData) (P : PyData → Prop) : Prop := onI x fun i => P (.int (-i))
def atD (ds : List PyData) (i : Int) (P : PyData → Prop) : Prop := match atI ds i with
  | some d => P d
  | none => False
def fIx (o i : PyData) (P : PyData → Prop) : Prop := onI i fun k => match o with
  | .list ds => atD ds k P
  | .tuple ds => atD ds k P
  | .str z => z.length ≤ sizeLine ∧ (match atI z.cps.toList k with
    | some c => P (.str ⟨#[c]⟩)
    | none => False)
  | _ => False

section
variable {X : Cx} {e a b c : Expr} {es : List Expr} {t ta tb tc : TE} {m A B C : ME} {pos : Pos}

theorem JE.jb (h : JE X e t m) : JB X e t m := ⟨h.pe, fun W Z O env σ H0 H P Q R hm k => h.es W Z O env σ H0 H P Q R hm fun d v H' p g n => k d v H' p g (.inl n)⟩
theorem JF.je {m : ML} (h : JF X e t m) : JE X e t (mList m) := ⟨h.pe, fun W Z O env σ H0 H P Q R hm k => h.es W Z O env σ H0 H _ Q R hm fun ds p xs H' hp g n0 h1 n => k (.list ds) _ H' hp g (.lst h1 (fun z => (R.new n0) z) n.unown)⟩

/-! ### names, constants, displays -/
theorem je_var (i : Nat) {x : Str} (hN : X.N[i]? = some x := by rfl) (hv : Vis X.env.scope x := by first | exact Or.inl rfl | exact Or.inr (Or.inl rfl) | exact Or.inr (Or.inr rfl)) (hd : (x == ("__debug__" : Str)) = false := by decide)
    (hcd : (x == ("__classdict__" : Str)) = false := by decide) : JE X (.Name x pos) (tVar i) (mVar i) := by
  refine ⟨pe_var hN hv hd hcd, fun W Z O env σ H0 H P Q R hm k => ?_⟩
  unfold mVar at hm
  cases q : env[i]? with
  | none =>
    rw [q] at hm
    exact hm.elim
  | some c =>
    rw [q] at hm
    cases c with
    | val d =>
      obtain ⟨v, e, n⟩ := R.cell i _ q
      exact ⟨v, e, k d v H hm .refl n⟩
    | _ => exact hm.elim
theorem jb_var (i : Nat) {x : Str} (hN : X.N[i]? = some x := by rfl) (hv : Vis X.env.scope x := by first | exact Or.inl rfl | exact Or.inr (Or.inl rfl) | exact Or.inr (Or.inr rfl)) (hd : (x == ("__debug__" : Str)) = false := by decide)
    (hcd : (x == ("__classdict__" : Str)) = false := by decide) : JB X (.Name x pos) (tVar i) (mVarB i) := by
  refine ⟨pe_var hN hv hd hcd, fun W Z O env σ H0 H P Q R hm k => ?_⟩
  unfold mVarB at hm
  cases q : env[i]? with
  | none =>
    rw [q] at hm
    exact hm.elim
  | some c =>
    rw [q] at hm
    cases c with
    | val d =>
      obtain ⟨v, e, n⟩ := R.cell i _ q
      exact ⟨v, e, k d v H hm .refl (.inl n)⟩
    | own ds =>
      obtain ⟨p, xs, e, o, hp, n⟩ := R.cell i _ q
      exact ⟨_, e, k _ _ H hm .refl (.inr ⟨p, xs, ds, rfl, rfl, R.om p o, hp, n⟩)⟩
    | _ => exact hm.elim
theorem je_int {i j} : JE X (.Constant (.int i) j pos) (tC (.int i)) (mC (.int i)) := ⟨pe_int, fun W Z O env σ H0 H P Q R hm k => k _ _ H hm .refl (.int i)⟩
theorem je_bl {i j} : JE X (.Constant (.bool i) j pos) (tC (.bl i)) (mC (.bool i)) := ⟨pe_bl, fun W Z O env σ H0 H P Q R hm k => k _ _ H hm .refl (.bl i)⟩
theorem je_non {j} : JE X (.Constant .none j pos) (tC .non) (mC .none) := ⟨pe_non, fun W Z O env σ H0 H P Q R hm k => k _ _ H hm .refl .non⟩
theorem je_str {i j} : JE X (.Constant (.str i) j pos) (tC (.str i)) (mC (.str i)) := ⟨pe_str, fun W Z O env σ H0 H P Q R hm k => k _ _ H hm .refl (.str i)⟩
/-- a module's int or text -/
theorem je_glI {x : Str} {i : Int} {u : Value} (hg : Gl X x) (hm : X.mg x = some u) (r : RelV (.int i) u) (hd : (x == ("__debug__" : Str)) = false := by decide) : JE X (.Name x pos) (tC (.int i)) (mC (.int i)) :=
  ⟨pe_glob hg hm r hd, fun W Z O env σ H0 H P Q R hm k => k _ _ H hm .refl (.int i)⟩
theorem je_glS {x : Str} {i : Str} {u : Value} (hg : Gl X x) (hm : X.mg x = some u) (r : RelV (.str i) u) (hd : (x == ("__debug__" : Str)) = false := by decide) : JE X (.Name x pos) (tC (.str i)) (mC (.str i)) :=
  ⟨pe_glob hg hm r hd, fun W Z O env σ H0 H P Q R hm k => k _ _ H hm .refl (.str i)⟩

theorem ja_nil : JA X 0 [] tNil mNil := ⟨pa_nil, fun W Z O env σ H0 H P Q R hm k => k [] [] H hm rfl .refl .nil⟩
theorem ja_cons {n : Nat} {tr : TA} {M : ML} (h : JE X e t m) (hr : JA X n es tr M) (hs : starEach (e :: es) X.env = (false, eval e X.env) :: starEach es X.env := by rfl) : JA X (n + 1) (e :: es) (tCons t tr) (mCons m M) := by
  refine ⟨pa_cons h.pe hr.pe hs, fun W Z O env σ H0 H P Q R hm k => ?_⟩
  refine h.es W Z O env σ H0 H _ _ R hm fun d v H1 p1 g1 n1 => ?_
  refine hr.es W Z O env σ H0 H1 _ _ (R.tr g1) p1 fun ds vs H2 p2 l2 g2 n2 => ?_
  exact k (d :: ds) (v :: vs) H2 p2 (by rw [List.length_cons, l2]) (g1.trans g2) (.cons (n1.ge g2 R.mz) n2)
theorem jab_nil : JAb X [] tNil mNil := ⟨pa_nil, fun W Z O env σ H0 H P Q R hm k => k [] [] H hm .refl .nil⟩
theorem jab_cons {tr : TA} {M : ML} (h : JB X e t m) (hr : JAb X es tr M) (hs : starEach (e :: es) X.env = (false, eval e X.env) :: starEach es X.env := by rfl) : JAb X (e :: es) (tCons t tr) (mCons m M) := by
  refine ⟨pa_cons h.pe hr.pe hs, fun W Z O env σ H0 H P Q R hm k => ?_⟩
  refine h.es W Z O env σ H0 H _ _ R hm fun d v H1 p1 g1 n1 => ?_
  refine hr.es W Z O env σ H0 H1 _ _ (R.tr g1) p1 fun ds vs H2 p2 g2 n2 => ?_
  exact k (d :: ds) (v :: vs) H2 p2 (g1.trans g2) (.cons (n1.ge g2 R.mz) n2)
theorem small_line {n : Nat} (h : n ≤ 100000) : n ≤ sizeLine := Nat.le_trans h (by rw [sizeLine_eq]; decide)
theorem DnAll.new {H : Hp} {Z : Addr → Prop} {p : Addr} {o : HO} (h : H p = none) {vs : List V} {ds : List PyData} (n : DnAll H Z vs ds) : DnAll (upd H p o) Z vs ds :=
  DnAll.tr (fun a u z e => ⟨by rw [upd_ne (ne_of_none e h)]; exact e, z⟩) _ _ n
theorem Dn.new {H : Hp} {Z : Addr → Prop} {p : Addr} {o : HO} (h : H p = none) {vs : V} {ds : PyData} (n : Dn H Z vs ds) : Dn (upd H p o) Z vs ds :=
  Dn.tr (fun a u z e => ⟨by rw [upd_ne (ne_of_none e h)]; exact e, z⟩) _ _ n
def tTup (t : TA) : TE := fun σ H Q => t σ H fun xs H1 => xs.length ≤ sizeLine ∧ ∀ (p : Addr) (o : Obj), H1 p = none → o.cls = .type "tuple" → o.dict = none → Q (.ref p) (upd H1 p (.frz o (.tup xs)))
theorem pe_tup {X : Cx} {es : List Expr} {t : TA} {pos : Pos} {x1} (h : PA X es t) : PE X (.Tuple es x1 pos) (tTup t) := by
  refine ⟨fun pins s σ H Q I hq => ?_⟩
  refine wpAny_Tuple_spliced (thn (h.run pos pins s σ H _ I hq) fun us s1 ⟨xs, H1, I1, r, z, q⟩ => ⟨by rw [← r.length]; exact z, ?_⟩)
  have hf : H1 s1.heap.objs.size = none := I1.hok.fresh (Nat.le_refl _)
  refine ⟨.ref s1.heap.objs.size, upd H1 s1.heap.objs.size (.frz { cls := .type "tuple", data := .seq us.toArray } (.tup xs)), I1.laid (t' := s1.toks) (fun b u e => Heap.get?_push_of_some _ e) (Nat.le_refl _) ?_, rfl, q _ _ hf rfl rfl⟩
  exact (show ObjOk X.prog X.w _ _ _ (.frz _ (.tup xs)) from ⟨Heap.get?_push_size _ rfl, z, us, r, ⟨_, Heap.get?_push_size _ rfl, rfl, _, rfl⟩⟩)
theorem je_tup {n : Nat} {tr : TA} {M : ML} {x1} (h : JA X n es tr M) (hn : n ≤ 100000 := by decide) : JE X (.Tuple es x1 pos) (tTup tr) (mTup M) := by
  refine ⟨pe_tup h.pe, fun W Z O env σ H0 H P Q R hm k => ?_⟩
  refine h.es W Z O env σ H0 H _ _ R hm fun ds vs H1 p1 l1 g1 n1 => ⟨by rw [n1.length, l1]; exact small_line hn, fun p o hp hc hd => ?_⟩
  exact k (.tuple ds) _ _ p1 (g1.new' hp) (.tup (TupAt.up hc hd) ((R.tr g1).new hp) (n1.new hp))
theorem jf_lst {n : Nat} {tr : TA} {M : ML} (h : JA X n es tr M) (hn : n ≤ 100000 := by decide) : JF X (.List es pos) (tLst tr) M := by
  refine ⟨pe_lst h.pe, fun W Z O env σ H0 H P Q R hm k => ?_⟩
  refine h.es W Z O env σ H0 H _ _ R hm fun ds vs H1 p1 l1 g1 n1 => ⟨by rw [n1.length, l1]; exact small_line hn, fun p hp => ?_⟩
  exact k ds p vs _ p1 (g1.new' hp) (g1.fresh R.wl hp) upd_same (n1.own hp)

/-! ### operators -/
/-- an operator on two borrowed values, its answer clean -/
def R2S (r : R2) (f : PyData → PyData → (PyData → Prop) → Prop) : Prop := ∀ (W : Wl) (Z O : Addr → Prop) (env : Cells) (σ : L2.St) (H0 H : Hp) (x y : V) (d d' : PyData) (P : PyData → Prop) (Q : VK), Rel W Z O env σ H0 H →
  Tn W H (ZO Z O) x d → Tn W H (ZO Z O) y d' → f d d' P → (∀ z v H', P z → Ge W H H' → Dn H' (ZO Z O) v z → Q v H') → r x y H Q
theorem op_sound {r : R2} {f : PyData → PyData → (PyData → Prop) → Prop} (ha : BS ta A) (hb : BS tb B) (hr : R2S r f) : ES (tOp r ta tb) (m2 f A B) := by
  intro W Z O env σ H0 H P Q R hm k
  refine ha W Z O env σ H0 H _ _ R hm fun d v H1 p1 g1 n1 => ?_
  refine hb W Z O env σ H0 H1 _ _ (R.tr g1) p1 fun d' v' H2 p2 g2 n2 => ?_
  exact hr W Z O env σ H0 H2 v v' d d' P Q ((R.tr g1).tr g2) (n1.ge g2 R.mz) n2 p2 fun z w H3 p3 g3 n3 => k z w H3 p3 ((g1.trans g2).trans g3) n3
theorem je_op {op : Operator} {r : R2} {f : PyData → PyData → (PyData → Prop) → Prop} (ho : OpR X (binaryOp op) r) (hs : R2S r f) (ha : JB X a ta A) (hb : JB X b tb B) : JE X (.BinOp a op b pos) (tOp r ta tb) (m2 f A B) :=
  ⟨pe_op ho ha.pe hb.pe, op_sound ha.es hb.es hs⟩
theorem je_cmp {op : CmpOp} {r : R2} {f : PyData → PyData → (PyData → Prop) → Prop} (ho : OpR X (compareOp op) r) (hs : R2S r f) (ha : JB X a ta A) (hb : JB X b tb B) (hm : behindInMarks op b = false) : JE X (.Compare a [op] [b] pos) (tOp r ta tb) (m2 f A B) :=
  ⟨pe_cmpR ho ha.pe hb.pe hm, op_sound ha.es hb.es hs⟩
theorem onI2_iff {x y : PyData} {k : Int → Int → Prop} (h : onI2 x y k) : ∃ i j, x = .int i ∧ y = .int j ∧ k i j := by
  unfold onI2 at h
  split at h
  · exact ⟨_, _, rfl, rfl, h⟩
  · exact h.elim
theorem s_I {g : Int → Int → V} {f : Int → Int → PyData} (hg : ∀ i j H Z, Dn H Z (g i j) (f i j)) : R2S (rI0 g) (fI f) := by
  intro W Z O env σ H0 H x y d d' P Q R hx hy hf k
  obtain ⟨i, j, rfl, rfl, hp⟩ := onI2_iff hf
  exact ⟨i, j, hx.int, hy.int, k _ _ H hp .refl (hg i j _ _)⟩
theorem s_IC {C : Int → Int → Prop} {g : Int → Int → V} {f : Int → Int → PyData} (hg : ∀ i j H Z, Dn H Z (g i j) (f i j)) : R2S (rI C g) (fIC C f) := by
  intro W Z O env σ H0 H x y d d' P Q R hx hy hf k
  obtain ⟨i, j, rfl, rfl, hc, hp⟩ := onI2_iff hf
  exact ⟨i, j, hx.int, hy.int, hc, k _ _ H hp .refl (hg i j _ _)⟩
theorem je_add (ha : JB X a ta A) (hb : JB X b tb B) : JE X (.BinOp a .Add b pos) (tOp (rI0 fun i j => .int (i + j)) ta tb) (m2 fAdd A B) := je_op op_add (s_I fun _ _ _ _ => .int _) ha hb
theorem je_sub (ha : JB X a ta A) (hb : JB X b tb B) : JE X (.BinOp a .Sub b pos) (tOp (rI0 fun i j => .int (i - j)) ta tb) (m2 fSub A B) := je_op op_sub (s_I fun _ _ _ _ => .int _) ha hb
theorem je_mul (ha : JB X a ta A) (hb : JB X b tb B) : JE X (.BinOp a .Mult b pos) (tOp (rI CMul fun i j => .int (i * j)) ta tb) (m2 fMul A B) := je_op op_mul (s_IC fun _ _ _ _ => .int _) ha hb
theorem je_div (ha : JB X a ta A) (hb : JB X b tb B) : JE X (.BinOp a .FloorDiv b pos) (tOp (rI CDivN fun i j => .int (i.fdiv j)) ta tb) (m2 fDiv A B) := je_op op_fdivN (s_IC fun _ _ _ _ => .int _) ha hb
theorem je_mod (ha : JB X a ta A) (hb : JB X b tb B) : JE X (.BinOp a .Mod b pos) (tOp (rI (fun _ j => j ≠ 0) fun i j => .int (i.fmod j)) ta tb) (m2 fMod A B) := je_op op_modN (s_IC fun _ _ _ _ => .int _) ha hb
theorem je_pow (ha : JB X a ta A) (hb : JB X b tb B) : JE X (.BinOp a .Pow b pos) (tOp (rI CPow fun i j => .int (i ^ j.toNat)) ta tb) (m2 fPow A B) := je_op op_pow (s_IC fun _ _ _ _ => .int _) ha hb
theorem je_lt (ha : JB X a ta A) (hb : JB X b tb B) : JE X (.Compare a [.Lt] [b] pos) (tOp (rI0 fun i j => .bl (decide (i < j))) ta tb) (m2 fLt A B) := je_cmp op_lt (s_I fun _ _ _ _ => .bl _) ha hb (nomark _)
theorem je_le (ha : JB X a ta A) (hb : JB X b tb B) : JE X (.Compare a [.LtE] [b] pos) (tOp (rI0 fun i j => .bl (decide (i ≤ j))) ta tb) (m2 fLe A B) := je_cmp op_le (s_I fun _ _ _ _ => .bl _) ha hb (nomark _)
theorem je_gt (ha : JB X a ta A) (hb : JB X b tb B) : JE X (.Compare a [.Gt] [b] pos) (tOp (rI0 fun i j => .bl (decide (j < i))) ta tb) (m2 fGt A B) := je_cmp op_gt (s_I fun _ _ _ _ => .bl _) ha hb (nomark _)
theorem je_ge (ha : JB X a ta A) (hb : JB X b tb B) : JE X (.Compare a [.GtE] [b] pos) (tOp (rI0 fun i j => .bl (decide (j ≤ i))) ta tb) (m2 fGe A B) := je_cmp op_ge (s_I fun _ _ _ _ => .bl _) ha hb (nomark _)
theorem je_eq (hu : X.A.units + 64 < cLine) (ha : JB X a ta A) (hb : JB X b tb B) : JE X (.Compare a [.Eq] [b] pos) (tOp (rEqD X.K) ta tb) (m2 fEq A B) := je_cmp (op_eqD hu) (by
  intro W Z O env σ H0 H x y d d' P Q R hx hy hf k
  obtain ⟨h1, h2, hp⟩ := hf
  exact ⟨d, d', hx.dp (canLay_noDict h1), hy.dp (canLay_noDict h2), h1, h2, k _ _ H hp .refl (.bl _)⟩) ha hb (nomark _)
theorem je_ne (hu : X.A.units + 64 < cLine) (ha : JB X a ta A) (hb : JB X b tb B) : JE X (.Compare a [.NotEq] [b] pos) (tOp (rNeD X.K) ta tb) (m2 fNe A B) := je_cmp (op_neD hu) (by
  intro W Z O env σ H0 H x y d d' P Q R hx hy hf k
  obtain ⟨h1, h2, hp⟩ := hf
  exact ⟨d, d', hx.dp (canLay_noDict h1), hy.dp (canLay_noDict h2), h1, h2, k _ _ H hp .refl (.bl _)⟩) ha hb (nomark _)
theorem je_isN {j pos'} (ha : JB X a ta A) : JE X (.Compare a [.Is] [.Constant .none j pos'] pos) (tIsN ta) (m1 fIsN A) := ⟨pe_cmp (pc_isN ha.pe) rfl, by
  intro W Z O env σ H0 H P Q R hm k
  refine ha.es W Z O env σ H0 H _ _ R hm fun d v H1 p1 g1 n1 => ?_
  have e := n1.isNone
  rw [e]
  exact k _ _ H1 p1 g1 (.bl _)⟩
theorem je_notN {j pos'} (ha : JB X a ta A) : JE X (.Compare a [.IsNot] [.Constant .none j pos'] pos) (tNotN ta) (m1 fNotN A) := ⟨pe_cmp (pc_notN ha.pe) rfl, by
  intro W Z O env σ H0 H P Q R hm k
  refine ha.es W Z O env σ H0 H _ _ R hm fun d v H1 p1 g1 n1 => ?_
  have e := n1.isNone
  rw [e]
  exact k _ _ H1 p1 g1 (.bl _)⟩
theorem je_neg (ha : JB X a ta A) : JE X (.UnaryOp .USub a pos) (tUn (rU fun i => .int (-i)) ta) (m1 fNeg A) := ⟨pe_un un_neg ha.pe, by
  intro W Z O env σ H0 H P Q R hm k
  refine ha.es W Z O env σ H0 H _ _ R hm fun d v H1 p1 g1 n1 => ?_
  unfold fNeg onI at p1
  split at p1
  · exact ⟨_, n1.int, k _ _ H1 p1 g1 (.int _)⟩
  · exact p1.elim⟩
/-- a < b < c and its like -/
def mChain (f g : PyData → PyData → (PyData → Prop) → Prop) (A B C : ME) : ME := fun env P => A env fun x => B env fun y => f x y fun z => onB z fun k => if k = true then C env fun w => g y w P else P (.bool false)
theorem onB_iff {x : PyData} {k : Bool → Prop} (h : onB x k) : ∃ i, x = .bool i ∧ k i := by
  unfold onB at h
  split at h
  · exact ⟨_, rfl, h⟩
  · exact h.elim
theorem chain_sound {r r' : R2} {f g : PyData → PyData → (PyData → Prop) → Prop} (ha : BS ta A) (hb : BS tb B) (hc : BS tc C) (hr : R2S r f) (hr' : R2S r' g) : ES (tChain r r' ta tb tc) (mChain f g A B C) := by
  intro W Z O env σ H0 H P Q R hm k
  refine ha W Z O env σ H0 H _ _ R hm fun d v H1 p1 g1 n1 => ?_
  refine hb W Z O env σ H0 H1 _ _ (R.tr g1) p1 fun d' v' H2 p2 g2 n2 => ?_
  refine hr W Z O env σ H0 H2 v v' d d' _ _ ((R.tr g1).tr g2) (n1.ge g2 R.mz) n2 p2 fun z w H3 p3 g3 n3 => ?_
  obtain ⟨b, rfl, p3⟩ := onB_iff p3
  cases n3
  refine ⟨b, rfl, ?_⟩
  cases b with
  | false => exact k _ _ H3 p3 ((g1.trans g2).trans g3) (.bl _)
  | true =>
    refine hc W Z O env σ H0 H3 _ _ (((R.tr g1).tr g2).tr g3) p3 fun d4 v4 H4 p4 g4 n4 => ?_
    refine hr' W Z O env σ H0 H4 v' v4 d' d4 _ _ ((((R.tr g1).tr g2).tr g3).tr g4) ((n2.ge g3 R.mz).ge g4 R.mz) n4 p4 fun z w H5 p5 g5 n5 => ?_
    exact k _ _ H5 p5 ((((g1.trans g2).trans g3).trans g4).trans g5) n5
theorem je_chain {op op' : CmpOp} {r r' : R2} {f g : PyData → PyData → (PyData → Prop) → Prop} (ho : OpR X (compareOp op) r) (ho' : OpR X (compareOp op') r') (hs : R2S r f) (hs' : R2S r' g) (ha : JB X a ta A) (hb : JB X b tb B) (hc : JB X c tc C)
    (hm : lastMarks [op, op'] [b, c] = false := by with_unfolding_all rfl) : JE X (.Compare a [op, op'] [b, c] pos) (tChain r r' ta tb tc) (mChain f g A B C) :=
  ⟨pe_chain ho ho' ha.pe hb.pe hc.pe hm, chain_sound ha.es hb.es hc.es hs hs'⟩
theorem s_le : R2S (rI0 fun i j => .bl (decide (i ≤ j))) fLe := s_I fun _ _ _ _ => .bl _
theorem s_lt : R2S (rI0 fun i j => .bl (decide (i < j))) fLt := s_I fun _ _ _ _ => .bl _
/-- a <= b <= c; a <= b < c -/
theorem je_lele (ha : JB X a ta A) (hb : JB X b tb B) (hc : JB X c tc C) (hm : lastMarks [.LtE, .LtE] [b, c] = false := by with_unfolding_all rfl) : JE X (.Compare a [.LtE, .LtE] [b, c] pos) (tChain (rI0 fun i j => .bl (decide (i ≤ j))) (rI0 fun i j => .bl (decide (i ≤ j))) ta tb tc) (mChain fLe fLe A B C) := je_chain op_le op_le s_le s_le ha hb hc hm
theorem je_lelt (ha : JB X a ta A) (hb : JB X b tb B) (hc : JB X c tc C) (hm : lastMarks [.LtE, .Lt] [b, c] = false := by with_unfolding_all rfl) : JE X (.Compare a [.LtE, .Lt] [b, c] pos) (tChain (rI0 fun i j => .bl (decide (i ≤ j))) (rI0 fun i j => .bl (decide (i < j))) ta tb tc) (mChain fLe fLt A B C) := je_chain op_le op_lt s_le s_lt ha hb hc hm

/-! ### subscripts -/
theorem onI_iff {x : PyData} {k : Int → Prop} (h : onI x k) : ∃ i, x = .int i ∧ k i := by
  unfold onI at h
  split at h
  · exact ⟨_, rfl, h⟩
  · exact h.elim
theorem onL_iff {x : PyData} {k : List PyData → Prop} (h : onL x k) : ∃ i, x = .list i ∧ k i := by
  unfold onL at h
  split at h
  · exact ⟨_, rfl, h⟩
  · exact h.elim
theorem onU_iff {x : PyData} {k : List PyData → Prop} (h : onU x k) : ∃ i, x = .tuple i ∧ k i := by
  unfold onU at h
  split at h
  · exact ⟨_, rfl, h⟩
  · exact h.elim
theorem onS_iff {x : PyData} {k : Str → Prop} (h : onS x k) : ∃ i, x = .str i ∧ k i := by
  unfold onS at h
  split at h
  · exact ⟨_, rfl, h⟩
  · exact h.elim
theorem onLU_iff {x : PyData} {k : List PyData → Prop} (h : onLU x k) : ∃ i, (x = .list i ∨ x = .tuple i) ∧ k i := by
  unfold onLU at h
  split at h
  · exact ⟨_, .inl rfl, h⟩
  · exact ⟨_, .inr rfl, h⟩
  · exact h.elim
theorem atD_iff {H : Hp} {Z : Addr → Prop} {vs : List V} {ds : List PyData} {i : Int} {P : PyData → Prop} (n : DnAll H Z vs ds) (h : atD ds i P) : ∃ d v, P d ∧ atI vs i = some v ∧ Dn H Z v d := by
  unfold atD at h
  split at h
  · rename_i d e
    unfold atI at e ⊢
    rw [n.length]
    cases q : ixN ds.length i with
    | none =>
      rw [q] at e
      cases e
    | some j =>
      rw [q] at e
      obtain ⟨v, h1, h2⟩ := n.get (show ds[j]? = some d from e)
      exact ⟨d, v, h, h1, h2⟩
  · exact h.elim
theorem s_ix {K : PySem.W.Frag} : R2S (rIx K) fIx := by
  intro W Z O env σ H0 H x y d d' P Q R hx hy hf k
  obtain ⟨i, rfl, hf⟩ := onI_iff hf
  have ey := hy.int
  cases d with
  | list ds =>
    obtain ⟨p, xs, rfl, hp, r⟩ := hx.list
    obtain ⟨d, v, hd, h1, h2⟩ := atD_iff r hf
    exact .inl ⟨p, xs, i, v, rfl, ey, SqL.of hp, h1, k _ _ H hd .refl h2⟩
  | tuple ds =>
    obtain ⟨p, xs, rfl, hp, _, r⟩ := hx.tuple
    obtain ⟨d, v, hd, h1, h2⟩ := atD_iff r hf
    exact .inr (.inl ⟨p, xs, i, v, rfl, ey, SqT.of hp, h1, k _ _ H hd .refl h2⟩)
  | str z =>
    obtain ⟨hz, hf⟩ := hf
    split at hf
    · rename_i c e
      exact .inr (.inr ⟨z, i, c, hx.str, ey, hz, e, k _ _ H hf .refl (.str _)⟩)
    · exact hf.elim
  | _ => exact hf.elim
theorem je_ix (ha : JB X a ta A) (hb : JB X b tb B) (hs : PlainIx b) : JE X (.Subscript a b pos) (tOp (rIx X.K) ta tb) (m2 fIx A B) := ⟨pe_ix ix_seq ha.pe hb.pe hs, op_sound ha.es hb.es s_ix⟩

/-! ### tests -/
/-- a value that is a bool, as a test -/
def mB (A : ME) : MT := fun env P => A env fun x => onB x P
theorem jt_val (h : JE X e t m) (he : ∀ whole, isTrue e X.env whole = (do let v ← whole; standAt e.pos; holding [v] (truthy v)) := by intro _; rfl) : JT X e (tB t) (mB m) := ⟨pt_val h.pe he, by
  intro W Z O env σ H0 H P Q R hm k
  refine h.es W Z O env σ H0 H _ _ R hm fun d v H1 p1 g1 n1 => ?_
  obtain ⟨b, rfl, p1⟩ := onB_iff p1
  cases n1
  exact ⟨b, rfl, k b H1 p1 g1⟩⟩
theorem jt_cmp {op : CmpOp} {r : R2} {f : PyData → PyData → (PyData → Prop) → Prop} (ho : OpR X (compareOp op) r) (hs : R2S r f) (ha : JB X a ta A) (hb : JB X b tb B) (hm : behindInMarks op b = false) : JT X (.Compare a [op] [b] pos) (tTest (tOp r ta tb)) (mB (m2 f A B)) :=
  ⟨pt_cmpR ho ha.pe hb.pe hm, by
    intro W Z O env σ H0 H P Q R hm k
    refine op_sound ha.es hb.es hs W Z O env σ H0 H _ _ R hm fun d v H1 p1 g1 n1 => ?_
    obtain ⟨b, rfl, p1⟩ := onB_iff p1
    cases n1
    exact ⟨b, rfl, k b H1 p1 g1⟩⟩
def mAnd (A B : MT) : MT := fun env P => A env fun c => if c = true then B env P else P false
def mOr (A B : MT) : MT := fun env P => A env fun c => if c = true then P true else B env P
def mNot (A : MT) : MT := fun env P => A env fun c => P (!c)
structure JW (X : Cx) (e : Expr) (t : TT) (m : MT) : Prop where
  pe : PW X e t
  es : QS t m
theorem JW.jt {t : TT} {m : MT} (h : JW X e t m) : JT X e t m := ⟨h.pe.pt, h.es⟩
theorem and_sound {t u : TT} {A B : MT} (ha : QS t A) (hb : QS u B) : QS (tAnd t u) (mAnd A B) := by
  intro W Z O env σ H0 H P Q R hm k
  refine ha W Z O env σ H0 H _ _ R hm fun c H1 p1 g1 => ?_
  cases c with
  | true => exact hb W Z O env σ H0 H1 _ _ (R.tr g1) p1 fun b H2 p2 g2 => k b H2 p2 (g1.trans g2)
  | false => exact k _ H1 p1 g1
theorem or_sound {t u : TT} {A B : MT} (ha : QS t A) (hb : QS u B) : QS (tOr t u) (mOr A B) := by
  intro W Z O env σ H0 H P Q R hm k
  refine ha W Z O env σ H0 H _ _ R hm fun c H1 p1 g1 => ?_
  cases c with
  | true => exact k _ H1 p1 g1
  | false => exact hb W Z O env σ H0 H1 _ _ (R.tr g1) p1 fun b H2 p2 g2 => k b H2 p2 (g1.trans g2)
theorem jw_and1 {t : TT} {A : MT} (ha : JT X a t A) : JW X (.BoolOp .And [a] pos) t A := ⟨pw_and1 ha.pe, ha.es⟩
theorem jw_or1 {t : TT} {A : MT} (ha : JT X a t A) : JW X (.BoolOp .Or [a] pos) t A := ⟨pw_or1 ha.pe, ha.es⟩
theorem jw_and {t u : TT} {A B : MT} {rest : List Expr} (ha : JT X a t A) (hb : JW X (.BoolOp .And (b :: rest) pos) u B) : JW X (.BoolOp .And (a :: b :: rest) pos) (tAnd t u) (mAnd A B) := ⟨pw_and ha.pe hb.pe, and_sound ha.es hb.es⟩
theorem jw_or {t u : TT} {A B : MT} {rest : List Expr} (ha : JT X a t A) (hb : JW X (.BoolOp .Or (b :: rest) pos) u B) : JW X (.BoolOp .Or (a :: b :: rest) pos) (tOr t u) (mOr A B) := ⟨pw_or ha.pe hb.pe, or_sound ha.es hb.es⟩
theorem jt_not {t : TT} {A : MT} (ha : JT X a t A) : JT X (.UnaryOp .Not a pos) (tNot t) (mNot A) := ⟨pt_not ha.pe, by
  intro W Z O env σ H0 H P Q R hm k
  exact ha.es W Z O env σ H0 H _ _ R hm fun c H1 p1 g1 => k _ H1 p1 g1⟩
/-- and, or, not as values: bools -/
def mAndV (A B : ME) : ME := fun env P => A env fun x => onB x fun c => if c = true then B env P else P (.bool false)
def mOrV (A B : ME) : ME := fun env P => A env fun x => onB x fun c => if c = true then P (.bool true) else B env P
def mNotV (A : ME) : ME := fun env P => A env fun x => onB x fun c => P (.bool (!c))
theorem je_one {op} (h : JE X a ta A) : JE X (.BoolOp op [a] pos) ta A := ⟨pe_one h.pe, h.es⟩
theorem je_and {rest : List Expr} (ha : JE X a ta A) (hb : JE X (.BoolOp .And (b :: rest) pos) tb B) : JE X (.BoolOp .And (a :: b :: rest) pos) (tAndV ta tb) (mAndV A B) := ⟨pe_and ha.pe hb.pe, by
  intro W Z O env σ H0 H P Q R hm k
  refine ha.es W Z O env σ H0 H _ _ R hm fun d v H1 p1 g1 n1 => ?_
  obtain ⟨c, rfl, p1⟩ := onB_iff p1
  cases n1
  refine ⟨c, rfl, ?_⟩
  cases c with
  | true => exact hb.es W Z O env σ H0 H1 _ _ (R.tr g1) p1 fun d2 v2 H2 p2 g2 n2 => k _ _ H2 p2 (g1.trans g2) n2
  | false => exact k _ _ H1 p1 g1 (.bl _)⟩
theorem je_or {rest : List Expr} (ha : JE X a ta A) (hb : JE X (.BoolOp .Or (b :: rest) pos) tb B) : JE X (.BoolOp .Or (a :: b :: rest) pos) (tOrV ta tb) (mOrV A B) := ⟨pe_or ha.pe hb.pe, by
  intro W Z O env σ H0 H P Q R hm k
  refine ha.es W Z O env σ H0 H _ _ R hm fun d v H1 p1 g1 n1 => ?_
  obtain ⟨c, rfl, p1⟩ := onB_iff p1
  cases n1
  refine ⟨c, rfl, ?_⟩
  cases c with
  | true => exact k _ _ H1 p1 g1 (.bl _)
  | false => exact hb.es W Z O env σ H0 H1 _ _ (R.tr g1) p1 fun d2 v2 H2 p2 g2 n2 => k _ _ H2 p2 (g1.trans g2) n2⟩
theorem je_not (ha : JE X a ta A) : JE X (.UnaryOp .Not a pos) (tNotV ta) (mNotV A) := ⟨pe_not ha.pe, by
  intro W Z O env σ H0 H P Q R hm k
  refine ha.es W Z O env σ H0 H _ _ R hm fun d v H1 p1 g1 n1 => ?_
  obtain ⟨c, rfl, p1⟩ := onB_iff p1
  cases n1
  exact ⟨c, rfl, k _ _ H1 p1 g1 (.bl _)⟩⟩
def mIfE (T : MT) (A B : ME) : ME := fun env P => T env fun c => if c = true then A env P else B env P
theorem je_if {tt : TT} {T : MT} (hc : JT X c tt T) (ha : JE X a ta A) (hb : JE X b tb B) : JE X (.IfExp c a b pos) (tIf tt ta tb) (mIfE T A B) := ⟨pe_ifExp hc.pe ha.pe hb.pe, by
  intro W Z O env σ H0 H P Q R hm k
  refine hc.es W Z O env σ H0 H _ _ R hm fun c H1 p1 g1 => ?_
  cases c with
  | true => exact ha.es W Z O env σ H0 H1 _ _ (R.tr g1) p1 fun d2 v2 H2 p2 g2 n2 => k _ _ H2 p2 (g1.trans g2) n2
  | false => exact hb.es W Z O env σ H0 H1 _ _ (R.tr g1) p1 fun d2 v2 H2 p2 g2 n2 => k _ _ H2 p2 (g1.trans g2) n2⟩
/-- new lists on both ways -/
def mIfF (T : MT) (A B : ML) : ML := fun env P => T env fun c => if c = true then A env P else B env P
theorem jf_if {tt : TT} {T : MT} {A B : ML} (hc : JT X c tt T) (ha : JF X a ta A) (hb : JF X b tb B) : JF X (.IfExp c a b pos) (tIf tt ta tb) (mIfF T A B) := ⟨pe_ifExp hc.pe ha.pe hb.pe, by
  intro W Z O env σ H0 H P Q R hm k
  refine hc.es W Z O env σ H0 H _ _ R hm fun c H1 p1 g1 => ?_
  cases c with
  | true => exact ha.es W Z O env σ H0 H1 _ _ (R.tr g1) p1 fun d p xs H2 p2 g2 n2 h2 r2 => k _ _ _ H2 p2 (g1.trans g2) (g1.fresh R.wl n2) h2 r2
  | false => exact hb.es W Z O env σ H0 H1 _ _ (R.tr g1) p1 fun d p xs H2 p2 g2 n2 h2 r2 => k _ _ _ H2 p2 (g1.trans g2) (g1.fresh R.wl n2) h2 r2⟩
end
end Dw

set_option maxRecDepth 100000
set_option maxHeartbeats 4000000
/-! Dw2: defs whose callers know that no repr is under way (guards), for repr within them; their calls; the law's call. -/
namespace Dw
open PySem PySem.Spec PyProof.Rows L2
variable [XCtx]

structure FnG (P : Program) (w : World) (K : PySem.W.Frag) (mg : Str → Option Value) (bs : Heap) (C : CXT) (k : Nat) (f : Addr) (fd : FuncData) (ps : List Str) (sp : Sp) : Prop where
  len : ∀ vs H Q E, sp vs H Q E → vs.length = ps.length
  run : ∀ (A : Around) (out : List PySem.Env) (s : Shared) (H : Hp) (ar : Args) (us : List Value) (vs : List V) (Q : VK) (E : XK), Room k A → A.guards = some [] → Env0 P w K mg bs A out s H → BindsTo s fd ar (ps.zip us) → Vals vs us → sp vs H Q E →
    codeAny (model P w) A (.call (.ref f) ar) (CR C out P w H s Q E) s
theorem FnG.mono {P : Program} {w : World} {K : PySem.W.Frag} {mg : Str → Option Value} {bs : Heap} {C : CXT} {j k : Nat} {f : Addr} {fd : FuncData} {ps : List Str} {sp : Sp} (F : FnG P w K mg bs C j f fd ps sp) (h : j ≤ k) : FnG P w K mg bs C k f fd ps sp :=
  ⟨F.len, fun A out s H ar us vs Q E hr hg => F.run A out s H ar us vs Q E (hr.mono h) hg⟩
theorem FnG.imp {P : Program} {w : World} {K : PySem.W.Frag} {mg : Str → Option Value} {bs : Heap} {C : CXT} {k : Nat} {f : Addr} {fd : FuncData} {ps : List Str} {sp sp' : Sp} (F : FnG P w K mg bs C k f fd ps sp)
    (h : ∀ vs H Q E, sp' vs H Q E → sp vs H Q E) : FnG P w K mg bs C k f fd ps sp' :=
  ⟨fun vs H Q E q => F.len vs H Q E (h _ _ _ _ q), fun A out s H ar us vs Q E hr hg e0 hb hv hs => F.run A out s H ar us vs Q E hr hg e0 hb hv (h _ _ _ _ hs)⟩

/-- a def by its body -/
theorem fng_of {C : CXT} {P : Program} {w : World} {K : PySem.W.Frag} {mg : Str → Option Value} {bs : Heap} {k : Nat} {f : Addr} {nm qual : Str} {prm : Arguments} {body : List Stmt} {sc : Scope} {dV kV doc pm cdv ct oc : Value} {an od : Option Addr}
    {osl : Array (Option Value)} {N ps : List Str} {sp : Sp} (lk : K.lookup f = some ⟨oc, od, .func (PySem.W.fnOf nm qual prm body sc dV kV doc pm an cdv ct), osl⟩) (hcd : PySem.W.codeIn K cdv qual = true) (S : FnScope N ps sc)
    (len : ∀ vs H Q E, sp vs H Q E → vs.length = ps.length)
    (hbody : ∀ (A : Around) (out : List PySem.Env) (s : Shared) (H : Hp) (vs : List V) (Q : VK) (E : XK), Room k (A.deeper (envOfC qual sc s.heap.objs.size f cdv)) → A.guards = some [] → sp vs H Q E →
      ∃ t, PSs (cxOf C P w K mg bs N qual sc f cdv A out s H E) body t ∧ t { nx := fun _ H' => Q .non H', rt := Q } (start N vs) H) :
    FnG P w K mg bs C (k + 1) f (PySem.W.fnOf nm qual prm body sc dV kV doc pm an cdv ct) ps sp := by
  constructor
  · exact len
  intro A out s H ar us vs Q E hr hg e0 hb r hsp
  have hl := len _ _ _ _ hsp
  have KX : K.In s.heap := e0.mod.kin.keeps fun b o z => (e0.bs b o z).1
  have lim : s.heap.NoLimit := e0.mod.nolimit.keeps fun b o z => (e0.bs b o z).1
  have kinds : ∀ y ∈ ps.zip us, sc.names.lookup y.1 = some .local ∨ (sc.names.lookup y.1 = some .cell ∧ ((cellsFrom (s.heap.objs.size + 1) sc.names []).lookup y.1).isSome = true) := by
    rintro ⟨n, v⟩ hy
    have hn := (List.of_mem_zip hy).1
    cases S.par n hn with
    | inl q => exact Or.inl q
    | inr q => exact Or.inr ⟨q, PySem.W.cellsFrom_some _ _ _ (Or.inl q)⟩
  refine codeAny_call_function hr.depth (KX _ _ lk) rfl S.co S.gen rfl (PySem.W.codeRec_of KX hcd) (hb _ _ _ _ (wpAny_newFunctionEnv_cells S.kind kinds fun env he s1 x => ?_))
  subst he
  obtain ⟨t, ht, hq⟩ := hbody A out s H vs Q E (hr.deeper _) hg hsp
  have I : Inv (cxOf C P w K mg bs N qual sc f cdv A out s H E) [] (start N vs) H s1 := inv_start S hr.hd e0 hl r x
  refine ⟨lim.keeps x.toInCall.keep, codeAny_func (wpAny_mono (ht.run [] s1 (start N vs) H _ I hq) ?_ fun _ _ z => z)⟩
  intro fl s' hs
  have fin : ∀ {σ' : L2.St} {H' : Hp} {v : V} {u : Value}, Inv (cxOf C P w K mg bs N qual sc f cdv A out s H E) [] σ' H' s' → RelV v u → Q v H' → CE out P w H s Q u s' := by
    intro σ' H' v u J rv q
    exact ⟨v, H', J.os, J.bare, J.base, J.hok, rv, q⟩
  cases fl with
  | ret u => exact let ⟨v, σ', H', J, rv, q⟩ := hs; fin J rv q
  | next => exact let ⟨σ', H', J, q⟩ := hs; fin (v := V.non) (u := Value.none) J rfl q
  | brk => exact let ⟨_, _, _, q⟩ := hs; q.elim
  | cont => exact let ⟨_, _, _, q⟩ := hs; q.elim

section
variable {X : Cx} {C : CXT} {k : Nat} {f : Addr} {fd : FuncData} {ps ks : List Str} {sp : Sp} {dvs : List V} {ds : List Value} {E : XK} {x : Str} {p pos kpos : Pos} {e : Expr} {es : List Expr} {t tk : TA} {kws : List Keyword}
  {g : List Value → List Value → List Value} {gV : List V → List V → List V}
/-- behind the callee -/
theorem fng_end {pins : List (Addr × Obj)} {σ : L2.St} {H : Hp} {s : Shared} {Q : VK} (hx : Passes C X E) (I : Inv X pins σ H s) {r : Result} {s' : Shared} (hq : CR C X.stack X.prog X.w H s Q E r s') :
    (match r with
      | .error z => X.xe z s'
      | .ok (.ret u) => EP X pins σ Q u s'
      | .ok _ => False) := by
  cases r with
  | error z => exact hx pins σ H s z s' I hq
  | ok fl => cases fl <;> first | exact I.after hq | exact False.elim hq
theorem run_fng {pins : List (Addr × Obj)} {σ : L2.St} {H : Hp} {s : Shared} {Q : VK} {us ws : List Value} {kw : List (Str × Value)} {vs : List V} (F : FnG X.prog X.w X.K X.mg X.base C k f fd ps sp) (hr : Room k X.A) (hG : X.A.guards = some [])
    (hb : BindsTo s fd ⟨us, kw⟩ (ps.zip ws)) (r2 : Vals vs ws) (hx : Passes C X E) (I : Inv X pins σ H s) (h : sp vs H Q E) : wpAny (model X.prog X.w) X.A (call (.ref f) us kw) (EP X pins σ Q) X.xe s := by
  refine wpAny_call (codeAny_mono (F.run X.A X.stack s H ⟨us, kw⟩ ws vs Q E hr hG I.env0 hb r2 h) fun r s' hq => ?_)
  have z := fng_end hx I hq
  cases r with
  | error e => exact z
  | ok fl => cases fl <;> first | exact z | exact False.elim z
theorem pe_callG (F : FnG X.prog X.w X.K X.mg X.base C k f fd ps sp) (hr : Room k X.A) (hG : X.A.guards = some []) (hg : Gl X x) (hm : X.mg x = some (.ref f)) (hk : PySem.W.keepIn X.K (.ref f) = true) (hb : Binds X.K fd ps []) (hx : Passes C X E)
    (ha : PA X (e :: es) t) (hdb : (x == ("__debug__" : Str)) = false := by decide) (he : starEach (e :: es) X.env = (false, eval e X.env) :: starEach es X.env := by rfl) (hpl : (backTo pos (starEach es X.env)).any (·.1) = false := by rfl) :
    PE X (.Call (.Name x p) (e :: es) [] pos) (tCall sp [] E t) := by
  constructor
  intro pins s σ H Q I h
  refine wpAny_Call_Name_kw (ld_glob I hg hm (PySem.W.callWith_K (h₀ := X.base) I.ok.mod.kin hk (thn (ha.run pos pins s σ H _ I h) ?_) he hpl) hdb)
  rintro us s1 ⟨vs, H1, I1, r, q⟩
  rw [List.append_nil] at q
  have hl : (us ++ []).length = ps.length := by rw [List.append_nil, ← r.length]; exact F.len _ _ _ _ q
  have hb' := hb s1 us I1.kIn hl
  rw [List.append_nil] at hb'
  exact ⟨I1.kIn, run_fng F hr hG hb' r hx I1 q⟩
theorem pe_callGK (F : FnG X.prog X.w X.K X.mg X.base C k f fd ps sp) (hr : Room k X.A) (hG : X.A.guards = some []) (hg : Gl X x) (hm : X.mg x = some (.ref f)) (hk : PySem.W.keepIn X.K (.ref f) = true) (hb : KBinds X.K fd ps ks g gV) (hx : Passes C X E)
    (ha : PA X (e :: es) t) (hkw : PK X kws tk) (hall : (backToKw pos (keywordEach kws X.env)).all (·.1.isSome) = true := by rfl) (hks : (backToKw pos (keywordEach kws X.env)).filterMap (·.1) = ks := by rfl)
    (hdb : (x == ("__debug__" : Str)) = false := by decide) (he : starEach (e :: es) X.env = (false, eval e X.env) :: starEach es X.env := by rfl)
    (hpl : ((backTo pos (starEach (e :: es) X.env)).any (·.1) || (backToKw pos (keywordEach kws X.env)).any (·.1.isNone)) = false := by rfl) : PE X (.Call (.Name x p) (e :: es) kws pos) (tCallK sp gV E t tk) := by
  constructor
  intro pins s σ H Q I h
  refine wpAny_Call_Name_kw (ld_glob I hg hm (PySem.W.callWith_KW (h₀ := X.base) I.ok.mod.kin hk hall (thn (ha.run pos pins s σ H _ I h) ?_) hpl he) hdb)
  rintro us s1 ⟨vs, H1, I1, r, q⟩
  refine thn (hkw.run pos pins s1 σ H1 _ I1 q) ?_
  rintro ws s2 ⟨zs, H2, I2, rz, q2⟩
  rw [hks]
  have r2 := hb.rel r rz
  have hl : (g us ws).length = ps.length := by rw [← r2.length]; exact F.len _ _ _ _ q2
  exact ⟨I2.kIn, run_fng F hr hG (hb.to s2 us ws I2.kIn hl) r2 hx I2 q2⟩
end
end Dw

set_option maxRecDepth 100000
set_option maxHeartbeats 4000000
/-! Dw3: calls of defs and of built-ins over data; repr. -/
namespace Dw
open PySem PySem.Spec PyProof.Rows L2
variable [XCtx]

/-! ### arguments as cells, a def's promise over data -/
def ArgR (W : Wl) (H : Hp) (Z : Addr → Prop) (v : V) : Cell → Prop
  | .val d => Dn H Z v d
  | .well => ∃ w c, W = some (w, c) ∧ v = .ref w
  | _ => False
inductive ArgAll (W : Wl) (H : Hp) (Z : Addr → Prop) : List V → List Cell → Prop
  | nil : ArgAll W H Z [] []
  | cons {v : V} {vs : List V} {d : Cell} {ds : List Cell} : ArgR W H Z v d → ArgAll W H Z vs ds → ArgAll W H Z (v :: vs) (d :: ds)
theorem ArgR.ge {W : Wl} {Z O : Addr → Prop} {H H' : Hp} {v : V} {c : Cell} (h : ArgR W H (ZO Z O) v c) (g : Ge W H H') (mz : ∀ a, Mu W a → Z a) : ArgR W H' (ZO Z O) v c := by
  cases c with
  | val d => exact Dn.ge h g mz
  | well => exact h
  | raw _ => exact h
  | _ => exact h.elim
theorem ArgAll.ge {W : Wl} {Z O : Addr → Prop} {H H' : Hp} (g : Ge W H H') (mz : ∀ a, Mu W a → Z a) : ∀ {vs : List V} {cs : List Cell}, ArgAll W H (ZO Z O) vs cs → ArgAll W H' (ZO Z O) vs cs
  | _, _, .nil => .nil
  | _, _, .cons a b => .cons (a.ge g mz) (ArgAll.ge g mz b)
theorem ArgAll.length {W : Wl} {H : Hp} {Z : Addr → Prop} : ∀ {vs : List V} {cs : List Cell}, ArgAll W H Z vs cs → vs.length = cs.length
  | _, _, .nil => rfl
  | _, _, .cons _ b => by rw [List.length_cons, List.length_cons, b.length]
abbrev Pre := List Cell → (PyData → Prop) → Prop
def SpD (n : Nat) (pre : Pre) : Sp := fun vs H Q _ => vs.length = n ∧ ∃ (W : Wl) (Z : Addr → Prop) (cs : List Cell) (P : PyData → Prop), WOk W H ∧ (∀ a, Mu W a → Z a) ∧ (∀ a, Z a → NT (H a)) ∧ ArgAll W H Z vs cs ∧ pre cs P ∧
  ∀ d v H', P d → Ge W H H' → Dn H' Z v d → Q v H'

def CS (n : Nat) (t : TA) (m : MC) : Prop := ∀ (W : Wl) (Z O : Addr → Prop) (env : Cells) (σ : L2.St) (H0 H : Hp) (P : List Cell → Prop) (Q : List V → Hp → Prop), Rel W Z O env σ H0 H → m env P →
  (∀ cs vs H', P cs → cs.length = n → Ge W H H' → ArgAll W H' (ZO Z O) vs cs → Q vs H') → t σ H Q
structure JC (X : Cx) (n : Nat) (es : List Expr) (t : TA) (m : MC) : Prop where
  pe : PA X es t
  es : CS n t m
structure JK (X : Cx) (n : Nat) (kws : List Keyword) (t : TA) (m : MC) : Prop where
  pe : PK X kws t
  es : CS n t m
def mcNil : MC := fun _ P => P []
def mcCons (A : ME) (B : MC) : MC := fun env P => A env fun d => B env fun cs => P (.val d :: cs)
def mcWell (i : Nat) (B : MC) : MC := fun env P => match env[i]? with
  | some .well => B env fun cs => P (.well :: cs)
  | _ => False
def mCall (pre : Pre) (A : MC) : ME := fun env P => A env fun cs => pre cs P
section
variable {X : Cx} {e : Expr} {es : List Expr} {t : TE} {tr : TA} {m : ME} {M : MC} {n : Nat} {pos kpos : Pos} {kws : List Keyword} {nm : Option Str}
theorem cs_nil : CS 0 tNil mcNil := fun W Z O env σ H0 H P Q R hm k => k [] [] H hm rfl .refl .nil
theorem cs_cons (h : ES t m) (hr : CS n tr M) : CS (n + 1) (tCons t tr) (mcCons m M) := by
  intro W Z O env σ H0 H P Q R hm k
  refine h W Z O env σ H0 H _ _ R hm fun d v H1 p1 g1 n1 => ?_
  refine hr W Z O env σ H0 H1 _ _ (R.tr g1) p1 fun ds vs H2 p2 l2 g2 n2 => ?_
  exact k (.val d :: ds) (v :: vs) H2 p2 (by rw [List.length_cons, l2]) (g1.trans g2) (.cons (n1.ge g2 R.mz) n2)
theorem cs_well {i : Nat} (hr : CS n tr M) : CS (n + 1) (tCons (tVar i) tr) (mcWell i M) := by
  intro W Z O env σ H0 H P Q R hm k
  unfold mcWell at hm
  split at hm
  · rename_i q
    obtain ⟨w, c, e1, e2⟩ := R.cell i _ q
    refine ⟨_, e2, hr W Z O env σ H0 H _ _ R hm fun ds vs H2 p2 l2 g2 n2 => ?_⟩
    exact k (.well :: ds) (_ :: vs) H2 p2 (by rw [List.length_cons, l2]) g2 (.cons ⟨w, c, e1, rfl⟩ n2)
  · exact hm.elim
theorem jc_nil : JC X 0 [] tNil mcNil := ⟨pa_nil, cs_nil⟩
theorem jc_cons (h : JE X e t m) (hr : JC X n es tr M) (hs : starEach (e :: es) X.env = (false, eval e X.env) :: starEach es X.env := by rfl) : JC X (n + 1) (e :: es) (tCons t tr) (mcCons m M) := ⟨pa_cons h.pe hr.pe hs, cs_cons h.es hr.es⟩
theorem jc_well (i : Nat) {x : Str} {p : Pos} (hr : JC X n es tr M) (hN : X.N[i]? = some x := by rfl) (hv : Vis X.env.scope x := by first | exact Or.inl rfl | exact Or.inr (Or.inl rfl) | exact Or.inr (Or.inr rfl)) (hd : (x == ("__debug__" : Str)) = false := by decide)
    (hcd : (x == ("__classdict__" : Str)) = false := by decide) (hs : starEach (.Name x p :: es) X.env = (false, eval (.Name x p) X.env) :: starEach es X.env := by rfl) : JC X (n + 1) (.Name x p :: es) (tCons (tVar i) tr) (mcWell i M) := ⟨pa_cons (pe_var hN hv hd hcd) hr.pe hs, cs_well hr.es⟩
theorem jk_nil : JK X 0 [] tNil mcNil := ⟨pk_nil, cs_nil⟩
theorem jk_cons (h : JE X e t m) (hr : JK X n kws tr M) : JK X (n + 1) (⟨nm, e, kpos⟩ :: kws) (tCons t tr) (mcCons m M) := ⟨pk_cons h.pe hr.pe, cs_cons h.es hr.es⟩
theorem jk_well (i : Nat) {x : Str} {p : Pos} (hr : JK X n kws tr M) (hN : X.N[i]? = some x := by rfl) (hv : Vis X.env.scope x := by first | exact Or.inl rfl | exact Or.inr (Or.inl rfl) | exact Or.inr (Or.inr rfl)) (hd : (x == ("__debug__" : Str)) = false := by decide)
    (hcd : (x == ("__classdict__" : Str)) = false := by decide) : JK X (n + 1) (⟨nm, .Name x p, kpos⟩ :: kws) (tCons (tVar i) tr) (mcWell i M) := ⟨pk_cons (pe_var hN hv hd hcd) hr.pe, cs_well hr.es⟩
theorem Rel.zh {W : Wl} {Z O : Addr → Prop} {env : Cells} {σ : L2.St} {H0 H : Hp} (R : Rel W Z O env σ H0 H) : ∀ a, ZO Z O a → NT (H a) := by
  rintro a (z | o)
  · by_cases m : Mu W a
    · exact R.wl.nt m
    · cases q : H0 a with
      | none => exact absurd q (R.za a z).1
      | some u =>
        rw [R.ge.keep a u m q, ← q]
        exact R.za a z
  · exact R.oh a o
theorem call_sound {pre : Pre} {E : XK} (h : CS n tr M) : ES (tCall (SpD n pre) [] E tr) (mCall pre M) := by
  intro W Z O env σ H0 H P Q R hm k
  refine h W Z O env σ H0 H _ _ R hm fun cs vs H1 p1 l1 g1 a1 => ?_
  have R1 := R.tr g1
  show SpD n pre (vs ++ []) H1 Q E
  rw [List.append_nil]
  exact ⟨by rw [a1.length, l1], W, ZO Z O, cs, P, R1.wl, fun a m => .inl (R.mz a m), R1.zh, a1, p1, fun d v H2 p2 g2 n2 => k d v H2 p2 (g1.trans g2) n2⟩
theorem je_call {C : CXT} {k : Nat} {f : Addr} {fd : FuncData} {ps : List Str} {pre : Pre} {E : XK} {x : Str} {p : Pos} (F : FnG X.prog X.w X.K X.mg X.base C k f fd ps (SpD n pre)) (hr : Room k X.A) (hG : X.A.guards = some []) (hm : X.mg x = some (.ref f)) (hk : PySem.W.keepIn X.K (.ref f) = true)
    (hb : Binds X.K fd ps []) (hx : Passes C X E) (ha : JC X n (e :: es) tr M) (hg : Gl X x := by rfl) (hdb : (x == ("__debug__" : Str)) = false := by decide) (he : starEach (e :: es) X.env = (false, eval e X.env) :: starEach es X.env := by rfl) (hpl : (backTo pos (starEach es X.env)).any (·.1) = false := by rfl) :
    JE X (.Call (.Name x p) (e :: es) [] pos) (tCall (SpD n pre) [] E tr) (mCall pre M) :=
  ⟨pe_callG F hr hG hg hm hk hb hx ha.pe hdb he hpl, call_sound ha.es⟩

/-- f(b=.., a=..): all by name -/
theorem pe_callGK0 {C : CXT} {k : Nat} {f : Addr} {fd : FuncData} {ps ks : List Str} {sp : Sp} {E : XK} {x : Str} {p : Pos} {tk : TA} {g : List Value → List Value → List Value} {gV : List V → List V → List V}
    (F : FnG X.prog X.w X.K X.mg X.base C k f fd ps sp) (hr : Room k X.A) (hG : X.A.guards = some []) (hg : Gl X x) (hm : X.mg x = some (.ref f)) (hk : PySem.W.keepIn X.K (.ref f) = true) (hb : KBinds X.K fd ps ks g gV) (hx : Passes C X E)
    (hkw : PK X kws tk) (hall : (backToKw pos (keywordEach kws X.env)).all (·.1.isSome) = true := by rfl) (hks : (backToKw pos (keywordEach kws X.env)).filterMap (·.1) = ks := by rfl)
    (hdb : (x == ("__debug__" : Str)) = false := by decide) (hpl : ((backTo pos (starEach [] X.env)).any (·.1) || (backToKw pos (keywordEach kws X.env)).any (·.1.isNone)) = false := by rfl) : PE X (.Call (.Name x p) [] kws pos) (tCallK sp gV E tNil tk) := by
  constructor
  intro pins s σ H Q I h
  refine wpAny_Call_Name_kw (ld_glob I hg hm (PySem.W.callWith_KW0 (h₀ := X.base) I.ok.mod.kin hk hall (thn (hkw.run pos pins s σ H _ I h) ?_) hpl) hdb)
  rintro ws s2 ⟨zs, H2, I2, rz, q2⟩
  rw [hks]
  have r2 := hb.rel (vs := []) (us := []) .nil rz
  have hl : (g [] ws).length = ps.length := by rw [← r2.length]; exact F.len _ _ _ _ q2
  exact ⟨I2.kIn, run_fng F hr hG (hb.to s2 [] ws I2.kIn hl) r2 hx I2 q2⟩
/-- how cells are put into the parameters' order -/
structure PermC (g : List Value → List Value → List Value) (gV : List V → List V → List V) (gC : List Cell → List Cell → List Cell) (n1 n2 n : Nat) : Prop where
  arg : ∀ (W : Wl) (H : Hp) (Z : Addr → Prop) (vs zs : List V) (cs ds : List Cell), cs.length = n1 → ds.length = n2 → ArgAll W H Z vs cs → ArgAll W H Z zs ds → ArgAll W H Z (gV vs zs) (gC cs ds) ∧ (gC cs ds).length = n
def mCallK (pre : Pre) (gC : List Cell → List Cell → List Cell) (A B : MC) : ME := fun env P => A env fun cs => B env fun ds => pre (gC cs ds) P
theorem callK_sound {pre : Pre} {E : XK} {g : List Value → List Value → List Value} {gV : List V → List V → List V} {gC : List Cell → List Cell → List Cell} {n1 n2 : Nat} {M2 : MC} {tk : TA} (pc : PermC g gV gC n1 n2 n) (h : CS n1 tr M) (h2 : CS n2 tk M2) : ES (tCallK (SpD n pre) gV E tr tk) (mCallK pre gC M M2) := by
  intro W Z O env σ H0 H P Q R hm k
  refine h W Z O env σ H0 H _ _ R hm fun cs vs H1 p1 l1 g1 a1 => ?_
  refine h2 W Z O env σ H0 H1 _ _ (R.tr g1) p1 fun ds zs H2 p2 l2 g2 a2 => ?_
  have R2 := (R.tr g1).tr g2
  obtain ⟨a3, l3⟩ := pc.arg W H2 (ZO Z O) vs zs cs ds l1 l2 (ArgAll.ge g2 R.mz a1) a2
  exact ⟨by rw [a3.length, l3], W, ZO Z O, _, P, R2.wl, fun a m => .inl (R.mz a m), R2.zh, a3, p2, fun d v H3 p3 g3 n3 => k d v H3 p3 ((g1.trans g2).trans g3) n3⟩
theorem je_callK0 {C : CXT} {k : Nat} {f : Addr} {fd : FuncData} {ps ks : List Str} {pre : Pre} {E : XK} {x : Str} {p : Pos} {tk : TA} {g : List Value → List Value → List Value} {gV : List V → List V → List V} {gC : List Cell → List Cell → List Cell} {n2 : Nat}
    (F : FnG X.prog X.w X.K X.mg X.base C k f fd ps (SpD n pre)) (hr : Room k X.A) (hG : X.A.guards = some []) (hm : X.mg x = some (.ref f)) (hk : PySem.W.keepIn X.K (.ref f) = true) (hb : KBinds X.K fd ps ks g gV) (pc : PermC g gV gC 0 n2 n) (hx : Passes C X E)
    (hkw : JK X n2 kws tk M) (hg : Gl X x := by rfl) (hall : (backToKw pos (keywordEach kws X.env)).all (·.1.isSome) = true := by rfl) (hks : (backToKw pos (keywordEach kws X.env)).filterMap (·.1) = ks := by rfl)
    (hdb : (x == ("__debug__" : Str)) = false := by decide) (hpl : ((backTo pos (starEach [] X.env)).any (·.1) || (backToKw pos (keywordEach kws X.env)).any (·.1.isNone)) = false := by rfl) :
    JE X (.Call (.Name x p) [] kws pos) (tCallK (SpD n pre) gV E tNil tk) (mCallK pre gC mcNil M) :=
  ⟨pe_callGK0 F hr hG hg hm hk hb hx hkw.pe hall hks hdb hpl, callK_sound pc cs_nil hkw.es⟩
end

/-! ### built-ins -/
def RS (r : List V → Hp → VK → Prop) (f : List PyData → (PyData → Prop) → Prop) : Prop := ∀ (W : Wl) (Z O : Addr → Prop) (env : Cells) (σ : L2.St) (H0 H : Hp) (vs : List V) (ds : List PyData) (P : PyData → Prop) (Q : VK), Rel W Z O env σ H0 H →
  TnAll W H (ZO Z O) vs ds → f ds P → (∀ d v H', P d → Ge W H H' → Dn H' (ZO Z O) v d → Q v H') → r vs H Q
def RF (r : List V → Hp → VK → Prop) (f : List PyData → (List PyData → Prop) → Prop) : Prop := ∀ (W : Wl) (Z O : Addr → Prop) (env : Cells) (σ : L2.St) (H0 H : Hp) (vs : List V) (ds : List PyData) (P : List PyData → Prop) (Q : VK), Rel W Z O env σ H0 H →
  TnAll W H (ZO Z O) vs ds → f ds P → (∀ ds p xs H', P ds → Ge W H H' → H p = none → H' p = some (.lst xs) → DnAll H' (ZO Z fun a => O a ∨ a = p) xs ds → Q (.ref p) H') → r vs H Q
def mBl (f : List PyData → (PyData → Prop) → Prop) (A : ML) : ME := fun env P => A env fun ds => f ds P
def mBlF (f : List PyData → (List PyData → Prop) → Prop) (A : ML) : ML := fun env P => A env fun ds => f ds P
section
variable {X : Cx} {e : Expr} {es : List Expr} {t : TA} {M : ML} {pos p : Pos} {x : Str} {id T : String} {r : List V → Hp → VK → Prop} {f : List PyData → (PyData → Prop) → Prop} {fF : List PyData → (List PyData → Prop) → Prop}
theorem cb_sound (h : AbS t M) (hs : RS r f) : ES (tCB r t) (mBl f M) := by
  intro W Z O env σ H0 H P Q R hm k
  refine h W Z O env σ H0 H _ _ R hm fun ds vs H1 p1 g1 n1 => ?_
  exact hs W Z O env σ H0 H1 vs ds P Q (R.tr g1) n1 p1 fun d v H2 p2 g2 n2 => k d v H2 p2 (g1.trans g2) n2
theorem cbF_sound (h : AbS t M) (hs : RF r fF) : FS (tCB r t) (mBlF fF M) := by
  intro W Z O env σ H0 H P Q R hm k
  refine h W Z O env σ H0 H _ _ R hm fun ds vs H1 p1 g1 n1 => ?_
  exact hs W Z O env σ H0 H1 vs ds P Q (R.tr g1) n1 p1 fun d p xs H2 p2 g2 hp h2 n2 => k d p xs H2 p2 (g1.trans g2) (g1.fresh R.wl hp) h2 n2
theorem je_B (hc : CallR X (.builtin id) r) (hs : RS r f) (hm : X.mg x = none) (hv : bootBuiltins x = some (.builtin id)) (ha : JAb X (e :: es) t M) (hg : Gl X x := by rfl) (hn : x ≠ "__name__" := by decide) (hdb : (x == ("__debug__" : Str)) = false := by decide)
    (he : starEach (e :: es) X.env = (false, eval e X.env) :: starEach es X.env := by rfl) (hpl : (backTo pos (starEach es X.env)).any (·.1) = false := by rfl) : JE X (.Call (.Name x p) (e :: es) [] pos) (tCB r t) (mBl f M) :=
  ⟨pe_callB hc hg hm hv ha.pe hn hdb he hpl, cb_sound ha.es hs⟩
theorem je_Ty (hc : CallR X (.type T) r) (hs : RS r f) (hm : X.mg x = none) (hv : bootBuiltins x = some (.type T)) (ha : JAb X (e :: es) t M) (hg : Gl X x := by rfl) (hn : x ≠ "__name__" := by decide) (hdb : (x == ("__debug__" : Str)) = false := by decide)
    (he : starEach (e :: es) X.env = (false, eval e X.env) :: starEach es X.env := by rfl) (hpl : (backTo pos (starEach es X.env)).any (·.1) = false := by rfl) : JE X (.Call (.Name x p) (e :: es) [] pos) (tCB r t) (mBl f M) :=
  ⟨pe_callTy hc hg hm hv ha.pe hn hdb he hpl, cb_sound ha.es hs⟩
theorem jf_B (hc : CallR X (.builtin id) r) (hs : RF r fF) (hm : X.mg x = none) (hv : bootBuiltins x = some (.builtin id)) (ha : JAb X (e :: es) t M) (hg : Gl X x := by rfl) (hn : x ≠ "__name__" := by decide) (hdb : (x == ("__debug__" : Str)) = false := by decide)
    (he : starEach (e :: es) X.env = (false, eval e X.env) :: starEach es X.env := by rfl) (hpl : (backTo pos (starEach es X.env)).any (·.1) = false := by rfl) : JF X (.Call (.Name x p) (e :: es) [] pos) (tCB r t) (mBlF fF M) :=
  ⟨pe_callB hc hg hm hv ha.pe hn hdb he hpl, cbF_sound ha.es hs⟩
theorem jf_Ty (hc : CallR X (.type T) r) (hs : RF r fF) (hm : X.mg x = none) (hv : bootBuiltins x = some (.type T)) (ha : JAb X (e :: es) t M) (hg : Gl X x := by rfl) (hn : x ≠ "__name__" := by decide) (hdb : (x == ("__debug__" : Str)) = false := by decide)
    (he : starEach (e :: es) X.env = (false, eval e X.env) :: starEach es X.env := by rfl) (hpl : (backTo pos (starEach es X.env)).any (·.1) = false := by rfl) : JF X (.Call (.Name x p) (e :: es) [] pos) (tCB r t) (mBlF fF M) :=
  ⟨pe_callTy hc hg hm hv ha.pe hn hdb he hpl, cbF_sound ha.es hs⟩
end
def on1 (ds : List PyData) (k : PyData → Prop) : Prop := match ds with
  | [d] => k d
  | _ => False
def on2 (ds : List PyData) (k : PyData → PyData → Prop) : Prop := match ds with
  | [d, e] => k d e
  | _ => False
theorem on1_iff {ds : List PyData} {k : PyData → Prop} (h : on1 ds k) : ∃ d, ds = [d] ∧ k d := by
  unfold on1 at h
  split at h
  · exact ⟨_, rfl, h⟩
  · exact h.elim
theorem on2_iff {ds : List PyData} {k : PyData → PyData → Prop} (h : on2 ds k) : ∃ d e, ds = [d, e] ∧ k d e := by
  unfold on2 at h
  split at h
  · exact ⟨_, _, rfl, h⟩
  · exact h.elim
theorem TnAll.one {W : Wl} {H : Hp} {Z : Addr → Prop} {vs : List V} {d : PyData} (h : TnAll W H Z vs [d]) : ∃ v, vs = [v] ∧ Tn W H Z v d := by
  cases h with
  | cons a b =>
    cases b
    exact ⟨_, rfl, a⟩
theorem TnAll.two {W : Wl} {H : Hp} {Z : Addr → Prop} {vs : List V} {d e : PyData} (h : TnAll W H Z vs [d, e]) : ∃ v u, vs = [v, u] ∧ Tn W H Z v d ∧ Tn W H Z u e := by
  cases h with
  | cons a b =>
    obtain ⟨u, rfl, c⟩ := b.one
    exact ⟨_, u, rfl, a, c⟩
def fLen (ds : List PyData) (P : PyData → Prop) : Prop := on1 ds fun d => match d with
  | .list xs => P (.int (xs.length : Nat))
  | .tuple xs => P (.int (xs.length : Nat))
  | .str z => z.length ≤ sizeLine ∧ P (.int (z.length : Nat))
  | _ => False
theorem rs_len {K : PySem.W.Frag} : RS (fun xs H Q => ∃ x n, xs = [x] ∧ LenV K x H n ∧ Q (.int n) H) fLen := by
  intro W Z O env σ H0 H vs ds P Q R hv hf k
  obtain ⟨d, rfl, hf⟩ := on1_iff hf
  obtain ⟨v, rfl, hw⟩ := hv.one
  cases d with
  | list xs =>
    obtain ⟨p, ys, rfl, hp, r⟩ := hw.list
    exact ⟨_, xs.length, rfl, .inl ⟨ys, SqL.of hp, r.length.symm⟩, k _ _ H hf .refl (.int _)⟩
  | tuple xs =>
    obtain ⟨p, ys, rfl, hp, _, r⟩ := hw.tuple
    exact ⟨_, xs.length, rfl, .inr ⟨ys, SqT.of hp, r.length.symm⟩, k _ _ H hf .refl (.int _)⟩
  | str z =>
    have e := hw.str
    exact ⟨v, z.length, rfl, by rw [e]; exact ⟨hf.1, rfl⟩, k _ _ H hf.2 .refl (.int _)⟩
  | _ => exact hf.elim
def fMin2 (ds : List PyData) (P : PyData → Prop) : Prop := on2 ds fun a b => onI2 a b fun i j => P (.int (if j < i then j else i))
def fMax2 (ds : List PyData) (P : PyData → Prop) : Prop := on2 ds fun a b => onI2 a b fun i j => P (.int (if j > i then j else i))
theorem rs_min2 : RS (fun xs H Q => ∃ i j, xs = [.int i, .int j] ∧ Q (.int (if j < i then j else i)) H) fMin2 := by
  intro W Z O env σ H0 H vs ds P Q R hv hf k
  obtain ⟨d, e, rfl, hf⟩ := on2_iff hf
  obtain ⟨v, u, rfl, h1, h2⟩ := hv.two
  obtain ⟨i, j, rfl, rfl, hp⟩ := onI2_iff hf
  exact ⟨i, j, by rw [h1.int, h2.int], k _ _ H hp .refl (.int _)⟩
theorem rs_max2 : RS (fun xs H Q => ∃ i j, xs = [.int i, .int j] ∧ Q (.int (if j > i then j else i)) H) fMax2 := by
  intro W Z O env σ H0 H vs ds P Q R hv hf k
  obtain ⟨d, e, rfl, hf⟩ := on2_iff hf
  obtain ⟨v, u, rfl, h1, h2⟩ := hv.two
  obtain ⟨i, j, rfl, rfl, hp⟩ := onI2_iff hf
  exact ⟨i, j, by rw [h1.int, h2.int], k _ _ H hp .refl (.int _)⟩
def fAbs (ds : List PyData) (P : PyData → Prop) : Prop := on1 ds fun a => onI a fun i => P (.int (if i < 0 then -i else i))
theorem rs_abs : RS (fun xs H Q => ∃ i, xs = [.int i] ∧ Q (.int (if i < 0 then -i else i)) H) fAbs := by
  intro W Z O env σ H0 H vs ds P Q R hv hf k
  obtain ⟨d, rfl, hf⟩ := on1_iff hf
  obtain ⟨v, rfl, hw⟩ := hv.one
  obtain ⟨i, rfl, hp⟩ := onI_iff hf
  exact ⟨i, by rw [hw.int], k _ _ H hp .refl (.int _)⟩
def fInt (ds : List PyData) (P : PyData → Prop) : Prop := on1 ds fun a => match a with
  | .int i => P (.int i)
  | .bool b => P (.int (if b then 1 else 0))
  | _ => False
theorem rs_int : RS (fun xs H Q => (∃ i, xs = [.int i] ∧ Q (.int i) H) ∨ ∃ k, xs = [.bl k] ∧ Q (.int (if k then 1 else 0)) H) fInt := by
  intro W Z O env σ H0 H vs ds P Q R hv hf k
  obtain ⟨d, rfl, hf⟩ := on1_iff hf
  obtain ⟨v, rfl, hw⟩ := hv.one
  cases d with
  | int i => exact .inl ⟨i, by rw [hw.int], k _ _ H hf .refl (.int _)⟩
  | bool b => exact .inr ⟨b, by rw [hw.bool], k _ _ H hf .refl (.int _)⟩
  | _ => exact hf.elim
def fTuple (ds : List PyData) (P : PyData → Prop) : Prop := on1 ds fun a => onLU a fun xs => P (.tuple xs)
theorem rs_tuple {K : PySem.W.Frag} : RS (fun xs H Q => ∃ p ys, xs = [.ref p] ∧ ((SqL K H p ys ∧ ∀ (l : Addr) (o : Obj), H l = none → o.cls = .type "tuple" → o.dict = none → Q (.ref l) (upd H l (.frz o (.tup ys)))) ∨ (SqT K H p ys ∧ Q (.ref p) H))) fTuple := by
  intro W Z O env σ H0 H vs ds P Q R hv hf k
  obtain ⟨d, rfl, hf⟩ := on1_iff hf
  obtain ⟨v, rfl, hw⟩ := hv.one
  obtain ⟨xs, e | e, hp⟩ := onLU_iff hf
  · subst e
    obtain ⟨p, ys, rfl, hpp, r⟩ := hw.list
    exact ⟨p, ys, rfl, .inl ⟨SqL.of hpp, fun l o hl hc hd => k _ _ _ hp (.new hl) (.tup (TupAt.up hc hd) (R.new hl) (r.new hl))⟩⟩
  · subst e
    obtain ⟨p, ys, rfl, hpp, nz, r⟩ := hw.tuple
    exact ⟨p, ys, rfl, .inr ⟨SqT.of hpp, k _ _ H hp .refl (.tup hpp nz r)⟩⟩
def fList (ds : List PyData) (P : List PyData → Prop) : Prop := on1 ds fun a => onLU a P
theorem rf_list {K : PySem.W.Frag} : RF (fun xs H Q => ∃ p ys, xs = [.ref p] ∧ (SqL K H p ys ∨ SqT K H p ys) ∧ ∀ l, H l = none → Q (.ref l) (upd H l (.lst ys))) fList := by
  intro W Z O env σ H0 H vs ds P Q R hv hf k
  obtain ⟨d, rfl, hf⟩ := on1_iff hf
  obtain ⟨v, rfl, hw⟩ := hv.one
  obtain ⟨xs, e | e, hp⟩ := onLU_iff hf
  · subst e
    obtain ⟨p, ys, rfl, hpp, r⟩ := hw.list
    exact ⟨p, ys, rfl, .inl (SqL.of hpp), fun l hl => k _ _ _ _ hp (.new hl) hl upd_same (r.own hl)⟩
  · subst e
    obtain ⟨p, ys, rfl, hpp, nz, r⟩ := hw.tuple
    exact ⟨p, ys, rfl, .inr (SqT.of hpp), fun l hl => k _ _ _ _ hp (.new hl) hl upd_same (r.own hl)⟩

/-! ### repr -/
def dispD : PyData → Bool
  | .list _ => true
  | .tuple _ => true
  | _ => false
def rRepr (H : Hp) (Q : VK) (vs : List V) : Prop := ∃ (a : Addr) (d : PyData) (K : PySem.W.Frag), vs = [.ref a] ∧ Dp K H (.ref a) d ∧ d.showable = true ∧ d.hasDict = false ∧ d.depth ≤ 60 ∧ d.shown.length ≤ sizeLine ∧ Q (.str d.shown) H
def fRepr (ds : List PyData) (P : PyData → Prop) : Prop := on1 ds fun d => dispD d = true ∧ d.showable = true ∧ d.hasDict = false ∧ d.depth ≤ 60 ∧ d.shown.length ≤ sizeLine ∧ P (.str d.shown)
theorem call_repr {X : Cx} (hG : X.A.guards = some []) (hu : X.A.units + 64 < cLine) : CallR X (.builtin "repr") (fun vs H Q => ∃ (a : Addr) (d : PyData), vs = [.ref a] ∧ Dp X.K H (.ref a) d ∧ d.showable = true ∧ d.hasDict = false ∧ d.depth ≤ 60 ∧ d.shown.length ≤ sizeLine ∧ Q (.str d.shown) H) := by
  intro pins s σ H xs us Q I r h
  obtain ⟨a, d, rfl, hd, h1, h2, h3, h4, q⟩ := h
  rw [Vals.ref1 r]
  obtain ⟨as, rd⟩ := Dp.reads I d (.ref a) (.ref a) hd rfl
  exact repr_of_reads' rd h1 (PyData.noDict_hsm h2) hG (by omega) (fun _ _ e => e) (fun h' u tk hk => ⟨.str _, H, I.kept hk, ⟨u, rfl⟩, q⟩) h4
theorem rs_repr {K : PySem.W.Frag} : RS (fun vs H Q => ∃ (a : Addr) (d : PyData), vs = [.ref a] ∧ Dp K H (.ref a) d ∧ d.showable = true ∧ d.hasDict = false ∧ d.depth ≤ 60 ∧ d.shown.length ≤ sizeLine ∧ Q (.str d.shown) H) fRepr := by
  intro W Z O env σ H0 H vs ds P Q R hv hf k
  obtain ⟨d, rfl, h0, h1, h2, h3, h4, hp⟩ := on1_iff hf
  obtain ⟨v, rfl, hw⟩ := hv.one
  have hd : Dp K H v d := hw.dp h2
  have : ∃ a, v = .ref a := by
    cases d with
    | list xs => exact let ⟨p, _, e, _⟩ := hw.list; ⟨p, e⟩
    | tuple xs => exact let ⟨p, _, e, _⟩ := hw.tuple; ⟨p, e⟩
    | _ => cases h0
  obtain ⟨a, rfl⟩ := this
  exact ⟨a, d, rfl, hd, h1, h2, h3, h4, k _ _ H hp .refl (.str _)⟩
end Dw

set_option maxRecDepth 100000
set_option maxHeartbeats 4000000
/-! Dw4: what the layer lacked: a list or a tuple walked by one rule, enumerate of a tuple, sum of a tuple, xs[i] op= e, len(set(..)) of any ints. -/
namespace Dw
open PySem PySem.Spec PyProof.Rows L2
variable [XCtx]
section
variable {X : Cx} {tg : Expr}
/-- for x in a list or a tuple -/
def iSeq (K : PySem.W.Frag) (tl : TE) : TI := fun σ H R => tl σ H fun x H1 => ∃ a, x = .ref a ∧ (((∃ xs, SqL K H1 a xs) ∧ R (Itl K a) H1) ∨ ((∃ xs, SqT K H1 a xs) ∧ R (Itt K a) H1))
theorem pi_seq {l : Expr} {tl : TE} (hl : PE X l tl) : PI X tg l (iSeq X.K tl) := by
  constructor
  intro pins s σ H R I h
  refine thn (hl.run pins s σ H _ I h) ?_
  rintro v s1 ⟨x, H1, I1, r1, a, e, q⟩
  subst e
  cases r1
  have fp : ∀ b ∈ [s1.heap.objs.size], FpOk X pins H1 b := by
    intro b hb
    have e : b = s1.heap.objs.size := by simpa using hb
    subst e
    exact I1.fpOk (Nat.le_refl _) (I1.hok.fresh (Nat.le_refl _))
  rcases q with ⟨⟨xs, hq⟩, q⟩ | ⟨⟨xs, hq⟩, q⟩
  · obtain ⟨its, rv, p, hz⟩ := I1.list hq
    exact wpAny_pyIter_list p.isList ⟨s1.heap.objs.size, [s1.heap.objs.size], _, _, H1, rfl, I1.kept (t' := s1.toks) fun b o e => Heap.get?_push_of_some _ e, turn_list a _, ⟨_, Heap.get?_push_size _ rfl, rfl, rfl⟩, fp, q⟩
  · obtain ⟨its, rv, p, hz⟩ := I1.tuple hq
    exact wpAny_pyIter_tuple (show s1.heap.IsTuple a its.toArray from p) ⟨s1.heap.objs.size, [s1.heap.objs.size], _, _, H1, rfl, I1.kept (t' := s1.toks) fun b o e => Heap.get?_push_of_some _ e, turn_tuple a _, ⟨_, Heap.get?_push_size _ rfl, rfl, rfl⟩, fp, q⟩
end

/-! ### enumerate(tuple) -/
def IteT (K : PySem.W.Frag) (a : Addr) : It :=
  ⟨fun i H => ∃ (xs : List V) (x : V), SqT K H a xs ∧ xs[i]? = some x,
   fun i H v H' => ∃ T x, v = .ref T ∧ H T = none ∧ (∃ o : Obj, o.cls = .type "tuple" ∧ o.dict = none ∧ H' = upd H T (.frz o (.tup [.int (i : Nat), x]))) ∧ ∀ xs, SqT K H a xs → xs[i]? = some x,
   fun i H => ∃ xs : List V, SqT K H a xs ∧ xs.length ≤ i⟩
theorem turn_enumT {P : Program} {w : World} {K : PySem.W.Frag} {elts : List Expr} {kk : Nat} {tpos : Pos} (a e it : Addr) :
    Turn P w K (.Tuple elts kk tpos) (IteT K a) [e, it] e (fun i h => (∃ old, IsEnum h e it ((i : Nat) : Int) old) ∧ h.IsTupleIter it a i ∧ e ≠ it ∧ a ≠ e ∧ a ≠ it) where
  mem := List.mem_cons_self
  obj := by
    rintro i h ⟨⟨old, he⟩, ⟨o, ho, hc, hd⟩, _⟩ b hb
    have e' : b = e ∨ b = it := by simpa using hb
    rcases e' with rfl | rfl
    · exact ⟨_, he, fun v q => nomatch q⟩
    · exact ⟨o, ho, fun v q => by rw [hd] at q; cases q⟩
  keep := fun i h h' st k => let ⟨⟨old, he⟩, hi, n1, n2, n3⟩ := st; ⟨⟨old, k e (by simp) _ he⟩, hi.at fun o q => k it (by simp) o q, n1, n2, n3⟩
  item := by
    intro X hP hw hK hc i pins s σ H E I hf st hg
    subst hP hw hK
    obtain ⟨⟨old, he⟩, hit, hne, n2, n3⟩ := st
    obtain ⟨xs, x, hq, hx⟩ := hg
    obtain ⟨its, rv, p, hz⟩ := I.tuple hq
    obtain ⟨u, hu, ru⟩ := rv.get hx
    have hlt : i < its.toArray.size := by
      have := (List.getElem?_eq_some_iff.mp hu).1
      simpa using this
    have hel : e < s.heap.objs.size := Heap.lt_size he
    have hil : it < s.heap.objs.size := by obtain ⟨_, q, _⟩ := hit; exact Heap.lt_size q
    have D := Draws.tuple (prog := X.prog) (w := X.w) (A := X.A.in1) (I.ok.hd hc) it a n3 its.toArray
    refine wpAny_pyNext_enum_itemD D he ⟨hit, p⟩ hlt hne (by simp [hne, Ne.symm n2]) fun y h' tk hy ho st' hT hsz hk => ?_
    have ey : y = u := by
      have e2 : its.toArray[i]? = some u := by simpa using hu
      exact Option.some.inj (hy.symm.trans e2)
    subst ey
    refine ⟨_, rfl, wpAny_letOwnedTupleGo_enum (s := { s with heap := h', toks := tk + 1 }) ho fun h'' he' sb => ?_⟩
    have hT2 : h''.get? s.heap.objs.size = some { cls := .type "tuple", data := .seq #[.int i tk, y] } := (sb.2 _ (Nat.ne_of_gt hel)).trans hT
    have new : ObjOk X.prog X.w (upd H s.heap.objs.size (.frz { cls := .type "tuple", data := .seq #[.int i tk, y] } (.tup [.int (i : Nat), x]))) h'' s.heap.objs.size (.frz { cls := .type "tuple", data := .seq #[.int i tk, y] } (.tup [.int (i : Nat), x])) :=
      ⟨hT2, by show 2 ≤ sizeLine; decide, [.int i tk, y], .cons ⟨_, rfl⟩ (.cons ru .nil), ⟨_, hT2, rfl, _, rfl⟩⟩
    have I1 : Inv X pins σ (upd H s.heap.objs.size (.frz { cls := .type "tuple", data := .seq #[.int i tk, y] } (.tup [.int (i : Nat), x]))) { s with heap := h'', toks := tk + 1 } :=
      I.turnedNew (ch := [e, it]) (fun b ob hb q => (sb.2 b (fun z => hb (by simp [z]))).trans (hk b ob (fun z => hb (by simp [z])) (fun z => hb (by simp [z])) q)) hf (Nat.le_refl _) new
    refine ⟨.ref s.heap.objs.size, _, I1, rfl, ⟨_, x, rfl, I.hok.fresh (Nat.le_refl _), ⟨_, rfl, rfl, rfl⟩, fun ys hys => by rw [I.tuple_inj hys hq]; exact hx⟩, ⟨⟨y, ?_⟩, st'.1.at fun o q => (sb.2 it (Ne.symm hne)).trans q, hne, n2, n3⟩, fun b hb => ?_⟩
    · have e1 : ((i + 1 : Nat) : Int) = (i : Int) + 1 := by omega
      rw [e1]; exact he'
    · have hb' : b < s.heap.objs.size := by
        have e' : b = e ∨ b = it := by simpa using hb
        rcases e' with z | z
        · rw [z]; exact hel
        · rw [z]; exact hil
      rw [upd_ne (Nat.ne_of_lt hb')]
      exact (hf b hb).1
  done := by
    intro X hP hw hK hc i pins s σ H E I hf st hg
    subst hP hw hK
    obtain ⟨⟨old, he⟩, hit, hne, n2, n3⟩ := st
    obtain ⟨xs, hq, hx⟩ := hg
    obtain ⟨its, rv, p, hz⟩ := I.tuple hq
    obtain ⟨f0, f1, f2, f3, f4, f5⟩ := hf it (by simp)
    have hl := rv.length
    unfold pyNext
    have hT : s.TypeIs (.ref e) "enumerate" := ⟨_, he, rfl⟩
    refine wpAny_bind (wpAny_attempt (wpAny_callSpecial?_slot (name := Str.ofString "__next__") hT PySem.F.slot_enumerate_next (wpAny_call_entry PySem.F.slot_enumerate_next hT PySem.F.entry_enumerate_next ?_ (PySem.F.args_enumerate_next_1 _))))
    show wpAny _ _ (field (.ref e) 2 >>= _) _ _ _
    refine wpAny_bind (wpAny_field he rfl (x := .ref it) rfl ?_)
    refine wpAny_bind (wpAny_nextOf_tuple_end (I.ok.hd hc) hit (show s.heap.IsTuple a its.toArray from p) (by simp; omega) fun h' y he' hy => ?_)
    obtain ⟨o, ho, hc'⟩ := hy
    refine wpAny_bind (wpAny_isInstance (T := "StopIteration") (b := true) ⟨o, ho, hc'⟩ isSubtype_stop ?_)
    exact wpAny_pure ⟨rfl, I.turned (t' := s.toks) (fun b o hb q => he' b o hb q) f0 f1 f3 f4 f5⟩
  self := fun A i s Q E st h => let ⟨⟨_, he⟩, _⟩ := st; wpAny_pyIter_enum he h
/-! ### enumerate(list) -/
def Ite (K : PySem.W.Frag) (a : Addr) : It :=
  ⟨fun i H => ∃ (xs : List V) (x : V), SqL K H a xs ∧ xs[i]? = some x,
   fun i H v H' => ∃ T x, v = .ref T ∧ H T = none ∧ (∃ o : Obj, o.cls = .type "tuple" ∧ o.dict = none ∧ H' = upd H T (.frz o (.tup [.int (i : Nat), x]))) ∧ ∀ xs, SqL K H a xs → xs[i]? = some x,
   fun i H => ∃ xs : List V, SqL K H a xs ∧ xs.length ≤ i⟩
theorem turn_enum {P : Program} {w : World} {K : PySem.W.Frag} {elts : List Expr} {kk : Nat} {tpos : Pos} (a e it : Addr) :
    Turn P w K (.Tuple elts kk tpos) (Ite K a) [e, it] e (fun i h => (∃ old, IsEnum h e it ((i : Nat) : Int) old) ∧ h.IsListIter it a i ∧ e ≠ it) where
  mem := List.mem_cons_self
  obj := by
    rintro i h ⟨⟨old, he⟩, ⟨o, ho, hc, hd⟩, _⟩ b hb
    have e' : b = e ∨ b = it := by simpa using hb
    rcases e' with rfl | rfl
    · exact ⟨_, he, fun v q => nomatch q⟩
    · exact ⟨o, ho, fun v q => by rw [hd] at q; cases q⟩
  keep := fun i h h' st k => let ⟨⟨old, he⟩, hi, hne⟩ := st; ⟨⟨old, k e (by simp) _ he⟩, hi.at fun o q => k it (by simp) o q, hne⟩
  item := by
    intro X hP hw hK hc i pins s σ H E I hf st hg
    subst hP hw hK
    obtain ⟨⟨old, he⟩, hit, hne⟩ := st
    obtain ⟨xs, x, hq, hx⟩ := hg
    obtain ⟨its, rv, p, hz⟩ := I.list hq
    obtain ⟨u, hu, ru⟩ := rv.get hx
    have hlt : i < its.toArray.size := by
      have := (List.getElem?_eq_some_iff.mp hu).1
      simpa using this
    have hel : e < s.heap.objs.size := Heap.lt_size he
    have hil : it < s.heap.objs.size := by obtain ⟨_, q, _⟩ := hit; exact Heap.lt_size q
    refine wpAny_pyNext_enum_item he hit p.isList (x := u) (by simpa using hu) hne fun h' ho hit' hT hsz hk => ?_
    refine ⟨_, rfl, wpAny_letOwnedTupleGo_enum (s := { s with heap := h', toks := s.toks + 1 }) ho fun h'' he' sb => ?_⟩
    have hT2 : h''.get? s.heap.objs.size = some { cls := .type "tuple", data := .seq #[.int i s.toks, u] } := (sb.2 _ (Nat.ne_of_gt hel)).trans hT
    have new : ObjOk X.prog X.w (upd H s.heap.objs.size (.frz { cls := .type "tuple", data := .seq #[.int i s.toks, u] } (.tup [.int (i : Nat), x]))) h'' s.heap.objs.size (.frz { cls := .type "tuple", data := .seq #[.int i s.toks, u] } (.tup [.int (i : Nat), x])) :=
      ⟨hT2, by show 2 ≤ sizeLine; decide, [.int i s.toks, u], .cons ⟨_, rfl⟩ (.cons ru .nil), ⟨_, hT2, rfl, _, rfl⟩⟩
    have I1 : Inv X pins σ (upd H s.heap.objs.size (.frz { cls := .type "tuple", data := .seq #[.int i s.toks, u] } (.tup [.int (i : Nat), x]))) { s with heap := h'', toks := s.toks + 1 } :=
      I.turnedNew (ch := [e, it]) (fun b ob hb q => (sb.2 b (fun z => hb (by simp [z]))).trans (hk b ob (fun z => hb (by simp [z])) (fun z => hb (by simp [z])) q)) hf (Nat.le_refl _) new
    refine ⟨.ref s.heap.objs.size, _, I1, rfl, ⟨_, x, rfl, I.hok.fresh (Nat.le_refl _), ⟨_, rfl, rfl, rfl⟩, fun ys hys => by rw [I.list_inj hys hq]; exact hx⟩, ⟨⟨u, ?_⟩, hit'.at fun o q => (sb.2 it (Ne.symm hne)).trans q, hne⟩, fun b hb => ?_⟩
    · have e1 : ((i + 1 : Nat) : Int) = (i : Int) + 1 := by omega
      rw [e1]; exact he'
    · have hb' : b < s.heap.objs.size := by
        have e' : b = e ∨ b = it := by simpa using hb
        rcases e' with z | z
        · rw [z]; exact hel
        · rw [z]; exact hil
      rw [upd_ne (Nat.ne_of_lt hb')]
      exact (hf b hb).1
  done := by
    intro X hP hw hK hc i pins s σ H E I hf st hg
    subst hP hw hK
    obtain ⟨⟨old, he⟩, hit, hne⟩ := st
    obtain ⟨xs, hq, hx⟩ := hg
    obtain ⟨its, rv, p, hz⟩ := I.list hq
    obtain ⟨f0, f1, f2, f3, f4, f5⟩ := hf it (by simp)
    have hl := rv.length
    exact wpAny_pyNext_enum_end (I.ok.hd hc) he hit p.isList (by simp; omega) fun h' eb => ⟨rfl, I.turned (t' := s.toks) (fun b o hb q => eb b o hb q) f0 f1 f3 f4 f5⟩
  self := fun A i s Q E st h => let ⟨⟨_, he⟩, _⟩ := st; wpAny_pyIter_enum he h
end Dw

set_option maxRecDepth 100000
set_option maxHeartbeats 4000000
/-! Dw5: lists and tuples: +, *, slices, in, sum, sorted, len(set(..)); what is walked. -/
namespace Dw
open PySem PySem.Spec PyProof.Rows L2
variable [XCtx]
section
variable {X : Cx}
def iEnumA (K : PySem.W.Frag) (ta : TA) : TI := fun σ H R => ta σ H fun vs H1 => ∃ a, vs = [.ref a] ∧ (((∃ xs, SqL K H1 a xs) ∧ R (Ite K a) H1) ∨ ((∃ xs, SqT K H1 a xs) ∧ R (IteT K a) H1))
theorem call_enumerate_tuple {M : Program} {w : World} {A : Around} {E : Value → Shared → Prop} {s : Shared} {l : Addr} {items : Array Value} {Q : Value → Shared → Prop} (hL : s.heap.IsTuple l items)
    (h : ∀ h', IsEnum h' (s.heap.objs.size + 1) s.heap.objs.size 0 .none → h'.IsTupleIter s.heap.objs.size l 0 → h'.objs.size = s.heap.objs.size + 2 → (∀ b o, s.heap.get? b = some o → h'.get? b = some o) → Q (.ref (s.heap.objs.size + 1)) { s with heap := h' }) :
    wpAny (model M w) A (call (.type "enumerate") [.ref l]) Q E s := by
  have B := begins_tuple l items
  have meets : Meets (Builtin.«enumerate.__new__» ⟨[.type "enumerate", .ref l], []⟩) (fun _ R s => s.heap.IsTuple l items ∧
      R (.ok (.ret (.ref (s.heap.push { cls := .type "tuple_iterator", data := .fields #[.ref l, .int 0 0] }).objs.size)))
        { s with heap := (s.heap.push { cls := .type "tuple_iterator", data := .fields #[.ref l, .int 0 0] }).push { cls := .type "enumerate", data := .fields #[.none, .bool false, .ref s.heap.objs.size, rawInt 0, .none, .none] } }) :=
    .of_wp fun prog w A R s h => by
      obtain ⟨hp, g, d, tk, os⟩ := s
      obtain ⟨h1, h⟩ := h
      have hsub := sub_enumerate
      have q1 : ∀ {A' : Around} {E : Value → Shared → Prop} {Q : Value → Shared → Prop}, Q (.ref hp.objs.size) ⟨hp.push { cls := .type "tuple_iterator", data := .fields #[.ref l, .int 0 0] }, g, d, tk, os⟩ → wpAny (model prog w) A' (pyIter (.ref l)) Q E ⟨hp, g, d, tk, os⟩ :=
        fun q => B.iter prog w _ _ ⟨hp, g, d, tk, os⟩ _ h1 q
      wp_walk using q1
      refine wpAny_stack_any fun st => wpAny_pure ?_
      split
      · rename_i c _ _ _ _ _
        cases (c == Value.type "enumerate") <;> (wp_walk using q1; exact ⟨_, rfl, h⟩)
      · wp_walk using q1
        exact ⟨_, rfl, h⟩
  refine callType_new PySem.F.called_enumerate (by decide) (PySem.F.typeCall_enumerate_1 _) (PySem.F.newCall_enumerate_1 _) (fun obj => PySem.F.args_object_init_2 obj _) PySem.F.entry_enumerate_new meets ⟨hL, ?_⟩
  have hz : (s.heap.push { cls := .type "tuple_iterator", data := .fields #[.ref l, .int 0 0] }).objs.size = s.heap.objs.size + 1 := Heap.size_push ..
  have he := Heap.get?_push_size (s.heap.push { cls := .type "tuple_iterator", data := .fields #[.ref l, .int 0 0] }) (o := { cls := .type "enumerate", data := .fields #[.none, .bool false, .ref s.heap.objs.size, rawInt 0, .none, .none] }) rfl
  rw [hz] at he
  show _ ∧ _
  rw [hz]
  refine ⟨⟨_, he, rfl⟩, h _ he ⟨_, Heap.get?_push_of_some _ (Heap.get?_push_size _ rfl), rfl, rfl⟩ (by rw [Heap.size_push, hz]) fun b o z => Heap.get?_push_of_some _ (Heap.get?_push_of_some _ z)⟩
theorem pi_enumA {e : Expr} {ta : TA} {p pos tpos : Pos} {elts : List Expr} {kk : Nat} (hg : Gl X "enumerate") (hm : X.mg "enumerate" = none) (ha : PA X [e] ta) (hs : starEach [e] X.env = [(false, eval e X.env)] := by rfl) :
    PI X (.Tuple elts kk tpos) (.Call (.Name "enumerate" p) [e] [] pos) (iEnumA X.K ta) := by
  constructor
  intro pins s σ H R I h
  refine Call_ (ld_blt I hg hm boot_enumerate (PyProof.Rows.callWith_type1 (thn (ha.run pos pins s σ H _ I h) ?_) hs rfl))
  rintro us s1 ⟨vs, H1, I1, r1, a, ex, q⟩
  subst ex
  rw [Vals.ref1 r1]
  have fp : ∀ b ∈ [s1.heap.objs.size + 1, s1.heap.objs.size], FpOk X pins H1 b := by
    intro b hb
    have e' : b = s1.heap.objs.size + 1 ∨ b = s1.heap.objs.size := by simpa using hb
    have hle : s1.heap.objs.size ≤ b := by omega
    exact I1.fpOk hle (I1.hok.fresh hle)
  rcases q with ⟨⟨xs, hq⟩, q⟩ | ⟨⟨xs, hq⟩, q⟩
  · obtain ⟨its, rv, p', hz⟩ := I1.list hq
    refine call_enumerate_list p'.isList fun h' he hit hsz hk => wpAny_pyIter_enum he ?_
    exact ⟨s1.heap.objs.size + 1, [s1.heap.objs.size + 1, s1.heap.objs.size], _, _, H1, rfl, I1.kept (t' := s1.toks) hk, turn_enum a (s1.heap.objs.size + 1) s1.heap.objs.size, ⟨⟨.none, he⟩, hit, Nat.succ_ne_self _⟩, fp, q⟩
  · obtain ⟨its, rv, p', hz⟩ := I1.tuple hq
    have hla : a < s1.heap.objs.size := by
      obtain ⟨o, ho, _⟩ := id p'
      exact Heap.lt_size ho
    refine call_enumerate_tuple (show s1.heap.IsTuple a its.toArray from p') fun h' he hit hsz hk => wpAny_pyIter_enum he ?_
    exact ⟨s1.heap.objs.size + 1, [s1.heap.objs.size + 1, s1.heap.objs.size], _, _, H1, rfl, I1.kept (t' := s1.toks) hk, turn_enumT a (s1.heap.objs.size + 1) s1.heap.objs.size, ⟨⟨.none, he⟩, hit, Nat.succ_ne_self _, Nat.ne_of_lt (Nat.lt_succ_of_lt hla), Nat.ne_of_lt hla⟩, fp, q⟩

/-! ### sum of a list or a tuple -/
def rSumA (K : PySem.W.Frag) : List V → Hp → VK → Prop := fun vs H Q => ∃ (a : Addr) (ns : List Int), vs = [V.ref a] ∧ (SqL K H a (ns.map V.int) ∨ SqT K H a (ns.map V.int)) ∧ Q (.int ns.sum) H
theorem preSum_list (ns : List Int) : ∀ k, k ≤ ns.length → preSum (fun i => ns.getD i 0) k = (ns.take k).sum
  | 0, _ => rfl
  | k + 1, h => by
    have hk : k < ns.length := h
    rw [preSum, preSum_list ns k (Nat.le_of_lt hk), List.take_add_one, List.getElem?_eq_getElem hk, List.sum_append]
    show _ + ns.getD k 0 = _
    rw [List.getD_eq_getElem?_getD, List.getElem?_eq_getElem hk]
    simp
theorem cr_sumA (hc : X.calm = true) : CallR X (.builtin "sum") (rSumA X.K) := by
  intro pins s σ H vs us Q I r h
  obtain ⟨a, ns, rfl, hs | hs, q⟩ := h
  · exact cr_sum hc pins s σ H _ us Q I r ⟨a, ns, rfl, hs, q⟩
  · obtain ⟨its, rv, hl, hz⟩ := I.tuple hs
    rw [Vals.ref1 r]
    have hlen := rv.length
    rw [List.length_map] at hlen
    refine call_sum_walkG (wpAny_pyIter_tuple (show s.heap.IsTuple a its.toArray from hl) ?_)
    obtain ⟨o, ho, _⟩ := id hl
    have hla : a < s.heap.objs.size := Heap.lt_size ho
    refine ⟨s.heap.objs.size, _, _, _, _, _, fun i => ns.getD i 0, rfl, Walks.tuple (A := X.A.in1) (I.ok.hd hc) s.heap.objs.size a (Nat.ne_of_lt hla) its.toArray, ⟨⟨_, Heap.get?_push_size _ rfl, rfl, rfl⟩, (show s.heap.IsTuple a its.toArray from hl).at fun o e => Heap.get?_push_of_some _ e⟩, ?_, ?_, ?_⟩
    · intro b hb
      have e' : b = s.heap.objs.size ∨ b = a := by simpa using hb
      show b < (s.heap.push _).objs.size
      rw [Heap.size_push]
      rcases e' with rfl | rfl
      · exact Nat.lt_succ_self _
      · exact Nat.lt_succ_of_lt hla
    · intro i v hv
      have hv' : its[i]? = some v := by simpa using hv
      have hi : i < ns.length := by
        have := (List.getElem?_eq_some_iff.mp hv').1
        omega
      obtain ⟨u, hu, ru⟩ := rv.get (i := i) (x := .int ns[i]) (by rw [List.getElem?_map, List.getElem?_eq_getElem hi]; rfl)
      rw [hv'] at hu
      cases hu
      obtain ⟨t, rfl⟩ := ru
      refine ⟨t, ?_⟩
      show _ = Value.int (ns.getD i 0) t
      rw [List.getD_eq_getElem?_getD, List.getElem?_eq_getElem hi]
      rfl
    · intro h' tk t' hk
      refine ⟨.int ns.sum, H, I.kept (t' := tk) fun b o e => hk b o (fun m => ?_) (Heap.get?_push_of_some _ e), ⟨t', ?_⟩, q⟩
      · have : b = s.heap.objs.size := by simpa using m
        subst this
        exact absurd (Heap.lt_size e) (Nat.lt_irrefl _)
      · rw [preSum_list ns _ (by rw [List.size_toArray]; omega), List.take_of_length_le (by rw [List.size_toArray]; omega)]

/-! ### xs[i], by values -/
theorem get_list : PGet X (rIxL X.K) := by
  intro pins s σ H o i ov iv Q I ro ri h
  obtain ⟨p, xs, k, z, rfl, rfl, hq, he, q⟩ := h
  cases ro
  obtain ⟨t, rfl⟩ := ri
  obtain ⟨its, r, pl, hz⟩ := I.list hq
  obtain ⟨j, h1, h2, h3, h4, h5⟩ := atI_get he
  obtain ⟨w, ew, rw'⟩ := r.get h2
  have hl := r.length
  have hn := line63
  have fin : EP X pins σ Q w s := ⟨z, H, I, rw', q⟩
  by_cases h0 : 0 ≤ k
  · have hj : k.toNat = j := by
      rw [seqIndex_of h0 h5] at h1
      exact Option.some.inj h1
    exact wpAny_getItem_list pl.isList h0 (by omega) (by rw [hj]; simpa using ew) fin
  · have hj : (k + (its.toArray.size : Int)).toNat = j := by
      rw [seqIndex_neg (by omega) h4] at h1
      rw [List.size_toArray, ← hl]
      exact Option.some.inj h1
    exact wpAny_getItem_list_neg pl.isList (by omega) (by rw [List.size_toArray] <;> omega) (by omega) (by rw [hj]; simpa using ew) fin
end
end Dw

set_option maxRecDepth 100000
set_option maxHeartbeats 4000000
/-! Dw6: lists and tuples over data: +, *, slices, in, sum, sorted. -/
namespace Dw
open PySem PySem.Spec PyProof.Rows L2
variable [XCtx]

/-! ### operators that make lists -/
def R2F (r : R2) (f : PyData → PyData → (List PyData → Prop) → Prop) : Prop := ∀ (W : Wl) (Z O : Addr → Prop) (env : Cells) (σ : L2.St) (H0 H : Hp) (x y : V) (d d' : PyData) (P : List PyData → Prop) (Q : VK), Rel W Z O env σ H0 H →
  Tn W H (ZO Z O) x d → Tn W H (ZO Z O) y d' → f d d' P → (∀ ds p xs H', P ds → Ge W H H' → H p = none → H' p = some (.lst xs) → DnAll H' (ZO Z fun a => O a ∨ a = p) xs ds → Q (.ref p) H') → r x y H Q
def m2F (f : PyData → PyData → (List PyData → Prop) → Prop) (A B : ME) : ML := fun env P => A env fun x => B env fun y => f x y P
def fCat (x y : PyData) (P : List PyData → Prop) : Prop := onL x fun a => onL y fun b => a.length + b.length ≤ 100000 ∧ P (a ++ b)
def fRep (x y : PyData) (P : List PyData → Prop) : Prop := onL x fun a => onI y fun k => -(2 ^ 63) ≤ k ∧ k < 2 ^ 63 ∧ a.length * k.toNat ≤ 100000 ∧ P (List.replicate k.toNat a).flatten
def fCatT (x y : PyData) (P : PyData → Prop) : Prop := onU x fun a => onU y fun b => a.length + b.length ≤ 100000 ∧ P (.tuple (a ++ b))
def fRepT (x y : PyData) (P : PyData → Prop) : Prop := onU x fun a => onI y fun k => a ≠ [] ∧ 2 ≤ k ∧ k ≤ 1000 ∧ a.length ≤ 1000 ∧ P (.tuple (List.replicate k.toNat a).flatten)
section
variable {X : Cx} {e a b : Expr} {t ta tb : TE} {A B m : ME} {pos : Pos}
theorem op_soundF {r : R2} {f : PyData → PyData → (List PyData → Prop) → Prop} (ha : BS ta A) (hb : BS tb B) (hr : R2F r f) : FS (tOp r ta tb) (m2F f A B) := by
  intro W Z O env σ H0 H P Q R hm k
  refine ha W Z O env σ H0 H _ _ R hm fun d v H1 p1 g1 n1 => ?_
  refine hb W Z O env σ H0 H1 _ _ (R.tr g1) p1 fun d' v' H2 p2 g2 n2 => ?_
  exact hr W Z O env σ H0 H2 v v' d d' P Q ((R.tr g1).tr g2) (n1.ge g2 R.mz) n2 p2 fun z p xs H3 p3 g3 hp h3 n3 => k z p xs H3 p3 ((g1.trans g2).trans g3) ((g1.trans g2).fresh R.wl hp) h3 n3
theorem s_cat : R2F rCat fCat := by
  intro W Z O env σ H0 H x y d d' P Q R hx hy hf k
  obtain ⟨as, rfl, h0⟩ := onL_iff hf
  obtain ⟨bs, rfl, hz, hp⟩ := onL_iff h0
  obtain ⟨p, xs, rfl, h1, n1⟩ := hx.list
  obtain ⟨q, ys, rfl, h2, n2⟩ := hy.list
  exact ⟨p, q, xs, ys, rfl, rfl, h1, h2, by rw [n1.length, n2.length]; exact small_line hz, fun l hl => k _ l _ _ hp (.new hl) hl upd_same ((n1.app n2).own hl)⟩
theorem s_rep : R2F rRep fRep := by
  intro W Z O env σ H0 H x y d d' P Q R hx hy hf k
  obtain ⟨as, rfl, h0⟩ := onL_iff hf
  obtain ⟨n, rfl, h3, h4, hz, hp⟩ := onI_iff h0
  obtain ⟨p, xs, rfl, h1, n1⟩ := hx.list
  exact ⟨p, n, xs, rfl, hy.int, h1, h3, h4, by rw [n1.length]; exact small_line hz, fun l hl => k _ l _ _ hp (.new hl) hl upd_same ((n1.rep _).own hl)⟩
theorem jf_cat (ha : JB X a ta A) (hb : JB X b tb B) : JF X (.BinOp a .Add b pos) (tOp rCat ta tb) (m2F fCat A B) := ⟨pe_op op_cat ha.pe hb.pe, op_soundF ha.es hb.es s_cat⟩
theorem jf_rep (ha : JB X a ta A) (hb : JB X b tb B) : JF X (.BinOp a .Mult b pos) (tOp rRep ta tb) (m2F fRep A B) := ⟨pe_op op_rep ha.pe hb.pe, op_soundF ha.es hb.es s_rep⟩
theorem s_catT {K : PySem.W.Frag} : R2S (rCatA K) fCatT := by
  intro W Z O env σ H0 H x y d d' P Q R hx hy hf k
  obtain ⟨as, rfl, h0⟩ := onU_iff hf
  obtain ⟨bs, rfl, hz, hp⟩ := onU_iff h0
  obtain ⟨p, xs, rfl, h1, z1, n1⟩ := hx.tuple
  obtain ⟨q, ys, rfl, h2, z2, n2⟩ := hy.tuple
  have hn := n1.app n2
  refine ⟨p, q, xs, ys, rfl, rfl, SqT.of h1, SqT.of h2, by rw [n1.length, n2.length]; exact small_line hz, fun e => ?_, fun _ e => ?_, fun _ _ l o hl hc hd => k _ _ _ hp (.new hl) (.tup (TupAt.up hc hd) (R.new hl) (hn.new hl))⟩
  · subst e
    cases n1
    exact k _ _ H hp .refl (.tup h2 z2 n2)
  · subst e
    cases n2
    exact k _ _ H hp .refl (.tup h1 z1 (by rw [List.append_nil]; exact n1))
theorem s_repT [OldT] {K : PySem.W.Frag} : R2S (rRepT K) fRepT := by
  intro W Z O env σ H0 H x y d d' P Q R hx hy hf k
  obtain ⟨as, rfl, h0⟩ := onU_iff hf
  obtain ⟨n, rfl, h3, h4, h5, h6, hp⟩ := onI_iff h0
  obtain ⟨p, xs, rfl, h1, z1, n1⟩ := hx.tuple
  exact ⟨p, n, xs, rfl, hy.int, SqT.of h1, (fun e => by
    subst e
    cases n1
    exact h3 rfl), h4, h5, by rw [n1.length]; exact h6, fun l hl => k _ _ _ hp (.new hl) (.tup (OldT.out upd_same) (R.new hl) ((n1.rep _).new hl))⟩
theorem je_catT (ha : JB X a ta A) (hb : JB X b tb B) : JE X (.BinOp a .Add b pos) (tOp (rCatA X.K) ta tb) (m2 fCatT A B) := je_op op_catA s_catT ha hb
theorem je_repT [OldT] (ha : JB X a ta A) (hb : JB X b tb B) : JE X (.BinOp a .Mult b pos) (tOp (rRepT X.K) ta tb) (m2 fRepT A B) := je_op op_repT s_repT ha hb
end

/-! ### in, not in -/
def flatD : PyData → Bool
  | .none => true
  | .bool _ => true
  | .int _ => true
  | .str _ => true
  | _ => false
def anyD (x : PyData) (ds : List PyData) : Bool := ds.any fun z => PyData.eqv z x
def fIn (neg : Bool) (x y : PyData) (P : PyData → Prop) : Prop := match y with
  | .list ds => SeqAt.shaped x = true ∧ SeqAt.shaped (.list ds) = true ∧ P (.bool (if neg then !anyD x ds else anyD x ds))
  | .tuple ds => flatD x = true ∧ ds.all flatD = true ∧ P (.bool (if neg then !anyD x ds else anyD x ds))
  | _ => False
section
variable {X : Cx} {e a b : Expr} {t ta tb : TE} {A B m : ME} {pos : Pos}
theorem flat_of {W : Wl} {H : Hp} {Z : Addr → Prop} {v : V} {d : PyData} (h : Tn W H Z v d) (f : flatD d = true) : flatV v = true := by
  cases d with
  | none => rw [h.none]; rfl
  | bool b => rw [h.bool]; rfl
  | int b => rw [h.int]; rfl
  | str b => rw [h.str]; rfl
  | _ => cases f
theorem eqV_of {W : Wl} {H : Hp} {Z : Addr → Prop} {v u : V} {d e : PyData} (h : Tn W H Z v d) (h' : Tn W H Z u e) (f : flatD d = true) (f' : flatD e = true) : eqV v u = PyData.eqv d e := by
  cases d <;> cases e <;> first | (cases f; done) | (cases f'; done) | skip
  all_goals (first | rw [h.none] | rw [h.bool] | rw [h.int] | rw [h.str])
  all_goals (first | rw [h'.none] | rw [h'.bool] | rw [h'.int] | rw [h'.str])
  all_goals rfl
theorem flatAll_of {W : Wl} {H : Hp} {Z : Addr → Prop} : ∀ {vs : List V} {ds : List PyData}, DnAll H Z vs ds → ds.all flatD = true → vs.all flatV = true
  | _, _, .nil, _ => rfl
  | _, _, .cons a b, f => by
    rw [List.all_cons, Bool.and_eq_true] at f
    rw [List.all_cons, flat_of (W := W) (.inl a) f.1, flatAll_of (W := W) b f.2]
    rfl
theorem inV_of {W : Wl} {H : Hp} {Z : Addr → Prop} {v : V} {d : PyData} (h : Tn W H Z v d) (f : flatD d = true) : ∀ {vs : List V} {ds : List PyData}, DnAll H Z vs ds → ds.all flatD = true → inV v vs = anyD d ds
  | _, _, .nil, _ => rfl
  | _, _, .cons a b, g => by
    rw [List.all_cons, Bool.and_eq_true] at g
    unfold inV anyD
    rw [List.any_cons, List.any_cons, eqV_of (.inl a) h g.1 f]
    exact congrArg _ (inV_of h f b g.2)
theorem s_in {K : PySem.W.Frag} : R2S (fun x y H Q => rInD K x y H Q ∨ rIn K false x y H Q) (fIn false) := by
  intro W Z O env σ H0 H x y d d' P Q R hx hy hf k
  cases d' with
  | list ds =>
    obtain ⟨h1, h2, hp⟩ := hf
    exact .inl ⟨d, ds, hx.dp (canLay_noDict h1), hy.dp (canLay_noDict h2), h1, h2, k _ _ H hp .refl (.bl _)⟩
  | tuple ds =>
    obtain ⟨h1, h2, hp⟩ := hf
    obtain ⟨q, ys, rfl, h3, z2, n2⟩ := hy.tuple
    exact .inr ⟨q, ys, rfl, .inr (SqT.of h3), flat_of hx h1, flatAll_of (W := W) n2 h2, k _ _ H hp .refl (by rw [inV_of hx h1 n2 h2]; exact .bl _)⟩
  | _ => exact hf.elim
theorem s_notIn {K : PySem.W.Frag} : R2S (fun x y H Q => rNotInD K x y H Q ∨ rIn K true x y H Q) (fIn true) := by
  intro W Z O env σ H0 H x y d d' P Q R hx hy hf k
  cases d' with
  | list ds =>
    obtain ⟨h1, h2, hp⟩ := hf
    exact .inl ⟨d, ds, hx.dp (canLay_noDict h1), hy.dp (canLay_noDict h2), h1, h2, k _ _ H hp .refl (.bl _)⟩
  | tuple ds =>
    obtain ⟨h1, h2, hp⟩ := hf
    obtain ⟨q, ys, rfl, h3, z2, n2⟩ := hy.tuple
    exact .inr ⟨q, ys, rfl, .inr (SqT.of h3), flat_of hx h1, flatAll_of (W := W) n2 h2, k _ _ H hp .refl (by rw [inV_of hx h1 n2 h2]; exact .bl _)⟩
  | _ => exact hf.elim
theorem je_in (hu : X.A.units + 65 < cLine) (ha : JB X a ta A) (hb : JB X b tb B) (hm : behindInMarks .In b = false := by rfl) : JE X (.Compare a [.In] [b] pos) (tOp (fun x y H Q => rInD X.K x y H Q ∨ rIn X.K false x y H Q) ta tb) (m2 (fIn false) A B) := je_cmp (OpR.or (op_inD hu) op_in_seq) s_in ha hb hm
theorem je_notIn (hu : X.A.units + 65 < cLine) (ha : JB X a ta A) (hb : JB X b tb B) (hm : behindInMarks .NotIn b = false := by rfl) : JE X (.Compare a [.NotIn] [b] pos) (tOp (fun x y H Q => rNotInD X.K x y H Q ∨ rIn X.K true x y H Q) ta tb) (m2 (fIn true) A B) := je_cmp (OpR.or (op_notInD hu) op_notIn_seq) s_notIn ha hb hm
end

/-! ### slices -/
def cutD {α : Type} (xs : List α) (lo hi : Option Int) : List α := (xs.drop (HT.sIx xs.length 0 lo)).take (HT.sIx xs.length xs.length hi - HT.sIx xs.length 0 lo)
theorem DnAll.cut {H : Hp} {Z : Addr → Prop} {vs : List V} {ds : List PyData} (n : DnAll H Z vs ds) (lo hi : Option Int) : DnAll H Z (cutV vs lo hi) (cutD ds lo hi) := by
  unfold cutV cutD
  rw [n.length]
  exact (n.drop _).take _
theorem cut_whole {α : Type} {xs : List α} {lo hi : Option Int} (h : HT.sIx xs.length 0 lo = 0 ∧ HT.sIx xs.length xs.length hi = xs.length) : cutD xs lo hi = xs := by
  unfold cutD
  rw [h.1, h.2]
  simp
abbrev MO := Cells → (Option Int → Prop) → Prop
def OS (t : TO) (m : MO) : Prop := ∀ (W : Wl) (Z O : Addr → Prop) (env : Cells) (σ : L2.St) (H0 H : Hp) (P : Option Int → Prop) (Q : Option Int → Hp → Prop), Rel W Z O env σ H0 H → m env P → (∀ o H', P o → Ge W H H' → Q o H') → t σ H Q
structure JO (X : Cx) (e : Option Expr) (t : TO) (m : MO) : Prop where
  pe : PO X e t
  es : OS t m
def moNone : MO := fun _ P => P none
def moSome (A : ME) : MO := fun env P => A env fun x => onI x fun i => P (some i)
def mSlT (A : ME) (L U : MO) : ME := fun env P => A env fun x => L env fun l => U env fun u => onU x fun xs => P (.tuple (cutD xs l u))
def mSlL (A : ME) (L U : MO) : ML := fun env P => A env fun x => L env fun l => U env fun u => onL x fun xs => P (cutD xs l u)
section
variable {X : Cx} {e : Expr} {t : TE} {A : ME} {pos p2 : Pos} {lo hi : Option Expr} {tl th : TO} {L U : MO}
theorem jo_none : JO X none tNoPart moNone := ⟨po_none, fun W Z O env σ H0 H P Q R hm k => k _ H hm .refl⟩
theorem jo_some (h : JB X e t A) : JO X (some e) (tPart t) (moSome A) := ⟨po_some h.pe, fun W Z O env σ H0 H P Q R hm k => by
  refine h.es W Z O env σ H0 H _ _ R hm fun d v H1 p1 g1 n1 => ?_
  obtain ⟨i, rfl, p1⟩ := onI_iff p1
  exact ⟨i, n1.int, k _ H1 p1 g1⟩⟩
theorem je_slT (h : JB X e t A) (hl : JO X lo tl L) (hu : JO X hi th U) : JE X (.Subscript e (.Slice lo hi none p2) pos) (tSl (rSlA X.K) t tl th) (mSlT A L U) := ⟨pe_slice sl_tupA h.pe hl.pe hu.pe, fun W Z O env σ H0 H P Q R hm k => by
  refine h.es W Z O env σ H0 H _ _ R hm fun d v H1 p1 g1 n1 => ?_
  refine hl.es W Z O env σ H0 H1 _ _ (R.tr g1) p1 fun l H2 p2 g2 => ?_
  refine hu.es W Z O env σ H0 H2 _ _ ((R.tr g1).tr g2) p2 fun u H3 p3 g3 => ?_
  obtain ⟨xs, rfl, p3⟩ := onU_iff p3
  obtain ⟨p, ys, rfl, hp, z, n⟩ := ((n1.ge g2 R.mz).ge g3 R.mz).tuple
  have g := (g1.trans g2).trans g3
  refine ⟨p, ys, rfl, SqT.of hp, fun hw => k _ _ H3 p3 g ?_, fun _ q o hq hc hd => k _ _ _ p3 (g.new' hq) (.tup (TupAt.up hc hd) ((R.tr g).new hq) ((n.cut l u).new hq))⟩
  rw [n.length] at hw
  rw [cut_whole hw]
  exact .tup hp z n⟩
theorem jf_slL (h : JB X e t A) (hl : JO X lo tl L) (hu : JO X hi th U) : JF X (.Subscript e (.Slice lo hi none p2) pos) (tSl (rSlL X.K) t tl th) (mSlL A L U) := ⟨pe_slice sl_list h.pe hl.pe hu.pe, fun W Z O env σ H0 H P Q R hm k => by
  refine h.es W Z O env σ H0 H _ _ R hm fun d v H1 p1 g1 n1 => ?_
  refine hl.es W Z O env σ H0 H1 _ _ (R.tr g1) p1 fun l H2 p2 g2 => ?_
  refine hu.es W Z O env σ H0 H2 _ _ ((R.tr g1).tr g2) p2 fun u H3 p3 g3 => ?_
  obtain ⟨xs, rfl, p3⟩ := onL_iff p3
  obtain ⟨p, ys, rfl, hp, n⟩ := ((n1.ge g2 R.mz).ge g3 R.mz).list
  have g := (g1.trans g2).trans g3
  exact ⟨p, ys, rfl, SqL.of hp, fun q hq => k _ _ _ _ p3 (g.new' hq) (g.fresh R.wl hq) upd_same ((n.cut l u).own hq)⟩⟩
end

/-! ### sum, sorted -/
abbrev rLenA (K : PySem.W.Frag) : List V → Hp → VK → Prop := fun xs H Q => ∃ x n, xs = [x] ∧ LenV K x H n ∧ Q (.int n) H
abbrev rAbsA : List V → Hp → VK → Prop := fun xs H Q => ∃ i, xs = [.int i] ∧ Q (.int (if i < 0 then -i else i)) H
abbrev rIntA : List V → Hp → VK → Prop := fun xs H Q => (∃ i, xs = [.int i] ∧ Q (.int i) H) ∨ ∃ k, xs = [.bl k] ∧ Q (.int (if k then 1 else 0)) H
abbrev rLstA (K : PySem.W.Frag) : List V → Hp → VK → Prop := fun xs H Q => ∃ p ys, xs = [.ref p] ∧ (SqL K H p ys ∨ SqT K H p ys) ∧ ∀ l, H l = none → Q (.ref l) (upd H l (.lst ys))
abbrev rReprA (K : PySem.W.Frag) : List V → Hp → VK → Prop := fun vs H Q => ∃ (a : Addr) (d : PyData), vs = [.ref a] ∧ Dp K H (.ref a) d ∧ d.showable = true ∧ d.hasDict = false ∧ d.depth ≤ 60 ∧ d.shown.length ≤ sizeLine ∧ Q (.str d.shown) H
abbrev rMinA : List V → Hp → VK → Prop := fun xs H Q => ∃ i j, xs = [.int i, .int j] ∧ Q (.int (if j < i then j else i)) H
abbrev rMaxA : List V → Hp → VK → Prop := fun xs H Q => ∃ i j, xs = [.int i, .int j] ∧ Q (.int (if j > i then j else i)) H
def fSum (ds : List PyData) (P : PyData → Prop) : Prop := on1 ds fun d => onLU d fun xs => ∃ ns : List Int, xs = ns.map PyData.int ∧ P (.int ns.sum)
theorem rs_sum {K : PySem.W.Frag} : RS (rSumA K) fSum := by
  intro W Z O env σ H0 H vs ds P Q R hv hf k
  obtain ⟨d, rfl, hf⟩ := on1_iff hf
  obtain ⟨v, rfl, hw⟩ := hv.one
  obtain ⟨xs, e, ns, rfl, hp⟩ := onLU_iff hf
  rcases e with rfl | rfl
  · obtain ⟨p, ys, rfl, h1, n⟩ := hw.list
    obtain rfl := n.ints
    exact ⟨p, ns, rfl, .inl (SqL.of h1), k _ _ H hp .refl (.int _)⟩
  · obtain ⟨p, ys, rfl, h1, _, n⟩ := hw.tuple
    obtain rfl := n.ints
    exact ⟨p, ns, rfl, .inr (SqT.of h1), k _ _ H hp .refl (.int _)⟩
def prD (p : Int × Int) : PyData := .tuple [.int p.1, .int p.2]
def lexLe (p q : Int × Int) : Prop := SrtO.lexB q p = false
def fSortI (ds : List PyData) (P : List PyData → Prop) : Prop := on1 ds fun d => onL d fun xs => ∃ ns : List Int, xs = ns.map PyData.int ∧ ∀ ns' : List Int, ns'.Perm ns → ns'.Pairwise (· ≤ ·) → P (ns'.map PyData.int)
def fSortP (ds : List PyData) (P : List PyData → Prop) : Prop := on1 ds fun d => onL d fun xs => ∃ ps : List (Int × Int), xs = ps.map prD ∧ ∀ qs : List (Int × Int), qs.Perm ps → qs.Pairwise lexLe → P (qs.map prD)
def fSort (ds : List PyData) (P : List PyData → Prop) : Prop := fSortI ds P ∨ fSortP ds P
theorem rf_sortI {K : PySem.W.Frag} : RF (rSortedI K) fSortI := by
  intro W Z O env σ H0 H vs ds P Q R hv hf k
  obtain ⟨d, rfl, hf⟩ := on1_iff hf
  obtain ⟨v, rfl, hw⟩ := hv.one
  obtain ⟨xs, rfl, ns, rfl, hp⟩ := onL_iff hf
  obtain ⟨p, ys, rfl, h1, n⟩ := hw.list
  obtain rfl := n.ints
  exact ⟨p, ns, rfl, SqL.of h1, fun ns' q h2 h3 hq => k _ q _ _ (hp ns' h2 h3) (.new hq) hq upd_same (DnAll.of_ints ns')⟩
/-- the two ints of the tuple at v -/
def twoOf (H : Hp) : V → Int × Int
  | .ref t => match H t with
    | some (.tup [.int a, .int b]) => (a, b)
    | some (.frz _ (.tup [.int a, .int b])) => (a, b)
    | _ => (0, 0)
  | _ => (0, 0)
theorem two_of {H : Hp} {Z : Addr → Prop} {v : V} {p : Int × Int} (h : Dn H Z v (prD p)) : (∃ t, v = .ref t ∧ TupAt H t [.int p.1, .int p.2]) ∧ twoOf H v = p := by
  obtain ⟨a, b⟩ := p
  cases h with
  | tup h1 h2 h3 =>
    cases h3 with
    | cons x y =>
      cases x
      cases y with
      | cons x y =>
        cases x
        cases y
        refine ⟨⟨_, rfl, h1⟩, ?_⟩
        obtain ⟨o, h1, _⟩ := h1
        simp only [twoOf, h1]
theorem two_all {H : Hp} {Z : Addr → Prop} : ∀ {vs : List V} {ps : List (Int × Int)}, DnAll H Z vs (ps.map prD) → vs.map (twoOf H) = ps ∧ ∀ v ∈ vs, ∃ p, Dn H Z v (prD p)
  | _, [], .nil => ⟨rfl, fun _ h => nomatch h⟩
  | _, p :: ps, .cons a b => by
    obtain ⟨h1, h2⟩ := two_all b
    refine ⟨by rw [List.map_cons, (two_of a).2, h1], fun v hv => ?_⟩
    rcases List.mem_cons.mp hv with rfl | hv
    · exact ⟨p, a⟩
    · exact h2 v hv
theorem two_back {H : Hp} {Z : Addr → Prop} : ∀ {vs : List V}, (∀ v ∈ vs, ∃ p, Dn H Z v (prD p)) → DnAll H Z vs ((vs.map (twoOf H)).map prD)
  | [], _ => .nil
  | v :: vs, h => by
    obtain ⟨p, hp⟩ := h v List.mem_cons_self
    rw [List.map_cons, List.map_cons, (two_of hp).2]
    exact .cons hp (two_back fun u hu => h u (List.mem_cons_of_mem _ hu))
def rSortedPT (K : PySem.W.Frag) : List V → Hp → VK → Prop := fun vs H Q => ∃ (a : Addr) (xs : List V) (k : V → Int × Int), vs = [V.ref a] ∧ SqL K H a xs ∧ (∀ x ∈ xs, ∃ t, x = V.ref t ∧ TupAt H t [.int (k x).1, .int (k x).2]) ∧
  ∀ ys p, SrtO.Srtd (ltP k) ys → SrtO.Stb (ltP k) ys xs → H p = none → Q (.ref p) (upd H p (.lst ys))
theorem cr_sortedPT {X : Cx} : CallR X (.builtin "sorted") (rSortedPT X.K) := by
  intro pins s σ H vs us Q I r h
  obtain ⟨a, xs, k, rfl, hs, hx, q⟩ := h
  obtain ⟨its, rv, hl, hz⟩ := I.list hs
  obtain ⟨u, rfl, ru⟩ := vals1 r
  obtain rfl : u = Value.ref a := ru
  obtain ⟨e1, e2⟩ := refs_back rv fun x m => by
    obtain ⟨t, e, _⟩ := hx x m
    exact ⟨t, e⟩
  refine SrtO.sorted_pairsO (k := fun u => k (backV u)) hl.isList (by rw [← rv.length]; exact hz) (fun v hv => ?_) fun h' d out h1 h2 kp hd hn => ?_
  · obtain ⟨t, rfl⟩ := e2 v hv
    have hm : V.ref t ∈ xs := by rw [e1]; exact List.mem_map.mpr ⟨_, hv, rfl⟩
    obtain ⟨t', e, ht⟩ := hx _ hm
    cases e
    obtain ⟨its2, r2, ⟨o, ho, hc, n, hd⟩, _⟩ := I.tuple (SqT.of ht)
    obtain ⟨u1, u2, rfl, ri, rj⟩ := vals2 r2
    obtain ⟨t1, rfl⟩ := ri
    obtain ⟨t2, rfl⟩ := rj
    exact ⟨t, o, t1, t2, n, rfl, ho, hc, hd⟩
  · have h3 : ∀ u ∈ out, ∃ a, u = Value.ref a := fun u hu => e2 u (h2.perm.mem_iff.mp hu)
    obtain ⟨n, hn⟩ := hn
    have hb : SrtO.Stb (ltP k) (out.map backV) xs := by
      rw [e1]
      exact SrtO.Stb.map (ltP_swo k) backV h2
    refine ⟨.ref d, upd H d (.lst (out.map backV)), I.laid (t' := s.toks) kp hd ⟨?_, out, n, vals_back h3, hn⟩, rfl, q _ d (SrtO.srtd_map h1) hb (I.hok.fresh hd)⟩
    rw [hb.len]
    exact hz
theorem rf_sortP {K : PySem.W.Frag} : RF (rSortedPT K) fSortP := by
  intro W Z O env σ H0 H vs ds P Q R hv hf k
  obtain ⟨d, rfl, hf⟩ := on1_iff hf
  obtain ⟨v, rfl, hw⟩ := hv.one
  obtain ⟨xs, rfl, ps, rfl, hp⟩ := onL_iff hf
  obtain ⟨p, ys, rfl, h1, n⟩ := hw.list
  obtain ⟨e1, e2⟩ := two_all n
  refine ⟨p, ys, twoOf H, rfl, SqL.of h1, fun x hx => ?_, fun zs q h2 h3 hq => ?_⟩
  · obtain ⟨pp, hpp⟩ := e2 x hx
    obtain ⟨⟨t, et, ht⟩, e⟩ := two_of hpp
    exact ⟨t, et, by rw [e]; exact ht⟩
  · have hz : ∀ v ∈ zs, ∃ p, Dn H (ZO Z O) v (prD p) := fun v hv => e2 v (h3.perm.mem_iff.mp hv)
    refine k _ q _ _ (hp (zs.map (twoOf H)) ?_ ?_) (.new hq) hq upd_same ((two_back hz).own hq)
    · rw [← e1]
      exact h3.perm.map _
    · exact List.pairwise_map.mpr h2
theorem RF.or {r r' : List V → Hp → VK → Prop} {f f' : List PyData → (List PyData → Prop) → Prop} (h : RF r f) (h' : RF r' f') : RF (fun xs H Q => r xs H Q ∨ r' xs H Q) (fun ds P => f ds P ∨ f' ds P) := by
  intro W Z O env σ H0 H vs ds P Q R hv hf k
  rcases hf with hf | hf
  · exact .inl (h W Z O env σ H0 H vs ds P Q R hv hf k)
  · exact .inr (h' W Z O env σ H0 H vs ds P Q R hv hf k)
section
variable {X : Cx} {e : Expr} {es : List Expr} {t : TA} {M : ML} {pos p : Pos}
theorem je_sum (hm : X.mg "sum" = none) (ha : JAb X [e] t M) (hg : Gl X "sum" := by rfl) (he : starEach [e] X.env = (false, eval e X.env) :: starEach [] X.env := by rfl) (hc : X.calm = true := by rfl) : JE X (.Call (.Name "sum" p) [e] [] pos) (tCB (rSumA X.K) t) (mBl fSum M) := je_B (cr_sumA hc) rs_sum hm (by decide +kernel) ha hg (by decide) (by decide) he rfl
theorem jf_sorted (hm : X.mg "sorted" = none) (ha : JAb X [e] t M) (hg : Gl X "sorted" := by rfl) (he : starEach [e] X.env = (false, eval e X.env) :: starEach [] X.env := by rfl) : JF X (.Call (.Name "sorted" p) [e] [] pos) (tCB (fun xs H Q => rSortedI X.K xs H Q ∨ rSortedPT X.K xs H Q) t) (mBlF fSort M) := jf_B (CallR.or cr_sortedI cr_sortedPT) (RF.or rf_sortI rf_sortP) hm (by decide +kernel) ha hg (by decide) (by decide) he rfl
theorem je_len (hm : X.mg "len" = none) (ha : JAb X [e] t M) (hg : Gl X "len" := by rfl) (he : starEach [e] X.env = (false, eval e X.env) :: starEach [] X.env := by rfl) : JE X (.Call (.Name "len" p) [e] [] pos) (tCB (rLenA X.K) t) (mBl fLen M) := je_B (call_len) rs_len hm (by decide +kernel) ha hg (by decide) (by decide) he rfl
theorem je_abs (hm : X.mg "abs" = none) (ha : JAb X [e] t M) (hg : Gl X "abs" := by rfl) (he : starEach [e] X.env = (false, eval e X.env) :: starEach [] X.env := by rfl) : JE X (.Call (.Name "abs" p) [e] [] pos) (tCB (rAbsA) t) (mBl fAbs M) := je_B (call_abs) rs_abs hm (by decide +kernel) ha hg (by decide) (by decide) he rfl
theorem je_int1 (hm : X.mg "int" = none) (ha : JAb X [e] t M) (hg : Gl X "int" := by rfl) (he : starEach [e] X.env = (false, eval e X.env) :: starEach [] X.env := by rfl) : JE X (.Call (.Name "int" p) [e] [] pos) (tCB (rIntA) t) (mBl fInt M) := je_Ty (call_int1) rs_int hm (by decide +kernel) ha hg (by decide) (by decide) he rfl
theorem je_tuple (hm : X.mg "tuple" = none) (ha : JAb X [e] t M) (hg : Gl X "tuple" := by rfl) (he : starEach [e] X.env = (false, eval e X.env) :: starEach [] X.env := by rfl) : JE X (.Call (.Name "tuple" p) [e] [] pos) (tCB (rTupA X.K) t) (mBl fTuple M) := je_Ty (cr_tupA) rs_tuple hm (by decide +kernel) ha hg (by decide) (by decide) he rfl
theorem jf_list (hm : X.mg "list" = none) (ha : JAb X [e] t M) (hg : Gl X "list" := by rfl) (he : starEach [e] X.env = (false, eval e X.env) :: starEach [] X.env := by rfl) : JF X (.Call (.Name "list" p) [e] [] pos) (tCB (rLstA X.K) t) (mBlF fList M) := jf_Ty (call_list_of) rf_list hm (by decide +kernel) ha hg (by decide) (by decide) he rfl
theorem je_repr (hG : X.A.guards = some []) (hu : X.A.units + 64 < cLine) (hm : X.mg "repr" = none) (ha : JAb X [e] t M) (hg : Gl X "repr" := by rfl) (he : starEach [e] X.env = (false, eval e X.env) :: starEach [] X.env := by rfl) : JE X (.Call (.Name "repr" p) [e] [] pos) (tCB (rReprA X.K) t) (mBl fRepr M) := je_B (call_repr hG hu) rs_repr hm (by decide +kernel) ha hg (by decide) (by decide) he rfl
theorem je_min2 {e2 : Expr} (hm : X.mg "min" = none) (ha : JAb X [e, e2] t M) (hg : Gl X "min" := by rfl) (he : starEach [e, e2] X.env = (false, eval e X.env) :: starEach [e2] X.env := by rfl) (hpl : (backTo pos (starEach [e2] X.env)).any (·.1) = false := by rfl) (hc : X.calm = true := by rfl) : JE X (.Call (.Name "min" p) [e, e2] [] pos) (tCB (rMinA) t) (mBl fMin2 M) := je_B (call_min2 hc) rs_min2 hm (by decide +kernel) ha hg (by decide) (by decide) he hpl
theorem je_max2 {e2 : Expr} (hm : X.mg "max" = none) (ha : JAb X [e, e2] t M) (hg : Gl X "max" := by rfl) (he : starEach [e, e2] X.env = (false, eval e X.env) :: starEach [e2] X.env := by rfl) (hpl : (backTo pos (starEach [e2] X.env)).any (·.1) = false := by rfl) (hc : X.calm = true := by rfl) : JE X (.Call (.Name "max" p) [e, e2] [] pos) (tCB (rMaxA) t) (mBl fMax2 M) := je_B (call_max2 hc) rs_max2 hm (by decide +kernel) ha hg (by decide) (by decide) he hpl
end
end Dw

set_option maxRecDepth 100000
set_option maxHeartbeats 4000000
/-! Dw7: what is walked, targets, comprehensions, over data. -/
namespace Dw
open PySem PySem.Spec PyProof.Rows L2
variable [XCtx]

/-! ### changes of an environment -/
def wipeE (env : Cells) : List Nat → Cells
  | [] => env
  | v :: vs => (wipeE env vs).set v .non
section
variable {W : Wl} {Z O : Addr → Prop} {env : Cells} {σ : L2.St} {H0 H : Hp}
theorem getElem?_set_cases {α : Type} {l : List α} {i j : Nat} {a b : α} (h : (l.set i a)[j]? = some b) : (i = j ∧ a = b) ∨ (i ≠ j ∧ l[j]? = some b) := by
  by_cases e : i = j
  · subst e
    rw [List.getElem?_set] at h
    simp only [if_true] at h
    split at h
    · exact .inl ⟨rfl, Option.some.inj h⟩
    · cases h
  · rw [List.getElem?_set_ne e] at h
    exact .inr ⟨e, h⟩
theorem set_at {α : Type} {l : List α} {i : Nat} {a : α} (h : i < l.length) : (l.set i a)[i]? = some a := List.getElem?_set_self h
/-- a slot takes data; nothing -/
theorem Rel.set (R : Rel W Z O env σ H0 H) {v : V} {d : PyData} (n : Dn H (ZO Z O) v d) (i : Nat) : Rel W Z O (env.set i (.val d)) (σ.set i (some v)) H0 H where
  ge := R.ge
  wl := R.wl
  mz := R.mz
  za := R.za
  oz := R.oz
  oh := R.oh
  len := by rw [List.length_set, List.length_set]; exact R.len
  cell := fun j c e => by
    have hj : j < (env.set i (.val d)).length := (List.getElem?_eq_some_iff.mp e).1
    rw [List.length_set, R.len] at hj
    rcases getElem?_set_cases e with ⟨rfl, rfl⟩ | ⟨ne, e⟩
    · exact ⟨v, set_at hj, n⟩
    · rw [List.getElem?_set_ne ne]
      exact R.cell j c e
  uniq := fun j k ds es p e1 e2 s1 s2 => by
    rcases getElem?_set_cases e1 with ⟨rfl, q⟩ | ⟨n1, e1⟩
    · cases ds <;> cases q
    rcases getElem?_set_cases e2 with ⟨rfl, q⟩ | ⟨n2, e2⟩
    · cases es <;> cases q
    rw [List.getElem?_set_ne n1] at s1
    rw [List.getElem?_set_ne n2] at s2
    exact R.uniq j k ds es p e1 e2 s1 s2
  xr := R.xr
theorem Rel.forget (R : Rel W Z O env σ H0 H) (i : Nat) : Rel W Z O (env.set i .non) (σ.set i none) H0 H where
  ge := R.ge
  wl := R.wl
  mz := R.mz
  za := R.za
  oz := R.oz
  oh := R.oh
  len := by rw [List.length_set, List.length_set]; exact R.len
  cell := fun j c e => by
    rcases getElem?_set_cases e with ⟨rfl, rfl⟩ | ⟨ne, e⟩
    · trivial
    · rw [List.getElem?_set_ne ne]
      exact R.cell j c e
  uniq := fun j k ds es p e1 e2 s1 s2 => by
    rcases getElem?_set_cases e1 with ⟨rfl, q⟩ | ⟨n1, e1⟩
    · cases ds <;> cases q
    rcases getElem?_set_cases e2 with ⟨rfl, q⟩ | ⟨n2, e2⟩
    · cases es <;> cases q
    rw [List.getElem?_set_ne n1] at s1
    rw [List.getElem?_set_ne n2] at s2
    exact R.uniq j k ds es p e1 e2 s1 s2
  xr := R.xr
theorem Rel.wipe (R : Rel W Z O env σ H0 H) : ∀ vs : List Nat, Rel W Z O (wipeE env vs) (L2.wipe σ vs) H0 H
  | [] => R
  | v :: vs => (Rel.wipe R vs).forget v
theorem CellR.own {c : Cell} {s : Option (Option V)} {p : Addr} {o : HO} (h : H p = none) (k : CellR W Z O H c s) : CellR W Z (fun a => O a ∨ a = p) (upd H p o) c s := by
  cases c with
  | non => trivial
  | val d =>
    obtain ⟨v, e, q⟩ := k
    exact ⟨v, e, q.own h⟩
  | own ds =>
    obtain ⟨q, xs, e, oq, hq, n⟩ := k
    exact ⟨q, xs, e, .inl oq, by rw [upd_ne (ne_of_none hq h)]; exact hq, n.own h⟩
  | dic kvs =>
    obtain ⟨q, e, oq, hq⟩ := k
    exact ⟨q, e, .inl oq, by rw [upd_ne (ne_of_none hq h)]; exact hq⟩
  | hob ho =>
    obtain ⟨q, e, oq, hq⟩ := k
    exact ⟨q, e, .inl oq, by rw [upd_ne (ne_of_none hq h)]; exact hq⟩
  | well => exact k
  | raw _ => exact k
theorem Rel.own (R : Rel W Z O env σ H0 H) {p : Addr} {o : HO} (h : H p = none) (nt : NT (some o) := by first | exact nt_lst | exact nt_dK | exact nt_dT) : Rel W Z (fun a => O a ∨ a = p) env σ H0 (upd H p o) where
  ge := R.ge.new' h
  wl := R.wl.upd (.inl h)
  mz := R.mz
  za := R.za
  oz := fun a q => by
    rcases q with q | rfl
    · exact R.oz a q
    · cases e : H0 a with
      | none => rfl
      | some u => exact absurd h (R.ge.there R.wl e)
  oh := fun a q => by
    by_cases e : a = p
    · rw [e, upd_same]
      exact nt
    · rw [upd_ne e]
      exact R.oh a (q.resolve_right e)
  len := R.len
  cell := fun i c e => (R.cell i c e).own h
  uniq := R.uniq
  xr := R.xr.step ⟨fun a u z e => by rw [upd_ne (ne_of_none e h)]; exact e, fun a q => q.imp id fun e => by rw [e]; exact h, fun a q => by
    by_cases e : a = p
    · rw [e, upd_same] at q
      cases q
    · rw [upd_ne e] at q
      exact q⟩
/-- one's own list that no slot holds changes -/
theorem Rel.put (R : Rel W Z O env σ H0 H) {p : Addr} {o : HO} (hp : O p) (no : ∀ (i : Nat) (ds : Hold), env[i]? = some (Cell.of ds) → σ[i]? ≠ some (some (.ref p))) (nt : NT (some o) := by first | exact nt_lst | exact nt_dK | exact nt_dT) : Rel W Z O env σ H0 (upd H p o) where
  ge := ⟨fun a u m e => by
    have n : a ≠ p := fun q => by
      rw [q, R.oz p hp] at e
      cases e
    rw [upd_ne n]
    exact R.ge.keep a u m e, fun z => (R.ge.wl z).upd (.inr (R.om p hp))⟩
  wl := R.wl.upd (.inr (R.om p hp))
  mz := R.mz
  za := R.za
  oz := R.oz
  oh := fun a q => by
    by_cases e : a = p
    · rw [e, upd_same]
      exact nt
    · rw [upd_ne e]
      exact R.oh a q
  len := R.len
  cell := fun i c e => by
    have tr : ∀ a u, ¬ ZO Z O a → H a = some u → upd H p o a = some u ∧ ¬ ZO Z O a := fun a u z q => ⟨by rw [upd_ne (fun y => z (.inr (by rw [y]; exact hp)))]; exact q, z⟩
    have k := R.cell i c e
    cases c with
    | non => trivial
    | val d =>
      obtain ⟨v, e1, q⟩ := k
      exact ⟨v, e1, Dn.tr tr _ _ q⟩
    | own ds =>
      obtain ⟨q, xs, e1, oq, hq, n⟩ := k
      have ne : q ≠ p := fun y => no i (.inl ds) e (by rw [e1, y])
      exact ⟨q, xs, e1, oq, by rw [upd_ne ne]; exact hq, DnAll.tr tr _ _ n⟩
    | dic kvs =>
      obtain ⟨q, e1, oq, hq⟩ := k
      have ne : q ≠ p := fun y => no i (.inr kvs) e (by rw [e1, y])
      exact ⟨q, e1, oq, by rw [upd_ne ne]; exact hq⟩
    | hob ho =>
      obtain ⟨q, e1, oq, hq⟩ := k
      have ne : q ≠ p := fun y => no i (.hob ho) e (by rw [e1, y])
      exact ⟨q, e1, oq, by rw [upd_ne ne]; exact hq⟩
    | well => exact k
    | raw _ => exact k
  uniq := R.uniq
  xr := R.xr.step ⟨fun a u z e => by rw [upd_ne (fun y => z (.inr (by rw [y]; exact hp)))]; exact e, fun _ q => .inl q, fun a q => by
    by_cases e : a = p
    · rw [e, upd_same] at q
      cases q
    · rw [upd_ne e] at q
      exact q⟩
theorem Dn.put {v : V} {d : PyData} {p : Addr} {o : HO} (hp : O p) (n : Dn H (ZO Z O) v d) : Dn (upd H p o) (ZO Z O) v d :=
  Dn.tr (fun a u z q => ⟨by rw [upd_ne (fun y => z (.inr (by rw [y]; exact hp)))]; exact q, z⟩) _ _ n
theorem DnAll.put {v : List V} {d : List PyData} {p : Addr} {o : HO} (hp : O p) (n : DnAll H (ZO Z O) v d) : DnAll (upd H p o) (ZO Z O) v d :=
  DnAll.tr (fun a u z q => ⟨by rw [upd_ne (fun y => z (.inr (by rw [y]; exact hp)))]; exact q, z⟩) _ _ n
end

/-! ### what is walked -/
structure IterD (Z O : Addr → Prop) (J : It) (ds : List PyData) (H1 : Hp) : Prop where
  goes : ∀ i H, i < ds.length → Kp Z O H1 H → J.go i H
  stops : ∀ H, Kp Z O H1 H → J.stop ds.length H
  yields : ∀ i H x H', i < ds.length → Kp Z O H1 H → J.yld i H x H' → ∃ d, ds[i]? = some d ∧
    ((H' = H ∧ Dn H1 (ZO Z O) x d) ∨ ∃ T u a b da db, x = .ref T ∧ H T = none ∧ H' = upd H T u ∧ TupAt (upd H T u) T [a, b] ∧ d = .tuple [da, db] ∧ Dn H1 (ZO Z O) a da ∧ Dn H1 (ZO Z O) b db)
def IS (wi : TI) (m : ML) : Prop := ∀ (W : Wl) (Z O : Addr → Prop) (env : Cells) (σ : L2.St) (H0 H : Hp) (P : List PyData → Prop) (R : It → Hp → Prop), Rel W Z O env σ H0 H → m env P →
  (∀ ds J H1, P ds → Ge W H H1 → IterD Z O J ds H1 → R J H1) → wi σ H R
structure JI (X : Cx) (tg iter : Expr) (wi : TI) (m : ML) : Prop where
  pe : PI X tg iter wi
  es : IS wi m
def rangeD (lo hi : Int) : List PyData := (List.range (hi - lo).toNat).map fun i => .int (lo + (i : Nat))
theorem rangeD_length (lo hi : Int) : (rangeD lo hi).length = (hi - lo).toNat := by unfold rangeD; rw [List.length_map, List.length_range]
theorem rangeD_get {lo hi : Int} {i : Nat} (h : i < (hi - lo).toNat) : (rangeD lo hi)[i]? = some (.int (lo + (i : Nat))) := by
  unfold rangeD
  rw [List.getElem?_map, List.getElem?_range h]
  rfl
def small62 (n : Int) : Prop := -(2 ^ 62) ≤ n ∧ n < 2 ^ 62
def mSeq (A : ME) : ML := fun env P => A env fun d => onLU d P
def mRng1 (A : ML) : ML := fun env P => A env fun ds => on1 ds fun d => onI d fun n => small62 n ∧ P (rangeD 0 n)
def mRng2 (A : ML) : ML := fun env P => A env fun ds => on2 ds fun d e => onI2 d e fun m n => small62 m ∧ small62 n ∧ P (rangeD m n)
def enumD (ds : List PyData) : List PyData := ds.zipIdx.map fun p => .tuple [.int (p.2 : Nat), p.1]
def zipD (ds es : List PyData) : List PyData := (ds.zip es).map fun p => .tuple [p.1, p.2]
def mEnum (A : ML) : ML := fun env P => A env fun ds => on1 ds fun d => onLU d fun xs => P (enumD xs)
def mZip (A : ML) : ML := fun env P => A env fun ds => on2 ds fun d e => (onL d fun xs => onL e fun ys => P (zipD xs ys)) ∨ (onU d fun xs => onU e fun ys => P (zipD xs ys))
def signsD (z : Str) : List PyData := z.cps.toList.map fun c => .str ⟨#[c]⟩
def mStr (A : ME) : ML := fun env P => A env fun d => onS d fun z => P (signsD z)
section
variable {X : Cx} {tg e e2 : Expr} {t : TE} {ta : TA} {A : ME} {M : ML} {n : Nat} {p pos tpos : Pos} {elts : List Expr} {kk : Nat}
theorem iter_list {Z O : Addr → Prop} {K : PySem.W.Frag} {a : Addr} {xs : List V} {ds : List PyData} {H1 : Hp} (h : H1 a = some (.lst xs)) (nz : ¬ ZO Z O a) (n : DnAll H1 (ZO Z O) xs ds) : IterD Z O (Itl K a) ds H1 where
  goes := fun i H hi k => by
    obtain ⟨v, hv, _⟩ := n.get (List.getElem?_eq_getElem hi)
    exact ⟨xs, v, SqL.of (k a _ nz h), hv⟩
  stops := fun H k => ⟨xs, SqL.of (k a _ nz h), by rw [n.length]; exact Nat.le_refl _⟩
  yields := fun i H x H' hi k y => by
    obtain ⟨v, hv, nv⟩ := n.get (List.getElem?_eq_getElem hi)
    have e : xs[i]? = some x := y.2 xs (SqL.of (k a _ nz h))
    rw [hv] at e
    cases e
    exact ⟨_, List.getElem?_eq_getElem hi, .inl ⟨y.1, nv⟩⟩
theorem iter_tup {Z O : Addr → Prop} {K : PySem.W.Frag} {a : Addr} {xs : List V} {ds : List PyData} {H1 : Hp} (h : TupAt H1 a xs) (nz : ¬ ZO Z O a) (n : DnAll H1 (ZO Z O) xs ds) : IterD Z O (Itt K a) ds H1 where
  goes := fun i H hi k => by
    obtain ⟨v, hv, _⟩ := n.get (List.getElem?_eq_getElem hi)
    exact ⟨xs, v, SqT.of (h.tr fun o => k _ o nz), hv⟩
  stops := fun H k => ⟨xs, SqT.of (h.tr fun o => k _ o nz), by rw [n.length]; exact Nat.le_refl _⟩
  yields := fun i H x H' hi k y => by
    obtain ⟨v, hv, nv⟩ := n.get (List.getElem?_eq_getElem hi)
    have e : xs[i]? = some x := y.2 xs (SqT.of (h.tr fun o => k _ o nz))
    rw [hv] at e
    cases e
    exact ⟨_, List.getElem?_eq_getElem hi, .inl ⟨y.1, nv⟩⟩
theorem ji_seq (h : JE X e t A) : JI X tg e (iSeq X.K t) (mSeq A) := ⟨pi_seq h.pe, fun W Z O env σ H0 H P R0 R hm k => by
  refine h.es W Z O env σ H0 H _ _ R hm fun d v H1 p1 g1 n1 => ?_
  obtain ⟨xs, e | e, p1⟩ := onLU_iff p1
  · subst e
    cases n1 with
    | lst h1 nz r => exact ⟨_, rfl, .inl ⟨⟨_, SqL.of h1⟩, k _ _ H1 p1 g1 (iter_list h1 nz r)⟩⟩
  · subst e
    cases n1 with
    | tup h1 nz r => exact ⟨_, rfl, .inr ⟨⟨_, SqT.of h1⟩, k _ _ H1 p1 g1 (iter_tup h1 nz r)⟩⟩⟩
theorem iter_range {Z O : Addr → Prop} {lo hi : Int} {H1 : Hp} : IterD Z O (Itr lo (hi - lo).toNat) (rangeD lo hi) H1 where
  goes := fun i H h k => by rw [rangeD_length] at h; exact h
  stops := fun H k => by rw [rangeD_length]; exact Nat.le_refl _
  yields := fun i H x H' h k y => by
    rw [rangeD_length] at h
    refine ⟨_, rangeD_get h, .inl ⟨y.1, ?_⟩⟩
    rw [y.2]
    exact .int _
theorem ji_range1 (hm : X.mg "range" = none) (ha : JAb X [e] ta M) (hg : Gl X "range" := by rfl) (hs : starEach [e] X.env = [(false, eval e X.env)] := by rfl) : JI X tg (.Call (.Name "range" p) [e] [] pos) (iRng1 ta) (mRng1 M) := ⟨pi_range1 hg hm ha.pe hs, fun W Z O env σ H0 H P R0 R hm k => by
  refine ha.es W Z O env σ H0 H _ _ R hm fun ds vs H1 p1 g1 n1 => ?_
  obtain ⟨d, rfl, p1⟩ := on1_iff p1
  obtain ⟨v, rfl, hw⟩ := n1.one
  obtain ⟨i, rfl, hs, p1⟩ := onI_iff p1
  refine ⟨i, by rw [hw.int], hs.1, hs.2, k _ _ H1 p1 g1 ?_⟩
  have e : i.toNat = (i - 0).toNat := by rw [Int.sub_zero]
  rw [e]
  exact iter_range⟩
theorem ji_range2 (hm : X.mg "range" = none) (ha : JAb X [e, e2] ta M) (hg : Gl X "range" := by rfl) (hs : starEach [e, e2] X.env = [(false, eval e X.env), (false, eval e2 X.env)] := by rfl) (hs2 : starEach [e2] X.env = [(false, eval e2 X.env)] := by rfl) :
    JI X tg (.Call (.Name "range" p) [e, e2] [] pos) (iRng2 ta) (mRng2 M) := ⟨pi_range2 hg hm ha.pe hs hs2, fun W Z O env σ H0 H P R0 R hm k => by
  refine ha.es W Z O env σ H0 H _ _ R hm fun ds vs H1 p1 g1 n1 => ?_
  obtain ⟨d, d', rfl, p1⟩ := on2_iff p1
  obtain ⟨v, u, rfl, h1, h2⟩ := n1.two
  obtain ⟨i, j, rfl, rfl, hs, hs2, p1⟩ := onI2_iff p1
  exact ⟨i, j, by rw [h1.int, h2.int], ⟨hs.1, hs.2, hs2.1, hs2.2⟩, k _ _ H1 p1 g1 iter_range⟩⟩
theorem enumD_length (ds : List PyData) : (enumD ds).length = ds.length := by unfold enumD; rw [List.length_map, List.length_zipIdx]
theorem enumD_get {ds : List PyData} {i : Nat} {d : PyData} (h : ds[i]? = some d) : (enumD ds)[i]? = some (.tuple [.int (i : Nat), d]) := by
  unfold enumD
  rw [List.getElem?_map, List.getElem?_zipIdx, h]
  simp
theorem ji_enum (hm : X.mg "enumerate" = none) (ha : JA X n [e] ta M) (hg : Gl X "enumerate" := by rfl) (hs : starEach [e] X.env = [(false, eval e X.env)] := by rfl) : JI X (.Tuple elts kk tpos) (.Call (.Name "enumerate" p) [e] [] pos) (iEnumA X.K ta) (mEnum M) := ⟨pi_enumA hg hm ha.pe hs, fun W Z O env σ H0 H P R0 R hm k => by
  refine ha.es W Z O env σ H0 H _ _ R hm fun ds vs H1 p1 l1 g1 n1 => ?_
  obtain ⟨d, rfl, p1⟩ := on1_iff p1
  obtain ⟨xs, e, p1⟩ := onLU_iff p1
  cases n1 with
  | cons n1 n2 =>
    cases n2
    rcases e with rfl | rfl
    · cases n1 with
      | lst h1 nz r =>
        refine ⟨_, rfl, .inl ⟨⟨_, SqL.of h1⟩, k _ _ H1 p1 g1 ⟨fun i H hi kp => ?_, fun H kp => ?_, fun i H x H' hi kp y => ?_⟩⟩⟩
        · rw [enumD_length] at hi
          obtain ⟨v, hv, _⟩ := r.get (List.getElem?_eq_getElem hi)
          exact ⟨_, v, SqL.of (kp _ _ nz h1), hv⟩
        · rw [enumD_length]
          exact ⟨_, SqL.of (kp _ _ nz h1), by rw [r.length]; exact Nat.le_refl _⟩
        · rw [enumD_length] at hi
          obtain ⟨v, hv, nv⟩ := r.get (List.getElem?_eq_getElem hi)
          obtain ⟨T, z, rfl, hT, ⟨uo, huc, hud, rfl⟩, hz⟩ := y
          have e := hz _ (SqL.of (kp _ _ nz h1))
          rw [hv] at e
          cases e
          exact ⟨_, enumD_get (List.getElem?_eq_getElem hi), .inr ⟨T, _, _, _, _, _, rfl, hT, rfl, TupAt.up huc hud, rfl, .int _, nv⟩⟩
    · cases n1 with
      | tup h1 nz r =>
        refine ⟨_, rfl, .inr ⟨⟨_, SqT.of h1⟩, k _ _ H1 p1 g1 ⟨fun i H hi kp => ?_, fun H kp => ?_, fun i H x H' hi kp y => ?_⟩⟩⟩
        · rw [enumD_length] at hi
          obtain ⟨v, hv, _⟩ := r.get (List.getElem?_eq_getElem hi)
          exact ⟨_, v, SqT.of (h1.tr fun o => kp _ o nz), hv⟩
        · rw [enumD_length]
          exact ⟨_, SqT.of (h1.tr fun o => kp _ o nz), by rw [r.length]; exact Nat.le_refl _⟩
        · rw [enumD_length] at hi
          obtain ⟨v, hv, nv⟩ := r.get (List.getElem?_eq_getElem hi)
          obtain ⟨T, z, rfl, hT, ⟨uo, huc, hud, rfl⟩, hz⟩ := y
          have e := hz _ (SqT.of (h1.tr fun o => kp _ o nz))
          rw [hv] at e
          cases e
          exact ⟨_, enumD_get (List.getElem?_eq_getElem hi), .inr ⟨T, _, _, _, _, _, rfl, hT, rfl, TupAt.up huc hud, rfl, .int _, nv⟩⟩⟩
theorem zipD_length (ds es : List PyData) : (zipD ds es).length = min ds.length es.length := by unfold zipD; rw [List.length_map, List.length_zip]
theorem zipD_get {ds es : List PyData} {i : Nat} {d f : PyData} (h : ds[i]? = some d) (h' : es[i]? = some f) : (zipD ds es)[i]? = some (.tuple [d, f]) := by
  unfold zipD
  rw [List.getElem?_map, List.getElem?_zip_eq_some.mpr (⟨h, h'⟩ : ds[i]? = some (d, f).1 ∧ es[i]? = some (d, f).2)]
  rfl
theorem iter_zipL [OldT] {Z O : Addr → Prop} {K : PySem.W.Frag} {a b : Addr} {xs ys : List V} {ds es : List PyData} {H1 : Hp} (h : H1 a = some (.lst xs)) (nz : ¬ ZO Z O a) (n : DnAll H1 (ZO Z O) xs ds) (h' : H1 b = some (.lst ys)) (nz' : ¬ ZO Z O b) (n' : DnAll H1 (ZO Z O) ys es) :
    IterD Z O (Itz K a b) (zipD ds es) H1 where
  goes := fun i H hi k => by
    rw [zipD_length] at hi
    obtain ⟨v, hv, _⟩ := n.get (List.getElem?_eq_getElem (show i < ds.length by omega))
    obtain ⟨u, hu, _⟩ := n'.get (List.getElem?_eq_getElem (show i < es.length by omega))
    exact ⟨xs, ys, v, u, SqL.of (k a _ nz h), SqL.of (k b _ nz' h'), hv, hu⟩
  stops := fun H k => by
    rw [zipD_length, ← n.length, ← n'.length]
    exact ⟨xs, ys, SqL.of (k a _ nz h), SqL.of (k b _ nz' h'), by omega⟩
  yields := fun i H x H' hi k y => by
    rw [zipD_length] at hi
    have i1 : i < ds.length := by omega
    have i2 : i < es.length := by omega
    obtain ⟨v, hv, nv⟩ := n.get (List.getElem?_eq_getElem i1)
    obtain ⟨u, hu, nu⟩ := n'.get (List.getElem?_eq_getElem i2)
    obtain ⟨T, v', u', rfl, hT, rfl, f1, f2⟩ := y
    have e1 := f1 _ (SqL.of (k a _ nz h))
    have e2 := f2 _ (SqL.of (k b _ nz' h'))
    rw [hv] at e1
    rw [hu] at e2
    cases e1
    cases e2
    exact ⟨_, zipD_get (List.getElem?_eq_getElem i1) (List.getElem?_eq_getElem i2), .inr ⟨T, _, _, _, _, _, rfl, hT, rfl, OldT.out upd_same, rfl, nv, nu⟩⟩
theorem iter_zipT [OldT] {Z O : Addr → Prop} {K : PySem.W.Frag} {a b : Addr} {xs ys : List V} {ds es : List PyData} {H1 : Hp} (h : TupAt H1 a xs) (nz : ¬ ZO Z O a) (n : DnAll H1 (ZO Z O) xs ds) (h' : TupAt H1 b ys) (nz' : ¬ ZO Z O b) (n' : DnAll H1 (ZO Z O) ys es) :
    IterD Z O (RZ.ItzT K a b) (zipD ds es) H1 where
  goes := fun i H hi k => by
    rw [zipD_length] at hi
    obtain ⟨v, hv, _⟩ := n.get (List.getElem?_eq_getElem (show i < ds.length by omega))
    obtain ⟨u, hu, _⟩ := n'.get (List.getElem?_eq_getElem (show i < es.length by omega))
    exact ⟨xs, ys, v, u, SqT.of (h.tr fun o => k _ o nz), SqT.of (h'.tr fun o => k _ o nz'), hv, hu⟩
  stops := fun H k => by
    rw [zipD_length, ← n.length, ← n'.length]
    exact ⟨xs, ys, SqT.of (h.tr fun o => k _ o nz), SqT.of (h'.tr fun o => k _ o nz'), by omega⟩
  yields := fun i H x H' hi k y => by
    rw [zipD_length] at hi
    have i1 : i < ds.length := by omega
    have i2 : i < es.length := by omega
    obtain ⟨v, hv, nv⟩ := n.get (List.getElem?_eq_getElem i1)
    obtain ⟨u, hu, nu⟩ := n'.get (List.getElem?_eq_getElem i2)
    obtain ⟨T, v', u', rfl, hT, rfl, f1, f2⟩ := y
    have e1 := f1 _ (SqT.of (h.tr fun o => k _ o nz))
    have e2 := f2 _ (SqT.of (h'.tr fun o => k _ o nz'))
    rw [hv] at e1
    rw [hu] at e2
    cases e1
    cases e2
    exact ⟨_, zipD_get (List.getElem?_eq_getElem i1) (List.getElem?_eq_getElem i2), .inr ⟨T, _, _, _, _, _, rfl, hT, rfl, OldT.out upd_same, rfl, nv, nu⟩⟩
theorem ji_zip [OldT] (hm : X.mg "zip" = none) (ha : JA X n [e, e2] ta M) (hg : Gl X "zip" := by rfl) (hs : starEach [e, e2] X.env = (false, eval e X.env) :: starEach [e2] X.env := by rfl) (hpl : (backTo pos (starEach [e2] X.env)).any (·.1) = false := by rfl) :
    JI X (.Tuple elts kk tpos) (.Call (.Name "zip" p) [e, e2] [] pos) (RZ.iZipA X.K ta) (mZip M) := ⟨RZ.pi_zipA hg hm ha.pe hs hpl, fun W Z O env σ H0 H P R0 R hm k => by
  refine ha.es W Z O env σ H0 H _ _ R hm fun ds vs H1 p1 l1 g1 n1 => ?_
  obtain ⟨d, d', rfl, p1⟩ := on2_iff p1
  cases n1 with
  | cons n1 n2 =>
    cases n2 with
    | cons n2 n3 =>
      cases n3
      rcases p1 with p1 | p1
      · obtain ⟨xs, rfl, p2⟩ := onL_iff p1
        obtain ⟨ys, rfl, p3⟩ := onL_iff p2
        cases n1 with
        | lst h1 z1 r1 =>
          cases n2 with
          | lst h2 z2 r2 => exact ⟨_, _, _, _, rfl, .inl ⟨SqL.of h1, SqL.of h2, k _ _ H1 p3 g1 (iter_zipL h1 z1 r1 h2 z2 r2)⟩⟩
      · obtain ⟨xs, rfl, p2⟩ := onU_iff p1
        obtain ⟨ys, rfl, p3⟩ := onU_iff p2
        cases n1 with
        | tup h1 z1 r1 =>
          cases n2 with
          | tup h2 z2 r2 => exact ⟨_, _, _, _, rfl, .inr ⟨SqT.of h1, SqT.of h2, k _ _ H1 p3 g1 (iter_zipT h1 z1 r1 h2 z2 r2)⟩⟩⟩
theorem ji_str (h : JE X e t A) : JI X tg e (iStr t) (mStr A) := ⟨pi_str h.pe, fun W Z O env σ H0 H P R0 R hm k => by
  refine h.es W Z O env σ H0 H _ _ R hm fun d v H1 p1 g1 n1 => ?_
  obtain ⟨z, rfl, p1⟩ := onS_iff p1
  cases n1
  have l : (signsD z).length = z.cps.size := by unfold signsD; rw [List.length_map, Array.length_toList]
  refine ⟨z, rfl, k _ _ H1 p1 g1 ⟨fun i H hi kp => by rw [l] at hi; exact hi, fun H kp => by rw [l]; exact Nat.le_refl _, fun i H x H' hi kp y => ?_⟩⟩
  obtain ⟨e1, c, hc, rfl⟩ := y
  refine ⟨.str ⟨#[c]⟩, ?_, .inl ⟨e1, .str _⟩⟩
  unfold signsD
  rw [List.getElem?_map, Array.getElem?_toList, hc]
  rfl⟩
end

/-! ### targets -/
abbrev MG := PyData → Cells → (Cells → Prop) → Prop
abbrev MGs := List PyData → Cells → (Cells → Prop) → Prop
def GS (js : List Nat) (g : TG) (m : MG) : Prop := ∀ (W : Wl) (Z O : Addr → Prop) (env : Cells) (σ : L2.St) (H0 H : Hp) (v : V) (d : PyData) (K : Cells → Prop) (Q : L2.St → Hp → Prop), Rel W Z O env σ H0 H → Dn H (ZO Z O) v d → m d env K →
  (∀ env' σ', K env' → Rel W Z O env' σ' H0 H → (∀ j, j ∉ js → σ'[j]? = σ[j]?) → σ'.length = σ.length → Q σ' H) → g v σ H Q
def GSs (js : List Nat) (g : TGs) (m : MGs) : Prop := ∀ (W : Wl) (Z O : Addr → Prop) (env : Cells) (σ : L2.St) (H0 H : Hp) (vs : List V) (ds : List PyData) (K : Cells → Prop) (Q : L2.St → Hp → Prop), Rel W Z O env σ H0 H → DnAll H (ZO Z O) vs ds → m ds env K →
  (∀ env' σ', K env' → Rel W Z O env' σ' H0 H → (∀ j, j ∉ js → σ'[j]? = σ[j]?) → σ'.length = σ.length → Q σ' H) → g vs σ H Q
structure JG (X : Cx) (js : List Nat) (tg : Expr) (g : TG) (m : MG) : Prop where
  pe : PG X tg g
  es : GS js g m
structure JGs (X : Cx) (js : List Nat) (tgs : List Expr) (n : Nat) (g : TGs) (m : MGs) : Prop where
  pe : PGs X tgs g
  es : GSs js g m
def mgName (i : Nat) : MG := fun d env K => K (env.set i (.val d))
def mgNil : MGs := fun ds env K => ds = [] ∧ K env
def mgCons (m : MG) (ms : MGs) : MGs := fun ds env K => match ds with
  | d :: r => m d env fun env' => ms r env' K
  | [] => False
def mgTup (n : Nat) (ms : MGs) : MG := fun d env K => onU d fun ds => ds.length = n ∧ ms ds env K
section
variable {X : Cx} {pos : Pos} {js ks : List Nat}
theorem jg_name (i : Nat) {x : Str} (hN : X.N.Nodup) (hi : X.N[i]? = some x := by rfl) (hx : Loc X.env.scope x := by first | exact .inl rfl | exact .inr rfl) (hf : X.fn x = true ∨ X.env.scope.names.lookup x = some .local := by first | exact .inl rfl | exact .inr rfl) : JG X [i] (.Name x pos) (gName i) (mgName i) :=
  ⟨pg_name hN hi hx hf, fun W Z O env σ H0 H v d K Q R n hm k => k _ _ hm (R.set n i) (fun j hj => List.getElem?_set_ne (fun e => hj (by rw [e]; exact List.mem_singleton.mpr rfl))) (List.length_set ..)⟩
theorem jgs_nil : JGs X [] [] 0 gNil mgNil := ⟨pgs_nil, fun W Z O env σ H0 H vs ds K Q R n hm k => by
  obtain ⟨rfl, hm⟩ := hm
  cases n
  exact ⟨rfl, k _ _ hm R (fun _ _ => rfl) rfl⟩⟩
theorem jgs_cons {n : Nat} {e : Expr} {es : List Expr} {g : TG} {m : MG} {u : TGs} {ms : MGs} (h : JG X js e g m) (hr : JGs X ks es n u ms) (hs : (assignEach (e :: es) X.env).map (·.2) = assign e X.env :: (assignEach es X.env).map (·.2) := by rfl) : JGs X (js ++ ks) (e :: es) (n + 1) (gCons g u) (mgCons m ms) := ⟨pgs_cons h.pe hr.pe hs, fun W Z O env σ H0 H vs ds K Q R n hm k => by
  cases n with
  | nil => exact hm.elim
  | cons a b =>
    refine ⟨_, _, rfl, h.es W Z O env σ H0 H _ _ _ _ R a hm fun env1 σ1 h1 R1 f1 l1 => ?_⟩
    refine hr.es W Z O env1 σ1 H0 H _ _ _ _ R1 b h1 fun env2 σ2 h2 R2 f2 l2 => ?_
    exact k env2 σ2 h2 R2 (fun j hj => (f2 j fun z => hj (List.mem_append_right _ z)).trans (f1 j fun z => hj (List.mem_append_left _ z))) (l2.trans l1)⟩
theorem jg_tup {n k : Nat} {es : List Expr} {u : TGs} {ms : MGs} (h : JGs X js es n u ms) (hc : X.calm = true := by rfl) (hn : (assignEach es X.env).length = n := by rfl) (hst : (assignEach es X.env).findIdx? (·.1) = none := by rfl) : JG X js (.Tuple es k pos) (gTup X.K n u) (mgTup n ms) := ⟨pg_tup hc h.pe hn hst, fun W Z O env σ H0 H v d K Q R nn hm kk => by
  obtain ⟨ds, rfl, hl, hm⟩ := onU_iff hm
  cases nn with
  | tup h1 nz r => exact ⟨_, _, rfl, SqT.of h1, r.length.trans hl, h.es W Z O env σ H0 H _ _ _ _ R r hm kk⟩⟩
end

/-! ### comprehensions -/
def lcGo (g : MG) (tt : MT) (te : ME) (env : Cells) : List PyData → (List PyData → Prop) → Prop
  | [], P => P []
  | d :: ds, P => g d env fun env' => tt env' fun b => if b = true then te env' fun y => lcGo g tt te env ds fun ys => P (y :: ys) else lcGo g tt te env ds P
def mLc (I : ML) (g : MG) (tt : MT) (te : ME) (vs : List Nat) : ML := fun env P => I env fun ds => ds.length ≤ 100000 ∧ lcGo g tt te (wipeE env vs) ds P
def mYes : MT := fun _ P => P true
structure JTs (X : Cx) (ifs : List Expr) (t : TT) (m : MT) : Prop where
  pe : PTs X ifs t
  es : QS t m
theorem jts_nil {X : Cx} : JTs X [] tYes mYes := ⟨pts_nil, fun W Z O env σ H0 H P Q R hm k => k _ H hm .refl⟩
theorem jts_one {X : Cx} {c : Expr} {t : TT} {m : MT} (h : JT X c t m) : JTs X [c] t m := ⟨pts_one h.pe, h.es⟩
theorem wipe_eq {σ σ2 : L2.St} {vs : List Nat} (hl : σ2.length = σ.length) (h : ∀ j, j ∉ vs → σ2[j]? = (L2.wipe σ vs)[j]?) : L2.wipe σ2 vs = L2.wipe σ vs := by
  apply List.ext_getElem?
  intro j
  by_cases hj : j ∈ vs
  · have none_at : ∀ (τ : L2.St), j < τ.length → (L2.wipe τ vs)[j]? = some none := by
      intro τ hτ
      cases q : (L2.wipe τ vs)[j]? with
      | none =>
        have := List.getElem?_eq_none_iff.mp q
        rw [wipe_length] at this
        omega
      | some o =>
        cases o with
        | none => rfl
        | some x => exact absurd hj (wipe_some q).2
    by_cases hτ : j < σ.length
    · rw [none_at σ2 (by omega), none_at σ hτ]
    · rw [List.getElem?_eq_none (by rw [wipe_length]; omega), List.getElem?_eq_none (by rw [wipe_length]; omega)]
  · rw [wipe_out hj]
    exact h j hj
section
variable {wi : TI} {g : TG} {tt : TT} {te : TE} {I : ML} {mg : MG} {mt : MT} {me : ME} {vs js : List Nat}
/-- what is yielded, where we stand -/
theorem yield_dn {W : Wl} {Z O O' : Addr → Prop} {env : Cells} {σ : L2.St} {H0 H1 H H' : Hp} {J : It} {ds : List PyData} {i : Nat} {x : V} (it : IterD Z O J ds H1) (R : Rel W Z O' env σ H0 H) (kp : Kp Z O H1 H) (on : ∀ a, O' a → O a ∨ H1 a = none) (hi : i < ds.length) (y : J.yld i H x H') :
    ∃ d, ds[i]? = some d ∧ Ge W H H' ∧ Dn H' (ZO Z O') x d := by
  have tr : ∀ a u, ¬ ZO Z O a → H1 a = some u → H a = some u ∧ ¬ ZO Z O' a := fun a u z e => ⟨kp a u z e, fun q => by
    rcases q with q | q
    · exact z (.inl q)
    · rcases on a q with q | q
      · exact z (.inr q)
      · rw [q] at e
        cases e⟩
  obtain ⟨d, hd, h⟩ := it.yields i H x H' hi kp y
  refine ⟨d, hd, ?_⟩
  rcases h with ⟨rfl, n⟩ | ⟨T, u, a, b, da, db, rfl, hT, rfl, hu, rfl, na, nb⟩
  · exact ⟨.refl, Dn.tr tr _ _ n⟩
  · exact ⟨.new hT, .tup hu (R.new hT) (.cons ((Dn.tr tr _ _ na).new hT) (.cons ((Dn.tr tr _ _ nb).new hT) .nil))⟩
theorem lc_sound (hi : IS wi I) (hg : GS js g mg) (ht : QS tt mt) (he : ES te me) (hj : ∀ j ∈ js, j ∈ vs) : FS (tLc wi g tt te vs) (mLc I mg mt me vs) := by
  intro W Z O env σ H0 H P Q R hm k
  refine hi W Z O env σ H0 H _ _ R hm fun ds J H1 p1 g1 it => ?_
  obtain ⟨hz, p1⟩ := p1
  intro D hD
  have R1 := (R.tr g1).wipe vs
  have nD : ∀ a, ¬ ZO Z O a → ∀ u, H1 a = some u → ¬ ZO Z (fun a => O a ∨ a = D) a := by
    rintro a z u e (q | q | q)
    · exact z (.inl q)
    · exact z (.inr q)
    · rw [q, hD] at e
      cases e
  have on : ∀ a, (O a ∨ a = D) → O a ∨ H1 a = none := fun a q => q.imp id fun e => by rw [e]; exact hD
  have hDm : ¬ Mu W D := (R.tr g1).zmu ((R.tr g1).new hD)
  refine ⟨fun i m H2 => m = ds.length - i ∧ i ≤ ds.length ∧ Rel W Z (fun a => O a ∨ a = D) (wipeE env vs) (L2.wipe σ vs) H0 H2 ∧ Kp Z O H1 H2 ∧ Ge W H1 H2 ∧ ∃ xs acc, H2 D = some (.lst xs) ∧ DnAll H2 (ZO Z fun a => O a ∨ a = D) xs acc ∧ xs.length ≤ i ∧
    lcGo mg mt me (wipeE env vs) (ds.drop i) fun ys => P (acc ++ ys), ⟨ds.length, by simp, Nat.zero_le _, R1.own hD, fun a o z e => by rw [upd_ne (ne_of_none e hD)]; exact e, .new hD, [], [], upd_same, .nil, Nat.le_refl _, p1⟩, ?_⟩
  rintro i m H2 ⟨rfl, hle, R2, kp, g2, xs, acc, hxs, nn, hxl, go⟩
  by_cases hlt : i < ds.length
  · refine .inr ⟨it.goes i H2 hlt kp, fun H3 => Rel W Z (fun a => O a ∨ a = D) (wipeE env vs) (L2.wipe σ vs) H0 H3 ∧ Kp Z O H1 H3 ∧ Ge W H1 H3 ∧ ∃ xs acc, H3 D = some (.lst xs) ∧ DnAll H3 (ZO Z fun a => O a ∨ a = D) xs acc ∧ xs.length ≤ i + 1 ∧
      lcGo mg mt me (wipeE env vs) (ds.drop (i + 1)) fun ys => P (acc ++ ys), fun H3 h3 => ⟨ds.length - (i + 1), by omega, rfl, hlt, h3⟩, fun x H3 y => ?_⟩
    obtain ⟨d, hd, g3, nd⟩ := yield_dn it R2 kp on hlt y
    have ed : ds.drop i = d :: ds.drop (i + 1) := by
      rw [List.drop_eq_getElem_cons hlt]
      rw [List.getElem?_eq_getElem hlt] at hd
      rw [Option.some.inj hd]
    rw [ed] at go
    have R3 := R2.tr g3
    refine hg W Z _ _ _ H0 H3 x d _ _ R3 nd go fun env' σ' go' R4 fr hl => ⟨wipe_eq (by rw [hl, wipe_length]) fun j hj' => fr j fun z => hj' (hj j z), ?_⟩
    refine ht W Z _ env' σ' H0 H3 _ _ R4 go' fun b H4 pb g4 => ?_
    have kp4 : ∀ H5, Ge W H2 H5 → Kp Z O H1 H5 := fun H5 g5 a o z e => g5.keep a o (fun mm => z (.inl (R.mz a mm))) (kp a o z e)
    cases b with
    | false =>
      have g24 := g3.trans g4
      exact ⟨R2.tr g24, kp4 _ g24, g2.trans g24, xs, acc, g24.keep _ _ hDm hxs, nn.ge g24 R.mz, Nat.le_succ_of_le hxl, pb⟩
    | true =>
      refine he W Z _ env' σ' H0 H4 _ _ (R4.tr g4) pb fun yd yv H5 py g5 ny => ?_
      have g25 := (g3.trans g4).trans g5
      have R5 := R2.tr g25
      have hx5 := g25.keep _ _ hDm hxs
      have noD : ∀ (j : Nat) (es : Hold), (wipeE env vs)[j]? = some (Cell.of es) → (L2.wipe σ vs)[j]? ≠ some (some (.ref D)) := fun j es ej sj => by
        obtain ⟨q, e1, oq⟩ := R1.holds ej
        rw [sj] at e1
        cases e1
        exact ((R.tr g1).oh D oq).1 hD
      refine ⟨xs, hx5, Nat.lt_of_le_of_lt (Nat.le_trans hxl (Nat.le_trans (Nat.le_of_lt hlt) hz)) (by rw [sizeLine_eq]; decide), R5.put (.inr rfl) noD, fun a o z e => ?_, ?_, xs ++ [yv], acc ++ [yd], upd_same, ?_, by rw [List.length_append]; exact Nat.add_le_add_right hxl 1, ?_⟩
      · have ne : a ≠ D := fun q => by
          rw [q, hD] at e
          cases e
        rw [upd_ne ne]
        exact kp4 _ g25 a o z e
      · refine ⟨fun a o mm e => ?_, fun wo => ((g2.trans g25).wl wo).upd (.inr hDm)⟩
        have ne : a ≠ D := fun q => by
          rw [q, hD] at e
          cases e
        rw [upd_ne ne]
        exact (g2.trans g25).keep a o mm e
      · exact ((nn.ge g25 R.mz).put (.inr rfl)).app (.cons (ny.put (.inr rfl)) .nil)
      · have : (fun ys => P (acc ++ (yd :: ys))) = fun ys => P ((acc ++ [yd]) ++ ys) := funext fun ys => by rw [List.append_assoc]; rfl
        rw [← this]
        exact py
  · have e : i = ds.length := by omega
    subst e
    refine .inl ⟨it.stops H2 kp, ?_⟩
    rw [List.drop_length] at go
    refine k _ D xs H2 go (g1.trans g2) (g1.fresh R.wl hD) hxs ?_
    rw [List.append_nil]
    exact nn
end
section
variable {X : Cx} {elt tg iter : Expr} {ifs : List Expr} {scope : Scope} {own : List (Str × Nat)} {pos : Pos} {wi : TI} {g : TG} {tt : TT} {te : TE} {I : ML} {mg : MG} {mt : MT} {me : ME} {js : List Nat}
theorem jf_lc (own : List (Str × Nat)) (hN : X.N.Nodup) (hi : JI X tg iter wi I) (ok : BlkOk X.N X.env.scope scope own) (hg : ∀ (s : Shared) (H : Hp) (C : Addr) (cl : List (Str × Addr)) (fp : List Addr), JG (X.blk s H scope (compEnvC scope cl C X.env) fp) js tg g mg)
    (ht : ∀ (s : Shared) (H : Hp) (C : Addr) (cl : List (Str × Addr)) (fp : List Addr), JTs (X.blk s H scope (compEnvC scope cl C X.env) fp) ifs tt mt) (he : ∀ (s : Shared) (H : Hp) (C : Addr) (cl : List (Str × Addr)) (fp : List Addr), JE (X.blk s H scope (compEnvC scope cl C X.env) fp) elt te me)
    (hj : ∀ j ∈ js, j ∈ own.map (·.2) := by decide) (hc : X.calm = true := by rfl) (hs : ∀ x, foldedSetIterable iter X.env x = pure x := by intro _; rfl) : JF X (.ListComp elt [⟨tg, iter, ifs, 0⟩] scope pos) (tLc wi g tt te (own.map (·.2))) (mLc I mg mt me (own.map (·.2))) :=
  ⟨pe_lc hc hN hi.pe ok (fun s H C cl fp => (hg s H C cl fp).pe) (fun s H C cl fp => (ht s H C cl fp).pe) (fun s H C cl fp => (he s H C cl fp).pe) hs,
   lc_sound hi.es (hg X.s_0 X.H_0 0 [] []).es (ht X.s_0 X.H_0 0 [] []).es (he X.s_0 X.H_0 0 [] []).es hj⟩
end
end Dw

set_option maxRecDepth 100000
set_option maxHeartbeats 4000000
/-! Dw8: statements over data; a def by its body. -/
namespace Dw
open PySem PySem.Spec PyProof.Rows L2
variable [XCtx]

structure MEnds where
  nx : Cells → Prop
  rt : PyData → Prop
  bk : Cells → Prop := fun _ => False
  ct : Cells → Prop := fun _ => False
abbrev MS := MEnds → Cells → Prop
structure Sim (W : Wl) (Z : Addr → Prop) (H0 : Hp) (O : Addr → Prop) (H : Hp) (M : MEnds) (D : Ends) : Prop where
  nx : ∀ O' env σ H', Rel W Z O' env σ H0 H' → Stp Z O O' H H' → M.nx env → D.nx σ H'
  bk : ∀ O' env σ H', Rel W Z O' env σ H0 H' → Stp Z O O' H H' → M.bk env → D.bk σ H'
  ct : ∀ O' env σ H', Rel W Z O' env σ H0 H' → Stp Z O O' H H' → M.ct env → D.ct σ H'
  rt : ∀ d v H', M.rt d → Ge W H0 H' → Dn H' Z v d → D.rt v H'
def SS (t : TS) (m : MS) : Prop := ∀ (W : Wl) (Z O : Addr → Prop) (env : Cells) (σ : L2.St) (H0 H : Hp) (M : MEnds) (D : Ends), Rel W Z O env σ H0 H → Sim W Z H0 O H M D → m M env → t D σ H
structure JS (X : Cx) (st : Stmt) (t : TS) (m : MS) : Prop where
  pe : PS X st t
  es : SS t m
structure JSs (X : Cx) (st : List Stmt) (t : TS) (m : MS) : Prop where
  pe : PSs X st t
  es : SS t m
section
variable {W : Wl} {Z O O' O2 : Addr → Prop} {env : Cells} {σ : L2.St} {H0 H H' H2 : Hp} {M : MEnds} {D : Ends}
theorem Sim.step (S : Sim W Z H0 O H M D) (st : Stp Z O O' H H') : Sim W Z H0 O' H' M D :=
  ⟨fun O2 env σ H2 R s h => S.nx O2 env σ H2 R (st.trans s) h, fun O2 env σ H2 R s h => S.bk O2 env σ H2 R (st.trans s) h, fun O2 env σ H2 R s h => S.ct O2 env σ H2 R (st.trans s) h, S.rt⟩
theorem Sim.tr (S : Sim W Z H0 O H M D) (R : Rel W Z O env σ H0 H) (g : Ge W H H') : Sim W Z H0 O H' M D := S.step (.ge g R.wl R.mz)
/-- the end of an expression statement -/
theorem Sim.next (S : Sim W Z H0 O H M D) (R : Rel W Z O env σ H0 H) (h : M.nx env) : D.nx σ H := S.nx O env σ H R .refl h
end

/-! ### blocks and small statements -/
def mNext : MS := fun M env => M.nx env
def mSq (a b : MS) : MS := fun M env => a { M with nx := fun e => b M e } env
def mIf (T : MT) (a b : MS) : MS := fun M env => T env fun c => if c = true then a M env else b M env
def mRet (A : ME) : MS := fun M env => A env M.rt
def mRetN : MS := fun M _ => M.rt .none
def mDo (A : ME) : MS := fun M env => A env fun _ => M.nx env
def mBrk : MS := fun M env => M.bk env
def mCnt : MS := fun M env => M.ct env
def mSet (i : Nat) (A : ME) : MS := fun M env => A env fun d => M.nx (env.set i (.val d))
def mSetF (i : Nat) (A : ML) : MS := fun M env => A env fun ds => M.nx (env.set i (.own ds))
def mAsg (A : ME) (g : MG) : MS := fun M env => A env fun d => g d env M.nx
section
variable {X : Cx} {st : Stmt} {rest a b : List Stmt} {e c : Expr} {t u : TS} {te : TE} {tt : TT} {m m' : MS} {A : ME} {F : ML} {T : MT} {pos : Pos} {g : TG} {mg : MG} {js : List Nat}
theorem jss_nil : JSs X [] tNext mNext := ⟨pss_nil, fun W Z O env σ H0 H M D R S h => S.next R h⟩
theorem jss_cons (h1 : JS X st t m) (h2 : JSs X rest u m') : JSs X (st :: rest) (tSeq t u) (mSq m m') := ⟨pss_cons h1.pe h2.pe, fun W Z O env σ H0 H M D R S h => by
  refine h1.es W Z O env σ H0 H { M with nx := fun e => m' M e } _ R ⟨fun O' env' σ' H' R' s' h' => ?_, S.bk, S.ct, S.rt⟩ h
  exact h2.es W Z O' env' σ' H0 H' M D R' (S.step s') h'⟩
theorem jss_one (h1 : JS X st t m) : JSs X [st] t m := ⟨pss_one h1.pe, h1.es⟩
theorem js_pass : JS X (.Pass pos) tNext mNext := ⟨ps_pass, fun W Z O env σ H0 H M D R S h => S.next R h⟩
theorem js_break : JS X (.Break pos) tBreak mBrk := ⟨ps_break, fun W Z O env σ H0 H M D R S h => S.bk O env σ H R .refl h⟩
theorem js_continue : JS X (.Continue pos) tCont mCnt := ⟨ps_continue, fun W Z O env σ H0 H M D R S h => S.ct O env σ H R .refl h⟩
theorem js_if (hc : JT X c tt T) (ha : JSs X a t m) (hb : JSs X b u m') : JS X (.If c a b pos) (tIfS tt t u) (mIf T m m') := ⟨ps_if hc.pe ha.pe hb.pe, fun W Z O env σ H0 H M D R S h => by
  refine hc.es W Z O env σ H0 H _ _ R h fun k H1 p1 g1 => ?_
  cases k with
  | true => exact ha.es W Z O env σ H0 H1 M D (R.tr g1) (S.tr R g1) p1
  | false => exact hb.es W Z O env σ H0 H1 M D (R.tr g1) (S.tr R g1) p1⟩
theorem js_ret (h : JE X e te A) : JS X (.Return (some e) pos) (tRet te) (mRet A) := ⟨ps_ret h.pe, fun W Z O env σ H0 H M D R S hm => by
  refine h.es W Z O env σ H0 H _ _ R hm fun d v H1 p1 g1 n1 => ?_
  exact S.rt d v H1 p1 (R.ge.trans g1) (Dn.tr (fun a u z q => ⟨q, fun y => z (.inl y)⟩) _ _ n1)⟩
theorem js_retN : JS X (.Return none pos) tRetN mRetN := ⟨ps_retN, fun W Z O env σ H0 H M D R S hm => S.rt .none .non H hm R.ge .non⟩
theorem js_expr (h : JE X e te A) (hs : swapsWith e none pos.line X.env = pure false := by rfl) : JS X (.Expr e pos) (tDrop te) (mDo A) := ⟨ps_expr h.pe hs, fun W Z O env σ H0 H M D R S hm => by
  refine h.es W Z O env σ H0 H _ _ R hm fun d v H1 p1 g1 n1 => ?_
  exact (S.tr R g1).next (R.tr g1) p1⟩
theorem js_set (i : Nat) {x : Str} {pos' : Pos} (hN : X.N.Nodup) (h : JE X e te A) (hi : X.N[i]? = some x := by rfl) (hx : Loc X.env.scope x := by first | exact .inl rfl | exact .inr rfl) (hs : swapsWith e (some (.Name x pos')) pos.line X.env = pure false := by rfl)
    (hf : X.fn x = true ∨ X.env.scope.names.lookup x = some .local := by first | exact .inl rfl | exact .inr rfl) : JS X (.Assign [.Name x pos'] e pos) (tAsg te (gName i)) (mSet i A) := ⟨ps_set hN hi hx h.pe hs hf, fun W Z O env σ H0 H M D R S hm => by
  refine h.es W Z O env σ H0 H _ _ R hm fun d v H1 p1 g1 n1 => ?_
  exact (S.tr R g1).next ((R.tr g1).set n1 i) p1⟩
/-- a slot takes a new list -/
theorem Rel.setOwn {W : Wl} {Z O : Addr → Prop} {env : Cells} {σ : L2.St} {H0 H : Hp} (R : Rel W Z O env σ H0 H) {p : Addr} {xs : List V} {ds : List PyData} (hp : O p) (no : ∀ (i : Nat) (ds : Hold), env[i]? = some (Cell.of ds) → σ[i]? ≠ some (some (.ref p))) (h : H p = some (.lst xs)) (n : DnAll H (ZO Z O) xs ds) (i : Nat) :
    Rel W Z O (env.set i (.own ds)) (σ.set i (some (.ref p))) H0 H where
  ge := R.ge
  wl := R.wl
  mz := R.mz
  za := R.za
  oz := R.oz
  oh := R.oh
  len := by rw [List.length_set, List.length_set]; exact R.len
  cell := fun j c e => by
    have hj : j < (env.set i (.own ds)).length := (List.getElem?_eq_some_iff.mp e).1
    rw [List.length_set, R.len] at hj
    rcases getElem?_set_cases e with ⟨rfl, rfl⟩ | ⟨ne, e⟩
    · exact ⟨p, xs, set_at hj, hp, h, n⟩
    · rw [List.getElem?_set_ne ne]
      exact R.cell j c e
  uniq := fun j k es fs q e1 e2 s1 s2 => by
    rcases getElem?_set_cases e1 with ⟨rfl, _⟩ | ⟨n1, e1⟩
    · rcases getElem?_set_cases e2 with ⟨rfl, _⟩ | ⟨n2, e2⟩
      · rfl
      · rw [List.getElem?_set_ne n2] at s2
        have hj : i < σ.length := by
          have := (List.getElem?_eq_some_iff.mp s1).1
          rw [List.length_set] at this
          exact this
        rw [set_at hj] at s1
        cases s1
        exact absurd s2 (no k fs e2)
    · rw [List.getElem?_set_ne n1] at s1
      rcases getElem?_set_cases e2 with ⟨rfl, _⟩ | ⟨n2, e2⟩
      · have hj : i < σ.length := by
          have := (List.getElem?_eq_some_iff.mp s2).1
          rw [List.length_set] at this
          exact this
        rw [set_at hj] at s2
        cases s2
        exact absurd s1 (no j es e1)
      · rw [List.getElem?_set_ne n2] at s2
        exact R.uniq j k es fs q e1 e2 s1 s2
  xr := R.xr
/-- .. that came of an expression: it becomes one's own -/
theorem Rel.take {W : Wl} {Z O : Addr → Prop} {env : Cells} {σ : L2.St} {H0 H H1 : Hp} (R : Rel W Z O env σ H0 H) (g : Ge W H H1) {p : Addr} {xs : List V} (hp : H p = none) (h : H1 p = some (.lst xs)) : Rel W Z (fun a => O a ∨ a = p) env σ H0 H1 := by
  have R1 := R.tr g
  have nin : ∀ a u, ¬ ZO Z O a → H a = some u → H1 a = some u ∧ ¬ ZO Z (fun a => O a ∨ a = p) a := fun a u z e => ⟨g.keep a u (fun m => z (.inl (R.mz a m))) e, by
    rintro (q | q | q)
    · exact z (.inl q)
    · exact z (.inr q)
    · exact ne_of_none e hp q⟩
  refine ⟨⟨R1.ge, R1.wl, R1.mz, R1.za, fun a q => ?_, fun a q => ?_, R1.len, fun i c e => ?_, R1.uniq⟩, R.xr.step ⟨fun a o z e => g.keep a o (fun m => z (.inl (R.mz a m))) e, fun a q => q.imp id fun e => by rw [e]; exact hp, fun a h => g.fresh R.wl h⟩⟩
  · rcases q with q | rfl
    · exact R.oz a q
    · cases e : H0 a with
      | none => rfl
      | some u => exact absurd hp (R.ge.there R.wl e)
  · rcases q with q | rfl
    · exact R1.oh a q
    · rw [h]
      exact nt_lst
  · have k := R.cell i c e
    cases c with
    | non => trivial
    | val d =>
      obtain ⟨v, e1, n⟩ := k
      exact ⟨v, e1, Dn.tr nin _ _ n⟩
    | own ds =>
      obtain ⟨q, ys, e1, oq, hq, n⟩ := k
      exact ⟨q, ys, e1, .inl oq, g.keep _ _ (R.om q oq) hq, DnAll.tr nin _ _ n⟩
    | dic kvs =>
      obtain ⟨q, e1, oq, hq⟩ := k
      exact ⟨q, e1, .inl oq, g.keep _ _ (R.om q oq) hq⟩
    | hob ho =>
      obtain ⟨q, e1, oq, hq⟩ := k
      exact ⟨q, e1, .inl oq, g.keep _ _ (R.om q oq) hq⟩
    | well => exact k
    | raw _ => exact k
theorem Rel.takeNo {W : Wl} {Z O : Addr → Prop} {env : Cells} {σ : L2.St} {H0 H : Hp} (R : Rel W Z O env σ H0 H) {p : Addr} (hp : H p = none) (i : Nat) (ds : Hold) (e : env[i]? = some (Cell.of ds)) : σ[i]? ≠ some (some (.ref p)) := fun s => by
  obtain ⟨q, e1, oq⟩ := R.holds e
  rw [s] at e1
  cases e1
  exact (R.oh _ oq).1 hp
theorem Stp.take {W : Wl} {Z O : Addr → Prop} {H H' : Hp} {p : Addr} (g : Ge W H H') (wo : WOk W H) (mz : ∀ a, Mu W a → Z a) (hp : H p = none) : Stp Z O (fun a => O a ∨ a = p) H H' :=
  ⟨fun a o z e => g.keep a o (fun m => z (.inl (mz a m))) e, fun a q => q.imp id fun e => by rw [e]; exact hp, fun a h => g.fresh wo h⟩
theorem js_setF (i : Nat) {x : Str} {pos' : Pos} (hN : X.N.Nodup) (h : JF X e te F) (hi : X.N[i]? = some x := by rfl) (hx : Loc X.env.scope x := by first | exact .inl rfl | exact .inr rfl) (hs : swapsWith e (some (.Name x pos')) pos.line X.env = pure false := by rfl)
    (hf : X.fn x = true ∨ X.env.scope.names.lookup x = some .local := by first | exact .inl rfl | exact .inr rfl) : JS X (.Assign [.Name x pos'] e pos) (tAsg te (gName i)) (mSetF i F) := ⟨ps_set hN hi hx h.pe hs hf, fun W Z O env σ H0 H M D R S hm => by
  refine h.es W Z O env σ H0 H _ _ R hm fun ds p xs H1 p1 g1 hp h1 n1 => ?_
  exact S.nx _ _ _ H1 ((R.take g1 hp h1).setOwn (.inr rfl) (fun i ds e => R.takeNo hp i ds e) h1 n1 i) (.take g1 R.wl R.mz hp) p1⟩
/-- y = [.. for ..], a statement of its own -/
theorem js_setLc (i : Nat) {y : Str} {py spos lpos : Pos} {elt tg iter : Expr} {ifs : List Expr} {scope : Scope} {wi : TI} {tl : TT} {te2 : TE} {I : ML} {mt : MT} {me : ME} (own : List (Str × Nat)) (hN : X.N.Nodup) (hyl : X.env.scope.names.lookup y = some .local)
    (hsw : swapsWith (.ListComp elt [⟨tg, iter, ifs, 0⟩] scope lpos) (some (.Name y py)) spos.line X.env = pure true) (hi : JI X tg iter wi I) (ok : BlkOk X.N X.env.scope scope own)
    (hg : ∀ (s : Shared) (H : Hp) (C : Addr) (cl : List (Str × Addr)) (fp : List Addr), JG (X.blk s H scope (compEnvC scope cl C X.env) fp) js tg g mg)
    (ht : ∀ (s : Shared) (H : Hp) (C : Addr) (cl : List (Str × Addr)) (fp : List Addr), JTs (X.blk s H scope (compEnvC scope cl C X.env) fp) ifs tl mt) (he : ∀ (s : Shared) (H : Hp) (C : Addr) (cl : List (Str × Addr)) (fp : List Addr), JE (X.blk s H scope (compEnvC scope cl C X.env) fp) elt te2 me)
    (hy : X.N[i]? = some y := by rfl) (hj : ∀ j ∈ js, j ∈ own.map (·.2) := by decide) (hc : X.calm = true := by rfl) (hs : ∀ x, foldedSetIterable iter X.env x = pure x := by intro _; rfl) :
    JS X (.Assign [.Name y py] (.ListComp elt [⟨tg, iter, ifs, 0⟩] scope lpos) spos) (tAsg (tLc wi g tl te2 (own.map (·.2))) (gName i)) (mSetF i (mLc I mg mt me (own.map (·.2)))) :=
  ⟨ps_setLc hc hN hy hyl hsw hi.pe ok (fun s H C cl fp => (hg s H C cl fp).pe) (fun s H C cl fp => (ht s H C cl fp).pe) (fun s H C cl fp => (he s H C cl fp).pe) hs, fun W Z O env σ H0 H M D R S hm => by
  refine lc_sound hi.es (hg X.s_0 X.H_0 0 [] []).es (ht X.s_0 X.H_0 0 [] []).es (he X.s_0 X.H_0 0 [] []).es hj W Z O env σ H0 H _ _ R hm fun ds p xs H1 p1 g1 hp h1 n1 => ?_
  exact S.nx _ _ _ H1 ((R.take g1 hp h1).setOwn (.inr rfl) (fun i ds e => R.takeNo hp i ds e) h1 n1 i) (.take g1 R.wl R.mz hp) p1⟩
theorem js_asg {tg : Expr} (h : JE X e te A) (hg : JG X js tg g mg) (hs : swapsWithSole [tg] e pos.line X.env = pure false := by rfl) (hw : swappedStores [tg] e X.env = pure none := by rfl) (h1 : (assignEach [tg] X.env).map (·.2) = [assign tg X.env] := by rfl) :
    JS X (.Assign [tg] e pos) (tAsg te g) (mAsg A mg) := ⟨ps_asg h.pe hg.pe hs hw h1, fun W Z O env σ H0 H M D R S hm => by
  refine h.es W Z O env σ H0 H _ _ R hm fun d v H1 p1 g1 n1 => ?_
  refine hg.es W Z O env σ H0 H1 v d _ _ (R.tr g1) n1 p1 fun env' σ' h' R' _ _ => ?_
  exact (S.tr R g1).next R' h'⟩
end
end Dw

set_option maxRecDepth 100000
set_option maxHeartbeats 4000000
/-! Dw9: loops, lists that change, defs. -/
namespace Dw
open PySem PySem.Spec PyProof.Rows L2
variable [XCtx]

/-! ### for, while -/
def forGo (mg : MG) (b : MS) (M : MEnds) : List PyData → Cells → Prop
  | [], env => M.nx env
  | d :: ds, env => mg d env fun env' => b { M with nx := forGo mg b M ds, ct := forGo mg b M ds, bk := M.nx } env'
def mFor (I : ML) (mg : MG) (b : MS) : MS := fun M env => I env fun ds => forGo mg b M ds env
def mWhile (T : MT) (b : MS) : MS := fun M env => ∃ W : Nat → Cells → Prop, (∃ n, W n env) ∧ ∀ n env, W n env → T env fun c => if c = true then b { M with nx := fun e => ∃ k, k < n ∧ W k e, ct := fun e => ∃ k, k < n ∧ W k e, bk := M.nx } env else M.nx env
section
variable {X : Cx} {tg iter c e : Expr} {body : List Stmt} {wi : TI} {I : ML} {g : TG} {mg : MG} {tb : TS} {mb : MS} {js : List Nat} {pos : Pos} {tt : TT} {T : MT} {te : TE} {A B : ME}
theorem for_sound (hi : IS wi I) (hg : GS js g mg) (hb : SS tb mb) : SS (tFor wi g tb) (mFor I mg mb) := by
  intro W Z O env σ H0 H M D R S hm
  refine hi W Z O env σ H0 H _ _ R hm fun ds J H1 p1 g1 it => ?_
  have S1 := S.tr R g1
  refine ⟨fun i m σ' H2 => m = ds.length - i ∧ i ≤ ds.length ∧ ∃ O' env', Rel W Z O' env' σ' H0 H2 ∧ Stp Z O O' H1 H2 ∧ forGo mg mb M (ds.drop i) env', ⟨ds.length, by simp, Nat.zero_le _, O, env, R.tr g1, .refl, p1⟩, ?_⟩
  rintro i m σ' H2 ⟨rfl, hle, O', env', R2, st, go⟩
  by_cases hlt : i < ds.length
  · refine .inr ⟨it.goes i H2 hlt st.kp, fun σ3 H3 => ∃ O' env', Rel W Z O' env' σ3 H0 H3 ∧ Stp Z O O' H1 H3 ∧ forGo mg mb M (ds.drop (i + 1)) env', fun σ3 H3 h3 => ⟨ds.length - (i + 1), by omega, rfl, hlt, h3⟩, fun x H3 y => ?_⟩
    obtain ⟨d, hd, g3, nd⟩ := yield_dn it R2 st.kp st.on hlt y
    have ed : ds.drop i = d :: ds.drop (i + 1) := by
      rw [List.drop_eq_getElem_cons hlt]
      rw [List.getElem?_eq_getElem hlt] at hd
      rw [Option.some.inj hd]
    rw [ed] at go
    have st3 : Stp Z O O' H1 H3 := st.trans (.ge g3 R2.wl R2.mz)
    refine hg W Z O' env' σ' H0 H3 x d _ _ (R2.tr g3) nd go fun env2 σ2 go2 R4 _ _ => ?_
    refine hb W Z O' env2 σ2 H0 H3 { M with nx := forGo mg mb M (ds.drop (i + 1)), ct := forGo mg mb M (ds.drop (i + 1)), bk := M.nx } _ R4 ⟨fun O5 env5 σ5 H5 R5 s5 h5 => ?_, fun O5 env5 σ5 H5 R5 s5 h5 => ?_, fun O5 env5 σ5 H5 R5 s5 h5 => ?_, S.rt⟩ go2
    · exact ⟨O5, env5, R5, st3.trans s5, h5⟩
    · exact S1.nx O5 env5 σ5 H5 R5 (st3.trans s5) h5
    · exact ⟨O5, env5, R5, st3.trans s5, h5⟩
  · have e : i = ds.length := by omega
    subst e
    rw [List.drop_length] at go
    exact .inl ⟨it.stops H2 st.kp, S1.nx O' env' σ' H2 R2 st go⟩
theorem js_for (hp : PassesOwn (model X.prog X.w) X.A X.env X.xe) (hi : JI X tg iter wi I) (hg : JG X js tg g mg) (hb : JSs X body tb mb) (hc : X.calm = true := by rfl) (hs : ∀ x, foldedSetIterable iter X.env x = pure x := by intro _; rfl) : JS X (.For tg iter body [] pos) (tFor wi g tb) (mFor I mg mb) :=
  ⟨ps_for hp hc hi.pe hg.pe hb.pe hs, for_sound hi.es hg.es hb.es⟩
theorem while_sound (ht : QS tt T) (hb : SS tb mb) : SS (tWhile tt tb) (mWhile T mb) := by
  intro W Z O env σ H0 H M D R S hm
  obtain ⟨Wm, ⟨n0, w0⟩, turn⟩ := hm
  refine ⟨fun n σ' H2 => ∃ O' env', Rel W Z O' env' σ' H0 H2 ∧ Stp Z O O' H H2 ∧ Wm n env', ⟨n0, O, env, R, .refl, w0⟩, ?_⟩
  rintro n σ' H2 ⟨O', env', R2, st, w2⟩
  refine ht W Z O' env' σ' H0 H2 _ _ R2 (turn n env' w2) fun b H3 p3 g3 => ?_
  have st3 : Stp Z O O' H H3 := st.trans (.ge g3 R2.wl R2.mz)
  cases b with
  | false => exact S.nx O' env' σ' H3 (R2.tr g3) st3 p3
  | true =>
    refine ⟨fun σ4 H4 => ∃ k, k < n ∧ ∃ O' env', Rel W Z O' env' σ4 H0 H4 ∧ Stp Z O O' H H4 ∧ Wm k env', fun σ4 H4 h => h, ?_⟩
    refine hb W Z O' env' σ' H0 H3 { M with nx := fun e => ∃ k, k < n ∧ Wm k e, ct := fun e => ∃ k, k < n ∧ Wm k e, bk := M.nx } _ (R2.tr g3) ⟨fun O5 env5 σ5 H5 R5 s5 h5 => ?_, fun O5 env5 σ5 H5 R5 s5 h5 => ?_, fun O5 env5 σ5 H5 R5 s5 h5 => ?_, S.rt⟩ p3
    · obtain ⟨k, hk, hw⟩ := h5
      exact ⟨k, hk, O5, env5, R5, st3.trans s5, hw⟩
    · exact S.nx O5 env5 σ5 H5 R5 (st3.trans s5) h5
    · obtain ⟨k, hk, hw⟩ := h5
      exact ⟨k, hk, O5, env5, R5, st3.trans s5, hw⟩
theorem js_while (hp : PassesOwn (model X.prog X.w) X.A X.env X.xe) (hc : JT X c tt T) (hb : JSs X body tb mb) : JS X (.While c body [] pos) (tWhile tt tb) (mWhile T mb) := ⟨ps_while hp hc.pe hb.pe, while_sound hc.es hb.es⟩

/-! ### lists of one's own -/
def onOwn (env : Cells) (i : Nat) (k : List PyData → Prop) : Prop := match env[i]? with
  | some (.own ds) => k ds
  | _ => False
theorem onOwn_iff {env : Cells} {i : Nat} {k : List PyData → Prop} (h : onOwn env i k) : ∃ ds, env[i]? = some (.own ds) ∧ k ds := by
  unfold onOwn at h
  split at h
  · rename_i ds e
    exact ⟨ds, e, h⟩
  · exact h.elim
theorem ixN_data {n : Nat} {i : Int} {j : Nat} (h : ixN n i = some j) : j < n := (ixN_seq h).2.1
/-- the list at slot i becomes another -/
theorem Rel.upOwn {W : Wl} {Z O : Addr → Prop} {env : Cells} {σ : L2.St} {H0 H : Hp} (R : Rel W Z O env σ H0 H) {i : Nat} {ds es : List PyData} {p : Addr} {ys : List V} (e : env[i]? = some (.own ds)) (s : σ[i]? = some (some (.ref p))) (o : O p) (n : DnAll H (ZO Z O) ys es) :
    Rel W Z O (env.set i (.own es)) σ H0 (upd H p (.lst ys)) := by
  have R1 : Rel W Z O (env.set i .non) σ H0 H := ⟨⟨R.ge, R.wl, R.mz, R.za, R.oz, R.oh, by rw [List.length_set]; exact R.len, fun j c q => by
    rcases getElem?_set_cases q with ⟨rfl, rfl⟩ | ⟨ne, q⟩
    · trivial
    · exact R.cell j c q, fun j k ds es p e1 e2 s1 s2 => by
    rcases getElem?_set_cases e1 with ⟨_, q⟩ | ⟨n1, e1⟩
    · cases ds <;> cases q
    rcases getElem?_set_cases e2 with ⟨_, q⟩ | ⟨n2, e2⟩
    · cases es <;> cases q
    exact R.uniq j k ds es p e1 e2 s1 s2⟩, R.xr⟩
  have no : ∀ (j : Nat) (fs : Hold), (env.set i .non)[j]? = some (Cell.of fs) → σ[j]? ≠ some (some (.ref p)) := fun j fs q s' => by
    rcases getElem?_set_cases q with ⟨_, q⟩ | ⟨n1, q⟩
    · cases fs <;> cases q
    · exact n1 (R.uniq i j (.inl ds) fs p e q s s')
  have R2 := R1.put (o := .lst ys) o no
  have hi : i < σ.length := (List.getElem?_eq_some_iff.mp s).1
  have R3 := R2.setOwn o no upd_same (n.put o) i
  have e1 : (env.set i .non).set i (.own es) = env.set i (.own es) := List.set_set ..
  have e2 : σ.set i (some (.ref p)) = σ := by
    apply List.ext_getElem?
    intro j
    by_cases q : i = j
    · subst q
      rw [List.getElem?_set_self hi, s]
    · rw [List.getElem?_set_ne q]
  rw [e1, e2] at R3
  exact R3
theorem Stp.put {Z O : Addr → Prop} {H : Hp} {p : Addr} {o : HO} (h : O p) (hp : H p ≠ none) : Stp Z O O H (upd H p o) := ⟨fun a u z e => by
  rw [upd_ne (fun q => z (.inr (by rw [q]; exact h)))]
  exact e, fun _ q => .inl q, fun a q => by
  by_cases e : a = p
  · rw [e, upd_same] at q
    cases q
  · rw [upd_ne e] at q
    exact q⟩
/-- xs.append(e) -/
def mApp (i : Nat) (A : ME) : MS := fun M env => onOwn env i fun ds => ds.length < 100000 ∧ A env fun d => M.nx (env.set i (.own (ds ++ [d])))
theorem app_sound {K : PySem.W.Frag} {i : Nat} (h : ES te A) : SS (tDrop (tBM K "list" rAppend (tVar i) (tCons te tNil))) (mApp i A) := by
  intro W Z O env σ H0 H M D R S hm
  obtain ⟨ds, q, hl, hm⟩ := onOwn_iff hm
  obtain ⟨p, xs, e1, o, hp, n⟩ := R.cell i _ q
  refine ⟨.ref p, e1, .inl ⟨rfl, xs, SqL.of hp⟩, ?_⟩
  refine h W Z O env σ H0 H _ _ R hm fun d v H1 p1 g1 n1 => ?_
  have hp1 := g1.keep _ _ (R.om p o) hp
  have n2 := n.ge g1 R.mz
  refine ⟨p, xs, v, rfl, rfl, hp1, Nat.lt_of_lt_of_le (by rw [n.length]; exact hl) (small_line (Nat.le_refl _)), ?_⟩
  exact (S.tr R g1).nx O _ σ _ ((R.tr g1).upOwn q e1 o (n2.app (.cons n1 .nil))) (.put o (by rw [hp1]; exact Option.some_ne_none _)) p1
theorem js_append (i : Nat) {x : Str} {p apos cpos spos : Pos} (h : JE X e te A) (pe : PS X (.Expr (.Call (.Attribute (.Name x p) "append" apos) [e] [] cpos) spos) (tDrop (tBM X.K "list" rAppend (tVar i) (tCons te tNil)))) :
    JS X (.Expr (.Call (.Attribute (.Name x p) "append" apos) [e] [] cpos) spos) (tDrop (tBM X.K "list" rAppend (tVar i) (tCons te tNil))) (mApp i A) := ⟨pe, app_sound h.es⟩
/-- xs[k] = e -/
def mPut (i : Nat) (B A : ME) : MS := fun M env => onOwn env i fun ds => A env fun d => B env fun k => onI k fun k => ∃ j, ixN ds.length k = some j ∧ M.nx (env.set i (.own (ds.set j d)))
theorem put_sound {i : Nat} {ti : TE} (h : ES te A) (hb : BS ti B) : SS (tAsg te (gSub (tVar i) ti rSetL)) (mPut i B A) := by
  intro W Z O env σ H0 H M D R S hm
  obtain ⟨ds, q, hm⟩ := onOwn_iff hm
  obtain ⟨p, xs, e1, o, hp, n⟩ := R.cell i _ q
  refine h W Z O env σ H0 H _ _ R hm fun d v H1 p1 g1 n1 => ?_
  have R1 := R.tr g1
  refine ⟨_, e1, hb W Z O env σ H0 H1 _ _ R1 p1 fun kd kv H2 p2 g2 n2 => ?_⟩
  obtain ⟨k, rfl, j, hj, p2⟩ := onI_iff p2
  have R2 := R1.tr g2
  have g := g1.trans g2
  have hp2 := g.keep _ _ (R.om p o) hp
  have nn := n.ge g R.mz
  refine ⟨p, xs, k, j, rfl, n2.int, hp2, by rw [n.length]; exact hj, ?_⟩
  exact ((S.tr R g1).tr R1 g2).nx O _ σ _ (R2.upOwn q e1 o (DnAll.set (n1.ge g2 R.mz) j nn)) (.put o (by rw [hp2]; exact Option.some_ne_none _)) p2
theorem js_put (i : Nat) {x : Str} {xp tp : Pos} {ie : Expr} {ti : TE} (h : JE X e te A) (hb : JB X ie ti B) (hN : X.N[i]? = some x := by rfl) (hv : Vis X.env.scope x := by first | exact Or.inl rfl | exact Or.inr (Or.inl rfl) | exact Or.inr (Or.inr rfl)) (hd : (x == ("__debug__" : Str)) = false := by decide)
    (hcd : (x == ("__classdict__" : Str)) = false := by decide) (ha : ∀ v, assign (.Subscript (.Name x xp) ie tp) X.env v = (do
      let ov ← holding [v] (eval (.Name x xp) X.env)
      let iv ← holding [v, ov] (eval ie X.env)
      standAt tp
      holding [v, ov, iv] (setItem ov iv v)
      release [v, ov, iv] []) := by intro _; rfl)
    (hs : swapsWithSole [.Subscript (.Name x xp) ie tp] e pos.line X.env = pure false := by rfl) (hw : swappedStores [.Subscript (.Name x xp) ie tp] e X.env = pure none := by rfl) (h1 : (assignEach [.Subscript (.Name x xp) ie tp] X.env).map (·.2) = [assign (.Subscript (.Name x xp) ie tp) X.env] := by rfl) :
    JS X (.Assign [.Subscript (.Name x xp) ie tp] e pos) (tAsg te (gSub (tVar i) ti rSetL)) (mPut i B A) := ⟨ps_asg h.pe (pg_sub (pe_var hN hv hd hcd) hb.pe set_list ha) hs hw h1, put_sound h.es hb.es⟩
/-- xs[k] op= e, ints -/
def mAugS (f : Int → Int → Int) (i : Nat) (B A : ME) : MS := fun M env => onOwn env i fun ds => B env fun k => onI k fun k => ∃ j, ixN ds.length k = some j ∧ ∃ old, ds[j]? = some (.int old) ∧ A env fun d => onI d fun y => M.nx (env.set i (.own (ds.set j (.int (f old y)))))
theorem augS_sound {K : PySem.W.Frag} {f : Int → Int → Int} {i : Nat} {ti : TE} (h : BS te A) (hb : BS ti B) : SS (tAugS (tVar i) ti te (rIxL K) (ipI f) rSetL) (mAugS f i B A) := by
  intro W Z O env σ H0 H M D R S hm
  obtain ⟨ds, q, hm⟩ := onOwn_iff hm
  obtain ⟨p, xs, e1, o, hp, n⟩ := R.cell i _ q
  refine ⟨_, e1, hb W Z O env σ H0 H _ _ R hm fun kd kv H1 p1 g1 n1 => ?_⟩
  obtain ⟨k, rfl, j, hj, old, ho, p1⟩ := onI_iff p1
  have hp1 := g1.keep _ _ (R.om p o) hp
  have nn := n.ge g1 R.mz
  obtain ⟨ov, hov, dov⟩ := nn.get ho
  cases dov
  have hat : atI xs k = some (.int old) := by
    unfold atI
    rw [n.length, hj]
    exact hov
  refine ⟨p, xs, k, .int old, rfl, n1.int, SqL.of hp1, hat, ?_⟩
  refine h W Z O env σ H0 H1 _ _ (R.tr g1) p1 fun d v H2 p2 g2 n2 => ?_
  obtain ⟨y, rfl, p2⟩ := onI_iff p2
  have R2 := (R.tr g1).tr g2
  have hp2 := g2.keep _ _ (R.om p o) hp1
  refine ⟨old, y, rfl, n2.int, p, xs, k, j, rfl, n1.int, hp2, by rw [n.length]; exact hj, ?_⟩
  exact ((S.tr R g1).tr (R.tr g1) g2).nx O _ σ _ (R2.upOwn q e1 o (DnAll.set (.int _) j (nn.ge g2 R.mz))) (.put o (by rw [hp2]; exact Option.some_ne_none _)) p2
theorem js_augS {op : Operator} {f : Int → Int → Int} (i : Nat) {x : Str} {xp tp : Pos} {ie : Expr} {ti : TE} (hp : PIp X op (ipI f)) (hb : JB X ie ti B) (h : JB X e te A) (hN : X.N[i]? = some x := by rfl) (hv : Vis X.env.scope x := by first | exact Or.inl rfl | exact Or.inr (Or.inl rfl) | exact Or.inr (Or.inr rfl))
    (hd : (x == ("__debug__" : Str)) = false := by decide) (hcd : (x == ("__classdict__" : Str)) = false := by decide) (ha : ∀ ov iv new, augStore ie ov iv new = (do holding [new, ov, iv] (setItem ov iv new); release [new, ov, iv] []; pure .next) := by intros; rfl) :
    JS X (.AugAssign (.Subscript (.Name x xp) ie tp) op e pos) (tAugS (tVar i) ti te (rIxL X.K) (ipI f) rSetL) (mAugS f i B A) := ⟨ps_augS (pe_var hN hv hd hcd) hb.pe get_list h.pe hp set_list ha, augS_sound h.es hb.es⟩
/-- x op= e, ints -/
def mAug (f : Int → Int → Int) (i : Nat) (A : ME) : MS := fun M env => mVar i env fun x => onI x fun a => A env fun d => onI d fun b => M.nx (env.set i (.val (.int (f a b))))
theorem js_aug {op : Operator} {f : Int → Int → Int} (i : Nat) {x : Str} {pos' : Pos} (hN : X.N.Nodup) (h : JB X e te A) (ho : PIp X op (ipI f)) (hi : X.N[i]? = some x := by rfl) (hx : Loc X.env.scope x := by first | exact .inl rfl | exact .inr rfl) (hf : X.fn x = true ∨ X.env.scope.names.lookup x = some .local := by first | exact .inl rfl | exact .inr rfl) :
    JS X (.AugAssign (.Name x pos') op e pos) (tAug i te (ipI f)) (mAug f i A) := ⟨ps_aug hN hi hx h.pe ho hf, fun W Z O env σ H0 H M D R S hm => by
  unfold mAug mVar at hm
  split at hm
  · rename_i d q
    obtain ⟨a, rfl, hm⟩ := onI_iff hm
    obtain ⟨v, e1, n⟩ := R.cell i _ q
    cases n
    refine ⟨_, e1, h.es W Z O env σ H0 H _ _ R hm fun d v H1 p1 g1 n1 => ?_⟩
    obtain ⟨b, rfl, p1⟩ := onI_iff p1
    exact ⟨a, b, rfl, n1.int, (S.tr R g1).next ((R.tr g1).set (.int _) i) p1⟩
  · exact hm.elim⟩
/-- a, b = e1, e2: two data; data and a new list -/
def mPar (i j : Nat) (A B : ME) : MS := fun M env => A env fun x => B env fun y => M.nx ((env.set i (.val x)).set j (.val y))
def mParF (i j : Nat) (A : ME) (B : ML) : MS := fun M env => A env fun x => B env fun ys => M.nx ((env.set i (.val x)).set j (.own ys))
section
variable {i j : Nat} {x y : Str} {a b : Expr} {ta tb' : TE} {px py pt : Pos} {kt k2 : Nat} {pt2 : Pos} {B' : ML}
theorem js_par (i j : Nat) {x y : Str} (hN : X.N.Nodup) (ha : JE X a ta A) (hb : JE X b tb' B) (hx : X.env.scope.names.lookup x = some .local) (hy : X.env.scope.names.lookup y = some .local) (hi : X.N[i]? = some x := by rfl) (hj : X.N[j]? = some y := by rfl) (hij : i ≠ j := by decide)
    (hs1 : starEach [a, b] X.env = (false, eval a X.env) :: starEach [b] X.env := by rfl) (hs2 : starEach [b] X.env = (false, eval b X.env) :: starEach [] X.env := by rfl)
    (hw : swappedStores [.Tuple [.Name x px, .Name y py] kt pt] (.Tuple [a, b] k2 pt2) X.env = pure (some [x, y]) := by rfl) (hs : swapsWithSole [.Tuple [.Name x px, .Name y py] kt pt] (.Tuple [a, b] k2 pt2) pos.line X.env = pure false := by rfl) (hc : X.calm = true := by rfl) :
    JS X (.Assign [.Tuple [.Name x px, .Name y py] kt pt] (.Tuple [a, b] k2 pt2) pos) (tPar i j (tCons ta (tCons tb' tNil))) (mPar i j A B) := ⟨ps_par hc hN hi hj hij hx hy (pa_cons ha.pe (pa_cons hb.pe pa_nil hs2) hs1) hw hs, fun W Z O env σ H0 H M D R S hm => by
  refine ha.es W Z O env σ H0 H _ _ R hm fun d v H1 p1 g1 n1 => ?_
  refine hb.es W Z O env σ H0 H1 _ _ (R.tr g1) p1 fun d2 v2 H2 p2 g2 n2 => ?_
  exact ⟨v, v2, rfl, ((S.tr R g1).tr (R.tr g1) g2).next ((((R.tr g1).tr g2).set (n1.ge g2 R.mz) i).set n2 j) p2⟩⟩
theorem js_parF (i j : Nat) {x y : Str} (hN : X.N.Nodup) (ha : JE X a ta A) (hb : JF X b tb' B') (hx : X.env.scope.names.lookup x = some .local) (hy : X.env.scope.names.lookup y = some .local) (hi : X.N[i]? = some x := by rfl) (hj : X.N[j]? = some y := by rfl) (hij : i ≠ j := by decide)
    (hs1 : starEach [a, b] X.env = (false, eval a X.env) :: starEach [b] X.env := by rfl) (hs2 : starEach [b] X.env = (false, eval b X.env) :: starEach [] X.env := by rfl)
    (hw : swappedStores [.Tuple [.Name x px, .Name y py] kt pt] (.Tuple [a, b] k2 pt2) X.env = pure (some [x, y]) := by rfl) (hs : swapsWithSole [.Tuple [.Name x px, .Name y py] kt pt] (.Tuple [a, b] k2 pt2) pos.line X.env = pure false := by rfl) (hc : X.calm = true := by rfl) :
    JS X (.Assign [.Tuple [.Name x px, .Name y py] kt pt] (.Tuple [a, b] k2 pt2) pos) (tPar i j (tCons ta (tCons tb' tNil))) (mParF i j A B') := ⟨ps_par hc hN hi hj hij hx hy (pa_cons ha.pe (pa_cons hb.pe pa_nil hs2) hs1) hw hs, fun W Z O env σ H0 H M D R S hm => by
  refine ha.es W Z O env σ H0 H _ _ R hm fun d v H1 p1 g1 n1 => ?_
  have R1 := R.tr g1
  refine hb.es W Z O env σ H0 H1 _ _ R1 p1 fun ds p xs H2 p2 g2 hp h2 n2 => ?_
  refine ⟨v, .ref p, rfl, ?_⟩
  have n1' : Dn H2 (ZO Z fun a => O a ∨ a = p) v d := Dn.tr (fun a u z e => ⟨g2.keep a u (fun m => z (.inl (R.mz a m))) e, by
    rintro (q | q | q)
    · exact z (.inl q)
    · exact z (.inr q)
    · exact ne_of_none e hp q⟩) _ _ n1
  have R2 := (R1.take g2 hp h2).set n1' i
  refine (S.tr R g1).nx _ _ _ H2 (R2.setOwn (.inr rfl) (fun k ds e => ?_) h2 n2 j) (.take g2 R1.wl R.mz hp) p2
  rcases getElem?_set_cases e with ⟨_, q⟩ | ⟨ne, q⟩
  · cases ds <;> cases q
  · rw [List.getElem?_set_ne ne]
    exact R1.takeNo hp k ds q⟩
end
/-- one's own lists at the slots is are told off as data: they change no more -/
def frz (env : Cells) : List Nat → Cells
  | [] => env
  | i :: is => match (frz env is)[i]? with
    | some (.own ds) => (frz env is).set i (.val (.list ds))
    | _ => frz env is
def mFrz (is : List Nat) (m : MS) : MS := fun M env => m M (frz env is)
theorem Rel.frz {W : Wl} {Z O : Addr → Prop} {env : Cells} {σ : L2.St} {H0 H : Hp} (R : Rel W Z O env σ H0 H) : ∀ is : List Nat, ∃ O', (∀ a, O' a → O a) ∧ Rel W Z O' (Dw.frz env is) σ H0 H
  | [] => ⟨O, fun _ h => h, R⟩
  | i :: is => by
    obtain ⟨O1, h1, R1⟩ := Rel.frz R is
    unfold Dw.frz
    split
    · rename_i ds q
      obtain ⟨p, xs, e1, o, hp, n⟩ := R1.cell i _ q
      have wk : ∀ a u, ¬ ZO Z O1 a → H a = some u → H a = some u ∧ ¬ ZO Z (fun a => O1 a ∧ a ≠ p) a := fun a u z e => ⟨e, fun y => z (y.imp id (·.1))⟩
      have pz : ¬ ZO Z (fun a => O1 a ∧ a ≠ p) p := by
        rintro (y | y)
        · exact (R1.za p y).1 (R1.oz p o)
        · exact y.2 rfl
      refine ⟨fun a => O1 a ∧ a ≠ p, fun a y => h1 a y.1, ⟨R1.ge, R1.wl, R1.mz, R1.za, fun a y => R1.oz a y.1, fun a y => R1.oh a y.1, by rw [List.length_set]; exact R1.len, fun j c y => ?_, fun j k ds es p e1 e2 s1 s2 => ?_⟩, R1.xr.step ⟨fun _ _ _ e => e, fun a q => .inl q.1, fun _ q => q⟩⟩
      · rcases getElem?_set_cases y with ⟨rfl, rfl⟩ | ⟨ne, y⟩
        · exact ⟨.ref p, e1, .lst hp pz (DnAll.tr wk _ _ n)⟩
        · have k := R1.cell j c y
          cases c with
          | non => trivial
          | val d =>
            obtain ⟨v, e2, m⟩ := k
            exact ⟨v, e2, Dn.tr wk _ _ m⟩
          | own es =>
            obtain ⟨q2, ys, e2, o2, hq, m⟩ := k
            exact ⟨q2, ys, e2, ⟨o2, fun z => ne (R1.uniq i j (.inl ds) (.inl es) p q y e1 (by rw [e2, z]))⟩, hq, DnAll.tr wk _ _ m⟩
          | dic kvs =>
            obtain ⟨q2, e2, o2, hq⟩ := k
            exact ⟨q2, e2, ⟨o2, fun z => ne (R1.uniq i j (.inl ds) (.inr kvs) p q y e1 (by rw [e2, z]))⟩, hq⟩
          | hob ho =>
            obtain ⟨q2, e2, o2, hq⟩ := k
            exact ⟨q2, e2, ⟨o2, fun z => ne (R1.uniq i j (.inl ds) (.hob ho) p q y e1 (by rw [e2, z]))⟩, hq⟩
          | well => exact k
          | raw _ => exact k
      · rcases getElem?_set_cases e1 with ⟨_, y⟩ | ⟨n1, e1⟩
        · cases ds <;> cases y
        rcases getElem?_set_cases e2 with ⟨_, y⟩ | ⟨n2, e2⟩
        · cases es <;> cases y
        exact R1.uniq j k ds es p e1 e2 s1 s2
    · exact ⟨O1, h1, R1⟩
theorem js_frz {st : Stmt} {t : TS} {m : MS} (is : List Nat) (h : JS X st t m) : JS X st t (mFrz is m) := ⟨h.pe, fun W Z O env σ H0 H M D R S hm => by
  obtain ⟨O1, h1, R1⟩ := R.frz is
  exact h.es W Z O1 (frz env is) σ H0 H M D R1 (S.step ⟨fun _ _ _ e => e, fun a q => .inl (h1 a q), fun _ q => q⟩) hm⟩
end

end Dw
namespace Dw
open PySem PySem.Spec PyProof.Rows L2
theorem xr0 {W : Wl} {Z O : Addr → Prop} {H0 H : Hp} : XR xc0 W Z H0 O H := ⟨fun _ _ _ _ _ _ _ _ _ h => h.elim⟩
/-! ### a def -/
def preOf (N : Nat) (m : MS) : Pre := fun cs P => m { nx := fun _ => P .none, rt := P } (cs ++ List.replicate (N - cs.length) .non)
theorem ArgAll.rel [ξ : XCtx] {W : Wl} {Z : Addr → Prop} {H : Hp} {vs : List V} {cs : List Cell} (N : List Str) (wo : WOk W H) (mz : ∀ a, Mu W a → Z a) (za : ∀ a, Z a → NT (H a)) (a : ArgAll W H Z vs cs) (xr : XR ξ W Z H (fun _ => False) H) :
    Rel W Z (fun _ => False) (cs ++ List.replicate (N.length - cs.length) .non) (L2.start N vs) H H := by
  have hl := a.length
  have zeq : ∀ a u, ¬ Z a → H a = some u → H a = some u ∧ ¬ ZO Z (fun _ => False) a := fun a u z e => ⟨e, fun y => y.elim z id⟩
  have get : ∀ {vs : List V} {cs : List Cell}, ArgAll W H Z vs cs → ∀ (i : Nat) (c : Cell), cs[i]? = some c → ∃ v, vs[i]? = some v ∧ ArgR W H Z v c := by
    intro vs cs a
    induction a with
    | nil => intro i c h; simp at h
    | cons x _ ih =>
      intro i c h
      cases i with
      | zero =>
        obtain rfl := Option.some.inj h
        exact ⟨_, rfl, x⟩
      | succ i => exact ih i c h
  have cells : ∀ (i : Nat) (c : Cell), (cs ++ List.replicate (N.length - cs.length) .non)[i]? = some c → CellR W Z (fun _ => False) H c (L2.start N vs)[i]? ∧ ∀ ds, c ≠ Cell.of ds := by
    intro i c e
    by_cases hi : i < cs.length
    · rw [List.getElem?_append_left hi] at e
      obtain ⟨v, hv, r⟩ := get a i c e
      have es : (L2.start N vs)[i]? = some (some v) := by
        unfold L2.start
        rw [List.getElem?_append_left (by rw [List.length_map, hl]; exact hi), List.getElem?_map, hv]
        rfl
      rw [es]
      cases c with
      | non => exact r.elim
      | own ds => exact r.elim
      | dic kvs => exact r.elim
      | hob ho => exact r.elim
      | raw a => exact r.elim
      | val d => exact ⟨⟨v, rfl, Dn.tr zeq _ _ r⟩, fun x q => by cases x <;> cases q⟩
      | well =>
        obtain ⟨w, c, e1, rfl⟩ := r
        exact ⟨⟨w, c, e1, rfl⟩, fun x q => by cases x <;> cases q⟩
    · rw [List.getElem?_append_right (by omega), List.getElem?_replicate] at e
      split at e
      · cases e
        exact ⟨trivial, fun x q => by cases x <;> cases q⟩
      · cases e
  refine ⟨⟨.refl, wo, mz, za, fun _ h => h.elim, fun _ h => h.elim, ?_, fun i c e => (cells i c e).1, fun i j ds es p e1 _ _ _ => absurd rfl ((cells i _ e1).2 ds)⟩, xr⟩
  unfold L2.start
  rw [List.length_append, List.length_append, List.length_map, List.length_replicate, List.length_replicate, hl]
/-- a def that lets no error out -/
theorem fng_body {x qual : Str} {st : Stmt} {P : Program} {w : World} {K : PySem.W.Frag} {mg : Str → Option Value} {bs : Heap} {f : Addr} {fd : FuncData} {N ps : List Str} {k n : Nat} {m : MS} (F : Fun K x qual st f fd) (S : FnScope N ps (defScope st)) (hn : ps.length = n)
    (hb : ∀ (cdv : Value) (A : Around) (out : List PySem.Env) (s : Shared) (H : Hp) (E : XK), Room k (A.deeper (envOfC qual (defScope st) s.heap.objs.size f cdv)) → A.guards = some [] → ∃ t, JSs (cxOf CX0 P w K mg bs N qual (defScope st) f cdv A out s H E).nox (defBody st) t m) :
    FnG P w K mg bs CX0 (k + 1) f fd ps (SpD n (preOf N.length m)) := by
  obtain ⟨oc, od, kV, doc, pm, an, cdv, ct, osl, rfl, lk, hcd⟩ := F.ex
  refine fng_of lk hcd S (fun vs H Q E h => by rw [hn]; exact h.1) fun A out s H vs Q E hr hg hsp => ?_
  obtain ⟨t, ht⟩ := hb cdv A out s H E hr hg
  obtain ⟨hl, W, Z, cs, P', wo, mz, za, a, hp, hk⟩ := hsp
  refine ⟨t, ht.pe.nox, ?_⟩
  exact ht.es W Z _ _ _ H H { nx := fun _ => P' .none, rt := P' } _ (a.rel N wo mz za xr0) ⟨fun O' env σ H' R _ h => hk .none .non H' h R.ge .non, fun _ _ _ _ _ _ h => h.elim, fun _ _ _ _ _ _ h => h.elim, fun d v H' h g nn => hk d v H' h g nn⟩ hp
end Dw

set_option maxRecDepth 100000
set_option maxHeartbeats 4000000
/-! Dw10: the law's call, from a promise that may use that no repr is under way. -/
namespace Dw
open PySem PySem.Spec PyProof.Rows L2
variable [XCtx]

theorem guards_caller : callerA.guards = some [] := rfl
/-- the end of the law's call: True, and nothing that stood before has changed -/
abbrev LawEnd (s₁ : Shared) (r : Result) (s' : Shared) : Prop := r = .ok (.ret (.bool true)) ∧ OldK s₁.heap s'.heap ∧ s'.os = s₁.os ∧ AllBare s'.gens
section
variable {P : Program} {w : World} {K : PySem.W.Frag} {mg mb : Str → Option Value} {k : Nat} {fa a : Addr} {fd : FuncData} {x : Str} {sp : Sp} {s₁ : Shared}
/-- over an abstract heap in which at most the script is tracked -/
theorem lawG_core {H : Hp} {xs : List V} {ob : Obj} (KX : K.In s₁.heap) (hns : s₁.heap.Ns mainGlobals mg) (hb : s₁.heap.Ns builtinsNs mb) (hbb : ∀ x : Str, x ≠ "__name__" → mb x = bootBuiltins x) (hlim : s₁.heap.NoLimit) (hg : s₁.gens = #[])
    (F : ∀ bs : Heap, K.In bs → bs.Ns mainGlobals mg → FnG P w K mg bs CX0 k fa fd [x] sp) (hbind : ∀ (s : Shared) (u : Value), BindsTo s fd ⟨[u], []⟩ [(x, u)]) (hr : Room k callerA)
    (hsp : sp [.ref a] H (fun v _ => v = .bl true) E0) (hH : ∀ b, H b = none ∨ (b = a ∧ H b = some (.frz ob (.lst xs)) ∧ K.lookup a = none)) (hob : ∀ es ep, ob.data ≠ .dict es ep) (hok : HOk P w H s₁.heap) (hat : s₁.heap.get? a = some ob) :
    codeAny (model P w) callerA (.call (.ref fa) ⟨[.ref a], []⟩) (LawEnd s₁) s₁ := by
  have free : ∀ {b : Addr} {o : Obj} {es : Array DictEntry} {ep : Nat}, s₁.heap.get? b = some o → o.data = .dict es ep → H b = none := by
    intro b o es ep e d
    rcases hH b with q | ⟨rfl, _, _⟩
    · exact q
    · rw [hat] at e
      exact absurd (by rw [Option.some.inj e]; exact d) (hob es ep)
  have ns : ∀ {b : Addr} {m : Str → Option Value}, s₁.heap.Ns b m → (hidT s₁.heap H).Ns b m := by
    rintro b m ⟨o, es, ep, e, d, r⟩
    exact ⟨o, es, ep, hidT_get e (free e d), d, r⟩
  have kin : K.In (hidT s₁.heap H) := by
    intro b o e
    refine hidT_get (KX b o e) ?_
    rcases hH b with q | ⟨rfl, _, q⟩
    · exact q
    · rw [q] at e
      cases e
  have mod : Mod K mg (hidT s₁.heap H) := ⟨kin, ns hns, ⟨mb, ns hb, hbb⟩, hlim.imp fun _ z => ⟨ns z.1, z.2⟩⟩
  have nomem : ∀ b : Addr, b ∉ ([] : List Addr) := fun b => List.not_mem_nil
  have env0 : Env0 P w K mg (hidT s₁.heap H) callerA [] s₁ H := ⟨rfl, mod, fun _ _ e => of_hidT e, by rw [hidT_size]; exact Nat.le_refl _, trivial, fun b q => (nomem b q).elim, hok, .of_eq hg⟩
  refine codeAny_mono ((F _ kin (ns hns)).run callerA [] s₁ H ⟨[.ref a], []⟩ [.ref a] [.ref a] _ _ hr guards_caller env0 (hbind s₁ (.ref a)) (.cons rfl .nil) hsp) fun r s' h => ?_
  cases r with
  | error e => exact False.elim h
  | ok fl =>
    cases fl <;> first | exact False.elim h | skip
    obtain ⟨v, H', os, bare, un, hok', r', q⟩ := h
    obtain rfl : v = .bl true := q
    obtain rfl := r'
    refine ⟨rfl, .of_keep fun b o e => ?_, os, bare⟩
    rcases hH b with q | ⟨rfl, q, _⟩
    · exact un.keep b o e q (nomem b) (nomem b)
    · have same := (hok' b _ (un.frzs b _ _ q)).1
      rw [hat] at e
      rw [← Option.some.inj e]
      exact same
theorem lawG {vs : List Value} {ns : List Int} (KX : K.In s₁.heap) (hns : s₁.heap.Ns mainGlobals mg) (hb : s₁.heap.Ns builtinsNs mb) (hbb : ∀ x : Str, x ≠ "__name__" → mb x = bootBuiltins x) (hlim : s₁.heap.NoLimit) (hg : s₁.gens = #[])
    (ha : s₁.heap.get? a = some { cls := .type "list", data := .seq vs.toArray }) (hi : IntsAre vs ns) (hl : ns.length ≤ sizeLine) (hr : Room k callerA)
    (F : ∀ bs : Heap, K.In bs → bs.Ns mainGlobals mg → FnG P w K mg bs CX0 k fa fd [x] sp) (hbind : ∀ (s : Shared) (u : Value), BindsTo s fd ⟨[u], []⟩ [(x, u)])
    (hsp : ∀ H : Hp, Only H → SqL K H a (ns.map V.int) → sp [.ref a] H (fun v _ => v = .bl true) E0) : codeAny (model P w) callerA (.call (.ref fa) ⟨[.ref a], []⟩) (LawEnd s₁) s₁ := by
  have rv := vals_ints hi
  have nodict : ∀ es ep, ({ cls := .type "list", data := .seq vs.toArray } : Obj).data ≠ .dict es ep := fun es ep z => by cases (show Data.seq vs.toArray _ = Data.dict es ep from z)
  by_cases hk : K.lookup a = none
  · let H : Hp := fun b => if b = a then some (.frz { cls := .type "list", data := .seq vs.toArray } (.lst (ns.map V.int))) else none
    have at_a : H a = some (.frz { cls := .type "list", data := .seq vs.toArray } (.lst (ns.map V.int))) := if_pos rfl
    have off : ∀ b, b ≠ a → H b = none := fun b n => if_neg n
    have only : Only H := fun b => by
      by_cases e : b = a
      · subst e
        exact .inr ⟨_, _, at_a⟩
      · exact .inl (off b e)
    refine lawG_core (H := H) (xs := ns.map V.int) KX hns hb hbb hlim hg F hbind hr (hsp H only (.inl (.inr ⟨_, at_a⟩))) (fun b => ?_) nodict (fun b u z => ?_) ha
    · by_cases e : b = a
      · subst e
        exact .inr ⟨rfl, at_a, hk⟩
      · exact .inl (off b e)
    · by_cases e : b = a
      · subst e
        rw [at_a] at z
        cases z
        exact ⟨ha, by rw [List.length_map]; exact hl, vs, _, rv, ha⟩
      · rw [off b e] at z
        cases z
  · obtain ⟨o, ho⟩ := Option.ne_none_iff_exists'.mp hk
    have e := KX a o ho
    rw [ha] at e
    cases e
    refine lawG_core (H := fun _ => none) (xs := []) KX hns hb hbb hlim hg F hbind hr (hsp _ (fun _ => .inl rfl) (.inr ⟨_, vs.toArray, _, ho, rfl, rfl, rfl, ?_, by simpa using rv⟩)) (fun _ => .inl rfl) nodict (fun b u z => by cases (show (none : Option HO) = some u from z)) ha
    rw [List.size_toArray, hi.length]
    exact hl
end
/-- the goal that the head leaves -/
theorem walkG {l : PySem.W.OpenLaw} {n k : Nat} {q : Program} {loose : List Str} {XP : (Str → Option Value) → Heap → Prop} {YP : World → Heap → Prop} {d : DefRec} {K : Params → PySem.W.Frag} {sp : PySem.W.Frag → Sp} {x : Str} (hn : l.most = some n) (hn2 : n ≤ sizeLine) (hdf : d.params.defaults = []) (hr : Room k callerA)
    (hY : ∀ (w : World) (h : Heap), YP w h → (K w.params).In h)
    (F : ∀ (w : World) (mg : Str → Option Value) (fa : Addr) (h : Heap), (K w.params).In h → h.Ns mainGlobals mg → mg d.name = some (.ref fa) → ∃ fd : FuncData, (∀ (s : Shared) (u : Value), BindsTo s fd ⟨[u], []⟩ [(x, u)]) ∧
      ∀ bs : Heap, (K w.params).In bs → bs.Ns mainGlobals mg → FnG l.prog w (K w.params) mg bs CX0 k fa fd [x] (sp (K w.params)))
    (hsp : ∀ (K : PySem.W.Frag) (H : Hp) (a : Addr) (ns : List Int), ns.length ≤ n → Only H → SqL K H a (ns.map V.int) → sp K [.ref a] H (fun v _ => v = .bl true) E0) :
    PySem.W.WalkO q loose XP YP l.row.toRowW d [] (fun f vs => PySem.call f vs) := by
  refine Att.attach_call hn hdf ?_
  intro w s₀ s₁ mg mb fa o pm cd doc a vs ns G Y ho hd hcd hmg hobj hints hlen hg
  have KX := hY w _ Y
  obtain ⟨fd, hb, hF⟩ := F w mg fa _ KX G.T.g hmg
  exact lawG KX G.T.g G.T.b G.T.builtins G.T.nolimit hg hobj hints (Nat.le_trans hlen hn2) hr hF hb fun H hO hS => hsp _ H a ns hlen hO hS
end Dw

set_option maxRecDepth 100000
set_option maxHeartbeats 4000000
/-! Dw11: one rule for + (ints, lists, tuples, texts), one for *, one for slices; tests; list(range(..)); defs as they are called. -/
namespace Dw
open PySem PySem.Spec PyProof.Rows L2
variable [XCtx]

def fAddA (x y : PyData) (P : PyData → Prop) : Prop := match x, y with
  | .int i, .int j => P (.int (i + j))
  | .list a, .list b => a.length + b.length ≤ 100000 ∧ P (.list (a ++ b))
  | .tuple a, .tuple b => a.length + b.length ≤ 100000 ∧ P (.tuple (a ++ b))
  | .str a, .str b => a.length + b.length ≤ 100000 ∧ P (.str (a ++ b))
  | _, _ => False
def fMulA (x y : PyData) (P : PyData → Prop) : Prop := match x, y with
  | .int i, .int j => CMul i j ∧ P (.int (i * j))
  | .list a, .int k => -(2 ^ 63) ≤ k ∧ k < 2 ^ 63 ∧ a.length * k.toNat ≤ 100000 ∧ P (.list (List.replicate k.toNat a).flatten)
  | .tuple a, .int k => OldT ∧ a ≠ [] ∧ 2 ≤ k ∧ k ≤ 1000 ∧ a.length ≤ 1000 ∧ P (.tuple (List.replicate k.toNat a).flatten)
  | _, _ => False
def rAddA (K : PySem.W.Frag) : R2 := fun x y H Q => ((∃ i j, x = .int i ∧ y = .int j ∧ Q (.int (i + j)) H) ∨ rCat x y H Q) ∨ (rCatA K x y H Q ∨ (∃ i j, x = .str i ∧ y = .str j ∧ i.length + j.length ≤ sizeLine ∧ Q (.str (i ++ j)) H))
def rMulA (K : PySem.W.Frag) : R2 := fun x y H Q => (rI CMul (fun i j => .int (i * j)) x y H Q ∨ rRep x y H Q) ∨ rRepT K x y H Q
def mSl (A : ME) (L U : MO) : ME := fun env P => A env fun x => L env fun l => U env fun u => match x with
  | .list xs => P (.list (cutD xs l u))
  | .tuple xs => P (.tuple (cutD xs l u))
  | .str z => z.length ≤ sizeLine ∧ P (.str (cutS z l u))
  | _ => False
def rSlAll (K : PySem.W.Frag) : V → Option Int → Option Int → Hp → VK → Prop := fun x lo hi H Q => (rSlL K x lo hi H Q ∨ rSlA K x lo hi H Q) ∨ rSlS x lo hi H Q
section
variable {X : Cx} {e a b c : Expr} {t ta tb tc : TE} {A B C m : ME} {pos p2 : Pos} {lo hi : Option Expr} {tl th : TO} {L U : MO}
theorem s_addA {K : PySem.W.Frag} : R2S (rAddA K) fAddA := by
  intro W Z O env σ H0 H x y d d' P Q R hx hy hf k
  cases d <;> cases d' <;> first | exact hf.elim | skip
  · exact .inl (.inl ⟨_, _, hx.int, hy.int, k _ _ H hf .refl (.int _)⟩)
  · exact .inr (.inr ⟨_, _, hx.str, hy.str, small_line hf.1, k _ _ H hf.2 .refl (.str _)⟩)
  · refine .inl (.inr (s_cat W Z O env σ H0 H x y _ _ (fun ds => P (.list ds)) Q R hx hy hf fun ds p xs H' hp g n0 h1 n => ?_))
    exact k _ _ H' hp g (.lst h1 (R.new n0) n.unown)
  · exact .inr (.inl (s_catT W Z O env σ H0 H x y _ _ P Q R hx hy hf k))
theorem s_mulA {K : PySem.W.Frag} : R2S (rMulA K) fMulA := by
  intro W Z O env σ H0 H x y d d' P Q R hx hy hf k
  cases d <;> cases d' <;> first | exact hf.elim | skip
  · exact .inl (.inl ⟨_, _, hx.int, hy.int, hf.1, k _ _ H hf.2 .refl (.int _)⟩)
  · refine .inl (.inr (s_rep W Z O env σ H0 H x y _ _ (fun ds => P (.list ds)) Q R hx hy hf fun ds p xs H' hp g n0 h1 n => ?_))
    exact k _ _ H' hp g (.lst h1 (R.new n0) n.unown)
  · haveI := hf.1
    exact .inr (s_repT W Z O env σ H0 H x y _ _ P Q R hx hy hf.2 k)
theorem je_addA (ha : JB X a ta A) (hb : JB X b tb B) : JE X (.BinOp a .Add b pos) (tOp (rAddA X.K) ta tb) (m2 fAddA A B) := je_op (OpR.or (OpR.or op_add op_cat) (OpR.or op_catA op_add_str)) s_addA ha hb
theorem je_mulA (ha : JB X a ta A) (hb : JB X b tb B) : JE X (.BinOp a .Mult b pos) (tOp (rMulA X.K) ta tb) (m2 fMulA A B) := je_op (OpR.or (OpR.or op_mul op_rep) op_repT) s_mulA ha hb
theorem je_sl (h : JB X e t A) (hl : JO X lo tl L) (hu : JO X hi th U) : JE X (.Subscript e (.Slice lo hi none p2) pos) (tSl (rSlAll X.K) t tl th) (mSl A L U) := ⟨pe_slice (SlR.or (SlR.or sl_list sl_tupA) sl_str) h.pe hl.pe hu.pe, fun W Z O env σ H0 H P Q R hm k => by
  refine h.es W Z O env σ H0 H _ _ R hm fun d v H1 p1 g1 n1 => ?_
  refine hl.es W Z O env σ H0 H1 _ _ (R.tr g1) p1 fun l H2 p2 g2 => ?_
  refine hu.es W Z O env σ H0 H2 _ _ ((R.tr g1).tr g2) p2 fun u H3 p3 g3 => ?_
  have g := (g1.trans g2).trans g3
  have nn := (n1.ge g2 R.mz).ge g3 R.mz
  cases d with
  | list xs =>
    obtain ⟨p, ys, rfl, hp, n⟩ := nn.list
    exact .inl (.inl ⟨p, ys, rfl, SqL.of hp, fun q hq => k _ _ _ p3 (g.new' hq) (.lst upd_same ((R.tr g).new hq) ((n.cut l u).new hq))⟩)
  | tuple xs =>
    obtain ⟨p, ys, rfl, hp, z, n⟩ := nn.tuple
    refine .inl (.inr ⟨p, ys, rfl, SqT.of hp, fun hw => k _ _ H3 p3 g ?_, fun _ q o hq hc hd => k _ _ _ p3 (g.new' hq) (.tup (TupAt.up hc hd) ((R.tr g).new hq) ((n.cut l u).new hq))⟩)
    rw [n.length] at hw
    rw [cut_whole hw]
    exact .tup hp z n
  | str z => exact .inr ⟨z, nn.str, p3.1, k _ _ H3 p3.2 g (.str _)⟩
  | _ => exact p3.elim⟩

/-! ### tests -/
theorem jt_eq (hu : X.A.units + 64 < cLine) (ha : JB X a ta A) (hb : JB X b tb B) : JT X (.Compare a [.Eq] [b] pos) (tTest (tOp (rEqD X.K) ta tb)) (mB (m2 fEq A B)) := jt_cmp (op_eqD hu) (by
  intro W Z O env σ H0 H x y d d' P Q R hx hy hf k
  obtain ⟨h1, h2, hp⟩ := hf
  exact ⟨d, d', hx.dp (canLay_noDict h1), hy.dp (canLay_noDict h2), h1, h2, k _ _ H hp .refl (.bl _)⟩) ha hb (nomark _)
theorem jt_ne (hu : X.A.units + 64 < cLine) (ha : JB X a ta A) (hb : JB X b tb B) : JT X (.Compare a [.NotEq] [b] pos) (tTest (tOp (rNeD X.K) ta tb)) (mB (m2 fNe A B)) := jt_cmp (op_neD hu) (by
  intro W Z O env σ H0 H x y d d' P Q R hx hy hf k
  obtain ⟨h1, h2, hp⟩ := hf
  exact ⟨d, d', hx.dp (canLay_noDict h1), hy.dp (canLay_noDict h2), h1, h2, k _ _ H hp .refl (.bl _)⟩) ha hb (nomark _)
theorem jt_lt (ha : JB X a ta A) (hb : JB X b tb B) : JT X (.Compare a [.Lt] [b] pos) (tTest (tOp (rI0 fun i j => .bl (decide (i < j))) ta tb)) (mB (m2 fLt A B)) := jt_cmp op_lt (s_I fun _ _ _ _ => .bl _) ha hb (nomark _)
theorem jt_le (ha : JB X a ta A) (hb : JB X b tb B) : JT X (.Compare a [.LtE] [b] pos) (tTest (tOp (rI0 fun i j => .bl (decide (i ≤ j))) ta tb)) (mB (m2 fLe A B)) := jt_cmp op_le (s_I fun _ _ _ _ => .bl _) ha hb (nomark _)
theorem jt_gt (ha : JB X a ta A) (hb : JB X b tb B) : JT X (.Compare a [.Gt] [b] pos) (tTest (tOp (rI0 fun i j => .bl (decide (j < i))) ta tb)) (mB (m2 fGt A B)) := jt_cmp op_gt (s_I fun _ _ _ _ => .bl _) ha hb (nomark _)
theorem jt_ge (ha : JB X a ta A) (hb : JB X b tb B) : JT X (.Compare a [.GtE] [b] pos) (tTest (tOp (rI0 fun i j => .bl (decide (j ≤ i))) ta tb)) (mB (m2 fGe A B)) := jt_cmp op_ge (s_I fun _ _ _ _ => .bl _) ha hb (nomark _)
theorem jt_in (hu : X.A.units + 65 < cLine) (ha : JB X a ta A) (hb : JB X b tb B) (hm : behindInMarks .In b = false := by rfl) : JT X (.Compare a [.In] [b] pos) (tTest (tOp (fun x y H Q => rInD X.K x y H Q ∨ rIn X.K false x y H Q) ta tb)) (mB (m2 (fIn false) A B)) := jt_cmp (OpR.or (op_inD hu) op_in_seq) s_in ha hb hm
theorem jt_notIn (hu : X.A.units + 65 < cLine) (ha : JB X a ta A) (hb : JB X b tb B) (hm : behindInMarks .NotIn b = false := by rfl) : JT X (.Compare a [.NotIn] [b] pos) (tTest (tOp (fun x y H Q => rNotInD X.K x y H Q ∨ rIn X.K true x y H Q) ta tb)) (mB (m2 (fIn true) A B)) := jt_cmp (OpR.or (op_notInD hu) op_notIn_seq) s_notIn ha hb hm
theorem jt_isN {j pos'} (ha : JB X a ta A) : JT X (.Compare a [.Is] [.Constant .none j pos'] pos) (tB (tIsN ta)) (mB (m1 fIsN A)) := ⟨pt_cmp (pc_isN ha.pe) rfl, by
  intro W Z O env σ H0 H P Q R hm k
  refine ha.es W Z O env σ H0 H _ _ R hm fun d v H1 p1 g1 n1 => ?_
  have e := n1.isNone
  rw [e]
  exact ⟨_, rfl, k _ H1 p1 g1⟩⟩
theorem jt_notN {j pos'} (ha : JB X a ta A) : JT X (.Compare a [.IsNot] [.Constant .none j pos'] pos) (tB (tNotN ta)) (mB (m1 fNotN A)) := ⟨pt_cmp (pc_notN ha.pe) rfl, by
  intro W Z O env σ H0 H P Q R hm k
  refine ha.es W Z O env σ H0 H _ _ R hm fun d v H1 p1 g1 n1 => ?_
  have e := n1.isNone
  rw [e]
  exact ⟨_, rfl, k _ H1 p1 g1⟩⟩
theorem jt_chain {op op' : CmpOp} {r r' : R2} {f g : PyData → PyData → (PyData → Prop) → Prop} (ho : OpR X (compareOp op) r) (ho' : OpR X (compareOp op') r') (hs : R2S r f) (hs' : R2S r' g) (ha : JB X a ta A) (hb : JB X b tb B) (hc : JB X c tc C)
    (hm : lastMarks [op, op'] [b, c] = false := by with_unfolding_all rfl) : JT X (.Compare a [op, op'] [b, c] pos) (tTest (tChain r r' ta tb tc)) (mB (mChain f g A B C)) := ⟨pt_chain ho ho' ha.pe hb.pe hc.pe hm, by
  intro W Z O env σ H0 H P Q R hm k
  refine chain_sound ha.es hb.es hc.es hs hs' W Z O env σ H0 H _ _ R hm fun d v H1 p1 g1 n1 => ?_
  obtain ⟨b, rfl, p1⟩ := onB_iff p1
  cases n1
  exact ⟨b, rfl, k b H1 p1 g1⟩⟩
theorem jt_lele (ha : JB X a ta A) (hb : JB X b tb B) (hc : JB X c tc C) (hm : lastMarks [.LtE, .LtE] [b, c] = false := by with_unfolding_all rfl) : JT X (.Compare a [.LtE, .LtE] [b, c] pos) (tTest (tChain (rI0 fun i j => .bl (decide (i ≤ j))) (rI0 fun i j => .bl (decide (i ≤ j))) ta tb tc)) (mB (mChain fLe fLe A B C)) := jt_chain op_le op_le s_le s_le ha hb hc hm
theorem jt_lelt (ha : JB X a ta A) (hb : JB X b tb B) (hc : JB X c tc C) (hm : lastMarks [.LtE, .Lt] [b, c] = false := by with_unfolding_all rfl) : JT X (.Compare a [.LtE, .Lt] [b, c] pos) (tTest (tChain (rI0 fun i j => .bl (decide (i ≤ j))) (rI0 fun i j => .bl (decide (i < j))) ta tb tc)) (mB (mChain fLe fLt A B C)) := jt_chain op_le op_lt s_le s_lt ha hb hc hm
/-! ### list(range(..)), len(set(..)) -/
def mLRng (A : ML) : ML := fun env P => A env fun ds => match ds with
  | [.int n] => RgOk 0 n ∧ P (rangeD 0 n)
  | _ => False
theorem dn_range {H : Hp} {Z : Addr → Prop} {lo hi : Int} : DnAll H Z (rgV lo hi) (rangeD lo hi) := by
  unfold rgV rangeD
  have : ∀ l : List Nat, DnAll H Z (l.map fun i => V.int (lo + (i : Nat))) (l.map fun i => PyData.int (lo + (i : Nat))) := by
    intro l
    induction l with
    | nil => exact .nil
    | cons x l ih => exact .cons (.int _) ih
  exact this _
theorem jf_listRg {p p1 q : Pos} (hl : X.mg "list" = none) (hm : X.mg "range" = none) (ha : JB X a ta A) (hg : Gl X "list" := by rfl) (hg2 : Gl X "range" := by rfl) (hc : X.calm = true := by rfl) (na : starEach [a] X.env = (false, eval a X.env) :: starEach [] X.env := by rfl)
    (na2 : starEach [.Call (.Name "range" p1) [a] [] q] X.env = (false, eval (.Call (.Name "range" p1) [a] [] q) X.env) :: starEach [] X.env := by rfl) : JF X (.Call (.Name "list" p) [.Call (.Name "range" p1) [a] [] q] [] pos) (tLstRg (tRg1 ta)) (mLRng (mCons A mNil)) := ⟨pe_listRg hc hg hl (prg_1 hg2 hm ha.pe na) na2, by
  intro W Z O env σ H0 H P Q R hm k
  refine ha.es W Z O env σ H0 H _ _ R hm fun d v H1 p1 g1 n1 => ?_
  cases d with
  | int n => exact ⟨n, n1.int, p1.1, fun l hl => k _ l _ _ p1.2 (g1.new' hl) (g1.fresh R.wl hl) upd_same dn_range⟩
  | _ => exact p1.elim⟩
/-- how many unlike ints -/
def dedup (ns : List Int) : List Int := ns.foldl (fun l n => if l.any (· == n) then l else l ++ [n]) []
def mLenSet (A : ME) : ME := fun env P => A env fun d => onL d fun xs => ∃ ns : List Int, xs = ns.map PyData.int ∧ ns.length ≤ 4000 ∧ P (.int ((PyProof.Rows.firstMet (fun i => ns.getD i 0) ns.length).length : Nat))
def tLenSet (K : PySem.W.Frag) (ta : TE) : TE := fun σ H Q => ta σ H fun x H1 => ∃ (l : Addr) (ns : List Int), x = .ref l ∧ SqL K H1 l (ns.map V.int) ∧ ns.length ≤ 4000 ∧ Q (.int ((PyProof.Rows.firstMet (fun i => ns.getD i 0) ns.length).length : Nat)) H1
theorem pe_lenSet {p p2 q : Pos} (hg : Gl X "len") (hm : X.mg "len" = none) (hg2 : Gl X "set") (hm2 : X.mg "set" = none) (ha : PE X a ta) (hc : X.calm = true := by rfl)
    (na : starEach [a] X.env = (false, eval a X.env) :: starEach [] X.env := by rfl) : PE X (.Call (.Name "len" p) [.Call (.Name "set" p2) [a] [] q] [] pos) (tLenSet X.K ta) := by
  constructor
  intro pins s σ H Q I h
  refine Call_ (ld_blt I hg hm boot_len (PyProof.Rows.callWith_builtin1 (PyProof.Rows.args_cons (Call_ (ld_blt I hg2 hm2 boot_set ?_)) rfl) rfl rfl))
  refine PyProof.Rows.callWith_type1 (PyProof.Rows.args_cons (thn (ha.run pins s σ H _ I h) ?_) na) na rfl
  rintro v s1 ⟨x, H1, I1, r1, l, ns, rfl, hq, hl, q1⟩
  cases r1
  refine PyProof.Rows.args_nil ?_
  obtain ⟨its, r, pl, hz⟩ := I1.list hq
  have hlen : its.toArray.size = ns.length := by rw [List.size_toArray, ← r.length, List.length_map]
  refine call_set_list (I1.ok.hd hc) pl.isList (by simpa using r.ints) (by rw [hlen]; unfold scanBound; omega) fun h' tk hS hk => PyProof.Rows.args_nil ?_
  rw [hlen] at hS
  have hle := PyProof.Rows.firstMet_length_le (fun i => ns.getD i 0) ns.length
  obtain ⟨o, es, ep, t, ho, hex, hd, _, _, _, hf, hn⟩ := hS
  exact call_len_set ho hex hd hf (by rw [hn]; omega) ⟨.int ((PyProof.Rows.firstMet (fun i => ns.getD i 0) ns.length).length : Nat), H1, (I1.kept (h' := h') (t' := tk) fun b o e => hk b o (Heap.lt_size e) e).tok _, ⟨_, by rw [hn]⟩, q1⟩
theorem je_lenSet {p p2 q : Pos} (hm : X.mg "len" = none) (hm2 : X.mg "set" = none) (ha : JB X a ta A) (hg : Gl X "len" := by rfl) (hg2 : Gl X "set" := by rfl) (hc : X.calm = true := by rfl)
    (na : starEach [a] X.env = (false, eval a X.env) :: starEach [] X.env := by rfl) : JE X (.Call (.Name "len" p) [.Call (.Name "set" p2) [a] [] q] [] pos) (tLenSet X.K ta) (mLenSet A) := ⟨pe_lenSet hg hm hg2 hm2 ha.pe hc na, by
  intro W Z O env σ H0 H P Q R hm k
  refine ha.es W Z O env σ H0 H _ _ R hm fun d v H1 p1 g1 n1 => ?_
  obtain ⟨xs, rfl, ns, rfl, hl, p1⟩ := onL_iff p1
  obtain ⟨l, ys, rfl, h1, n⟩ := n1.list
  obtain rfl := n.ints
  exact ⟨l, ns, rfl, SqL.of h1, hl, k _ _ H1 p1 g1 (.int _)⟩⟩
end

end Dw
namespace Dw
open PySem PySem.Spec PyProof.Rows L2
/-! ### defs as they are called -/
structure Cal (P : Program) (w : World) (K : PySem.W.Frag) (mg : Str → Option Value) (bs : Heap) (k : Nat) (x : Str) (st : Stmt) (ps : List Str) (n : Nat) (pre : Pre) : Prop where
  ex : ∃ f fd, FnG P w K mg bs CX0 k f fd ps (SpD n pre) ∧ Fun K x x st f fd ∧ mg x = some (.ref f) ∧ Binds K fd ps []
/-- where a def stands -/
structure At (K : PySem.W.Frag) (mg : Str → Option Value) (x : Str) (st : Stmt) (ps : List Str) : Prop where
  ex : ∃ f fd, Fun K x x st f fd ∧ mg x = some (.ref f) ∧ Binds K fd ps []
section
variable {P : Program} {w : World} {K : PySem.W.Frag} {mg : Str → Option Value} {bs : Heap} {k n : Nat} {x : Str} {st : Stmt} {ps N : List Str} {pre : Pre} {m : MS}
theorem Cal.mono {j : Nat} (c : Cal P w K mg bs j x st ps n pre) (h : j ≤ k) : Cal P w K mg bs k x st ps n pre := let ⟨f, fd, F, r⟩ := c.ex; ⟨f, fd, F.mono h, r⟩
/-- a promise is drawn from the meaning -/
theorem Cal.imp {pre' : Pre} (c : Cal P w K mg bs k x st ps n pre) (h : ∀ cs P, cs.length = n → pre' cs P → pre cs P) : Cal P w K mg bs k x st ps n pre' := by
  obtain ⟨f, fd, F, r⟩ := c.ex
  refine ⟨f, fd, F.imp fun vs H Q E hs => ?_, r⟩
  obtain ⟨hl, W, Z, cs, P', wo, mz, za, a, hp, hk⟩ := hs
  exact ⟨hl, W, Z, cs, P', wo, mz, za, a, h cs P' (by rw [← a.length, hl]) hp, hk⟩
theorem cal_body (a : At K mg x st ps) (S : FnScope N ps (defScope st)) (hn : ps.length = n)
    (hb : ∀ (f : Addr) (cdv : Value) (A : Around) (out : List PySem.Env) (s : Shared) (H : Hp) (E : XK), Room k (A.deeper (envOfC x (defScope st) s.heap.objs.size f cdv)) → A.guards = some [] → ∃ t, JSs (cxOf CX0 P w K mg bs N x (defScope st) f cdv A out s H E).nox (defBody st) t m) :
    Cal P w K mg bs (k + 1) x st ps n (preOf N.length m) := by
  obtain ⟨f, fd, F, q, b⟩ := a.ex
  exact ⟨f, fd, fng_body F S hn fun cdv A out s H E hr hg => hb f cdv A out s H E hr hg, F, q, b⟩
end
variable [XCtx]
section
variable {X : Cx} {k n n2 : Nat} {x : Str} {st : Stmt} {ps ks : List Str} {pre : Pre} {e : Expr} {es : List Expr} {tr : TA} {M : MC} {p pos : Pos} {kws : List Keyword} {g : List Value → List Value → List Value} {gV : List V → List V → List V} {gC : List Cell → List Cell → List Cell}
theorem j_call (c : Cal X.prog X.w X.K X.mg X.base k x st ps n pre) (hr : Room k X.A) (hG : X.A.guards = some []) (ha : JC X n (e :: es) tr M) (hg : Gl X x := by rfl) (hdb : (x == ("__debug__" : Str)) = false := by decide) (he : starEach (e :: es) X.env = (false, eval e X.env) :: starEach es X.env := by rfl)
    (hpl : (backTo pos (starEach es X.env)).any (·.1) = false := by rfl) : JE X (.Call (.Name x p) (e :: es) [] pos) (tCall (SpD n pre) [] E0 tr) (mCall pre M) := by
  obtain ⟨f, fd, F, fn, q, b⟩ := c.ex
  exact je_call F hr hG q fn.kp b pass0 ha hg hdb he hpl
theorem j_callK0 (c : Cal X.prog X.w X.K X.mg X.base k x st ps n pre) (hkb : ∀ f fd, Fun X.K x x st f fd → KBinds X.K fd ps ks g gV) (pc : PermC g gV gC 0 n2 n) (hr : Room k X.A) (hG : X.A.guards = some []) (hkw : JK X n2 kws tr M) (hg : Gl X x := by rfl)
    (hall : (backToKw pos (keywordEach kws X.env)).all (·.1.isSome) = true := by rfl) (hks : (backToKw pos (keywordEach kws X.env)).filterMap (·.1) = ks := by rfl) (hdb : (x == ("__debug__" : Str)) = false := by decide)
    (hpl : ((backTo pos (starEach [] X.env)).any (·.1) || (backToKw pos (keywordEach kws X.env)).any (·.1.isNone)) = false := by rfl) : JE X (.Call (.Name x p) [] kws pos) (tCallK (SpD n pre) gV E0 tNil tr) (mCallK pre gC mcNil M) := by
  obtain ⟨f, fd, F, fn, q, b⟩ := c.ex
  exact je_callK0 F hr hG q fn.kp (hkb f fd fn) pc pass0 hkw hg hall hks hdb hpl
end
/-! ### two keywords, the other way about -/
def swG (us ws : List Value) : List Value := match us, ws with
  | [], [a, b] => [b, a]
  | _, _ => []
def swV (us ws : List V) : List V := match us, ws with
  | [], [a, b] => [b, a]
  | _, _ => []
def swC (us ws : List Cell) : List Cell := match us, ws with
  | [], [a, b] => [b, a]
  | _, _ => []
theorem perm_sw : PermC swG swV swC 0 2 2 := ⟨fun W H Z vs zs cs ds h1 h2 a b => by
  cases a with
  | cons _ _ => cases h1
  | nil =>
    cases b with
    | nil => cases h2
    | cons x y =>
      cases y with
      | nil => cases h2
      | cons y z =>
        cases z with
        | nil => exact ⟨.cons y (.cons x .nil), rfl⟩
        | cons _ _ => cases h2⟩
theorem vals_sw {vs : List V} {us : List Value} {zs : List V} {ws : List Value} (a : Vals vs us) (b : Vals zs ws) : Vals (swV vs zs) (swG us ws) := by
  cases a with
  | cons _ _ => exact .nil
  | nil =>
    cases b with
    | nil => exact .nil
    | cons x y =>
      cases y with
      | nil => exact .nil
      | cons y z =>
        cases z with
        | nil => exact .cons y (.cons x .nil)
        | cons _ _ => exact .nil
end Dw

set_option maxRecDepth 100000
set_option maxHeartbeats 4000000
/-! Dw12: min and max of a list or a tuple of ints; small helps for the printed terms; the law's own def. -/
namespace Dw
open PySem PySem.Spec PyProof.Rows L2
variable [XCtx]
theorem un65 {k : Nat} {A : Around} (r : Room k A) : A.units + 65 < cLine := by have := r.un; omega
theorem un64 {k : Nat} {A : Around} (r : Room k A) : A.units + 64 < cLine := r.units
theorem rm {j k : Nat} {A : Around} (r : Room k A) (h : j ≤ k := by decide) : Room j A := r.mono h
def rMin1 (K : PySem.W.Frag) : List V → Hp → VK → Prop := fun vs H Q => ∃ (a : Addr) (ns : List Int), vs = [V.ref a] ∧ (SqL K H a (ns.map V.int) ∨ SqT K H a (ns.map V.int)) ∧ 0 < ns.length ∧ ∀ m, m ∈ ns → (∀ y, y ∈ ns → m ≤ y) → Q (.int m) H
def rMax1 (K : PySem.W.Frag) : List V → Hp → VK → Prop := fun vs H Q => ∃ (a : Addr) (ns : List Int), vs = [V.ref a] ∧ (SqL K H a (ns.map V.int) ∨ SqT K H a (ns.map V.int)) ∧ 0 < ns.length ∧ ∀ m, m ∈ ns → (∀ y, y ∈ ns → y ≤ m) → Q (.int m) H
section
variable {X : Cx}
theorem tuple_ints {pins : List (Addr × Obj)} {σ : L2.St} {H : Hp} {s : Shared} {a : Addr} {ns : List Int} (I : Inv X pins σ H s) (h : SqT X.K H a (ns.map V.int)) :
    ∃ its : List Value, s.heap.IsTuple a its.toArray ∧ its.length = ns.length ∧ a < s.heap.objs.size ∧ ∀ (i : Nat) (v : Value), its.toArray[i]? = some v → ∃ t, v = .int (ns.getD i 0) t := by
  obtain ⟨its, rv, hl, hz⟩ := I.tuple h
  have hlen := rv.length
  rw [List.length_map] at hlen
  have hlt : a < s.heap.objs.size := by
    obtain ⟨o, ho, _⟩ := id hl
    exact Heap.lt_size ho
  refine ⟨its, hl, hlen.symm, hlt, fun i v hv => ?_⟩
  have hv' : its[i]? = some v := by simpa using hv
  have hi : i < ns.length := by
    have := (List.getElem?_eq_some_iff.mp hv').1
    omega
  obtain ⟨u, hu, t, ru⟩ := rv.get (i := i) (x := .int ns[i]) (by rw [List.getElem?_map, List.getElem?_eq_getElem hi]; rfl)
  rw [hv'] at hu
  cases hu
  exact ⟨t, by rw [ru, List.getD_eq_getElem?_getD, List.getElem?_eq_getElem hi]; rfl⟩
theorem getD_in {ns : List Int} {i : Nat} (h : i < ns.length) : ns.getD i 0 ∈ ns := by
  rw [List.getD_eq_getElem?_getD, List.getElem?_eq_getElem h]
  exact List.getElem_mem h
theorem in_getD {ns : List Int} {y : Int} (h : y ∈ ns) : ∃ j, j < ns.length ∧ ns.getD j 0 = y := by
  obtain ⟨j, hj, e⟩ := List.getElem_of_mem h
  exact ⟨j, hj, by rw [List.getD_eq_getElem?_getD, List.getElem?_eq_getElem hj]; exact e⟩
theorem cr_min1 (hc : X.calm = true) : CallR X (.builtin "min") (rMin1 X.K) := by
  intro pins s σ H vs us Q I r h
  obtain ⟨a, ns, rfl, hs | hs, hne, q⟩ := h
  · exact cr_min hc pins s σ H _ us Q I r ⟨a, ns, rfl, hs, hne, q⟩
  · obtain ⟨its, ht, hlen, hlt, hat⟩ := tuple_ints I hs
    rw [Vals.ref1 r]
    refine call_min_walk (wpAny_pyIter_tuple ht ?_)
    refine ⟨s.heap.objs.size, _, _, _, _, _, _, rfl, Walks.tuple (A := X.A.in1) (I.ok.hd hc) s.heap.objs.size a (Nat.ne_of_lt hlt) its.toArray, ⟨⟨_, Heap.get?_push_size _ rfl, rfl, rfl⟩, ht.at fun o e => Heap.get?_push_of_some _ e⟩, ?_, ?_, CmpOf.ints_lt (fun i => ns.getD i 0) hat, ?_⟩
    · intro b hb
      have e' : b = s.heap.objs.size ∨ b = a := by simpa using hb
      show b < (s.heap.push _).objs.size
      rw [Heap.size_push]
      rcases e' with rfl | rfl
      · exact Nat.lt_succ_self _
      · exact Nat.lt_succ_of_lt hlt
    · rw [List.size_toArray]
      omega
    · intro v h' tk hP hk
      obtain ⟨t, rfl⟩ := hat _ v hP
      obtain ⟨h1, h2⟩ := argBest_lt (fun i => ns.getD i 0) (its.toArray.size - 1)
      have hsz : its.toArray.size = ns.length := by rw [List.size_toArray]; exact hlen
      refine ⟨.int _, H, I.kept (t' := tk) fun b o e => hk b o (fun m => ?_) (Heap.get?_push_of_some _ e), ⟨t, rfl⟩, q _ (getD_in (by omega)) fun y hy => ?_⟩
      · have : b = s.heap.objs.size := by simpa using m
        subst this
        exact absurd (Heap.lt_size e) (Nat.lt_irrefl _)
      · obtain ⟨j, hj, rfl⟩ := in_getD hy
        exact h2 j (by omega)
theorem cr_max1 (hc : X.calm = true) : CallR X (.builtin "max") (rMax1 X.K) := by
  intro pins s σ H vs us Q I r h
  obtain ⟨a, ns, rfl, hs | hs, hne, q⟩ := h
  · exact cr_max hc pins s σ H _ us Q I r ⟨a, ns, rfl, hs, hne, q⟩
  · obtain ⟨its, ht, hlen, hlt, hat⟩ := tuple_ints I hs
    rw [Vals.ref1 r]
    refine call_max_walk (wpAny_pyIter_tuple ht ?_)
    refine ⟨s.heap.objs.size, _, _, _, _, _, _, rfl, Walks.tuple (A := X.A.in1) (I.ok.hd hc) s.heap.objs.size a (Nat.ne_of_lt hlt) its.toArray, ⟨⟨_, Heap.get?_push_size _ rfl, rfl, rfl⟩, ht.at fun o e => Heap.get?_push_of_some _ e⟩, ?_, ?_, CmpOf.ints_gt (fun i => ns.getD i 0) hat, ?_⟩
    · intro b hb
      have e' : b = s.heap.objs.size ∨ b = a := by simpa using hb
      show b < (s.heap.push _).objs.size
      rw [Heap.size_push]
      rcases e' with rfl | rfl
      · exact Nat.lt_succ_self _
      · exact Nat.lt_succ_of_lt hlt
    · rw [List.size_toArray]
      omega
    · intro v h' tk hP hk
      obtain ⟨t, rfl⟩ := hat _ v hP
      obtain ⟨h1, h2⟩ := argBest_gt (fun i => ns.getD i 0) (its.toArray.size - 1)
      have hsz : its.toArray.size = ns.length := by rw [List.size_toArray]; exact hlen
      refine ⟨.int _, H, I.kept (t' := tk) fun b o e => hk b o (fun m => ?_) (Heap.get?_push_of_some _ e), ⟨t, rfl⟩, q _ (getD_in (by omega)) fun y hy => ?_⟩
      · have : b = s.heap.objs.size := by simpa using m
        subst this
        exact absurd (Heap.lt_size e) (Nat.lt_irrefl _)
      · obtain ⟨j, hj, rfl⟩ := in_getD hy
        exact h2 j (by omega)
end
def fMin1 (ds : List PyData) (P : PyData → Prop) : Prop := on1 ds fun d => onLU d fun xs => ∃ ns : List Int, xs = ns.map PyData.int ∧ 0 < ns.length ∧ ∀ m, m ∈ ns → (∀ y, y ∈ ns → m ≤ y) → P (.int m)
def fMax1 (ds : List PyData) (P : PyData → Prop) : Prop := on1 ds fun d => onLU d fun xs => ∃ ns : List Int, xs = ns.map PyData.int ∧ 0 < ns.length ∧ ∀ m, m ∈ ns → (∀ y, y ∈ ns → y ≤ m) → P (.int m)
theorem rs_min1 {K : PySem.W.Frag} : RS (rMin1 K) fMin1 := by
  intro W Z O env σ H0 H vs ds P Q R hv hf k
  obtain ⟨d, rfl, hf⟩ := on1_iff hf
  obtain ⟨v, rfl, hw⟩ := hv.one
  obtain ⟨xs, e, ns, rfl, hn, hp⟩ := onLU_iff hf
  rcases e with rfl | rfl
  · obtain ⟨p, ys, rfl, h1, n⟩ := hw.list
    obtain rfl := n.ints
    exact ⟨p, ns, rfl, .inl (SqL.of h1), hn, fun m h2 h3 => k _ _ H (hp m h2 h3) .refl (.int _)⟩
  · obtain ⟨p, ys, rfl, h1, _, n⟩ := hw.tuple
    obtain rfl := n.ints
    exact ⟨p, ns, rfl, .inr (SqT.of h1), hn, fun m h2 h3 => k _ _ H (hp m h2 h3) .refl (.int _)⟩
theorem rs_max1 {K : PySem.W.Frag} : RS (rMax1 K) fMax1 := by
  intro W Z O env σ H0 H vs ds P Q R hv hf k
  obtain ⟨d, rfl, hf⟩ := on1_iff hf
  obtain ⟨v, rfl, hw⟩ := hv.one
  obtain ⟨xs, e, ns, rfl, hn, hp⟩ := onLU_iff hf
  rcases e with rfl | rfl
  · obtain ⟨p, ys, rfl, h1, n⟩ := hw.list
    obtain rfl := n.ints
    exact ⟨p, ns, rfl, .inl (SqL.of h1), hn, fun m h2 h3 => k _ _ H (hp m h2 h3) .refl (.int _)⟩
  · obtain ⟨p, ys, rfl, h1, _, n⟩ := hw.tuple
    obtain rfl := n.ints
    exact ⟨p, ns, rfl, .inr (SqT.of h1), hn, fun m h2 h3 => k _ _ H (hp m h2 h3) .refl (.int _)⟩
section
variable {X : Cx} {e : Expr} {t : TA} {M : ML} {pos p : Pos}
theorem je_min1 (hm : X.mg "min" = none) (ha : JAb X [e] t M) (hg : Gl X "min" := by rfl) (he : starEach [e] X.env = (false, eval e X.env) :: starEach [] X.env := by rfl) (hc : X.calm = true := by rfl) : JE X (.Call (.Name "min" p) [e] [] pos) (tCB (rMin1 X.K) t) (mBl fMin1 M) := je_B (cr_min1 hc) rs_min1 hm (by decide +kernel) ha hg (by decide) (by decide) he rfl
theorem je_max1 (hm : X.mg "max" = none) (ha : JAb X [e] t M) (hg : Gl X "max" := by rfl) (he : starEach [e] X.env = (false, eval e X.env) :: starEach [] X.env := by rfl) (hc : X.calm = true := by rfl) : JE X (.Call (.Name "max" p) [e] [] pos) (tCB (rMax1 X.K) t) (mBl fMax1 M) := je_B (cr_max1 hc) rs_max1 hm (by decide +kernel) ha hg (by decide) (by decide) he rfl
end

section
variable {X : Cx} {e : Expr} {t : TA} {pos p : Pos}
theorem pe_int1 (hm : X.mg "int" = none) (ha : PA X [e] t) (hg : Gl X "int" := by rfl) (he : starEach [e] X.env = (false, eval e X.env) :: starEach [] X.env := by rfl) : PE X (.Call (.Name "int" p) [e] [] pos) (tCB (fun xs H Q => (∃ i, xs = [V.int i] ∧ Q (V.int i) H) ∨ ∃ k, xs = [V.bl k] ∧ Q (V.int (if k = true then 1 else 0)) H) t) := pe_callTy call_int1 hg hm (by decide +kernel) ha (by decide) (by decide) he rfl
theorem pe_abs1 (hm : X.mg "abs" = none) (ha : PA X [e] t) (hg : Gl X "abs" := by rfl) (he : starEach [e] X.env = (false, eval e X.env) :: starEach [] X.env := by rfl) : PE X (.Call (.Name "abs" p) [e] [] pos) (tCB (fun xs H Q => ∃ i, xs = [V.int i] ∧ Q (.int (if i < 0 then -i else i)) H) t) := pe_callB call_abs hg hm (by decide +kernel) ha (by decide) (by decide) he rfl
theorem pe_len1 (hm : X.mg "len" = none) (ha : PA X [e] t) (hg : Gl X "len" := by rfl) (he : starEach [e] X.env = (false, eval e X.env) :: starEach [] X.env := by rfl) : PE X (.Call (.Name "len" p) [e] [] pos) (tCB (fun xs H Q => ∃ x n, xs = [x] ∧ LenV X.K x H n ∧ Q (.int n) H) t) := pe_callB call_len hg hm (by decide +kernel) ha (by decide) (by decide) he rfl
end
theorem dp_ints (K : PySem.W.Frag) (H : Hp) : ∀ ns : List Int, DpAll K H (ns.map V.int) (ns.map PyData.int)
  | [] => .nil
  | _ :: r => .cons (.int _) (dp_ints K H r)
theorem ints_lay : ∀ zs : List Int, PyData.canLayAll0 (zs.map PyData.int) = true
  | [] => by simp [PyData.canLayAll0]
  | z :: zs => by simp [PyData.canLayAll0, PyData.canLay0, ints_lay zs]
theorem ints_depth : ∀ zs : List Int, PyData.depthAll (zs.map PyData.int) ≤ 2
  | [] => by simp [PyData.depthAll]
  | z :: zs => by
    have h1 := ints_depth zs
    simp only [List.map_cons, PyData.depthAll, PyData.depth]
    omega
theorem ints_shaped (zs : List Int) : SeqAt.shaped (.list (zs.map PyData.int)) = true := by
  have h1 := ints_depth zs
  have h2 : PyData.depth (.list (zs.map PyData.int)) ≤ 64 := by
    simp only [PyData.depth]
    omega
  show (PyData.canLay0 (.list (zs.map PyData.int)) && decide (PyData.depth (.list (zs.map PyData.int)) ≤ 64)) = true
  rw [Bool.and_eq_true]
  exact ⟨by simp only [PyData.canLay0]; exact ints_lay zs, decide_eq_true h2⟩
theorem ite_b {b c : Bool} {A B : Prop} (h : c = b) (k : if b = true then A else B) : if c = true then A else B := by rw [h]; exact k
theorem ixN_0 {n : Nat} (h : 0 < n) : ixN n 0 = some 0 := by
  unfold ixN
  rw [if_pos (by decide), if_pos (by omega)]
  rfl
theorem perm_erase {α : Type} : ∀ {l : List α} {j : Nat} (h : j < l.length), ([l[j]] ++ l.eraseIdx j).Perm l
  | x :: r, 0, h => List.Perm.refl _
  | x :: r, j + 1, h => by
    have h' : j < r.length := by simpa using h
    have ih := perm_erase (l := r) (j := j) h'
    show (r[j] :: x :: r.eraseIdx j).Perm (x :: r)
    exact (List.Perm.swap x r[j] _).trans (ih.cons x)
theorem eraseIdx_map {α β : Type} (f : α → β) : ∀ (l : List α) (j : Nat), (l.map f).eraseIdx j = (l.eraseIdx j).map f
  | [], _ => rfl
  | x :: r, 0 => rfl
  | x :: r, j + 1 => by
    show f x :: (r.map f).eraseIdx j = f x :: (r.eraseIdx j).map f
    rw [eraseIdx_map f r j]
theorem dn_ints {H : Hp} {Z : Addr → Prop} : ∀ ns : List Int, DnAll H Z (ns.map V.int) (ns.map PyData.int)
  | [] => .nil
  | _ :: r => .cons (.int _) (dn_ints r)
theorem Ge.put2 {W : Wl} {H H' : Hp} {p : Addr} {o : HO} (g : Ge W H H') (nm : ¬ Mu W p) (hp : ¬ Mu W p → H p = none) : Ge W H (upd H' p o) :=
  ⟨fun a u m e => by rw [upd_ne (ne_of_none e (hp nm))]; exact g.keep a u m e, fun wo => (g.wl wo).upd (.inr nm)⟩
theorem seqIx {n j : Nat} (h : j < n) : seqIndex? (j : Int) n = some j := by
  unfold seqIndex?
  simp only [show ¬ ((j : Int) < 0) by omega, if_false]
  simp [h]
theorem yes_then {σ : L2.St} {H : Hp} {A B : Hp → Prop} (h : A H) : tYes σ H fun b H3 => if b = true then A H3 else B H3 := by
  show if true = true then A H else B H
  rw [if_pos rfl]
  exact h
theorem cut60 (ns : List Int) : ∃ ms : List Int, cutV (ns.map V.int) none (some 60) = ms.map V.int ∧ ms.length ≤ 60 := by
  refine ⟨(ns.drop 0).take (min 60 ns.length - 0), ?_, ?_⟩
  · unfold cutV
    rw [HT.sIx_none, show HT.sIx (ns.map V.int).length (ns.map V.int).length (some 60) = min 60 (ns.map V.int).length from HT.sIx_nat _ _ 60, List.length_map, List.map_take, List.map_drop]
  · rw [List.length_take]
    omega
/-! ### texts, alike or not -/
def fNeT (x y : PyData) (P : PyData → Prop) : Prop := onS x fun a => onS y fun b => P (.bool (!decide (a = b)))
def fEqT (x y : PyData) (P : PyData → Prop) : Prop := onS x fun a => onS y fun b => P (.bool (decide (a = b)))
theorem onS_is {x : PyData} {k : Str → Prop} (h : onS x k) : ∃ a, x = .str a ∧ k a := by
  unfold onS at h
  split at h
  · exact ⟨_, rfl, h⟩
  · exact h.elim
theorem s_neT : R2S rNe fNeT := by
  intro W Z O env σ H0 H x y d d' P Q R hx hy hf k
  obtain ⟨a, rfl, h1⟩ := onS_is (k := fun a => onS d' fun b => P (.bool (!decide (a = b)))) hf
  obtain ⟨b, rfl, hf⟩ := onS_is (x := d') h1
  rw [hx.str, hy.str]
  refine ⟨rfl, k _ _ H hf .refl ?_⟩
  rw [show decide (V.str a = V.str b) = decide (a = b) from by rw [Bool.eq_iff_iff]; simp]
  exact .bl _
theorem s_eqT : R2S rEq fEqT := by
  intro W Z O env σ H0 H x y d d' P Q R hx hy hf k
  obtain ⟨a, rfl, h1⟩ := onS_is (k := fun a => onS d' fun b => P (.bool (decide (a = b)))) hf
  obtain ⟨b, rfl, hf⟩ := onS_is (x := d') h1
  rw [hx.str, hy.str]
  refine ⟨rfl, k _ _ H hf .refl ?_⟩
  rw [show decide (V.str a = V.str b) = decide (a = b) from by rw [Bool.eq_iff_iff]; simp]
  exact .bl _
section
variable {X : Cx} {a b : Expr} {ta tb : TE} {A B : ME} {pos : Pos}
theorem je_neT (ha : JB X a ta A) (hb : JB X b tb B) : JE X (.Compare a [.NotEq] [b] pos) (tOp rNe ta tb) (m2 fNeT A B) := je_cmp op_ne s_neT ha hb (nomark _)
theorem je_eqT (ha : JB X a ta A) (hb : JB X b tb B) : JE X (.Compare a [.Eq] [b] pos) (tOp rEq ta tb) (m2 fEqT A B) := je_cmp op_eq s_eqT ha hb (nomark _)
theorem jt_neT (ha : JB X a ta A) (hb : JB X b tb B) : JT X (.Compare a [.NotEq] [b] pos) (tTest (tOp rNe ta tb)) (mB (m2 fNeT A B)) := jt_cmp op_ne s_neT ha hb (nomark _)
theorem jt_eqT (ha : JB X a ta A) (hb : JB X b tb B) : JT X (.Compare a [.Eq] [b] pos) (tTest (tOp rEq ta tb)) (mB (m2 fEqT A B)) := jt_cmp op_eq s_eqT ha hb (nomark _)
end
/-! ### draws -/
/-- a draw: some number below -/
def preDraw : Pre := fun cs P => ∃ k : Int, cs = [.well, .val (.int k)] ∧ 0 < k ∧ k < 1073741824 ∧ ∀ r : Int, 0 ≤ r → r < k → P (.int r)
/-- all of 0 .. n - 1, in some order -/
def preMixed : Pre := fun cs P => ∃ k : Int, cs = [.well, .val (.int k)] ∧ 0 ≤ k ∧ k ≤ 100000 ∧ ∀ l : List Int, l.Perm ((List.range k.toNat).map Int.ofNat) → P (.list (l.map PyData.int))
/-- the well is made -/
def spWell (K : PySem.W.Frag) : Sp := fun vs H Q _ => ∃ (a : Addr) (ns : List Int), vs = [.ref a] ∧ SqL K H a (ns.map V.int) ∧ ns.length ≤ 63 ∧ ∀ w c H', (∀ b o, H b = some o → H' b = some o) → H w = none → H c = none → WellAt w c H' → Q (.ref w) H'
/-- what a law promises -/
def spLaw (K : PySem.W.Frag) : Sp := fun vs H Q _ => ∃ (a : Addr) (ns : List Int), vs = [.ref a] ∧ SqL K H a (ns.map V.int) ∧ ns.length ≤ 63 ∧ ∀ H', Q (.bl true) H'
end Dw
namespace Dw
open PySem PySem.Spec PyProof.Rows L2
/-- a law that makes its well first and looks at the script no more -/
theorem fng_law {qual : Str} {st : Stmt} {rest : List Stmt} {pw pc pn px pa : Pos} {P : Program} {w : World} {K : PySem.W.Frag} {mg : Str → Option Value} {bs : Heap} {f f2 : Addr} {fd fd2 : FuncData} {N : List Str} {k : Nat} {m : MS} {x wn : Str} {ps2 : List Str} (F : Fun K x qual st f fd) (S : FnScope N ["script"] (defScope st))
    (hbd : defBody st = .Assign [.Name wn pw] (.Call (.Name "_law_well" pc) [.Name "script" pn] [] px) pa :: rest) (hN : N[1]? = some wn) (hwl : wn = wn) (h0 : N[0]? = some ("script" : Str)) (hsl : wn = wn) (hgl : (defScope st).names.lookup ("_law_well" : Str) = some NameKind.globalImplicit)
    (C : ∀ A : Around, FnG P w K mg bs CX0 1 f2 fd2 ["script"] (spWell K)) (hm : mg "_law_well" = some (.ref f2)) (hkp : PySem.W.keepIn K (.ref f2) = true) (hb2 : Binds K fd2 ["script"] [])
    (hb : ∀ (cdv : Value) (A : Around) (out : List PySem.Env) (s : Shared) (H : Hp) (E : XK), Room (k + 1) (A.deeper (envOfC qual (defScope st) s.heap.objs.size f cdv)) → A.guards = some [] → ∃ t, PS (cxOf CX0 P w K mg bs N qual (defScope st) f cdv A out s H E).nox (.Assign [.Name wn pw] (.Call (.Name "_law_well" pc) [.Name "script" pn] [] px) pa) (tAsg (tCall (spWell K) [] E0 (tCons (tVar 0) tNil)) (gName 1)) ∧ JSs (cxOf CX0 P w K mg bs N qual (defScope st) f cdv A out s H E).nox rest t m)
    (hmean : m { nx := fun _ => False, rt := fun d => d = .bool true } (.non :: .well :: List.replicate (N.length - 2) .non)) :
    FnG P w K mg bs CX0 (k + 2) f fd ["script"] (spLaw K) := by
  obtain ⟨oc, od, kV, doc, pm, an, cdv, ct, osl, rfl, lk, hcd⟩ := F.ex
  refine fng_of lk hcd S (fun vs H Q E h => by obtain ⟨a, ns, rfl, _⟩ := h; rfl) fun A out s H vs Q E hr hg hsp => ?_
  obtain ⟨t, h1, ht⟩ := hb cdv A out s H E hr hg
  obtain ⟨a, ns, rfl, hS, hl, q⟩ := hsp
  refine ⟨_, by rw [hbd]; exact (pss_cons h1 ht.pe).nox, ?_⟩
  have hlen : 2 ≤ N.length := by
    have := (List.getElem?_eq_some_iff.mp hN).1
    omega
  have hst : L2.start N [V.ref a] = some (V.ref a) :: none :: List.replicate (N.length - 2) none := by
    unfold L2.start
    show some (V.ref a) :: List.replicate (N.length - 1) none = _
    rw [show N.length - 1 = (N.length - 2) + 1 by omega, List.replicate_succ]
  rw [hst]
  refine ⟨V.ref a, rfl, ?_⟩
  refine ⟨a, ns, rfl, hS, hl, fun w c H' keep nw nc wo => ?_⟩
  show t _ ((some (V.ref a) :: none :: List.replicate (N.length - 2) none).set 1 (some (V.ref w))) H'
  show t _ (some (V.ref a) :: some (V.ref w) :: List.replicate (N.length - 2) none) H'
  have here : ∀ b, b = w ∨ b = c → NT (H' b) := fun b hb => by
    obtain ⟨_, _, _, _, h1, h2, _⟩ := wo
    rcases hb with rfl | rfl
    · rw [h1]; exact nt_lst
    · rw [h2]; exact nt_lst
  refine ht.es (some (w, c)) (fun b => b = w ∨ b = c) (fun _ => False) _ _ H' H' { nx := fun _ => False, rt := fun d => d = .bool true } _ ⟨⟨.refl, wo, fun b h => h, here, fun b h => h.elim, fun b h => h.elim, ?_, fun i cl e => ?_, fun i j ds es p e1 _ _ _ => ?_⟩, xr0⟩ ⟨fun O' env σ H2 R _ h => h.elim, fun O' env σ H2 R _ h => h.elim, fun O' env σ H2 R _ h => h.elim, fun d v H2 h g n => ?_⟩ hmean
  · simp
  · match i, e with
    | 0, e => cases e; trivial
    | 1, e => cases e; exact ⟨w, c, rfl, rfl⟩
    | i + 2, e =>
      have e' : (List.replicate (N.length - 2) Cell.non)[i]? = some cl := e
      rw [List.getElem?_replicate] at e'
      split at e'
      · cases e'
        trivial
      · cases e'
  · match i, e1 with
    | 0, e => cases ds <;> cases e
    | 1, e => cases ds <;> cases e
    | i + 2, e =>
      have e' : (List.replicate (N.length - 2) Cell.non)[i]? = some (Cell.of ds) := e
      rw [List.getElem?_replicate] at e'
      split at e' <;> cases ds <;> cases e'
  · subst h
    cases n
    exact q H2
variable [XCtx]
section
variable {X : Cx} {x y z : Str} {p0 p1 p2 p3 p4 : Pos} {k0 k1 : Nat}
theorem jg_tupK {js : List Nat} {n k : Nat} {es : List Expr} {u : TGs} {ms : MGs} {pos : Pos} (h : JGs X js es n u ms) (hc : X.calm = true := by rfl) (hn : (assignEach es X.env).length = n := by rfl) (hst : (assignEach es X.env).findIdx? (·.1) = none := by rfl) {K : PySem.W.Frag} (hK : X.K = K := by rfl) : JG X js (.Tuple es k pos) (gTup K n u) (mgTup n ms) := hK ▸ jg_tup h hc hn hst
/-- name, (name, name) -/
theorem jg_np (i j k : Nat) (hN : X.N.Nodup) (hi : X.N[i]? = some x := by rfl) (hj : X.N[j]? = some y := by rfl) (hk : X.N[k]? = some z := by rfl) (hx : Loc X.env.scope x := by first | exact .inl rfl | exact .inr rfl) (hy : Loc X.env.scope y := by first | exact .inl rfl | exact .inr rfl) (hz : Loc X.env.scope z := by first | exact .inl rfl | exact .inr rfl)
    (fx : X.fn x = true ∨ X.env.scope.names.lookup x = some .local := by first | exact .inl rfl | exact .inr rfl) (fy : X.fn y = true ∨ X.env.scope.names.lookup y = some .local := by first | exact .inl rfl | exact .inr rfl) (fz : X.fn z = true ∨ X.env.scope.names.lookup z = some .local := by first | exact .inl rfl | exact .inr rfl) (hc : X.calm = true := by rfl) {K : PySem.W.Frag} (hK : X.K = K := by rfl) :
    JG X [i, j, k] (.Tuple [.Name x p0, .Tuple [.Name y p1, .Name z p2] k0 p3] k1 p4) (gTup K 2 (gCons (gName i) (gCons (gTup K 2 (gCons (gName j) (gCons (gName k) gNil))) gNil))) (mgTup 2 (mgCons (mgName i) (mgCons (mgTup 2 (mgCons (mgName j) (mgCons (mgName k) mgNil))) mgNil))) :=
  hK ▸ jg_tup (js := [i, j, k]) (jgs_cons (js := [i]) (ks := [j, k]) (jg_name i hN hi hx fx) (jgs_cons (js := [j, k]) (ks := []) (jg_tup (js := [j, k]) (jgs_cons (js := [j]) (ks := [k]) (jg_name j hN hj hy fy) (jgs_cons (js := [k]) (ks := []) (jg_name k hN hk hz fz) jgs_nil)) hc) jgs_nil)) hc
/-- (name, name), name -/
theorem jg_pn (i j k : Nat) (hN : X.N.Nodup) (hi : X.N[i]? = some x := by rfl) (hj : X.N[j]? = some y := by rfl) (hk : X.N[k]? = some z := by rfl) (hx : Loc X.env.scope x := by first | exact .inl rfl | exact .inr rfl) (hy : Loc X.env.scope y := by first | exact .inl rfl | exact .inr rfl) (hz : Loc X.env.scope z := by first | exact .inl rfl | exact .inr rfl)
    (fx : X.fn x = true ∨ X.env.scope.names.lookup x = some .local := by first | exact .inl rfl | exact .inr rfl) (fy : X.fn y = true ∨ X.env.scope.names.lookup y = some .local := by first | exact .inl rfl | exact .inr rfl) (fz : X.fn z = true ∨ X.env.scope.names.lookup z = some .local := by first | exact .inl rfl | exact .inr rfl) (hc : X.calm = true := by rfl) {K : PySem.W.Frag} (hK : X.K = K := by rfl) :
    JG X [i, j, k] (.Tuple [.Tuple [.Name x p0, .Name y p1] k0 p3, .Name z p2] k1 p4) (gTup K 2 (gCons (gTup K 2 (gCons (gName i) (gCons (gName j) gNil))) (gCons (gName k) gNil))) (mgTup 2 (mgCons (mgTup 2 (mgCons (mgName i) (mgCons (mgName j) mgNil))) (mgCons (mgName k) mgNil))) :=
  hK ▸ jg_tup (js := [i, j, k]) (jgs_cons (js := [i, j]) (ks := [k]) (jg_tup (js := [i, j]) (jgs_cons (js := [i]) (ks := [j]) (jg_name i hN hi hx fx) (jgs_cons (js := [j]) (ks := []) (jg_name j hN hj hy fy) jgs_nil)) hc) (jgs_cons (js := [k]) (ks := []) (jg_name k hN hk hz fz) jgs_nil)) hc
end
section
variable {X : Cx} {elt tg iter : Expr} {ifs : List Expr} {scope : Scope} {pos : Pos} {wi : TI} {g : Shared → Hp → Addr → List (Str × Addr) → List Addr → TG} {tt : Shared → Hp → Addr → List (Str × Addr) → List Addr → TT} {te : Shared → Hp → Addr → List (Str × Addr) → List Addr → TE} {I : ML} {mg : MG} {mt : MT} {me : ME} {js : List Nat}
theorem jf_lcF (own : List (Str × Nat)) (hN : X.N.Nodup) (hi : JI X tg iter wi I) (ok : BlkOk X.N X.env.scope scope own) (hg : ∀ (s : Shared) (H : Hp) (C : Addr) (cl : List (Str × Addr)) (fp : List Addr), JG (X.blk s H scope (compEnvC scope cl C X.env) fp) js tg (g s H C cl fp) mg)
    (ht : ∀ (s : Shared) (H : Hp) (C : Addr) (cl : List (Str × Addr)) (fp : List Addr), JTs (X.blk s H scope (compEnvC scope cl C X.env) fp) ifs (tt s H C cl fp) mt) (he : ∀ (s : Shared) (H : Hp) (C : Addr) (cl : List (Str × Addr)) (fp : List Addr), JE (X.blk s H scope (compEnvC scope cl C X.env) fp) elt (te s H C cl fp) me)
    (hj : ∀ j ∈ js, j ∈ own.map (·.2) := by decide) (hc : X.calm = true := by rfl) (hs : ∀ x, foldedSetIterable iter X.env x = pure x := by intro _; rfl) (eg : ∀ (s : Shared) (H : Hp) (C : Addr) (cl : List (Str × Addr)) (fp : List Addr), g s H C cl fp = g X.s_0 X.H_0 0 [] [] := by intro _ _ _ _ _; rfl) (ett : ∀ (s : Shared) (H : Hp) (C : Addr) (cl : List (Str × Addr)) (fp : List Addr), tt s H C cl fp = tt X.s_0 X.H_0 0 [] [] := by intro _ _ _ _ _; rfl) (ete : ∀ (s : Shared) (H : Hp) (C : Addr) (cl : List (Str × Addr)) (fp : List Addr), te s H C cl fp = te X.s_0 X.H_0 0 [] [] := by intro _ _ _ _ _; rfl) :
    JF X (.ListComp elt [⟨tg, iter, ifs, 0⟩] scope pos) (tLc wi (g X.s_0 X.H_0 0 [] []) (tt X.s_0 X.H_0 0 [] []) (te X.s_0 X.H_0 0 [] []) (own.map (·.2))) (mLc I mg mt me (own.map (·.2))) :=
  jf_lc own hN hi ok (fun s H C cl fp => eg s H C cl fp ▸ hg s H C cl fp) (fun s H C cl fp => ett s H C cl fp ▸ ht s H C cl fp) (fun s H C cl fp => ete s H C cl fp ▸ he s H C cl fp) hj hc hs
theorem js_setLcF (i : Nat) {y : Str} {py spos lpos : Pos} (own : List (Str × Nat)) (hN : X.N.Nodup) (hyl : X.env.scope.names.lookup y = some .local)
    (hsw : swapsWith (.ListComp elt [⟨tg, iter, ifs, 0⟩] scope lpos) (some (.Name y py)) spos.line X.env = pure true) (hi : JI X tg iter wi I) (ok : BlkOk X.N X.env.scope scope own)
    (hg : ∀ (s : Shared) (H : Hp) (C : Addr) (cl : List (Str × Addr)) (fp : List Addr), JG (X.blk s H scope (compEnvC scope cl C X.env) fp) js tg (g s H C cl fp) mg)
    (ht : ∀ (s : Shared) (H : Hp) (C : Addr) (cl : List (Str × Addr)) (fp : List Addr), JTs (X.blk s H scope (compEnvC scope cl C X.env) fp) ifs (tt s H C cl fp) mt) (he : ∀ (s : Shared) (H : Hp) (C : Addr) (cl : List (Str × Addr)) (fp : List Addr), JE (X.blk s H scope (compEnvC scope cl C X.env) fp) elt (te s H C cl fp) me)
    (hy : X.N[i]? = some y := by rfl) (hj : ∀ j ∈ js, j ∈ own.map (·.2) := by decide) (hc : X.calm = true := by rfl) (hs : ∀ x, foldedSetIterable iter X.env x = pure x := by intro _; rfl) (eg : ∀ (s : Shared) (H : Hp) (C : Addr) (cl : List (Str × Addr)) (fp : List Addr), g s H C cl fp = g X.s_0 X.H_0 0 [] [] := by intro _ _ _ _ _; rfl) (ett : ∀ (s : Shared) (H : Hp) (C : Addr) (cl : List (Str × Addr)) (fp : List Addr), tt s H C cl fp = tt X.s_0 X.H_0 0 [] [] := by intro _ _ _ _ _; rfl) (ete : ∀ (s : Shared) (H : Hp) (C : Addr) (cl : List (Str × Addr)) (fp : List Addr), te s H C cl fp = te X.s_0 X.H_0 0 [] [] := by intro _ _ _ _ _; rfl) :
    JS X (.Assign [.Name y py] (.ListComp elt [⟨tg, iter, ifs, 0⟩] scope lpos) spos) (tAsg (tLc wi (g X.s_0 X.H_0 0 [] []) (tt X.s_0 X.H_0 0 [] []) (te X.s_0 X.H_0 0 [] []) (own.map (·.2))) (gName i)) (mSetF i (mLc I mg mt me (own.map (·.2)))) :=
  js_setLc i own hN hyl hsw hi ok (fun s H C cl fp => eg s H C cl fp ▸ hg s H C cl fp) (fun s H C cl fp => ett s H C cl fp ▸ ht s H C cl fp) (fun s H C cl fp => ete s H C cl fp ▸ he s H C cl fp) hy hj hc hs
end
theorem pe_lcF {X : Cx} {elt tg iter : Expr} {ifs : List Expr} {scope : Scope} {pos : Pos} {wi : TI} {g : TG} {tt : TT} {te : Shared → Hp → Addr → List (Str × Addr) → List Addr → TE} (own : List (Str × Nat)) (hN : X.N.Nodup) (hi : PI X tg iter wi) (ok : BlkOk X.N X.env.scope scope own)
    (hg : ∀ (s : Shared) (H : Hp) (C : Addr) (cl : List (Str × Addr)) (fp : List Addr), PG (X.blk s H scope (compEnvC scope cl C X.env) fp) tg g) (ht : ∀ (s : Shared) (H : Hp) (C : Addr) (cl : List (Str × Addr)) (fp : List Addr), PTs (X.blk s H scope (compEnvC scope cl C X.env) fp) ifs tt)
    (he : ∀ (s : Shared) (H : Hp) (C : Addr) (cl : List (Str × Addr)) (fp : List Addr), PE (X.blk s H scope (compEnvC scope cl C X.env) fp) elt (te s H C cl fp)) (hc : X.calm = true := by rfl) (hs : ∀ x, foldedSetIterable iter X.env x = pure x := by intro _; rfl)
    (ete : ∀ (s : Shared) (H : Hp) (C : Addr) (cl : List (Str × Addr)) (fp : List Addr), te s H C cl fp = te X.s_0 X.H_0 0 [] [] := by intro _ _ _ _ _; rfl) : PE X (.ListComp elt [⟨tg, iter, ifs, 0⟩] scope pos) (tLc wi g tt (te X.s_0 X.H_0 0 [] []) (own.map (·.2))) :=
  pe_lc hc hN hi ok hg ht (fun s H C cl fp => ete s H C cl fp ▸ he s H C cl fp) hs
theorem pkJ {X : Cx} {b : List Stmt} {t : TS} {m m' : MS} (h : JSs X b t m') (e : m' = m) : JSs X b t m := e ▸ h
theorem kb_sw {x qual a b : Str} {st : Stmt} {K : PySem.W.Frag} {f : Addr} {fd : FuncData} (F : Fun K x qual st f fd)
    (h : ∀ (kV doc pm : Value) (an : Option Addr) (cdv ct : Value) (u v : Value), bindArgs (PySem.W.fnOf x qual (defArgs st) (defBody st) (defScope st) .none kV doc pm an cdv ct) ⟨[], [(b, u), (a, v)]⟩ = pure [(a, v), (b, u)]) : KBinds K fd [a, b] [b, a] swG swV := by
  obtain ⟨oc, od, kV, doc, pm, an, cdv, ct, osl, rfl, lk, hcd⟩ := F.ex
  refine ⟨fun s us ws _ hl => ?_, vals_sw⟩
  match us, ws, hl with
  | [], [u, v], _ => exact .of_eq (h kV doc pm an cdv ct u v)
end Dw

set_option maxRecDepth 100000
set_option maxHeartbeats 4000000
/-! Dw13: meanings, gone through by invariants; the well's own def. -/
namespace Dw
open PySem PySem.Spec PyProof.Rows L2
variable [XCtx]
theorem forGo_inv {mg : MG} {b : MS} {M : MEnds} {ds : List PyData} (Inv : Nat → Cells → Prop) (step : ∀ (i : Nat) (hi : i < ds.length) (env : Cells) (N : Cells → Prop), Inv i env → (∀ e, Inv (i + 1) e → N e) → mg ds[i] env fun env' => b { M with nx := N, ct := N, bk := M.nx } env')
    (hend : ∀ e, Inv ds.length e → M.nx e) {env : Cells} (h0 : Inv 0 env) : forGo mg b M ds env := by
  have key : ∀ (k i : Nat), i + k = ds.length → ∀ env, Inv i env → forGo mg b M (ds.drop i) env := by
    intro k
    induction k with
    | zero =>
      intro i hi env h
      have : i = ds.length := by omega
      subst this
      rw [List.drop_length]
      exact hend env h
    | succ k ih =>
      intro i hi env h
      have hlt : i < ds.length := by omega
      rw [List.drop_eq_getElem_cons hlt]
      exact step i hlt env _ h fun e he => ih (i + 1) (by omega) e he
  have := key ds.length 0 (by omega) env h0
  rwa [List.drop_zero] at this
theorem lcGo_inv {g : MG} {tt : MT} {te : ME} {env : Cells} {ds : List PyData} {P : List PyData → Prop} (Inv : Nat → List PyData → Prop) (step : ∀ (i : Nat) (hi : i < ds.length) (acc : List PyData) (Y : PyData → Prop) (S : Prop), Inv i acc → (∀ y, Inv (i + 1) (acc ++ [y]) → Y y) → (Inv (i + 1) acc → S) →
      g ds[i] env fun env' => tt env' fun b => if b = true then te env' Y else S) (h0 : Inv 0 []) (hend : ∀ acc, Inv ds.length acc → P acc) : lcGo g tt te env ds P := by
  have key : ∀ (k i : Nat), i + k = ds.length → ∀ (acc : List PyData) (P : List PyData → Prop), Inv i acc → (∀ ys, Inv ds.length (acc ++ ys) → P ys) → lcGo g tt te env (ds.drop i) P := by
    intro k
    induction k with
    | zero =>
      intro i hi acc P h hP
      have : i = ds.length := by omega
      subst this
      rw [List.drop_length]
      exact hP [] (by rw [List.append_nil]; exact h)
    | succ k ih =>
      intro i hi acc P h hP
      have hlt : i < ds.length := by omega
      rw [List.drop_eq_getElem_cons hlt]
      exact step i hlt acc _ _ h (fun y hy => ih (i + 1) (by omega) _ _ hy fun ys hz => hP _ (by rw [List.append_assoc] at hz; exact hz)) fun hy => ih (i + 1) (by omega) _ _ hy hP
  have := key ds.length 0 (by omega) [] P h0 hend
  rwa [List.drop_zero] at this
theorem fmod_nn {a b : Int} (hb : 0 < b) : 0 ≤ a.fmod b := Int.fmod_nonneg_of_pos a hb
theorem fmod_lt {a b : Int} (hb : 0 < b) : a.fmod b < b := Int.fmod_lt_of_pos a hb
theorem yes_then' {env : Cells} {A B : Prop} (h : A) : mYes env fun b => if b = true then A else B := by
  show if true = true then A else B
  rw [if_pos rfl]
  exact h
def mw_rest : MS :=
    (mSq (mFor (mSeq (mVar 2)) (mgName 1) (mSet 3 (m2 fMod (mBl fInt (mCons (m2 fAddA (m2 fMulA (mVarB 3) (mC (.int 69621))) (mVarB 1)) mNil)) (mC (.int 4294967291)))))
    (mRet (mList (mCons (mList (mLc (mSeq (mVar 2)) (mgName 1) (mB (m2 fGe (mVarB 1) (m2 fPow (mC (.int 10)) (mC (.int 16))))) (mVar 1) [1])) (mCons (mVar 3) (mCons (mC (.int 0)) mNil))))))
theorem well_mean (M : MEnds) (acc : List Int) (n : Int) (h : ∀ y ∈ acc, 0 ≤ y) (hl : acc.length ≤ 60) (h0 : 0 ≤ n) (hn : n < 4294967291) (k : ∀ (ys : List Int) (st : Int), (∀ y ∈ ys, 0 ≤ y) → ys.length ≤ 60 → 0 ≤ st → st < 4294967291 → M.rt (.list [.list (ys.map PyData.int), .int st, .int 0])) : mw_rest M [.non, .non, .val (.list (acc.map PyData.int)), .val (.int n)] := by
  refine forGo_inv (fun i e => ∃ (d : Cell) (n : Int), e = [.non, d, .val (.list (acc.map PyData.int)), .val (.int n)] ∧ 0 ≤ n ∧ n < 4294967291) ?_ ?_ ⟨_, _, rfl, h0, hn⟩
  · rintro i hi env N ⟨d, n, rfl, a, b⟩ hN
    rw [List.getElem_map]
    refine ⟨.inr ⟨by decide, by decide⟩, (by decide : (4294967291 : Int) ≠ 0), hN _ ⟨_, _, rfl, fmod_nn (by decide), fmod_lt (by decide)⟩⟩
  · rintro e ⟨d, n, rfl, a, b⟩
    refine ⟨by rw [List.length_map]; omega, lcGo_inv (fun i ys => ∃ zs : List Int, ys = zs.map PyData.int ∧ (∀ y ∈ zs, 0 ≤ y) ∧ zs.length ≤ i) ?_ ⟨[], rfl, List.forall_mem_nil _, Nat.le_refl _⟩ ?_⟩
    · rintro i hi ys Y S ⟨zs, rfl, hz, hzl⟩ hY hS
      rw [List.getElem_map]
      have hi' : i < acc.length := by rw [List.length_map] at hi; exact hi
      refine ⟨⟨by decide, by decide, by decide⟩, ?_⟩
      refine ite2 (fun _ => hY _ ⟨zs ++ [acc[i]], by rw [List.map_append]; rfl, fun y hy => ?_, by rw [List.length_append]; exact Nat.add_le_add_right hzl 1⟩) fun _ => hS ⟨zs, rfl, hz, Nat.le_succ_of_le hzl⟩
      rcases List.mem_append.mp hy with q | q
      · exact hz y q
      · rw [List.mem_singleton.mp q]; exact h _ (List.getElem_mem hi')
    · rintro ys ⟨zs, rfl, hz, hzl⟩
      rw [List.length_map] at hzl
      exact k zs n hz (by omega) a b
end Dw

set_option maxRecDepth 100000
set_option maxHeartbeats 4000000
/-! Dw14: a comprehension with two fors. -/
namespace Dw
open PySem PySem.Spec PyProof.Rows L2
variable [XCtx]
def lc2Go (g : MG) (tt : MT) (I1 : ML) (g1 : MG) (tt1 : MT) (te : ME) (vs1 : List Nat) (env : Cells) : List PyData → (List PyData → Prop) → Prop
  | [], P => P []
  | d :: ds, P => g d env fun e1 => tt e1 fun b => if b = true then I1 e1 fun ds1 => ds1.length ≤ 1000 ∧ (∀ (j : Nat) (es : Hold), (wipeE e1 vs1)[j]? ≠ some (Cell.of es)) ∧ lcGo g1 tt1 te (wipeE e1 vs1) ds1 fun ys => lc2Go g tt I1 g1 tt1 te vs1 env ds fun zs => P (ys ++ zs) else lc2Go g tt I1 g1 tt1 te vs1 env ds P
def mLc2 (I : ML) (g : MG) (tt : MT) (I1 : ML) (g1 : MG) (tt1 : MT) (te : ME) (vs vs1 : List Nat) : ML := fun env P => I env fun ds => ds.length ≤ 1000 ∧ lc2Go g tt I1 g1 tt1 te vs1 (wipeE env vs) ds P
section
variable {wi wi1 : TI} {g g1 : TG} {tt tt1 : TT} {te : TE} {I I1 : ML} {mg mg1 : MG} {mt mt1 : MT} {me : ME} {js js1 vs vs1 : List Nat}
theorem lc2_sound (hi : IS wi I) (hg : GS js g mg) (ht : QS tt mt) (hi1 : IS wi1 I1) (hg1 : GS js1 g1 mg1) (ht1 : QS tt1 mt1) (he : ES te me) (hj : ∀ j ∈ js, j ∈ vs) (hj1 : ∀ j ∈ js1, j ∈ vs1) : FS (tLc2 wi g tt wi1 g1 tt1 te vs vs1) (mLc2 I mg mt I1 mg1 mt1 me vs vs1) := by
  intro W Z O env σ H0 H P Q R hm k
  refine hi W Z O env σ H0 H _ _ R hm fun ds J H1 p1 g1' it => ?_
  obtain ⟨hz, p1⟩ := p1
  intro D hD
  have R1 := (R.tr g1').wipe vs
  have on : ∀ a, (O a ∨ a = D) → O a ∨ H1 a = none := fun a q => q.imp id fun e => by rw [e]; exact hD
  have hDm : ¬ Mu W D := (R.tr g1').zmu ((R.tr g1').new hD)
  have noD0 : ∀ (j : Nat) (es : Hold), (wipeE env vs)[j]? = some (Cell.of es) → (L2.wipe σ vs)[j]? ≠ some (some (.ref D)) := fun j es ej sj => by
    obtain ⟨q, e1, oq⟩ := R1.holds ej
    rw [sj] at e1
    cases e1
    exact ((R.tr g1').oh D oq).1 hD
  refine ⟨fun i m H2 => m = ds.length - i ∧ i ≤ ds.length ∧ Rel W Z (fun a => O a ∨ a = D) (wipeE env vs) (L2.wipe σ vs) H0 H2 ∧ Kp Z O H1 H2 ∧ Ge W H1 H2 ∧ ∃ xs acc, H2 D = some (.lst xs) ∧ DnAll H2 (ZO Z fun a => O a ∨ a = D) xs acc ∧ xs.length ≤ 1000 * i ∧
    lc2Go mg mt I1 mg1 mt1 me vs1 (wipeE env vs) (ds.drop i) fun ys => P (acc ++ ys), ⟨ds.length, by simp, Nat.zero_le _, R1.own hD, fun a o z e => by rw [upd_ne (ne_of_none e hD)]; exact e, .new hD, [], [], upd_same, .nil, Nat.le_refl _, p1⟩, ?_⟩
  rintro i m H2 ⟨rfl, hle, R2, kp, g2, xs, acc, hxs, nn, hxl, go⟩
  by_cases hlt : i < ds.length
  · refine .inr ⟨it.goes i H2 hlt kp, fun H3 => Rel W Z (fun a => O a ∨ a = D) (wipeE env vs) (L2.wipe σ vs) H0 H3 ∧ Kp Z O H1 H3 ∧ Ge W H1 H3 ∧ ∃ xs acc, H3 D = some (.lst xs) ∧ DnAll H3 (ZO Z fun a => O a ∨ a = D) xs acc ∧ xs.length ≤ 1000 * (i + 1) ∧
      lc2Go mg mt I1 mg1 mt1 me vs1 (wipeE env vs) (ds.drop (i + 1)) fun ys => P (acc ++ ys), fun H3 h3 => ⟨ds.length - (i + 1), by omega, rfl, hlt, h3⟩, fun x H3 y => ?_⟩
    obtain ⟨d, hd, g3, nd⟩ := yield_dn it R2 kp on hlt y
    have ed : ds.drop i = d :: ds.drop (i + 1) := by
      rw [List.drop_eq_getElem_cons hlt]
      rw [List.getElem?_eq_getElem hlt] at hd
      rw [Option.some.inj hd]
    rw [ed] at go
    have R3 := R2.tr g3
    refine hg W Z _ _ _ H0 H3 x d _ _ R3 nd go fun env' σ' go' R4 fr hl => ⟨wipe_eq (by rw [hl, wipe_length]) fun j hj' => fr j fun z => hj' (hj j z), ?_⟩
    refine ht W Z _ env' σ' H0 H3 _ _ R4 go' fun b H4 pb g4 => ?_
    have kp4 : ∀ H5, Ge W H2 H5 → Kp Z O H1 H5 := fun H5 g5 a o z e => g5.keep a o (fun mm => z (.inl (R.mz a mm))) (kp a o z e)
    cases b with
    | false =>
      have g24 := g3.trans g4
      exact ⟨R2.tr g24, kp4 _ g24, g2.trans g24, xs, acc, g24.keep _ _ hDm hxs, nn.ge g24 R.mz, by omega, pb⟩
    | true =>
      -- the inner walk
      refine hi1 W Z _ env' σ' H0 H4 _ _ (R4.tr g4) pb fun ds1 J1 H5 p5 g5 it1 => ?_
      obtain ⟨hz1, noown, p5⟩ := p5
      have g25 := (g3.trans g4).trans g5
      have R5 := ((R4.tr g4).tr g5)
      have R5w := R5.wipe vs1
      have hx5 := g25.keep _ _ hDm hxs
      have n5 := nn.ge g25 R.mz
      have kpD : ∀ {H6 : Hp}, Kp Z (fun a => O a ∨ a = D) H5 H6 → True := fun _ => trivial
      -- no slot of the inner walk holds D as its own
      have noD : ∀ (j : Nat) (es : Hold), (wipeE env' vs1)[j]? = some (Cell.of es) → (L2.wipe σ' vs1)[j]? ≠ some (some (.ref D)) := fun j es ej => absurd ej (noown j es)
      refine ⟨fun j kk H6 => kk = ds1.length - j ∧ j ≤ ds1.length ∧ Rel W Z (fun a => O a ∨ a = D) (wipeE env' vs1) (L2.wipe σ' vs1) H0 H6 ∧ Rel W Z (fun a => O a ∨ a = D) (wipeE env vs) (L2.wipe σ vs) H0 H6 ∧ Kp Z (fun a => O a ∨ a = D) H5 H6 ∧ Kp Z O H1 H6 ∧ Ge W H1 H6 ∧ ∃ xs ys, H6 D = some (.lst xs) ∧ DnAll H6 (ZO Z fun a => O a ∨ a = D) xs (acc ++ ys) ∧ xs.length ≤ 1000 * i + j ∧
        lcGo mg1 mt1 me (wipeE env' vs1) (ds1.drop j) fun zs => lc2Go mg mt I1 mg1 mt1 me vs1 (wipeE env vs) (ds.drop (i + 1)) fun ys' => P (acc ++ ((ys ++ zs) ++ ys')), ⟨ds1.length, by simp, Nat.zero_le _, R5w, R2.tr g25, fun a o z e => e, kp4 _ g25, g2.trans g25, xs, [], hx5, by rw [List.append_nil]; exact n5, by omega, p5⟩, ?_⟩
      rintro j kk H6 ⟨rfl, hle1, R6, R6o, kp6, kp16, g6, xs, ys, hxs, nn, hxl, go⟩
      by_cases hlt1 : j < ds1.length
      · refine .inr ⟨it1.goes j H6 hlt1 kp6, fun H7 => Rel W Z (fun a => O a ∨ a = D) (wipeE env' vs1) (L2.wipe σ' vs1) H0 H7 ∧ Rel W Z (fun a => O a ∨ a = D) (wipeE env vs) (L2.wipe σ vs) H0 H7 ∧ Kp Z (fun a => O a ∨ a = D) H5 H7 ∧ Kp Z O H1 H7 ∧ Ge W H1 H7 ∧ ∃ xs ys, H7 D = some (.lst xs) ∧ DnAll H7 (ZO Z fun a => O a ∨ a = D) xs (acc ++ ys) ∧ xs.length ≤ 1000 * i + (j + 1) ∧
          lcGo mg1 mt1 me (wipeE env' vs1) (ds1.drop (j + 1)) fun zs => lc2Go mg mt I1 mg1 mt1 me vs1 (wipeE env vs) (ds.drop (i + 1)) fun ys' => P (acc ++ ((ys ++ zs) ++ ys')), fun H7 h7 => ⟨ds1.length - (j + 1), by omega, rfl, hlt1, h7⟩, fun x H7 y => ?_⟩
        obtain ⟨d1, hd1, g7, nd1⟩ := yield_dn it1 R6 kp6 (fun a q => .inl q) hlt1 y
        have ed1 : ds1.drop j = d1 :: ds1.drop (j + 1) := by
          rw [List.drop_eq_getElem_cons hlt1]
          rw [List.getElem?_eq_getElem hlt1] at hd1
          rw [Option.some.inj hd1]
        rw [ed1] at go
        have R7 := R6.tr g7
        refine hg1 W Z _ _ _ H0 H7 x d1 _ _ R7 nd1 go fun env'' σ'' go' R8 fr1 hl1 => ⟨wipe_eq (by rw [hl1, wipe_length]) fun j' hj' => fr1 j' fun z => hj' (hj1 j' z), ?_⟩
        refine ht1 W Z _ env'' σ'' H0 H7 _ _ R8 go' fun b1 H8 pb1 g8 => ?_
        have kq : ∀ H9, Ge W H6 H9 → Kp Z (fun a => O a ∨ a = D) H5 H9 ∧ Kp Z O H1 H9 := fun H9 g9 => ⟨fun a o z e => g9.keep a o (fun mm => z (.inl (R.mz a mm))) (kp6 a o z e), fun a o z e => g9.keep a o (fun mm => z (.inl (R.mz a mm))) (kp16 a o z e)⟩
        cases b1 with
        | false =>
          have g68 := g7.trans g8
          exact ⟨R6.tr g68, R6o.tr g68, (kq _ g68).1, (kq _ g68).2, g6.trans g68, xs, ys, g68.keep _ _ hDm hxs, nn.ge g68 R.mz, by omega, pb1⟩
        | true =>
          refine he W Z _ env'' σ'' H0 H8 _ _ (R8.tr g8) pb1 fun yd yv H9 py g9 ny => ?_
          have g69 := (g7.trans g8).trans g9
          have hx9 := g69.keep _ _ hDm hxs
          refine ⟨xs, hx9, by rw [sizeLine_eq]; omega, (R6.tr g69).put (.inr rfl) noD, (R6o.tr g69).put (.inr rfl) noD0, fun a o z e => ?_, fun a o z e => ?_, ?_, xs ++ [yv], ys ++ [yd], upd_same, ?_, by rw [List.length_append]; show xs.length + 1 ≤ _; omega, ?_⟩
          · rw [upd_ne (fun q => z (.inr (.inr q)))]
            exact (kq _ g69).1 a o z e
          · have ne : a ≠ D := fun q => by
              rw [q, hD] at e
              cases e
            rw [upd_ne ne]
            exact (kq _ g69).2 a o z e
          · refine ⟨fun a o mm e => ?_, fun wo => ((g6.trans g69).wl wo).upd (.inr hDm)⟩
            have ne : a ≠ D := fun q => by
              rw [q, hD] at e
              cases e
            rw [upd_ne ne]
            exact (g6.trans g69).keep a o mm e
          · rw [← List.append_assoc]
            exact ((nn.ge g69 R.mz).put (.inr rfl)).app (.cons (ny.put (.inr rfl)) .nil)
          · have : (fun zs => lc2Go mg mt I1 mg1 mt1 me vs1 (wipeE env vs) (ds.drop (i + 1)) fun ys' => P (acc ++ ((ys ++ (yd :: zs)) ++ ys'))) = fun zs => lc2Go mg mt I1 mg1 mt1 me vs1 (wipeE env vs) (ds.drop (i + 1)) fun ys' => P (acc ++ (((ys ++ [yd]) ++ zs) ++ ys')) := funext fun zs => by rw [List.append_assoc ys [yd] zs]; rfl
            rw [← this]
            exact py
      · have e : j = ds1.length := by omega
        subst e
        refine .inl ⟨it1.stops H6 kp6, R6o, kp16, g6, xs, acc ++ ys, hxs, nn, by omega, ?_⟩
        rw [List.drop_length] at go
        have : (fun ys' => P (acc ++ ((ys ++ []) ++ ys'))) = fun ys' => P ((acc ++ ys) ++ ys') := funext fun ys' => by rw [List.append_nil, List.append_assoc]
        rw [← this]
        exact go
  · have e : i = ds.length := by omega
    subst e
    refine .inl ⟨it.stops H2 kp, ?_⟩
    rw [List.drop_length] at go
    refine k _ D xs H2 go (g1'.trans g2) (g1'.fresh R.wl hD) hxs ?_
    rw [List.append_nil]
    exact nn
end
section
variable {X : Cx} {elt tg iter tg1 iter1 : Expr} {ifs ifs1 : List Expr} {scope : Scope} {pos : Pos} {wi : TI} {wi1 : Shared → Hp → Addr → List (Str × Addr) → List Addr → TI} {g g1 : Shared → Hp → Addr → List (Str × Addr) → List Addr → TG} {tt tt1 : Shared → Hp → Addr → List (Str × Addr) → List Addr → TT} {te : Shared → Hp → Addr → List (Str × Addr) → List Addr → TE} {I I1 : ML} {mg mg1 : MG} {mt mt1 : MT} {me : ME} {js js1 : List Nat}
/-- [e for .. in .. if .. for .. in .. if ..] -/
theorem jf_lc2F (own : List (Str × Nat)) (vs1 : List Nat) (hN : X.N.Nodup) (hi : JI X tg iter wi I) (ok : BlkOk X.N X.env.scope scope own) (hg : ∀ (s : Shared) (H : Hp) (C : Addr) (cl : List (Str × Addr)) (fp : List Addr), JG (X.blk s H scope (compEnvC scope cl C X.env) fp) js tg (g s H C cl fp) mg)
    (ht : ∀ (s : Shared) (H : Hp) (C : Addr) (cl : List (Str × Addr)) (fp : List Addr), JTs (X.blk s H scope (compEnvC scope cl C X.env) fp) ifs (tt s H C cl fp) mt) (hi1 : ∀ (s : Shared) (H : Hp) (C : Addr) (cl : List (Str × Addr)) (fp : List Addr), JI (X.blk s H scope (compEnvC scope cl C X.env) fp) tg1 iter1 (wi1 s H C cl fp) I1)
    (hg1 : ∀ (s : Shared) (H : Hp) (C : Addr) (cl : List (Str × Addr)) (fp : List Addr), JG (X.blk s H scope (compEnvC scope cl C X.env) fp) js1 tg1 (g1 s H C cl fp) mg1) (ht1 : ∀ (s : Shared) (H : Hp) (C : Addr) (cl : List (Str × Addr)) (fp : List Addr), JTs (X.blk s H scope (compEnvC scope cl C X.env) fp) ifs1 (tt1 s H C cl fp) mt1)
    (he : ∀ (s : Shared) (H : Hp) (C : Addr) (cl : List (Str × Addr)) (fp : List Addr), JE (X.blk s H scope (compEnvC scope cl C X.env) fp) elt (te s H C cl fp) me)
    (hv : ∀ i ∈ vs1, i ∈ own.map (·.2) := by decide) (hj : ∀ j ∈ js, j ∈ own.map (·.2) := by decide) (hj1 : ∀ j ∈ js1, j ∈ vs1 := by decide) (hc : X.calm = true := by rfl) (hs : ∀ x, foldedSetIterable iter X.env x = pure x := by intro _; rfl) (hs1 : ∀ env x, foldedSetIterable iter1 env x = pure x := by intro _ _; rfl)
    (eg : ∀ (s : Shared) (H : Hp) (C : Addr) (cl : List (Str × Addr)) (fp : List Addr), g s H C cl fp = g X.s_0 X.H_0 0 [] [] := by intro _ _ _ _ _; rfl) (ett : ∀ (s : Shared) (H : Hp) (C : Addr) (cl : List (Str × Addr)) (fp : List Addr), tt s H C cl fp = tt X.s_0 X.H_0 0 [] [] := by intro _ _ _ _ _; rfl)
    (ewi1 : ∀ (s : Shared) (H : Hp) (C : Addr) (cl : List (Str × Addr)) (fp : List Addr), wi1 s H C cl fp = wi1 X.s_0 X.H_0 0 [] [] := by intro _ _ _ _ _; rfl) (eg1 : ∀ (s : Shared) (H : Hp) (C : Addr) (cl : List (Str × Addr)) (fp : List Addr), g1 s H C cl fp = g1 X.s_0 X.H_0 0 [] [] := by intro _ _ _ _ _; rfl) (ett1 : ∀ (s : Shared) (H : Hp) (C : Addr) (cl : List (Str × Addr)) (fp : List Addr), tt1 s H C cl fp = tt1 X.s_0 X.H_0 0 [] [] := by intro _ _ _ _ _; rfl) (ete : ∀ (s : Shared) (H : Hp) (C : Addr) (cl : List (Str × Addr)) (fp : List Addr), te s H C cl fp = te X.s_0 X.H_0 0 [] [] := by intro _ _ _ _ _; rfl) :
    JF X (.ListComp elt [⟨tg, iter, ifs, 0⟩, ⟨tg1, iter1, ifs1, 0⟩] scope pos) (tLc2 wi (g X.s_0 X.H_0 0 [] []) (tt X.s_0 X.H_0 0 [] []) (wi1 X.s_0 X.H_0 0 [] []) (g1 X.s_0 X.H_0 0 [] []) (tt1 X.s_0 X.H_0 0 [] []) (te X.s_0 X.H_0 0 [] []) (own.map (·.2)) vs1) (mLc2 I mg mt I1 mg1 mt1 me (own.map (·.2)) vs1) :=
  ⟨pe_lc2 hc hN hi.pe ok hv (fun s H C cl fp => eg s H C cl fp ▸ (hg s H C cl fp).pe) (fun s H C cl fp => ett s H C cl fp ▸ (ht s H C cl fp).pe) (fun s H C cl fp => ewi1 s H C cl fp ▸ (hi1 s H C cl fp).pe) (fun s H C cl fp => eg1 s H C cl fp ▸ (hg1 s H C cl fp).pe) (fun s H C cl fp => ett1 s H C cl fp ▸ (ht1 s H C cl fp).pe) (fun s H C cl fp => ete s H C cl fp ▸ (he s H C cl fp).pe) hs hs1,
   lc2_sound hi.es (hg X.s_0 X.H_0 0 [] []).es (ht X.s_0 X.H_0 0 [] []).es (hi1 X.s_0 X.H_0 0 [] []).es (hg1 X.s_0 X.H_0 0 [] []).es (ht1 X.s_0 X.H_0 0 [] []).es (he X.s_0 X.H_0 0 [] []).es hj hj1⟩
end
end Dw

set_option maxRecDepth 100000
set_option maxHeartbeats 4000000
/-! Dw15: repr of any data (empty dicts too), isinstance, {}, str(int), join, keywords in any order, tuple * k. -/
namespace Dw
open PySem PySem.Spec PyProof.Rows L2
variable [XCtx]

/-! ### data that may hold empty dicts, as they stand -/
mutual
inductive Dq (H : Hp) : V → PyData → Prop
  | non : Dq H .non .none
  | bl (b : Bool) : Dq H (.bl b) (.bool b)
  | int (i : Int) : Dq H (.int i) (.int i)
  | str (x : Str) : Dq H (.str x) (.str x)
  | lst {a : Addr} {xs : List V} {ds : List PyData} : H a = some (.lst xs) → DqAll H xs ds → Dq H (.ref a) (.list ds)
  | tup {a : Addr} {xs : List V} {ds : List PyData} : TupAt H a xs → DqAll H xs ds → Dq H (.ref a) (.tuple ds)
  | dic {a : Addr} : H a = some (.dK []) → Dq H (.ref a) (.dict [])
  | dic1 {a : Addr} {k : Int} {v : V} {d : PyData} : H a = some (.dK [(.inl k, v)]) → Dq H v d → Dq H (.ref a) (.dict [(.int k, d)])
  | dicN {a : Addr} {kvs : List (Int × Int)} : H a = some (dicO kvs) → Dq H (.ref a) (.dict ((mkN, .none) :: kvs.map fun q => (.int q.1, .int q.2)))
inductive DqAll (H : Hp) : List V → List PyData → Prop
  | nil : DqAll H [] []
  | cons {v : V} {vs : List V} {d : PyData} {ds : List PyData} : Dq H v d → DqAll H vs ds → DqAll H (v :: vs) (d :: ds)
end
mutual
theorem Dn.dq {H : Hp} {Z : Addr → Prop} : ∀ (v : V) (d : PyData), Dn H Z v d → Dq H v d
  | _, _, .non => .non
  | _, _, .bl b => .bl b
  | _, _, .int i => .int i
  | _, _, .str x => .str x
  | _, _, .lst h _ r => .lst h (DnAll.dq _ _ r)
  | _, _, .tup h _ r => .tup h (DnAll.dq _ _ r)
  | _, _, .dic h _ => .dic h
  | _, _, .dic1 h _ r => .dic1 h (Dn.dq _ _ r)
  | _, _, .dicN h _ => .dicN h
theorem DnAll.dq {H : Hp} {Z : Addr → Prop} : ∀ (vs : List V) (ds : List PyData), DnAll H Z vs ds → DqAll H vs ds
  | _, _, .nil => .nil
  | _, _, .cons a b => .cons (Dn.dq _ _ a) (DnAll.dq _ _ b)
end
theorem Tn.dq {W : Wl} {H : Hp} {Z : Addr → Prop} {v : V} {d : PyData} (h : Tn W H Z v d) : Dq H v d := by
  rcases h with h | ⟨p, xs, ds, rfl, rfl, _, hp, r⟩
  · exact Dn.dq _ _ h
  · exact .lst hp (DnAll.dq _ _ r)

section
variable {X : Cx} {pins : List (Addr × Obj)} {σ : L2.St} {H : Hp} {s : Shared}
/-- what stands at an address: a list, a tuple, an empty dict -/
theorem at_list (I : Inv X pins σ H s) {a : Addr} {xs : List V} (h : H a = some (.lst xs)) : ∃ (its : List Value) (o : Obj) (n : Nat), Vals xs its ∧ s.heap.get? a = some o ∧ o.cls = .type "list" ∧ o.data = .seq its.toArray n := by
  obtain ⟨its, rv, ⟨o, n, ho, hc, _, hd⟩, _⟩ := I.list (SqL.of h)
  exact ⟨its, o, n, rv, ho, hc, hd⟩
theorem at_tuple (I : Inv X pins σ H s) {a : Addr} {xs : List V} (h : TupAt H a xs) : ∃ (its : List Value) (o : Obj) (n : Nat), Vals xs its ∧ s.heap.get? a = some o ∧ o.cls = .type "tuple" ∧ o.data = .seq its.toArray n := by
  obtain ⟨its, rv, ⟨o, ho, hc, n, hd⟩, _⟩ := I.tuple (SqT.of h)
  exact ⟨its, o, n, rv, ho, hc, hd⟩
theorem at_dict (I : Inv X pins σ H s) {a : Addr} (h : H a = some (.dK [])) : ∃ (o : Obj) (es : Array DictEntry) (n : Nat), s.heap.get? a = some o ∧ o.cls = .type "dict" ∧ o.data = .dict es n ∧ es.toList = [] ∧ (a == sysModules) = false := by
  obtain ⟨_, hs, vs, kv, o, es, ep, ho, hx, hd, hk, hp, _⟩ : (([] : List (Key × V)).length ≤ sizeLine ∧ (a == sysModules) = false ∧ ∃ vs, KV ([] : List (Key × V)) vs ∧ s.heap.DictOf (mixKind X.prog X.w) a vs) := I.hok a _ h
  refine ⟨o, es, ep, ho, hx.1, hd, ?_, hs⟩
  cases kv
  generalize es.toList = l at hp
  cases hp
  rfl
/-- one key, an int -/
theorem at_dict1 (I : Inv X pins σ H s) {a : Addr} {k : Int} {v : V} (h : H a = some (.dK [(.inl k, v)])) : ∃ (o : Obj) (es : Array DictEntry) (n : Nat) (e : DictEntry) (t : Tok), s.heap.get? a = some o ∧ o.cls = .type "dict" ∧ o.data = .dict es n ∧ es.toList = [e] ∧ e.key = .int k t ∧ RelV v e.val ∧ (a == sysModules) = false := by
  obtain ⟨_, hs, vs, kv, o, es, ep, ho, hx, hd, hk, hp, _⟩ : (([(.inl k, v)] : List (Key × V)).length ≤ sizeLine ∧ (a == sysModules) = false ∧ ∃ vs, KV ([(.inl k, v)] : List (Key × V)) vs ∧ s.heap.DictOf (mixKind X.prog X.w) a vs) := I.hok a _ h
  cases kv with
  | cons q rest =>
    cases rest
    obtain ⟨q1, q2⟩ := q
    generalize hl : es.toList = l at hp
    cases hp with
    | cons i1 i2 i3 =>
      cases i3
      rw [← q1] at i1
      have i1 : keyIs (.inl k) _ = true := i1
      rcases keyIs_shape i1 with ⟨i, t, e1, e2⟩ | ⟨x, t, e1, _⟩
      · cases e1
        exact ⟨o, es, ep, _, t, ho, hx.1, hd, hl, e2, by rw [i2]; exact q2, hs⟩
      · exact nomatch e1
theorem texts_fit {ts : List Str} {n : Nat} (h : (listText ts).length ≤ n) : ∀ t ∈ ts, t.length ≤ n := fun t ht => Nat.le_trans (listText_mem_le ht) h
theorem texts_fitT {ts : List Str} {n : Nat} (h : (tupleText ts).length ≤ n) : ∀ t ∈ ts, t.length ≤ n := fun t ht => Nat.le_trans (tupleText_mem_le ht) h
/-- all that a repr wants to know of a value -/
structure Shn (P : Program) (w : World) (h : Heap) (u : Value) (d : PyData) : Prop where
  ex : ∃ as bs, Reads h u d as ∧ ReadAtMost h d.depth bs ∧ ReprK P w bs h d.depth u d.shown
structure ShnAll (P : Program) (w : World) (h : Heap) (us : List Value) (ds : List PyData) : Prop where
  ex : ∃ as bs, ReadsAll h us ds as ∧ ReadAtMost h (PyData.depthAll ds) bs ∧ ReprAllK P w bs h (PyData.depthAll ds) us (PyData.shownAll ds)
theorem rm_nil {h : Heap} {n : Nat} : ReadAtMost h n [] := fun b hb => nomatch hb
theorem one_fit {x y : Str} (h : (dictText [x ++ ": " ++ y]).length ≤ sizeLine) : y.length ≤ sizeLine := by
  have a := dictText_mem_le (ps := [x ++ ": " ++ y]) (p := x ++ ": " ++ y) (List.mem_singleton.mpr rfl)
  rw [strLen_append] at a
  omega
theorem reads_one {h : Heap} {a : Addr} {o : Obj} {es : Array DictEntry} {n : Nat} {e : DictEntry} {k : Int} {t : Tok} {d : PyData} {as : List Addr} (ho : h.get? a = some o) (hc : o.cls = .type "dict") (hd : o.data = .dict es n) (he : es.toList = [e]) (ek : e.key = .int k t) (q : Reads h e.val d as) : Reads h (.ref a) (.dict [(.int k, d)]) (a :: ([] ++ []) ++ (as ++ [])) :=
  .dict ho hc hd (by rw [he]; show ReadsAll h [e.key] [.int k] _; rw [ek]; exact .cons (.int _ _) .nil) (by rw [he]; exact .cons q .nil)
theorem ents_one {P : Program} {w : World} {as : List Addr} {h : Heap} {m : Nat} {e : DictEntry} {k : Int} {t : Tok} {y : Str} (ek : e.key = .int k t) (hk : k.natAbs.log2 < 1920) (q : ReprK P w as h m e.val y) : ReprEntriesK P w as h m [e] [(PyData.int k).shown ++ ": " ++ y] :=
  .cons (by rw [ek]; simp only [PyData.shown]; exact .of_is (ReprIs.int t hk) _ _ _) q .nil
mutual
theorem shn_of (I : Inv X pins σ H s) : ∀ (d : PyData) (v : V) (u : Value), Dq H v d → RelV v u → d.showable = true → d.shown.length ≤ sizeLine → Shn X.prog X.w s.heap u d
  | .none, _, _, h, r, _, _ => by
    cases h; cases r
    exact ⟨[], [], .none, rm_nil, by simp only [PyData.shown]; exact .of_is ReprIs.none _ _ _⟩
  | .bool b, _, _, h, r, _, _ => by
    cases h; cases r
    exact ⟨[], [], .bool b, rm_nil, by simp only [PyData.shown]; exact .of_is (ReprIs.bool b) _ _ _⟩
  | .int i, _, _, h, r, hs, _ => by
    cases h
    obtain ⟨t, rfl⟩ := r
    exact ⟨[], [], .int i t, rm_nil, by simp only [PyData.shown]; exact .of_is (ReprIs.int t (by simpa only [PyData.showable, decide_eq_true_eq] using hs)) _ _ _⟩
  | .str x, _, _, h, r, _, hz => by
    cases h
    obtain ⟨t, rfl⟩ := r
    exact ⟨[], [], .str x t, rm_nil, by simp only [PyData.shown] at hz ⊢; exact .of_is (ReprIs.str x t hz) _ _ _⟩
  | .list ds, _, _, h, r, hs, hz => by
    cases h with
    | lst hp n =>
      cases r
      obtain ⟨its, o, k, rv, ho, hc, hd⟩ := at_list I hp
      simp only [PyData.shown] at hz
      obtain ⟨as, bs, hr, hb, hk⟩ := (shn_all I ds _ its n rv (by simpa only [PyData.showable] using hs) (texts_fit hz)).ex
      have rd : Reads s.heap (.ref _) (.list ds) _ := .list ho hc hd hr
      have dp : (PyData.list ds).depth = PyData.depthAll ds + 1 := by simp only [PyData.depth]
      have out := not_mem_of_deeper rd (by rw [dp]; exact Nat.lt_succ_self _) hb
      refine ⟨_, _ :: bs, rd, ReadAtMost.cons rd (by rw [dp]; exact Nat.le_succ _) hb, ?_⟩
      rw [dp]
      simp only [PyData.shown]
      cases its with
      | nil =>
        cases hr
        simp only [PyData.shownAll, listText_nil]
        exact .listEmpty ho hc hd
      | cons y ys => exact .list ho hc hd out (by rw [hk.length_eq, List.size_toArray]) fun i z e => hk.item i z (by simpa using e)
  | .tuple ds, _, _, h, r, hs, hz => by
    cases h with
    | tup hp n =>
      cases r
      obtain ⟨its, o, k, rv, ho, hc, hd⟩ := at_tuple I hp
      simp only [PyData.shown] at hz
      obtain ⟨as, bs, hr, hb, hk⟩ := (shn_all I ds _ its n rv (by simpa only [PyData.showable] using hs) (texts_fitT hz)).ex
      have rd : Reads s.heap (.ref _) (.tuple ds) _ := .tuple ho hc hd hr
      have dp : (PyData.tuple ds).depth = PyData.depthAll ds + 1 := by simp only [PyData.depth]
      have out := not_mem_of_deeper rd (by rw [dp]; exact Nat.lt_succ_self _) hb
      refine ⟨_, _ :: bs, rd, ReadAtMost.cons rd (by rw [dp]; exact Nat.le_succ _) hb, ?_⟩
      rw [dp]
      simp only [PyData.shown]
      exact .tuple ho hc hd out hk
  | .dict kvs, _, _, h, r, hs, hz => by
    cases h with
    | dic hp =>
      cases r
      obtain ⟨o, es, n, ho, hc, hd, he, hy⟩ := at_dict I hp
      have rd : Reads s.heap (.ref _) (.dict []) _ := .dict ho hc hd (by rw [he]; exact .nil) (by rw [he]; exact .nil)
      refine ⟨_, [_], rd, ReadAtMost.cons rd (Nat.zero_le _) rm_nil, ?_⟩
      have k := ReprK.dict (prog := X.prog) (w := X.w) (as := []) (d := 0) (ps := []) ho hc hd hy (fun z => nomatch z) (by rw [he]; exact .nil)
      simp only [PyData.depth, PyData.depthKv, PyData.shown, PyData.shownKv]
      exact k
    | dicN hp =>
      simp only [PyData.showable, PyData.showableKv, Bool.and_eq_true] at hs
      exact absurd (hs.1.1.symm.trans mkN_no) (fun h => nomatch h)
    | dic1 hp hr =>
      cases r
      obtain ⟨o, es, n, e, t, ho, hc, hd, he, ek, ev, hy⟩ := at_dict1 I hp
      simp only [PyData.showable, PyData.showableKv, Bool.and_eq_true] at hs
      simp only [PyData.shown, PyData.shownKv] at hz
      rename_i k v d
      obtain ⟨as, bs, q1, q2, q3⟩ := (shn_of I d _ _ hr ev hs.1.2 (one_fit hz)).ex
      have rd := reads_one (k := k) ho hc hd he ek q1
      have dp : (PyData.dict [(.int k, d)]).depth = d.depth + 1 := by simp [PyData.depth, PyData.depthKv]
      have out := not_mem_of_deeper rd (by rw [dp]; exact Nat.lt_succ_self _) q2
      refine ⟨_, _ :: bs, rd, ReadAtMost.cons rd (by rw [dp]; exact Nat.le_succ _) q2, ?_⟩
      rw [dp]
      simp only [PyData.shown, PyData.shownKv]
      exact ReprK.dict ho hc hd hy out (by rw [he]; exact ents_one ek (by simpa only [PyData.showable, decide_eq_true_eq] using hs.1.1) q3)
theorem shn_all (I : Inv X pins σ H s) : ∀ (ds : List PyData) (vs : List V) (us : List Value), DqAll H vs ds → Vals vs us → PyData.showableAll ds = true → (∀ t ∈ PyData.shownAll ds, t.length ≤ sizeLine) → ShnAll X.prog X.w s.heap us ds
  | [], _, _, h, r, _, _ => by
    cases h; cases r
    exact ⟨[], [], .nil, rm_nil, by simp only [PyData.shownAll]; exact .nil⟩
  | d :: ds, _, _, h, r, hs, hz => by
    cases h with
    | cons h1 h2 =>
      cases r with
      | cons r1 r2 =>
        simp only [PyData.showableAll, Bool.and_eq_true] at hs
        simp only [PyData.shownAll, List.mem_cons] at hz
        obtain ⟨as, bs, q1, q2, q3⟩ := (shn_of I d _ _ h1 r1 hs.1 (hz _ (.inl rfl))).ex
        obtain ⟨as', bs', q4, q5, q6⟩ := (shn_all I ds _ _ h2 r2 hs.2 fun t ht => hz t (.inr ht)).ex
        refine ⟨_, bs ++ bs', .cons q1 q4, ?_, ?_⟩
        · simp only [PyData.depthAll]
          exact (q2.mono (Nat.le_max_left _ _)).append (q5.mono (Nat.le_max_right _ _))
        · simp only [PyData.depthAll, PyData.shownAll]
          exact .cons ((q3.more fun b z => List.mem_append_left _ z).level_le (Nat.le_max_left _ _)) (q6.more_le (fun b z => List.mem_append_right _ z) (Nat.le_max_right _ _))
end
end
def fReprA (ds : List PyData) (P : PyData → Prop) : Prop := on1 ds fun d => d.showable = true ∧ d.depth ≤ 60 ∧ d.shown.length ≤ sizeLine ∧ P (.str d.shown)
def rReprU : List V → Hp → VK → Prop := fun vs H Q => ∃ (v : V) (d : PyData), vs = [v] ∧ Dq H v d ∧ d.showable = true ∧ d.depth ≤ 60 ∧ d.shown.length ≤ sizeLine ∧ Q (.str d.shown) H
theorem call_reprA {X : Cx} (hG : X.A.guards = some []) (hu : X.A.units + 64 < cLine) : CallR X (.builtin "repr") rReprU := by
  intro pins s σ H xs us Q I r h
  obtain ⟨v, d, rfl, hd, h1, h2, h3, q⟩ := h
  obtain ⟨u, rfl, ru⟩ := vals1 r
  have fin : ∀ (h' : Heap) (y tk : Tok), (∀ b o, s.heap.get? b = some o → h'.get? b = some o) → EP X pins σ Q (.str d.shown y) { s with heap := h', toks := tk } := fun h' y tk k => ⟨.str _, H, I.kept k, ⟨y, rfl⟩, q⟩
  have same : ∀ b o, s.heap.get? b = some o → s.heap.get? b = some o := fun _ _ e => e
  cases hd with
  | non => cases ru; simp only [PyData.shown] at fin; exact PySem.P.repr_of_none (fin s.heap _ _ same)
  | bl b => cases ru; simp only [PyData.shown] at fin; exact PySem.P.repr_of_bool (fin s.heap _ _ same)
  | int i =>
    obtain ⟨t, rfl⟩ := ru
    simp only [PyData.shown] at fin
    exact PySem.P.repr_of_int (by simpa only [PyData.showable, decide_eq_true_eq] using h1) (fin s.heap _ _ same)
  | str x =>
    obtain ⟨t, rfl⟩ := ru
    simp only [PyData.shown] at fin h3
    exact PySem.P.repr_of_str (fin s.heap _ _ same) h3
  | @lst a xs ds hp n =>
    cases ru
    obtain ⟨its, o, k, rv, ho, hc, hdt⟩ := at_list I hp
    have dp : (PyData.list ds).depth = PyData.depthAll ds + 1 := by simp only [PyData.depth]
    rw [dp] at h2
    simp only [PyData.shown] at h3 fin
    obtain ⟨as, bs, hr, hb, hk⟩ := (shn_all I ds _ its n rv (by simpa only [PyData.showable] using h1) (texts_fit h3)).ex
    have out := not_mem_of_deeper (Reads.list ho hc hdt hr) (by rw [dp]; exact Nat.lt_succ_self _) hb
    refine call_repr_slot (by omega) ⟨o, ho, hc⟩ F.slot_list_repr.toG ?_
    cases its with
    | nil =>
      cases hr
      simp only [PyData.shownAll, listText_nil] at fin
      exact call_list_repr_empty ⟨o, ho, hc⟩ ho hdt ⟨_, _, rfl, fin s.heap _ _ same⟩
    | cons y ys => exact call_list_reprK (A := X.A.in1) ho hc hdt out (by rw [hk.length_eq, List.size_toArray]) (fun i z e => hk.item i z (by simpa using e)) hG (fun b _ => Clear.nil b) (by show X.A.units + 1 + _ < _; omega) same (fun h' y tk k => ⟨_, _, rfl, fin h' y tk k⟩) h3
  | @tup a xs ds hp n =>
    cases ru
    obtain ⟨its, o, k, rv, ho, hc, hdt⟩ := at_tuple I hp
    have dp : (PyData.tuple ds).depth = PyData.depthAll ds + 1 := by simp only [PyData.depth]
    rw [dp] at h2
    simp only [PyData.shown] at h3 fin
    obtain ⟨as, bs, hr, hb, hk⟩ := (shn_all I ds _ its n rv (by simpa only [PyData.showable] using h1) (texts_fitT h3)).ex
    have out := not_mem_of_deeper (Reads.tuple ho hc hdt hr) (by rw [dp]; exact Nat.lt_succ_self _) hb
    exact call_repr_slot (by omega) ⟨o, ho, hc⟩ F.slot_tuple_repr (call_tuple_reprK (A := X.A.in1) ho hc hdt out hk hG (fun b _ => Clear.nil b) (by show X.A.units + 1 + _ < _; omega) same (fun h' y tk k => ⟨_, _, rfl, fin h' y tk k⟩) h3)
  | @dicN a kvs hp =>
    simp only [PyData.showable, PyData.showableKv, Bool.and_eq_true] at h1
    exact absurd (h1.1.1.symm.trans mkN_no) (fun h => nomatch h)
  | @dic1 a k v d hp hr =>
    cases ru
    obtain ⟨o, es, n, e, t, ho, hc, hdt, he, ek, ev, hy⟩ := at_dict1 I hp
    have dp : (PyData.dict [(.int k, d)]).depth = d.depth + 1 := by simp [PyData.depth, PyData.depthKv]
    rw [dp] at h2
    simp only [PyData.showable, PyData.showableKv, Bool.and_eq_true] at h1
    simp only [PyData.shown, PyData.shownKv] at h3 fin
    obtain ⟨as, bs, q1, q2, q3⟩ := (shn_of I d _ _ hr ev h1.1.2 (one_fit h3)).ex
    have out := not_mem_of_deeper (reads_one (k := k) ho hc hdt he ek q1) (by rw [dp]; exact Nat.lt_succ_self _) q2
    have ents := ents_one ek (by simpa only [PyData.showable, decide_eq_true_eq] using h1.1.1) q3
    exact call_repr_slot (by omega) ⟨o, ho, hc⟩ F.slot_dict_repr (call_dict_reprK (A := X.A.in1) ho hc hdt hy out (by rw [he]; exact ents) hG (fun b _ => Clear.nil b) (by show X.A.units + 1 + _ < _; omega) same (fun h' y tk k => ⟨_, _, rfl, fin h' y tk k⟩) h3)
  | @dic a hp =>
    cases ru
    obtain ⟨o, es, n, ho, hc, hdt, he, hy⟩ := at_dict I hp
    simp only [PyData.shown, PyData.shownKv] at h3 fin
    exact call_repr_slot (by omega) ⟨o, ho, hc⟩ F.slot_dict_repr (call_dict_reprK (A := X.A.in1) (d := 0) (as := []) (ps := []) ho hc hdt hy (fun z => nomatch z) (by rw [he]; exact .nil) hG (fun b _ => Clear.nil b) (by show X.A.units + 1 + _ < _; omega) same (fun h' y tk k => ⟨_, _, rfl, fin h' y tk k⟩) h3)
theorem rs_reprA : RS rReprU fReprA := by
  intro W Z O env σ H0 H vs ds P Q R hv hf k
  obtain ⟨d, rfl, h1, h2, h3, hp⟩ := on1_iff hf
  obtain ⟨v, rfl, hw⟩ := hv.one
  exact ⟨v, d, rfl, hw.dq, h1, h2, h3, k _ _ H hp .refl (.str _)⟩
section
variable {X : Cx} {e : Expr} {t : TA} {M : ML} {pos p : Pos}
theorem je_reprA (hG : X.A.guards = some []) (hu : X.A.units + 64 < cLine) (hm : X.mg "repr" = none) (ha : JAb X [e] t M) (hg : Gl X "repr" := by rfl) (he : starEach [e] X.env = (false, eval e X.env) :: starEach [] X.env := by rfl) : JE X (.Call (.Name "repr" p) [e] [] pos) (tCB rReprU t) (mBl fReprA M) := je_B (call_reprA hG hu) rs_reprA hm (by decide +kernel) ha hg (by decide) (by decide) he rfl
end

/-! ### isinstance(x, T), T a built-in class -/
def tyN : PyData → String
  | .none => "NoneType"
  | .bool _ => "bool"
  | .int _ => "int"
  | .str _ => "str"
  | .list _ => "list"
  | .tuple _ => "tuple"
  | .dict _ => "dict"
def isI : PyData → Bool
  | .int _ => true
  | .bool _ => true
  | _ => false
def isB : PyData → Bool
  | .bool _ => true
  | _ => false
def isT : PyData → Bool
  | .tuple _ => true
  | _ => false
def isS : PyData → Bool
  | .str _ => true
  | _ => false
def isL : PyData → Bool
  | .list _ => true
  | _ => false
def KitF (T : String) (f : PyData → Bool) : Prop := ∀ d, kitB (tyN d) T = some (f d)
theorem kit_int : KitF "int" isI
  | .none => (by decide +kernel : kitB "NoneType" "int" = some false)
  | .bool _ => (by decide +kernel : kitB "bool" "int" = some true)
  | .int _ => (by decide +kernel : kitB "int" "int" = some true)
  | .str _ => (by decide +kernel : kitB "str" "int" = some false)
  | .list _ => (by decide +kernel : kitB "list" "int" = some false)
  | .tuple _ => (by decide +kernel : kitB "tuple" "int" = some false)
  | .dict _ => (by decide +kernel : kitB "dict" "int" = some false)
theorem kit_bool : KitF "bool" isB
  | .none => (by decide +kernel : kitB "NoneType" "bool" = some false)
  | .bool _ => (by decide +kernel : kitB "bool" "bool" = some true)
  | .int _ => (by decide +kernel : kitB "int" "bool" = some false)
  | .str _ => (by decide +kernel : kitB "str" "bool" = some false)
  | .list _ => (by decide +kernel : kitB "list" "bool" = some false)
  | .tuple _ => (by decide +kernel : kitB "tuple" "bool" = some false)
  | .dict _ => (by decide +kernel : kitB "dict" "bool" = some false)
theorem kit_tuple : KitF "tuple" isT
  | .none => (by decide +kernel : kitB "NoneType" "tuple" = some false)
  | .bool _ => (by decide +kernel : kitB "bool" "tuple" = some false)
  | .int _ => (by decide +kernel : kitB "int" "tuple" = some false)
  | .str _ => (by decide +kernel : kitB "str" "tuple" = some false)
  | .list _ => (by decide +kernel : kitB "list" "tuple" = some false)
  | .tuple _ => (by decide +kernel : kitB "tuple" "tuple" = some true)
  | .dict _ => (by decide +kernel : kitB "dict" "tuple" = some false)
theorem kit_str : KitF "str" isS
  | .none => (by decide +kernel : kitB "NoneType" "str" = some false)
  | .bool _ => (by decide +kernel : kitB "bool" "str" = some false)
  | .int _ => (by decide +kernel : kitB "int" "str" = some false)
  | .str _ => (by decide +kernel : kitB "str" "str" = some true)
  | .list _ => (by decide +kernel : kitB "list" "str" = some false)
  | .tuple _ => (by decide +kernel : kitB "tuple" "str" = some false)
  | .dict _ => (by decide +kernel : kitB "dict" "str" = some false)
theorem kit_list : KitF "list" isL
  | .none => (by decide +kernel : kitB "NoneType" "list" = some false)
  | .bool _ => (by decide +kernel : kitB "bool" "list" = some false)
  | .int _ => (by decide +kernel : kitB "int" "list" = some false)
  | .str _ => (by decide +kernel : kitB "str" "list" = some false)
  | .list _ => (by decide +kernel : kitB "list" "list" = some true)
  | .tuple _ => (by decide +kernel : kitB "tuple" "list" = some false)
  | .dict _ => (by decide +kernel : kitB "dict" "list" = some false)
theorem Dq.ty {K : PySem.W.Frag} {H : Hp} {v : V} {d : PyData} (h : Dq H v d) : TyX K H v (.type (tyN d)) := by
  cases h with
  | non => exact .base .non
  | bl b => exact .base (.bl b)
  | int i => exact .base (.int i)
  | str x => exact .base (.str x)
  | lst h _ => exact .base (.lst h)
  | tup h _ => exact let ⟨_, q, _⟩ := h; .fTuple q
  | dic h => exact .base (.dK h)
  | dic1 h _ => exact .base (.dK h)
  | dicN h => exact .base (.dK h)
def mIsi (f : PyData → Bool) (A : ME) : ME := fun env P => A env fun d => P (.bool (f d))
section
variable {X : Cx} {e : Expr} {t : TE} {A : ME} {pos p q : Pos} {T : String} {x : Str} {f : PyData → Bool}
theorem isi_sound {K : PySem.W.Frag} (hf : KitF T f) (h : BS t A) : ES (tCB (rIsi K) (tCons t (tCons (tC (.ty T)) tNil))) (mIsi f A) := by
  intro W Z O env σ H0 H P Q R hm k
  refine h W Z O env σ H0 H _ _ R hm fun d v H1 p1 g1 n1 => ?_
  exact ⟨v, .ty T, .type (tyN d), .type T, f d, rfl, .ty T, n1.dq.ty, kit_ty (hf d), k _ _ H1 p1 g1 (.bl _)⟩
theorem je_isi (hm : X.mg "isinstance" = none) (hx : X.mg x = none) (hf : KitF T f) (hb : bootBuiltins x = some (.type T)) (ha : JB X e t A) (hg : Gl X "isinstance" := by rfl) (hgx : Gl X x := by rfl) (hn : x ≠ "__name__" := by decide) (hdb : (x == ("__debug__" : Str)) = false := by decide)
    (h1 : starEach [e, .Name x q] X.env = (false, eval e X.env) :: starEach [.Name x q] X.env := by rfl) (h2 : starEach [.Name x q] X.env = (false, eval (.Name x q) X.env) :: starEach [] X.env := by rfl) (hpl : (backTo pos (starEach [.Name x q] X.env)).any (·.1) = false := by rfl) :
    JE X (.Call (.Name "isinstance" p) [e, .Name x q] [] pos) (tCB (rIsi X.K) (tCons t (tCons (tC (.ty T)) tNil))) (mIsi f A) :=
  ⟨pe_callB call_isi hg hm (by decide +kernel) (pa_cons ha.pe (pa_cons (pe_bltn hgx hx hb rfl hn hdb) pa_nil h2) h1) (by decide) (by decide) h1 hpl, isi_sound hf ha.es⟩
end

/-! ### {}, str(i), sep.join(texts) -/
def fStrI (ds : List PyData) (P : PyData → Prop) : Prop := on1 ds fun a => onI a fun i => i.natAbs.log2 < 1920 ∧ P (.str (toString i))
theorem rs_strI : RS (fun xs H Q => ∃ i, xs = [V.int i] ∧ i.natAbs.log2 < 1920 ∧ Q (.str (toString i)) H) fStrI := by
  intro W Z O env σ H0 H vs ds P Q R hv hf k
  obtain ⟨d, rfl, hf⟩ := on1_iff hf
  obtain ⟨v, rfl, hw⟩ := hv.one
  obtain ⟨i, rfl, hl, hp⟩ := onI_iff hf
  exact ⟨i, by rw [hw.int], hl, k _ _ H hp .refl (.str _)⟩
def mJoin (A B : ME) : ME := fun env P => A env fun x => onS x fun a => B env fun y => onLU y fun zs => ∃ ys : List Str, zs = ys.map PyData.str ∧ (ys.map (·.length)).sum + ys.length * a.length ≤ 16777216 ∧ P (.str (Txt.join a ys))
theorem DnAll.strs {H : Hp} {Z : Addr → Prop} : ∀ {ns : List Str} {vs : List V}, DnAll H Z vs (ns.map PyData.str) → vs = ns.map V.str
  | [], _, .nil => rfl
  | n :: ns, _, .cons (.str _) r => by rw [r.strs]; rfl
section
variable {X : Cx} {o e : Expr} {to te : TE} {t : TA} {M : ML} {A B : ME} {pos p apos : Pos}
theorem je_strI (hm : X.mg "str" = none) (ha : JAb X [e] t M) (hg : Gl X "str" := by rfl) (he : starEach [e] X.env = (false, eval e X.env) :: starEach [] X.env := by rfl) : JE X (.Call (.Name "str" p) [e] [] pos) (tCB (fun xs H Q => ∃ i, xs = [V.int i] ∧ i.natAbs.log2 < 1920 ∧ Q (.str (toString i)) H) t) (mBl fStrI M) := je_Ty call_str_int rs_strI hm (by decide +kernel) ha hg (by decide) (by decide) he rfl
theorem je_dic0 : JE X (.Dict [] [] pos) tDNewK (mC (.dict [])) := ⟨pe_dnewK, fun W Z O env σ H0 H P Q R hm k p hp => k _ _ _ hm (.new hp) (.dic upd_same (R.new hp))⟩
theorem je_join (ho : JB X o to A) (he : JB X e te B) (hs : starEach [e] X.env = [(false, eval e X.env)] := by rfl) (hbase : attributeBase o "join" X.env (eval o X.env) = eval o X.env := by rfl) (hline : (apos.endLine == pos.line) = true := by rfl) :
    JE X (.Call (.Attribute o "join" apos) [e] [] pos) (tM1 (fun x xs H Q => ∃ a p, ∃ ys : List Str, x = .str a ∧ xs = [.ref p] ∧ (SqL X.K H p (ys.map V.str) ∨ SqT X.K H p (ys.map V.str)) ∧ (ys.map (·.length)).sum + ys.length * a.length ≤ 16777216 ∧ Q (.str (Txt.join a ys)) H) to te) (mJoin A B) :=
  ⟨pe_join ho.pe he.pe hs hbase hline, by
    intro W Z O env σ H0 H P Q R hm k
    refine ho.es W Z O env σ H0 H _ _ R hm fun d v H1 p1 g1 n1 => ?_
    obtain ⟨a, rfl, p1⟩ := onS_iff p1
    refine ⟨⟨a, n1.str⟩, he.es W Z O env σ H0 H1 _ _ (R.tr g1) p1 fun d2 v2 H2 p2 g2 n2 => ?_⟩
    obtain ⟨zs, e, ys, rfl, hl, p3⟩ := onLU_iff p2
    rcases e with rfl | rfl
    · obtain ⟨p, xs, rfl, hp, r⟩ := n2.list
      obtain rfl := r.strs
      exact ⟨a, p, ys, n1.str, rfl, .inl (SqL.of hp), hl, k _ _ H2 p3 (g1.trans g2) (.str _)⟩
    · obtain ⟨p, xs, rfl, hp, _, r⟩ := n2.tuple
      obtain rfl := r.strs
      exact ⟨a, p, ys, n1.str, rfl, .inr (SqT.of hp), hl, k _ _ H2 p3 (g1.trans g2) (.str _)⟩⟩
end

/-! ### f(k=.., ..): all by names, in any order -/
def pmG (n : Nat) (pm : List Nat) (us ws : List Value) : List Value := if us.isEmpty && ws.length == n then pm.map fun i => ws.getD i .none else []
def pmV (n : Nat) (pm : List Nat) (us ws : List V) : List V := if us.isEmpty && ws.length == n then pm.map fun i => ws.getD i .non else []
def pmC (n : Nat) (pm : List Nat) (us ws : List Cell) : List Cell := if us.isEmpty && ws.length == n then pm.map fun i => ws.getD i .non else []
theorem vals_getD {zs : List V} {ws : List Value} (a : Vals zs ws) : ∀ i : Nat, RelV (zs.getD i .non) (ws.getD i .none) := by
  induction a with
  | nil => intro i; exact rfl
  | cons x _ ih =>
    intro i
    cases i with
    | zero => exact x
    | succ i => exact ih i
theorem vals_pm {n : Nat} {pm : List Nat} {vs : List V} {us : List Value} {zs : List V} {ws : List Value} (a : Vals vs us) (b : Vals zs ws) : Vals (pmV n pm vs zs) (pmG n pm us ws) := by
  have e : (vs.isEmpty && zs.length == n) = (us.isEmpty && ws.length == n) := by
    rw [b.length]
    cases a <;> rfl
  unfold pmV pmG
  rw [e]
  split
  · induction pm with
    | nil => exact .nil
    | cons i r ih => exact .cons (vals_getD b i) ih
  · exact .nil
theorem arg_getD {W : Wl} {H : Hp} {Z : Addr → Prop} {zs : List V} {ds : List Cell} (a : ArgAll W H Z zs ds) : ∀ i : Nat, i < ds.length → ArgR W H Z (zs.getD i .non) (ds.getD i .non) := by
  induction a with
  | nil => intro i h; exact absurd h (Nat.not_lt_zero i)
  | cons x _ ih =>
    intro i h
    cases i with
    | zero => exact x
    | succ i => exact ih i (Nat.lt_of_succ_lt_succ h)
theorem perm_pm {n : Nat} {pm : List Nat} (h : ∀ i ∈ pm, i < n) : PermC (pmG n pm) (pmV n pm) (pmC n pm) 0 n pm.length := ⟨fun W H Z vs zs cs ds h1 h2 a b => by
  cases a with
  | cons _ _ => cases h1
  | nil =>
    unfold pmV pmC
    rw [b.length, h2]
    simp only [List.isEmpty_nil, beq_self_eq_true, Bool.and_self, if_true, List.length_map, and_true]
    induction pm with
    | nil => exact .nil
    | cons i r ih => exact .cons (arg_getD b i (by rw [h2]; exact h i List.mem_cons_self)) (ih fun j hj => h j (List.mem_cons_of_mem _ hj))⟩
theorem kb_pm {x qual : Str} {st : Stmt} {K : PySem.W.Frag} {f : Addr} {fd : FuncData} {ps ks : List Str} {n : Nat} {pm : List Nat} (F : Fun K x qual st f fd) (hp : ps ≠ [])
    (h : ∀ (kV doc pm' : Value) (an : Option Addr) (cdv ct : Value) (ws : List Value), ws.length = n → bindArgs (PySem.W.fnOf x qual (defArgs st) (defBody st) (defScope st) .none kV doc pm' an cdv ct) ⟨[], ks.zip ws⟩ = pure (ps.zip (pm.map fun i => ws.getD i .none))) : KBinds K fd ps ks (pmG n pm) (pmV n pm) := by
  obtain ⟨oc, od, kV, doc, pm', an, cdv, ct, osl, rfl, lk, hcd⟩ := F.ex
  refine ⟨fun s us ws _ hl => ?_, vals_pm⟩
  unfold pmG at hl ⊢
  split at hl
  · rename_i c
    simp only [Bool.and_eq_true, beq_iff_eq, List.isEmpty_iff] at c
    obtain ⟨rfl, c⟩ := c
    rw [if_pos (by simp [c])]
    exact .of_eq (h kV doc pm' an cdv ct ws c)
  · exact absurd (List.eq_nil_of_length_eq_zero hl.symm) hp

/-! ### tuple * k, k from 1 on -/
theorem tuple_mul1 (l : Addr) (items : Array Value) (n : Nat) (dd : Option Addr) (sl : Array (Option Value)) (u : Tok) :
    Meets (Builtin.«tuple.__mul__» ⟨[.ref l, .int 1 u], []⟩) (fun _ R s => s.heap.get? l = some { cls := .type "tuple", dict := dd, data := .seq items n, slots := sl } ∧ R (.ok (.ret (Value.ref l))) s) :=
  .of_wp fun prog w A R s h => by
    obtain ⟨hp, g, d, tk, os⟩ := s
    obtain ⟨hl, h⟩ := h
    have f1 := AutoSeq1.idx_int
    wp_walk using wpAny_loadPart' hl
    exact ⟨_, rfl, h⟩
def rRep1 (K : PySem.W.Frag) : R2 := fun x y H Q => ∃ l xs, x = .ref l ∧ y = .int 1 ∧ SqT K H l xs ∧ Q (.ref l) H
theorem op_rep1 {X : Cx} : OpR X (binaryOp .Mult) (rRep1 X.K) := by
  intro pins s σ H x y v u Q I rx ry h
  obtain ⟨l, xs, rfl, rfl, hT, q⟩ := h
  cases rx
  obtain ⟨t, rfl⟩ := ry
  obtain ⟨its, r, ⟨⟨cls, dd, data, sl⟩, ho, hc, n, hd⟩, hs⟩ := I.tuple hT
  simp only at hc hd
  subst hc hd
  exact wpAny_binaryOp_repeat_ref (T := "tuple") (U := "int") (by decide) ⟨_, ho, rfl⟩ (fun s' => typeIs_int s' 1 t) noFill_tuple_mul F.fills_int_mul F.slot_int_rmul repeat_tuple F.slot_int_index.lookup
    (call_meets F.slot_int_rmul (typeIs_int s 1 t) F.entry_int_rmul (F.args_int_rmul_2 _ _) (int_rmul_tuple 1 t l its.toArray n dd sl)
      ⟨ho, rfl, ⟨_, ho, rfl⟩, call_meets F.slot_tuple_mul ⟨_, ho, rfl⟩ F.entry_tuple_mul (F.args_tuple_mul_2 _ _) (tuple_mul1 l its.toArray n dd sl t) ⟨ho, ⟨.ref l, H, I, rfl, q⟩⟩⟩)
def fMulB (x y : PyData) (P : PyData → Prop) : Prop := match x, y with
  | .int i, .int j => CMul i j ∧ P (.int (i * j))
  | .list a, .int k => -(2 ^ 63) ≤ k ∧ k < 2 ^ 63 ∧ a.length * k.toNat ≤ 100000 ∧ P (.list (List.replicate k.toNat a).flatten)
  | .tuple a, .int k => OldT ∧ a ≠ [] ∧ 1 ≤ k ∧ k ≤ 1000 ∧ a.length ≤ 1000 ∧ P (.tuple (List.replicate k.toNat a).flatten)
  | _, _ => False
def rMulB (K : PySem.W.Frag) : R2 := fun x y H Q => rMulA K x y H Q ∨ rRep1 K x y H Q
theorem s_mulB {K : PySem.W.Frag} : R2S (rMulB K) fMulB := by
  intro W Z O env σ H0 H x y d d' P Q R hx hy hf k
  cases d <;> cases d' <;> first | exact hf.elim | skip
  · exact .inl (s_mulA W Z O env σ H0 H x y _ _ P Q R hx hy hf k)
  · exact .inl (s_mulA W Z O env σ H0 H x y _ _ P Q R hx hy hf k)
  · rename_i a kk
    obtain ⟨h0, h1, h2, h3, h4, h5⟩ := hf
    by_cases e : kk = 1
    · subst e
      obtain ⟨p, xs, rfl, hp, nz, r⟩ := hx.tuple
      refine .inr ⟨p, xs, rfl, hy.int, SqT.of hp, k _ _ H h5 .refl ?_⟩
      rw [show (List.replicate (1 : Int).toNat a).flatten = a from List.append_nil a]
      exact .tup hp nz r
    · exact .inl (s_mulA W Z O env σ H0 H x y _ _ P Q R hx hy ⟨h0, h1, by omega, h3, h4, h5⟩ k)
section
variable {X : Cx} {a b : Expr} {ta tb : TE} {A B : ME} {pos : Pos}
theorem je_mulB (ha : JB X a ta A) (hb : JB X b tb B) : JE X (.BinOp a .Mult b pos) (tOp (rMulB X.K) ta tb) (m2 fMulB A B) := je_op (OpR.or (OpR.or (OpR.or op_mul op_rep) op_repT) op_rep1) s_mulB ha hb
end
end Dw

set_option maxRecDepth 100000
set_option maxHeartbeats 4000000
/-! Dw16: exceptions of classes of one's own, made without arguments: raise, calls that may raise, try. -/
namespace Dw
open PySem PySem.Spec PyProof.Rows L2

/-! ### a def's promise, with what it may raise (by the classes' names) -/
abbrev PreX := List Cell → (PyData → Prop) → (Str → Prop) → Prop
abbrev DX := Str → Cells → Prop
def SpX (mg : Str → Option Value) (n : Nat) (pre : PreX) : Sp := fun vs H Q E => vs.length = n ∧ ∃ (W : Wl) (Z : Addr → Prop) (cs : List Cell) (P : PyData → Prop) (XP : Str → Prop), WOk W H ∧ (∀ a, Mu W a → Z a) ∧ (∀ a, Z a → NT (H a)) ∧ ArgAll W H Z vs cs ∧ pre cs P XP ∧
  (∀ d v H', P d → Ge W H H' → Dn H' Z v d → Q v H') ∧ ∀ (x : Str) (C : Addr) (H' : Hp), mg x = some (.ref C) → XP x → Ge W H H' → E (.ref C) none H'
def mCallX (D : DX) (pre : PreX) (A : MC) : ME := fun env P => A env fun cs => pre cs P fun x => D x env
def mCallXK (D : DX) (pre : PreX) (gC : List Cell → List Cell → List Cell) (A B : MC) : ME := fun env P => A env fun cs => B env fun ds => pre (gC cs ds) P fun x => D x env
def tCallKS (sp : Sp) (gV : List V → List V → List V) (E : L2.St → XK) (t tk : TA) : TE := fun σ H Q => t σ H fun vs H1 => tk σ H1 fun zs H2 => sp (gV vs zs) H2 Q (E σ)
section
variable [ξ : XCtx] {n n1 n2 : Nat} {tr tk : TA} {M M2 : MC} {pre : PreX}
theorem Rel.exc {W : Wl} {Z O : Addr → Prop} {env : Cells} {σ : L2.St} {H0 H H' : Hp} (R : Rel W Z O env σ H0 H) {x : Str} {C : Addr} (hm : ξ.mg x = some (.ref C)) (hd : ξ.D x env) (g : Ge W H H') : ξ.E (.ref C) none σ H' :=
  R.xr.ex x C O env σ H' hm (R.tr g).toRelB (.ge g R.wl R.mz) hd
theorem callX_sound (h : CS n tr M) : ES (tCallS (SpX ξ.mg n pre) (WE ξ.E) tr) (mCallX ξ.D pre M) := by
  intro W Z O env σ H0 H P Q R hm k
  refine h W Z O env σ H0 H _ _ R hm fun cs vs H1 p1 l1 g1 a1 => ?_
  have R1 := R.tr g1
  exact ⟨by rw [a1.length, l1], W, ZO Z O, cs, P, _, R1.wl, fun a m => .inl (R.mz a m), R1.zh, a1, p1, fun d v H2 p2 g2 n2 => k d v H2 p2 (g1.trans g2) n2, fun x C H2 hx hd g2 => R1.exc hx hd g2⟩
theorem callXK_sound {g : List Value → List Value → List Value} {gV : List V → List V → List V} {gC : List Cell → List Cell → List Cell} (pc : PermC g gV gC n1 n2 n) (h : CS n1 tr M) (h2 : CS n2 tk M2) : ES (tCallKS (SpX ξ.mg n pre) gV (WE ξ.E) tr tk) (mCallXK ξ.D pre gC M M2) := by
  intro W Z O env σ H0 H P Q R hm k
  refine h W Z O env σ H0 H _ _ R hm fun cs vs H1 p1 l1 g1 a1 => ?_
  refine h2 W Z O env σ H0 H1 _ _ (R.tr g1) p1 fun ds zs H2 p2 l2 g2 a2 => ?_
  have R2 := (R.tr g1).tr g2
  obtain ⟨a3, l3⟩ := pc.arg W H2 (ZO Z O) vs zs cs ds l1 l2 (ArgAll.ge g2 R.mz a1) a2
  exact ⟨by rw [a3.length, l3], W, ZO Z O, _, P, _, R2.wl, fun a m => .inl (R.mz a m), R2.zh, a3, p2, fun d v H3 p3 g3 n3 => k d v H3 p3 ((g1.trans g2).trans g3) n3, fun x C H3 hx hd g3 => R2.exc hx hd g3⟩
end

/-! ### calls -/
section
variable {X : Cx} {C : CXT} {k : Nat} {f : Addr} {fd : FuncData} {ps ks : List Str} {sp : Sp} {E : L2.St → XK} {x : Str} {p pos : Pos} {e : Expr} {es : List Expr} {t tk : TA} {kws : List Keyword} {g : List Value → List Value → List Value} {gV : List V → List V → List V}
theorem run_fngS {pins : List (Addr × Obj)} {σ : L2.St} {H : Hp} {s : Shared} {Q : VK} {us ws : List Value} {kw : List (Str × Value)} {vs : List V} {E1 : XK} (F : FnG X.prog X.w X.K X.mg X.base C k f fd ps sp) (hr : Room k X.A) (hG : X.A.guards = some [])
    (hb : BindsTo s fd ⟨us, kw⟩ (ps.zip ws)) (r2 : Vals vs ws) (hx : PassesAt C X σ E1) (I : Inv X pins σ H s) (h : sp vs H Q E1) : wpAny (model X.prog X.w) X.A (call (.ref f) us kw) (EP X pins σ Q) X.xe s := by
  refine wpAny_call (codeAny_mono (F.run X.A X.stack s H ⟨us, kw⟩ ws vs Q E1 hr hG I.env0 hb r2 h) fun r s' hq => ?_)
  cases r with
  | error z => exact hx pins H s z s' I hq
  | ok fl => cases fl <;> first | exact I.after hq | exact False.elim hq
theorem pe_callGS (F : FnG X.prog X.w X.K X.mg X.base C k f fd ps sp) (hr : Room k X.A) (hG : X.A.guards = some []) (hg : Gl X x) (hm : X.mg x = some (.ref f)) (hk : PySem.W.keepIn X.K (.ref f) = true) (hb : Binds X.K fd ps []) (hx : ∀ σ, PassesAt C X σ (E σ))
    (ha : PA X (e :: es) t) (hdb : (x == ("__debug__" : Str)) = false := by decide) (he : starEach (e :: es) X.env = (false, eval e X.env) :: starEach es X.env := by rfl) (hpl : (backTo pos (starEach es X.env)).any (·.1) = false := by rfl) :
    PE X (.Call (.Name x p) (e :: es) [] pos) (tCallS sp E t) := by
  constructor
  intro pins s σ H Q I h
  refine wpAny_Call_Name_kw (ld_glob I hg hm (PySem.W.callWith_K (h₀ := X.base) I.ok.mod.kin hk (thn (ha.run pos pins s σ H _ I h) ?_) he hpl) hdb)
  rintro us s1 ⟨vs, H1, I1, r, q⟩
  have hl : (us ++ []).length = ps.length := by rw [List.append_nil, ← r.length]; exact F.len _ _ _ _ q
  have hb' := hb s1 us I1.kIn hl
  rw [List.append_nil] at hb'
  exact ⟨I1.kIn, run_fngS F hr hG hb' r (hx σ) I1 q⟩
theorem pe_callGSK0 (F : FnG X.prog X.w X.K X.mg X.base C k f fd ps sp) (hr : Room k X.A) (hG : X.A.guards = some []) (hg : Gl X x) (hm : X.mg x = some (.ref f)) (hk : PySem.W.keepIn X.K (.ref f) = true) (hb : KBinds X.K fd ps ks g gV) (hx : ∀ σ, PassesAt C X σ (E σ))
    (hkw : PK X kws tk) (hall : (backToKw pos (keywordEach kws X.env)).all (·.1.isSome) = true := by rfl) (hks : (backToKw pos (keywordEach kws X.env)).filterMap (·.1) = ks := by rfl)
    (hdb : (x == ("__debug__" : Str)) = false := by decide) (hpl : ((backTo pos (starEach [] X.env)).any (·.1) || (backToKw pos (keywordEach kws X.env)).any (·.1.isNone)) = false := by rfl) : PE X (.Call (.Name x p) [] kws pos) (tCallKS sp gV E tNil tk) := by
  constructor
  intro pins s σ H Q I h
  refine wpAny_Call_Name_kw (ld_glob I hg hm (PySem.W.callWith_KW0 (h₀ := X.base) I.ok.mod.kin hk hall (thn (hkw.run pos pins s σ H _ I h) ?_) hpl) hdb)
  rintro ws s2 ⟨zs, H2, I2, rz, q2⟩
  rw [hks]
  have r2 := hb.rel (vs := []) (us := []) .nil rz
  have hl : (g [] ws).length = ps.length := by rw [← r2.length]; exact F.len _ _ _ _ q2
  exact ⟨I2.kIn, run_fngS F hr hG (hb.to s2 [] ws I2.kIn hl) r2 (hx σ) I2 q2⟩
end
/-- a def that may raise, as it is called -/
structure CalX (P : Program) (w : World) (K : PySem.W.Frag) (mg : Str → Option Value) (bs : Heap) (k : Nat) (x : Str) (st : Stmt) (ps : List Str) (n : Nat) (pre : PreX) : Prop where
  ex : ∃ f fd, FnG P w K mg bs (L2.CX P w) k f fd ps (SpX mg n pre) ∧ Fun K x x st f fd ∧ mg x = some (.ref f) ∧ Binds K fd ps []
section
variable [ξ : XCtx] {X : Cx} {k n n2 : Nat} {x : Str} {st : Stmt} {ps ks : List Str} {pre : PreX} {e : Expr} {es : List Expr} {tr : TA} {M : MC} {p pos : Pos} {kws : List Keyword} {g : List Value → List Value → List Value} {gV : List V → List V → List V} {gC : List Cell → List Cell → List Cell}
theorem j_callX (c : CalX X.prog X.w X.K X.mg X.base k x st ps n pre) (tk : Takes X ξ.E) (hmg : ξ.mg = X.mg) (hr : Room k X.A) (hG : X.A.guards = some []) (ha : JC X n (e :: es) tr M) (hg : Gl X x := by rfl) (hdb : (x == ("__debug__" : Str)) = false := by decide) (he : starEach (e :: es) X.env = (false, eval e X.env) :: starEach es X.env := by rfl)
    (hpl : (backTo pos (starEach es X.env)).any (·.1) = false := by rfl) : JE X (.Call (.Name x p) (e :: es) [] pos) (tCallS (SpX ξ.mg n pre) (WE ξ.E) tr) (mCallX ξ.D pre M) := by
  obtain ⟨f, fd, F, fn, q, b⟩ := c.ex
  rw [← hmg] at F
  exact ⟨pe_callGS (by rw [← hmg]; exact F) hr hG hg q fn.kp b (fun σ => passAt tk σ) ha.pe hdb he hpl, callX_sound ha.es⟩
theorem j_callXK0 (c : CalX X.prog X.w X.K X.mg X.base k x st ps n pre) (hkb : ∀ f fd, Fun X.K x x st f fd → KBinds X.K fd ps ks g gV) (pc : PermC g gV gC 0 n2 n) (tk : Takes X ξ.E) (hmg : ξ.mg = X.mg) (hr : Room k X.A) (hG : X.A.guards = some []) (hkw : JK X n2 kws tr M) (hg : Gl X x := by rfl)
    (hall : (backToKw pos (keywordEach kws X.env)).all (·.1.isSome) = true := by rfl) (hks : (backToKw pos (keywordEach kws X.env)).filterMap (·.1) = ks := by rfl) (hdb : (x == ("__debug__" : Str)) = false := by decide)
    (hpl : ((backTo pos (starEach [] X.env)).any (·.1) || (backToKw pos (keywordEach kws X.env)).any (·.1.isNone)) = false := by rfl) : JE X (.Call (.Name x p) [] kws pos) (tCallKS (SpX ξ.mg n pre) gV (WE ξ.E) tNil tr) (mCallXK ξ.D pre gC mcNil M) := by
  obtain ⟨f, fd, F, fn, q, b⟩ := c.ex
  rw [← hmg] at F
  exact ⟨pe_callGSK0 (by rw [← hmg]; exact F) hr hG hg q fn.kp (hkb f fd fn) (fun σ => passAt tk σ) hkw.pe hall hks hdb hpl, callXK_sound pc cs_nil hkw.es⟩
end

/-! ### raise X() -/
abbrev valueErr : List Value := [.type "ValueError", .type "Exception", .type "BaseException", .type "object"]
structure ExcF (K : PySem.W.Frag) (mg : Str → Option Value) (x : Str) (C : Addr) : Prop where
  g : mg x = some (.ref C)
  kp : PySem.W.keepIn K (.ref C) = true
  xc : PySem.W.excIn K C valueErr "ValueError.__new__" = true
  sb : PySem.W.subIn K (.ref C) (.type "BaseException") = some true
  ty : PySem.W.typeIn K (.ref C) = some (.type "type")
theorem pmk_own0 {X : Cx} {x : Str} {C : Addr} {p pos : Pos} (T : ExcF X.K X.mg x C) (hg : Gl X x) (hdb : (x == ("__debug__" : Str)) = false := by decide) : PMk X (.Call (.Name x p) [] [] pos) (fun _ H Q => Q (.ref C) none H) := by
  intro pins s σ H Q I h
  refine wpAny_Call_Name_kw (ld_glob I hg T.g ?_ hdb)
  refine PySem.W.callWith_K0 (K := X.K) I.kIn T.kp ?_
  show wpAny _ _ (call (.ref C) []) _ _ _
  obtain ⟨bm, N, nm, qn, bs, hdct, sn, sub, ab, col, dd, k0, k1, k2, k3, k5, mN, hC, hN, hni, tl⟩ := exc_obj I.kIn T.xc
  exact wpAny_call_exc_subT PySem.F.excBase_ValueError tl hC hN hni (fun h' e hm => mk_of I hm (raises_own T.sb T.ty) h (I.hok.gone hm.new)) (Nat.zero_le _)
def mRaise (D : DX) (x : Str) : MS := fun _ env => D x env
section
variable [ξ : XCtx] {X : Cx}
theorem js_raise {x : Str} {C : Addr} {p pos pos' : Pos} (T : ExcF X.K X.mg x C) (tk : Takes X ξ.E) (hmg : ξ.mg = X.mg) (hc : X.calm = true := by rfl) (hg : Gl X x := by rfl) (hdb : (x == ("__debug__" : Str)) = false := by decide) :
    JS X (.Raise (some (.Call (.Name x p) [] [] pos)) none pos') (fun _ σ H => ξ.E (.ref C) none σ H) (mRaise ξ.D x) :=
  ⟨ps_raise hc tk (pmk_own0 T hg hdb), fun W Z O env σ H0 H M D R S hm => R.exc (by rw [hmg]; exact T.g) hm .refl⟩
end
/-- a def that may raise, by its body -/
def preOfX (N : Nat) (m : DX → MS) : PreX := fun cs P XP => m (fun x _ => XP x) { nx := fun _ => P .none, rt := P } (cs ++ List.replicate (N - cs.length) .non)
section
variable {P : Program} {w : World} {K : PySem.W.Frag} {mg : Str → Option Value} {bs : Heap} {k n : Nat} {x : Str} {st : Stmt} {ps N : List Str} {m : DX → MS}
abbrev xcDef (mg : Str → Option Value) (E : XK) (D : DX) : XCtx := ⟨fun c d _ H => E c d H, D, mg⟩
theorem cal_bodyX (a : At K mg x st ps) (S : FnScope N ps (defScope st)) (hn : ps.length = n)
    (hb : ∀ (f : Addr) (cdv : Value) (A : Around) (out : List PySem.Env) (s : Shared) (H : Hp) (E : XK) (D : DX), Room k (A.deeper (envOfC x (defScope st) s.heap.objs.size f cdv)) → A.guards = some [] →
      Takes (cxOf (L2.CX P w) P w K mg bs N x (defScope st) f cdv A out s H E) (fun c d _ H => E c d H) → ∃ t, @JSs (xcDef mg E D) (cxOf (L2.CX P w) P w K mg bs N x (defScope st) f cdv A out s H E) (defBody st) t (m D)) :
    CalX P w K mg bs (k + 1) x st ps n (preOfX N.length m) := by
  obtain ⟨f, fd, F, q, b⟩ := a.ex
  refine ⟨f, fd, ?_, F, q, b⟩
  obtain ⟨oc, od, kV, doc, pm, an, cdv, ct, osl, rfl, lk, hcd⟩ := F.ex
  refine fng_of lk hcd S (fun vs H Q E h => by rw [hn]; exact h.1) fun A out s H vs Q E hr hg hsp => ?_
  obtain ⟨hl, W, Z, cs, P', XP, wo, mz, za, aa, hp, hk, hx⟩ := hsp
  obtain ⟨t, ht⟩ := hb f cdv A out s H E (fun x _ => XP x) hr hg (takes_of rfl rfl rfl rfl)
  letI : XCtx := xcDef mg E fun x _ => XP x
  refine ⟨t, ht.pe, ?_⟩
  have xr : XR (xcDef mg E fun x _ => XP x) W Z H (fun _ => False) H := ⟨fun y C O' env σ H' hm R _ hd => hx y C H' hm hd R.ge⟩
  exact ht.es W Z _ _ _ H H { nx := fun _ => P' .none, rt := P' } _ (@ArgAll.rel (xcDef mg E fun x _ => XP x) W Z H vs cs N wo mz za aa xr) ⟨fun O' env σ H' R _ h => hk .none .non H' h R.ge .non, fun _ _ _ _ _ _ h => h.elim, fun _ _ _ _ _ _ h => h.elim, fun d v H' h g nn => hk d v H' h g nn⟩ hp
end
end Dw

set_option maxRecDepth 100000
set_option maxHeartbeats 4000000
/-! Dw17: try .. except X: suites that return; all that the body raises is of one class. -/
namespace Dw
open PySem PySem.Spec PyProof.Rows L2

/-- the body may raise x alone, and then goes on with h -/
def mTry (x : Str) (h : MS) (body : DX → MS) : MS := fun M env => body (fun y env' => y = x ∧ h M env') M env
abbrev xcTry (mg : Str → Option Value) (W : WX) (D : DX) : XCtx := ⟨W, D, mg⟩
theorem Sim.swap (ξ ξ' : XCtx) {W : Wl} {Z O : Addr → Prop} {H0 H : Hp} {M : MEnds} {D : Ends} (xr : XR ξ W Z H0 O H) (S : @Sim ξ W Z H0 O H M D) : @Sim ξ' W Z H0 O H M D where
  nx := fun O' env σ H' R s q => @Sim.nx ξ _ _ _ _ _ _ _ S O' env σ H' (@Rel.mk ξ _ _ _ _ _ _ _ R.toRelB (xr.step s)) s q
  bk := fun O' env σ H' R s q => @Sim.bk ξ _ _ _ _ _ _ _ S O' env σ H' (@Rel.mk ξ _ _ _ _ _ _ _ R.toRelB (xr.step s)) s q
  ct := fun O' env σ H' R s q => @Sim.ct ξ _ _ _ _ _ _ _ S O' env σ H' (@Rel.mk ξ _ _ _ _ _ _ _ R.toRelB (xr.step s)) s q
  rt := @Sim.rt ξ _ _ _ _ _ _ _ S
theorem try_sound (ξ : XCtx) {x : Str} {C : Addr} {h : MS} {mb : DX → MS} {mg : Str → Option Value} {tb : WX → TS} {w : Ends → WX} (hC : mg x = some (.ref C)) (hb : ∀ (W : WX) (D : DX), @SS (xcTry mg W D) (tb W) (mb D))
    (hl : ∀ (Dn : Ends) (σ : L2.St) (H : Hp), (∀ t : TS, @SS xc0 t h → t Dn σ H) → w Dn (.ref C) none σ H) : @SS ξ (fun D σ H => tb (w D) D σ H) (mTry x h mb) := by
  intro W Z O env σ H0 H M D R S hm
  have R1 := @Rel.toRelB ξ _ _ _ _ _ _ _ R
  have x1 := @Rel.xr ξ _ _ _ _ _ _ _ R
  refine hb (w D) (fun y env' => y = x ∧ h M env') W Z O env σ H0 H M D (@Rel.mk (xcTry mg (w D) fun y env' => y = x ∧ h M env') W Z O env σ H0 H R1 ⟨fun y C' O' env' σ' H' hy RB s hd => ?_⟩) (Sim.swap ξ _ x1 S) hm
  obtain ⟨rfl, hd⟩ := hd
  have e : C = C' := by
    have e := (show mg y = some (.ref C') from hy).symm.trans hC
    cases e
    rfl
  subst e
  refine hl D σ' H' fun t ht => ?_
  exact ht W Z O' env' σ' H0 H' M D (@Rel.mk xc0 W Z O' env' σ' H0 H' RB xr0) (@Sim.step xc0 _ _ _ _ _ _ _ _ _ (Sim.swap ξ xc0 x1 S) s) hd
/-- try: body / except X: suite / .., X() alone comes out of the body, and the first clause takes it -/
theorem js_try [ξ : XCtx] {X : Cx} {body suite : List Stmt} {b₀ : Stmt} {hds : List ExceptHandler} {l : List (Value × (Addr → Value → Option Addr → TS))} {x y : Str} {C c1 : Addr} {np pos' pos : Pos} {h : MS} {mb : DX → MS} {mX : XCtx → MS} {tb : XCtx → TS} {ts : Addr → Value → Option Addr → TS} (hs : X.stack = X.env :: X.outer) (hf : X.env.frame = some X.env.locals)
    (hC : X.mg x = some (.ref C)) (hc1 : Names X y (.ref c1)) (hm : PySem.W.exmOne X.K (.ref C) (.ref c1) = some true)
    (hb : ∀ (ξ' : XCtx) (pn : List (Addr × Obj)) (xe : Value → Shared → Prop), ξ'.mg = X.mg → Takes (X.tr pn xe) ξ'.E → @JSs ξ' (X.tr pn xe) body (tb ξ') (mX ξ'))
    (hsu : ∀ (a : Addr) (oe : Obj) (cls : Value) (d : Option Addr) (pn : List (Addr × Obj)), @JSs xc0 (X.suite a ((a, oe) :: pn)) (b₀ :: suite) (ts a cls d) h) (hh : HdsOk X hds l)
    (hmX : ∀ ξ' : XCtx, mX ξ' = mb ξ'.D := by intro _; rfl) (htb : ∀ (W : WX) (D : DX), tb (xcTry X.mg W D) = tb (xcTry X.mg W fun _ _ => False) := by intro _ _; rfl) :
    JS X (.Try body (.ExceptHandler (some (.Name y np)) none (b₀ :: suite) pos' :: hds) [] [] pos) (fun D σ H => tb (xcTry X.mg (wMany X.K (fun _ _ _ _ => False) D ((.ref c1, ts) :: l)) fun _ _ => False) D σ H) (mTry x h mb) :=
  ⟨ps_try_many (tb := fun W => tb (xcTry X.mg W fun _ _ => False)) hs hf takes_none5 (fun W pn xe tk _ => @JSs.pe (xcTry X.mg W fun _ _ => False) _ _ _ _ (hb (xcTry X.mg W fun _ _ => False) pn xe rfl tk)) (.cons hc1 (fun a oe cls d pn _ _ => @JSs.pe xc0 _ _ _ _ (hsu a oe cls d pn)) hh),
    try_sound (tb := fun W => tb (xcTry X.mg W fun _ _ => False)) ξ hC (fun W D => htb W D ▸ hmX (xcTry X.mg W D) ▸ @JSs.es (xcTry X.mg W D) _ _ _ _ (hb (xcTry X.mg W D) [] (fun _ _ => True) rfl fun _ _ _ => trivial)) fun Dn σ H k => ⟨true, hm, fun _ a _ => k _ (@JSs.es xc0 _ _ _ _ (hsu a { cls := .ref C, data := .fields #[] } (.ref C) none [])), fun z => nomatch z⟩⟩

/-- further clauses, that take nothing -/
theorem hds_nil {X : Cx} : HdsOk X [] [] := .nil
theorem hds_cons {X : Cx} {x : Str} {c : Value} {ts : Addr → Value → Option Addr → TS} {b₀ : Stmt} {suite : List Stmt} {np pos' : Pos} {hds : List ExceptHandler} {l : List (Value × (Addr → Value → Option Addr → TS))} {h : MS} (hc : Names X x c)
    (hsu : ∀ (a : Addr) (oe : Obj) (cls : Value) (d : Option Addr) (pn : List (Addr × Obj)), @JSs xc0 (X.suite a ((a, oe) :: pn)) (b₀ :: suite) (ts a cls d) h) (r : HdsOk X hds l) : HdsOk X (.ExceptHandler (some (.Name x np)) none (b₀ :: suite) pos' :: hds) ((c, ts) :: l) :=
  .cons hc (fun a oe cls d pn _ _ => @JSs.pe xc0 _ _ _ _ (hsu a oe cls d pn)) r

/-! ### except X as n -/
theorem Rel.setRaw [XCtx] {W : Wl} {Z O : Addr → Prop} {env : Cells} {σ : L2.St} {H0 H : Hp} (R : Rel W Z O env σ H0 H) (i : Nat) (a : Addr) : Rel W Z O (env.set i (.raw a)) (σ.set i (some (.ref a))) H0 H where
  ge := R.ge
  wl := R.wl
  mz := R.mz
  za := R.za
  oz := R.oz
  oh := R.oh
  len := by rw [List.length_set, List.length_set]; exact R.len
  cell := fun j c e => by
    have hj : j < (env.set i (.raw a)).length := (List.getElem?_eq_some_iff.mp e).1
    rw [List.length_set, R.len] at hj
    rcases getElem?_set_cases e with ⟨rfl, rfl⟩ | ⟨ne, e⟩
    · exact set_at hj
    · rw [List.getElem?_set_ne ne]
      exact R.cell j c e
  uniq := fun j k ds es p e1 e2 s1 s2 => by
    rcases getElem?_set_cases e1 with ⟨rfl, q⟩ | ⟨n1, e1⟩
    · cases ds <;> cases q
    rcases getElem?_set_cases e2 with ⟨rfl, q⟩ | ⟨n2, e2⟩
    · cases es <;> cases q
    rw [List.getElem?_set_ne n1] at s1
    rw [List.getElem?_set_ne n2] at s2
    exact R.uniq j k ds es p e1 e2 s1 s2
  xr := R.xr
def MEnds.off (M : MEnds) (i : Nat) : MEnds := { nx := fun e => M.nx (e.set i .non), rt := M.rt, bk := fun e => M.bk (e.set i .non), ct := fun e => M.ct (e.set i .non) }
def mTryAs (x : Str) (i : Nat) (h : Addr → MS) (body : DX → MS) : MS := fun M env => body (fun y env' => y = x ∧ ∀ a, h a (M.off i) (env'.set i (.raw a))) M env
def mIsE (a : Addr) (i : Nat) (b : Bool) : ME := fun env P => match env[i]? with
  | some (.raw a') => a' = a ∧ P (.bool b)
  | _ => False
def offE (D : Ends) (i : Nat) : Ends := { nx := fun σ' H' => D.nx (σ'.set i none) H', rt := D.rt, bk := fun σ' H' => D.bk (σ'.set i none) H', ct := fun σ' H' => D.ct (σ'.set i none) H' }
theorem tryAs_sound (ξ : XCtx) {x : Str} {C : Addr} {i : Nat} {h : Addr → MS} {mb : DX → MS} {mg : Str → Option Value} {tb : WX → TS} {w : Ends → WX} (hC : mg x = some (.ref C)) (hb : ∀ (W : WX) (D : DX), @SS (xcTry mg W D) (tb W) (mb D))
    (hl : ∀ (Dn : Ends) (σ : L2.St) (H : Hp), (∀ (t : TS) (a : Addr), @SS xc0 t (h a) → t (offE Dn i) (σ.set i (some (.ref a))) H) → w Dn (.ref C) none σ H) : @SS ξ (fun D σ H => tb (w D) D σ H) (mTryAs x i h mb) := by
  intro W Z O env σ H0 H M D R S hm
  have R1 := @Rel.toRelB ξ _ _ _ _ _ _ _ R
  have x1 := @Rel.xr ξ _ _ _ _ _ _ _ R
  refine hb (w D) (fun y env' => y = x ∧ ∀ a, h a (M.off i) (env'.set i (.raw a))) W Z O env σ H0 H M D (@Rel.mk (xcTry mg (w D) fun y env' => y = x ∧ ∀ a, h a (M.off i) (env'.set i (.raw a))) W Z O env σ H0 H R1 ⟨fun y C' O' env' σ' H' hy RB s hd => ?_⟩) (Sim.swap ξ _ x1 S) hm
  obtain ⟨rfl, hd⟩ := hd
  have e : C = C' := by
    have e := (show mg y = some (.ref C') from hy).symm.trans hC
    cases e
    rfl
  subst e
  refine hl D σ' H' fun t a ht => ?_
  have S0 := @Sim.step xc0 _ _ _ _ _ _ _ _ _ (Sim.swap ξ xc0 x1 S) s
  have Ra := @Rel.setRaw xc0 _ _ _ _ _ _ _ (@Rel.mk xc0 W Z O' env' σ' H0 H' RB xr0) i a
  have S2 : @Sim xc0 W Z H0 O' H' (M.off i) (offE D i) := @Sim.mk xc0 W Z H0 O' H' (M.off i) (offE D i)
    (fun O2 env2 σ2 H2 R2 s2 q => @Sim.nx xc0 _ _ _ _ _ _ _ S0 O2 _ _ H2 (@Rel.forget xc0 _ _ _ _ _ _ _ R2 i) s2 q)
    (fun O2 env2 σ2 H2 R2 s2 q => @Sim.bk xc0 _ _ _ _ _ _ _ S0 O2 _ _ H2 (@Rel.forget xc0 _ _ _ _ _ _ _ R2 i) s2 q)
    (fun O2 env2 σ2 H2 R2 s2 q => @Sim.ct xc0 _ _ _ _ _ _ _ S0 O2 _ _ H2 (@Rel.forget xc0 _ _ _ _ _ _ _ R2 i) s2 q)
    (fun d v H2 q g nn => @Sim.rt xc0 _ _ _ _ _ _ _ S0 d v H2 q g nn)
  exact ht W Z O' _ _ H0 H' (M.off i) (offE D i) Ra S2 (hd a)
theorem js_tryAs [ξ : XCtx] {X : Cx} {body suite : List Stmt} {b₀ : Stmt} {x y n : Str} {C c1 : Addr} {np pos' pos : Pos} {h : Addr → MS} {mb : DX → MS} {mX : XCtx → MS} {tb : XCtx → TS} {ts : Addr → TS} {i : Nat} (hs : X.stack = X.env :: X.outer) (hf : X.env.frame = some X.env.locals) (hN : X.N.Nodup) (hi : X.N[i]? = some n) (hln : X.env.kindOf n = some .local)
    (hC : X.mg x = some (.ref C)) (hc1 : Names X y (.ref c1)) (hm : PySem.W.exmOne X.K (.ref C) (.ref c1) = some true)
    (hb : ∀ (ξ' : XCtx) (pn : List (Addr × Obj)) (xe : Value → Shared → Prop), ξ'.mg = X.mg → Takes (X.tr pn xe) ξ'.E → @JSs ξ' (X.tr pn xe) body (tb ξ') (mX ξ'))
    (hsu : ∀ (a : Addr) (oe : Obj) (pn : List (Addr × Obj)), Zc (.ref C) none oe → (∃ vs, oe.data = .fields vs) → @JSs xc0 (X.suite a ((a, oe) :: pn)) (b₀ :: suite) (ts a) (h a))
    (hmX : ∀ ξ' : XCtx, mX ξ' = mb ξ'.D := by intro _; rfl) (htb : ∀ (W : WX) (D : DX), tb (xcTry X.mg W D) = tb (xcTry X.mg W fun _ _ => False) := by intro _ _; rfl) :
    JS X (.Try body [.ExceptHandler (some (.Name y np)) (some n) (b₀ :: suite) pos'] [] [] pos) (fun D σ H => tb (xcTry X.mg (wAs X.K (.ref c1) i (fun a cls d D σ H => (cls = .ref C ∧ d = none) ∧ ts a D σ H) (fun _ _ _ _ => False) D) fun _ _ => False) D σ H) (mTryAs x i h mb) :=
  ⟨ps_try_as (tb := fun W => tb (xcTry X.mg W fun _ _ => False)) hs hf hN hi hln hc1 takes_none5 (fun W pn xe tk _ => @JSs.pe (xcTry X.mg W fun _ _ => False) _ _ _ _ (hb (xcTry X.mg W fun _ _ => False) pn xe rfl tk)) (fun a oe cls d pn hz hv => ⟨fun pins s σ H D I q => by
      obtain ⟨⟨rfl, rfl⟩, q⟩ := q
      exact (@JSs.pe xc0 _ _ _ _ (hsu a oe pn hz hv)).run pins s σ H D I q⟩),
    tryAs_sound (tb := fun W => tb (xcTry X.mg W fun _ _ => False)) ξ hC (fun W D => htb W D ▸ hmX (xcTry X.mg W D) ▸ @JSs.es (xcTry X.mg W D) _ _ _ _ (hb (xcTry X.mg W D) [] (fun _ _ => True) rfl fun _ _ _ => trivial)) fun Dn σ H k => ⟨true, hm, fun _ a _ => ⟨⟨rfl, rfl⟩, k _ a (@JSs.es xc0 _ _ _ _ (hsu a { cls := .ref C, data := .fields #[] } [] ⟨rfl, rfl⟩ ⟨_, rfl⟩))⟩, fun z => nomatch z⟩⟩
/-- isinstance(n, Y) of what is held -/
theorem je_isE {X : Cx} {a D U : Addr} {oe : Obj} {pn : List (Addr × Obj)} {i : Nat} {b : Bool} {n y : Str} {p q1 q pos : Pos} (T : ExcC X.K D) (hz : Zc (.ref D) none oe) (hf : ∃ vs, oe.data = .fields vs) (hk : PySem.W.kitOne X.K (.ref D) (.ref U) = some b)
    (hm : X.mg "isinstance" = none) (hy : X.mg y = some (.ref U)) (hN : X.N[i]? = some n := by rfl) (hv : Vis X.env.scope n := by first | exact Or.inl rfl | exact Or.inr (Or.inl rfl) | exact Or.inr (Or.inr rfl)) (hd : (n == ("__debug__" : Str)) = false := by decide) (hcd : (n == ("__classdict__" : Str)) = false := by decide)
    (hg : Gl X "isinstance" := by rfl) (hgy : Gl X y := by rfl) (hdb : (y == ("__debug__" : Str)) = false := by decide)
    (h1 : starEach [.Name n q1, .Name y q] (X.suite a ((a, oe) :: pn)).env = (false, eval (.Name n q1) (X.suite a ((a, oe) :: pn)).env) :: starEach [.Name y q] (X.suite a ((a, oe) :: pn)).env := by rfl) (h2 : starEach [.Name y q] (X.suite a ((a, oe) :: pn)).env = (false, eval (.Name y q) (X.suite a ((a, oe) :: pn)).env) :: starEach [] (X.suite a ((a, oe) :: pn)).env := by rfl)
    (hpl : (backTo pos (starEach [.Name y q] (X.suite a ((a, oe) :: pn)).env)).any (·.1) = false := by rfl) :
    @JE xc0 (X.suite a ((a, oe) :: pn)) (.Call (.Name "isinstance" p) [.Name n q1, .Name y q] [] pos) (tCB (rIsE X.K D a) (tCons (tVar i) (tCons (tC (.ref U)) tNil))) (mIsE a i b) :=
  @JE.mk xc0 _ _ _ _ (pe_callB (call_isE T hz hf) hg hm (by decide +kernel) (pa_cons (pe_var hN hv hd hcd) (pa_cons (pe_glob hgy hy rfl hdb) pa_nil h2) h1) (by decide) (by decide) h1 hpl) (by
    intro W Z O env σ H0 H P Q R hm k
    unfold mIsE at hm
    split at hm
    · rename_i a' e
      obtain ⟨rfl, hp⟩ := hm
      exact ⟨.ref a', R.cell i _ e, .ref U, .ref U, b, rfl, fun u r => r, hk, k _ _ H hp .refl (.bl b)⟩
    · exact hm.elim)

/-! ### a call that may raise, where it does not -/
def calmP (pre : PreX) : Pre := fun cs P => pre cs P fun _ => False
theorem CalX.calm {P : Program} {w : World} {K : PySem.W.Frag} {mg : Str → Option Value} {bs : Heap} {k : Nat} {x : Str} {st : Stmt} {ps : List Str} {n : Nat} {pre : PreX} (c : CalX P w K mg bs k x st ps n pre) : Cal P w K mg bs k x st ps n (calmP pre) := by
  obtain ⟨f, fd, F, r⟩ := c.ex
  have up : ∀ {vs : List V} {H : Hp} {Q : VK} {E : XK}, SpD n (calmP pre) vs H Q E → SpX mg n pre vs H Q fun _ _ _ => False := fun h => by
    obtain ⟨hl, W, Z, cs, P', wo, mz, za, a, hp, hk⟩ := h
    exact ⟨hl, W, Z, cs, P', _, wo, mz, za, a, hp, hk, fun _ _ _ _ z => z.elim⟩
  refine ⟨f, fd, ⟨fun vs H Q E h => F.len vs H Q _ (up h), fun A out s H ar us vs Q E hr hg e0 hb hv h => ?_⟩, r⟩
  refine codeAny_mono (F.run A out s H ar us vs Q (fun _ _ _ => False) hr hg e0 hb hv (up h)) fun r s' q => ?_
  cases r with
  | error e =>
    obtain ⟨_, _, _, _, _, _, _, _, _, _, _, _, z⟩ := (show L2.CX P w out H s (fun _ _ _ => False) e s' from q)
    exact z.elim
  | ok fl => cases fl <;> first | exact q | exact False.elim q

/-! ### x in t, t a tuple of data of any depth -/
def rInT (K : PySem.W.Frag) (neg : Bool) : R2 := fun x y H Q => ∃ d ds, Dp K H x d ∧ Dp K H y (.tuple ds) ∧ SeqAt.shaped d = true ∧ SeqAt.shaped (.tuple ds) = true ∧ Q (.bl (if neg then !anyD d ds else anyD d ds)) H
section
variable {X : Cx}
theorem op_inT (hu : X.A.units + 65 < cLine) : OpR X (compareOp .In) (rInT X.K false) := by
  intro pins s σ H x y v u Q I rx ry h
  obtain ⟨d, ds, hd, he, sd, se, q⟩ := h
  obtain ⟨as, r1⟩ := Dp.reads I d x v hd rx
  obtain ⟨bs, r2⟩ := Dp.reads I (.tuple ds) y u he ry
  exact SeqAt.in_tuple_reads r2 r1 (SeqAt.canLay_of_shaped se) (SeqAt.canLay_of_shaped sd) (room_in_shaped sd hu) ⟨.bl _, H, I, rfl, q⟩
theorem op_notInT (hu : X.A.units + 65 < cLine) : OpR X (compareOp .NotIn) (rInT X.K true) := by
  intro pins s σ H x y v u Q I rx ry h
  obtain ⟨d, ds, hd, he, sd, se, q⟩ := h
  obtain ⟨as, r1⟩ := Dp.reads I d x v hd rx
  obtain ⟨bs, r2⟩ := Dp.reads I (.tuple ds) y u he ry
  exact SeqAt.notIn_tuple_reads r2 r1 (SeqAt.canLay_of_shaped se) (SeqAt.canLay_of_shaped sd) (room_in_shaped sd hu) ⟨.bl _, H, I, rfl, q⟩
end
def fInT (neg : Bool) (x y : PyData) (P : PyData → Prop) : Prop := onU y fun ds => SeqAt.shaped x = true ∧ SeqAt.shaped (.tuple ds) = true ∧ P (.bool (if neg then !anyD x ds else anyD x ds))
theorem s_inT [XCtx] {K : PySem.W.Frag} {neg : Bool} : R2S (rInT K neg) (fInT neg) := by
  intro W Z O env σ H0 H x y d d' P Q R hx hy hf k
  obtain ⟨ds, rfl, h1, h2, hp⟩ := onU_iff hf
  exact ⟨d, ds, hx.dp (canLay_noDict h1), hy.dp (canLay_noDict h2), h1, h2, k _ _ H hp .refl (.bl _)⟩
section
variable [XCtx] {X : Cx} {a b : Expr} {ta tb : TE} {A B : ME} {pos : Pos}
theorem jt_inT (hu : X.A.units + 65 < cLine) (ha : JB X a ta A) (hb : JB X b tb B) (hm : behindInMarks .In b = false := by rfl) : JT X (.Compare a [.In] [b] pos) (tTest (tOp (rInT X.K false) ta tb)) (mB (m2 (fInT false) A B)) := jt_cmp (op_inT hu) s_inT ha hb hm
theorem jt_notInT (hu : X.A.units + 65 < cLine) (ha : JB X a ta A) (hb : JB X b tb B) (hm : behindInMarks .NotIn b = false := by rfl) : JT X (.Compare a [.NotIn] [b] pos) (tTest (tOp (rInT X.K true) ta tb)) (mB (m2 (fInT true) A B)) := jt_cmp (op_notInT hu) s_inT ha hb hm
end
end Dw

namespace Dw
open PySem PySem.Spec PyProof.Rows L2
section
variable [XCtx] {X : Cx} {e : Expr} {te : TE} {A : ME}
/-- xs.append(e), the argument told once -/
theorem js_appendB {K : PySem.W.Frag} (hK : X.K = K) (i : Nat) {x : Str} {p apos cpos spos : Pos} (h : JE X e te A) (hN : X.N[i]? = some x ) (hv : Vis X.env.scope x ) (hd : (x == ("__debug__" : Str)) = false )
    (hcd : (x == ("__classdict__" : Str)) = false )
    (h1 : attributeBase (.Name x p) "append" X.env (eval (.Name x p) X.env) = eval (.Name x p) X.env )
    (h2 : ((((backTo cpos (starEach [e] X.env)).all fun x => !x.fst) && (backToKw cpos (keywordEach [] X.env)).all fun x => x.fst.isSome) && decide ((([e] : List Expr).length + 0 + if true = true then 0 else 1) < 30)) = true )
    (h3 : (apos.endLine == cpos.line) = true )
    (h4 : starEach [e] X.env = (false, eval e X.env) :: starEach [] X.env )
    (h5 : ((backTo cpos (starEach [] X.env)).any fun x => x.fst) = false )
    (h6 : swapsWith (.Call (.Attribute (.Name x p) "append" apos) [e] [] cpos) none spos.line X.env = pure false ) :
    JS X (.Expr (.Call (.Attribute (.Name x p) "append" apos) [e] [] cpos) spos) (tDrop (tBM K "list" rAppend (tVar i) (tCons te tNil))) (mApp i A) := by
  subst hK
  exact js_append i h (ps_expr (pe_bm PySem.F.plainAttrs_list PySem.F.slot_list_append PySem.F.type_list_append mt_append (pe_var hN hv hd hcd) (pa_cons h.pe pa_nil h4) h1 h2 h3 h4 h5) h6)
end
/-- a, b = two new lists -/
def mParG (i j : Nat) (A B : ML) : MS := fun M env => A env fun xs => B env fun ys => M.nx ((env.set i (.own xs)).set j (.own ys))
section
variable [XCtx] {X : Cx} {i j : Nat} {x y : Str} {a b : Expr} {ta tb' : TE} {px py pt pos : Pos} {kt k2 : Nat} {pt2 : Pos} {A' B' : ML}
theorem js_parG (i j : Nat) {x y : Str} (hN : X.N.Nodup) (ha : JF X a ta A') (hb : JF X b tb' B') (hx : X.env.scope.names.lookup x = some .local) (hy : X.env.scope.names.lookup y = some .local) (hi : X.N[i]? = some x := by rfl) (hj : X.N[j]? = some y := by rfl) (hij : i ≠ j := by decide)
    (hs1 : starEach [a, b] X.env = (false, eval a X.env) :: starEach [b] X.env := by rfl) (hs2 : starEach [b] X.env = (false, eval b X.env) :: starEach [] X.env := by rfl)
    (hw : swappedStores [.Tuple [.Name x px, .Name y py] kt pt] (.Tuple [a, b] k2 pt2) X.env = pure (some [x, y]) := by rfl) (hs : swapsWithSole [.Tuple [.Name x px, .Name y py] kt pt] (.Tuple [a, b] k2 pt2) pos.line X.env = pure false := by rfl) (hc : X.calm = true := by rfl) :
    JS X (.Assign [.Tuple [.Name x px, .Name y py] kt pt] (.Tuple [a, b] k2 pt2) pos) (tPar i j (tCons ta (tCons tb' tNil))) (mParG i j A' B') := ⟨ps_par hc hN hi hj hij hx hy (pa_cons ha.pe (pa_cons hb.pe pa_nil hs2) hs1) hw hs, fun W Z O env σ H0 H M D R S hm => by
  refine ha.es W Z O env σ H0 H _ _ R hm fun d1 p1 xs1 H1 q1 g1 hp1 h1 n1 => ?_
  have R1 := R.take g1 hp1 h1
  refine hb.es W Z _ env σ H0 H1 _ _ R1 q1 fun d2 p2 xs2 H2 q2 g2 hp2 h2 n2 => ?_
  refine ⟨.ref p1, .ref p2, rfl, ?_⟩
  have R2 := R1.take g2 hp2 h2
  have ne : p1 ≠ p2 := fun e => by rw [← e, h1] at hp2; cases hp2
  have h12 : H2 p1 = some (.lst xs1) := g2.keep _ _ (R1.om p1 (.inr rfl)) h1
  have n12 : DnAll H2 (ZO Z fun a => (O a ∨ a = p1) ∨ a = p2) xs1 d1 := DnAll.tr (fun a u z e => ⟨g2.keep a u (fun m => z (.inl (R1.mz a m))) e, by
    rintro (q | q | q)
    · exact z (.inl q)
    · exact z (.inr q)
    · exact ne_of_none e hp2 q⟩) _ _ n1
  have R3 := R2.setOwn (p := p1) (.inl (.inr rfl)) (fun k ds e => R.takeNo hp1 k ds e) h12 n12 i
  refine ((S.step (.take g1 R.wl R.mz hp1)).step (.take g2 R1.wl R1.mz hp2)).next (R3.setOwn (p := p2) (.inr rfl) (fun k ds e => ?_) h2 n2 j) q2
  rcases getElem?_set_cases e with ⟨ek, q⟩ | ⟨nk, q⟩
  · subst ek
    intro s
    rcases getElem?_set_cases s with ⟨_, q9⟩ | ⟨nk, _⟩
    · cases q9
      exact ne rfl
    · exact nk rfl
  · rw [List.getElem?_set_ne nk]
    exact R1.takeNo hp2 k ds q⟩
end
end Dw

/-! Dw19: a tuple read backwards -/
namespace Dw
open PySem PySem.Spec PyProof.Rows L2
section
variable {prog : Program} {w : World} {A : Around} {E : Value → Shared → Prop} {s : Shared}
theorem adj_rev (n : Nat) : Builtin.Slice.sliceAdjust none none (-1) (n : Int) = ((n : Int) - 1, -1) := by
  unfold Builtin.Slice.sliceAdjust
  simp
theorem places_rev (n : Nat) : Builtin.Slice.slicePlaces ((n : Int) - 1) (-1) (-1) = n := by
  unfold Builtin.Slice.slicePlaces
  simp
  try omega
theorem applied_rev {sl : Addr} {vs : Value} {n : Nat} {Q : Int × Int × Nat → Shared → Prop} (hs : s.heap.IsSliceOf sl .none .none vs) (ps : IsPart vs (some (-1))) (h : Q ((n : Int) - 1, -1, n) s) : wpAny (model prog w) A (Builtin.Slice.sliceApplied (.ref sl) (pure (n : Int))) Q E s := by
  obtain ⟨o1, h1, _, h3⟩ := id hs
  unfold Builtin.Slice.sliceApplied Builtin.Slice.sliceFields
  have fin : wpAny (model prog w) A (match Builtin.Slice.sliceAdjust none none (-1) (n : Int) with | (lo, hi) => (pure (lo, (-1 : Int), Builtin.Slice.slicePlaces lo hi (-1)) : Sem (Int × Int × Nat))) Q E s := by
    rw [adj_rev n]
    show wpAny _ _ (pure ((n : Int) - 1, (-1 : Int), Builtin.Slice.slicePlaces ((n : Int) - 1) (-1) (-1)) : Sem (Int × Int × Nat)) Q E s
    rw [places_rev]
    exact wpAny_pure h
  refine wpAny_bind (wpAny_bind (wpAny_field h1 h3 (x := .none) rfl (wpAny_bind (wpAny_field h1 h3 (x := .none) rfl (wpAny_bind (wpAny_field h1 h3 (x := vs) rfl (wpAny_pure ?_)))))))
  refine wpAny_bind (HT.slicePart_ ps ?_)
  show wpAny _ _ (if ((-1 : Int) == 0) = true then _ else _) _ _ s
  rw [if_neg (show ¬ ((-1 : Int) == 0) = true by decide)]
  refine wpAny_bind (HT.slicePart_ .none ?_)
  refine wpAny_bind (HT.slicePart_ .none ?_)
  refine wpAny_bind (wpAny_pure ?_)
  exact fin
theorem pick_rev (xs : Array Value) : ((List.range xs.size).filterMap fun (m : Nat) => xs[(((xs.size : Nat) : Int) - 1 + (m : Int) * (-1)).toNat]?).toArray = xs.toList.reverse.toArray := by
  have h : (List.range xs.size).filterMap (fun (m : Nat) => xs[(((xs.size : Nat) : Int) - 1 + (m : Int) * (-1)).toNat]?) = ((List.range xs.size).map fun k => xs.size - 1 - k).filterMap (xs[·]?) := by
    rw [List.filterMap_map]
    have k : ∀ l : List Nat, (∀ m ∈ l, m < xs.size) → l.filterMap (fun (m : Nat) => xs[(((xs.size : Nat) : Int) - 1 + (m : Int) * (-1)).toNat]?) = l.filterMap ((xs[·]?) ∘ fun k => xs.size - 1 - k) := by
      intro l
      induction l with
      | nil => intro _; rfl
      | cons m l ih =>
        intro hm
        have h1 := hm m List.mem_cons_self
        have h2 := ih fun y hy => hm y (List.mem_cons_of_mem _ hy)
        have e : xs[(((xs.size : Nat) : Int) - 1 + (m : Int) * (-1)).toNat]? = ((xs[·]?) ∘ fun k => xs.size - 1 - k) m := by
          show _ = xs[xs.size - 1 - m]?
          rw [show (((xs.size : Nat) : Int) - 1 + (m : Int) * (-1)).toNat = xs.size - 1 - m by omega]
        rw [List.filterMap_cons, List.filterMap_cons, h2, e]
    exact k _ fun m hm => List.mem_range.mp hm
  rw [h, PySem.W.krv_range, List.filterMap_reverse, PySem.W.krv_all]
theorem item_rev {t sl : Addr} {items : Array Value} {vs : Value} {Q : Value → Shared → Prop} (ht : IsTup s.heap t items) (hs : s.heap.IsSliceOf sl .none .none vs) (ps : IsPart vs (some (-1)))
    (h : Q (.ref s.heap.objs.size) { s with heap := s.heap.push { cls := .type "tuple", data := .seq items.toList.reverse.toArray } }) (hz : items.size ≤ sizeLine) : wpAny (model prog w) A (getItem (.ref t) (.ref sl)) Q E s := by
  obtain ⟨o1, h1, h2, h3⟩ := id hs
  have hT : s.TypeIs (.ref sl) "slice" := ⟨o1, h1, h2⟩
  have ok : sizeOk (.seq items.toList.reverse.toArray) := by show items.toList.reverse.toArray.size ≤ sizeLine; simpa using hz
  unfold getItem
  try with_reducible refine wpAny_holding ?_
  first | (refine wpAny_bind (wpAny_pure ?_)) | skip
  refine wpAny_bind (wpAny_sequenceKey ht.typeIs (by decide) ?_)
  refine wpAny_bind (wpAny_callSpecial?_slot (name := Str.ofString "__getitem__") ht.typeIs PyProof.Rows.slot_tuple_getitem (wpAny_call_entry PyProof.Rows.slot_tuple_getitem ht.typeIs entry_tuple_getitem ?_ (args_tuple_getitem _ _)))
  show wpAny _ _ (Builtin.Tuple.tupleItemsOf (.ref t) >>= _) _ _ s
  refine wpAny_bind (tupleItemsOf_ ht (wpAny_bind (wpAny_typeOf hT ?_)))
  rw [if_pos (by decide)]
  refine wpAny_bind (applied_rev hs ps ?_)
  have no : ¬ ((((items.size : Nat) : Int) - 1 == 0 && (-1 : Int) == 1 && items.size == items.size) = true) := by simp
  show wpAny _ _ (if (((items.size : Nat) : Int) - 1 == 0 && (-1 : Int) == 1 && items.size == items.size) = true then _ else _) _ _ s
  rw [if_neg no, pick_rev]
  first
    | (exact wpAny_bind (m := Builtin.Tuple.tupleExact _) (wpAny_newObj_type (wpAny_pure ⟨_, rfl, wpAny_pure h⟩) ok))
    | (exact wpAny_bind (m := Builtin.Tuple.tupleExact _) (wpAny_newObj_type (wpAny_bind (wpAny_pure (wpAny_pure ⟨_, rfl, wpAny_pure h⟩))) ok))
    | (exact wpAny_bind (wpAny_bind (m := Builtin.Tuple.tupleExact _) (wpAny_newObj_type (wpAny_pure (wpAny_pure ⟨_, rfl, wpAny_pure h⟩)) ok)))
    | (exact wpAny_bind (wpAny_bind (m := Builtin.Tuple.tupleExact _) (wpAny_newObj_type (wpAny_pure ⟨_, rfl, wpAny_pure h⟩) ok)))
end
/-- t[::-1] of a tuple -/
def tRevT (K : PySem.W.Frag) (te : TE) : TE := fun σ H Q => te σ H fun x H1 => ∃ a xs, x = .ref a ∧ SqT K H1 a xs ∧ ∀ (p : Addr) (o : Obj), H1 p = none → o.cls = .type "tuple" → o.dict = none → Q (.ref p) (upd H1 p (.frz o (.tup xs.reverse)))
theorem pe_revT {X : Cx} {e : Expr} {te : TE} {k : Nat} {p1 p2 p3 pos : Pos} (he : PE X e te) : PE X (.Subscript e (.Slice none none (some (.UnaryOp .USub (.Constant (.int 1) k p1) p2)) p3) pos) (tRevT X.K te) := by
  refine ⟨fun pn s0 σ H Q I h => Subscript_ (thn (he.run pn s0 σ H _ I h) fun v sA ⟨x, HA, IA, rA, ⟨a, xs, ex, hx, q⟩⟩ => ?_)⟩
  subst ex; cases rA
  have stp : PO X (some (.UnaryOp .USub (.Constant (.int 1) k p1) p2)) (tPart (tUn (rU fun i => .int (-i)) (tC (.int 1)))) := po_some (pe_un un_neg pe_int)
  refine wpAny_Slice (thn (po_none.run pn sA σ HA (fun o HB => o = none ∧ HB = HA) IA ⟨rfl, rfl⟩) fun vl sB ⟨l, HB, IB, pl, el, eB⟩ => ?_)
  subst el eB
  refine thn (po_none.run pn sB σ HB (fun o HC => o = none ∧ HC = HB) IB ⟨rfl, rfl⟩) fun vu sC ⟨u, HC, IC, pu, eu, eC⟩ => ?_
  subst eu eC
  refine thn (stp.run pn sC σ HC (fun o HD => o = some (-1) ∧ HD = HC) IC ⟨1, rfl, -1, rfl, rfl, rfl⟩) fun vs sD ⟨o, HD, ID, ps, eo, eD⟩ => ?_
  subst eo eD
  have IE : Inv X pn σ HD { sD with heap := sD.heap.push { cls := .type "slice", data := .fields #[vl, vu, vs] } } := ID.kept (t' := sD.toks) fun b ob q => Heap.get?_push_of_some _ q
  obtain ⟨its, r, ht, hz⟩ := IE.tuple hx
  have hlen := r.length
  cases pl; cases pu
  show wpAny (model X.prog X.w) X.A (subscriptTail e (.Slice none none (some (.UnaryOp .USub (.Constant (.int 1) k p1) p2)) p3) (.ref a) (.ref sD.heap.objs.size)) (EP X pn σ Q) X.xe { sD with heap := sD.heap.push { cls := .type "slice", data := .fields #[.none, .none, vs] } }
  refine tail_any (ops := [.ref a, .ref sD.heap.objs.size]) ht.typeIs (PyProof.Rows.slot_tuple_getitem.lookup) ?_ (by with_unfolding_all rfl)
  refine item_rev ht (Heap.IsSliceOf.new _ .none .none vs) ps ?_ (by rw [List.size_toArray]; omega)
  refine ⟨.ref _, _, IE.laid (t' := sD.toks) (o := .frz { cls := .type "tuple", data := .seq its.reverse.toArray } (.tup xs.reverse)) (fun b ob q => Heap.get?_push_of_some _ q) (Nat.le_refl _) ?_, rfl, q _ _ (IE.hok.fresh (Nat.le_refl _)) rfl rfl⟩
  exact ⟨Heap.get?_push_size _ rfl, by rw [List.length_reverse]; exact hz, _, r.reverse, IsTup.new _ _⟩
theorem DnAll.rev {H : Hp} {Z : Addr → Prop} : ∀ {vs : List V} {ds : List PyData}, DnAll H Z vs ds → DnAll H Z vs.reverse ds.reverse
  | _, _, .nil => .nil
  | _, _, .cons a b => by
    rw [List.reverse_cons, List.reverse_cons]
    exact DnAll.app (DnAll.rev b) (.cons a .nil)
def mRev (A : ME) : ME := fun env P => A env fun x => onU x fun xs => P (.tuple xs.reverse)
theorem je_revT [XCtx] {X : Cx} {e : Expr} {te : TE} {A : ME} {k : Nat} {p1 p2 p3 pos : Pos} (h : JB X e te A) : JE X (.Subscript e (.Slice none none (some (.UnaryOp .USub (.Constant (.int 1) k p1) p2)) p3) pos) (tRevT X.K te) (mRev A) := ⟨pe_revT h.pe, fun W Z O env σ H0 H P Q R hm k => by
  refine h.es W Z O env σ H0 H _ _ R hm fun d v H1 p1 g1 n1 => ?_
  obtain ⟨xs, rfl, p1⟩ := onU_iff p1
  obtain ⟨p, ys, rfl, hpp, nz, r⟩ := n1.tuple
  exact ⟨p, ys, rfl, SqT.of hpp, fun l o hl hc hd => k _ _ _ p1 (g1.new' hl) (.tup (TupAt.up hc hd) ((R.tr g1).new hl) (DnAll.rev (r.new hl)))⟩⟩
end Dw

/-! Dw20: xs[i], xs[j] = (a, b) of a list of one's own -/
namespace Dw
open PySem PySem.Spec PyProof.Rows L2
variable [XCtx]
def mPut2 (i : Nat) (B1 B2 A : ME) : MS := fun M env => A env fun d => onU d fun es => match es with
  | [a, b] => onOwn env i fun ds => B1 env fun k => onI k fun k => ∃ j, ixN ds.length k = some j ∧ B2 (env.set i (.own (ds.set j a))) fun k2 => onI k2 fun k2 => ∃ j2, ixN (ds.set j a).length k2 = some j2 ∧ M.nx ((env.set i (.own (ds.set j a))).set i (.own ((ds.set j a).set j2 b)))
  | _ => False
section
variable {X : Cx} {e : Expr} {te t1 t2 : TE} {A B1 B2 : ME} {pos : Pos}
theorem put2_sound {K : PySem.W.Frag} {i : Nat} (h : ES te A) (h1 : BS t1 B1) (h2 : BS t2 B2) : SS (tAsg te (gTup K 2 (gCons (gSub (tVar i) t1 rSetL) (gCons (gSub (tVar i) t2 rSetL) gNil)))) (mPut2 i B1 B2 A) := by
  intro W Z O env σ H0 H M D R S hm
  refine h W Z O env σ H0 H _ _ R hm fun d v H1 p1 g1 n1 => ?_
  have R1 := R.tr g1
  have main : ∀ (va vb : V) (a b : PyData), Dn H1 (ZO Z O) va a → Dn H1 (ZO Z O) vb b → (onOwn env i fun ds => B1 env fun k => onI k fun k => ∃ j, ixN ds.length k = some j ∧ B2 (env.set i (.own (ds.set j a))) fun k2 => onI k2 fun k2 => ∃ j2, ixN (ds.set j a).length k2 = some j2 ∧ M.nx ((env.set i (.own (ds.set j a))).set i (.own ((ds.set j a).set j2 b)))) →
      gCons (gSub (tVar i) t1 rSetL) (gCons (gSub (tVar i) t2 rSetL) gNil) [va, vb] σ H1 D.nx := by
    intro va vb a b na nb p1
    obtain ⟨ds, q, p1⟩ := onOwn_iff p1
    obtain ⟨p, xs, e1, o, hp, n⟩ := R1.cell i _ q
    refine ⟨_, _, rfl, ?_⟩
    refine ⟨_, e1, h1 W Z O env σ H0 H1 _ _ R1 p1 fun kd kv H2 p2 g2 nk => ?_⟩
    obtain ⟨k, rfl, j, hj, p2⟩ := onI_iff p2
    have R2 := R1.tr g2
    have hp2 := g2.keep _ _ (R1.om p o) hp
    have nn := n.ge g2 R1.mz
    have na2 := na.ge g2 R1.mz
    have ne2 : H2 p ≠ none := by rw [hp2]; exact Option.some_ne_none _
    have R3 := R2.upOwn q e1 o (DnAll.set na2 j nn)
    refine ⟨p, xs, k, j, rfl, nk.int, hp2, by rw [nn.length]; exact hj, ?_⟩
    refine ⟨_, _, rfl, _, e1, h2 W Z O _ σ H0 _ _ _ R3 p2 fun kd2 kv2 H4 p4 g4 nk2 => ?_⟩
    obtain ⟨k2, rfl, j2, hj2, p4⟩ := onI_iff p4
    have R4 := R3.tr g4
    have kp : Kp Z O H2 (upd H2 p (.lst (xs.set j va))) := (Stp.put o ne2).kp
    have nb3 : Dn (upd H2 p (.lst (xs.set j va))) (ZO Z O) vb b := Dn.tr (fun a o' z e => ⟨kp a o' z e, z⟩) _ _ (nb.ge g2 R1.mz)
    have n3 : DnAll (upd H2 p (.lst (xs.set j va))) (ZO Z O) (xs.set j va) (ds.set j a) := DnAll.tr (fun a o' z e => ⟨kp a o' z e, z⟩) _ _ (DnAll.set na2 j nn)
    have hp4 := g4.keep _ _ (R3.om p o) upd_same
    have li : i < env.length := (List.getElem?_eq_some_iff.mp q).1
    refine ⟨p, _, k2, j2, rfl, nk2.int, hp4, by rw [n3.length]; exact hj2, rfl, ?_⟩
    have R5 := R4.upOwn (List.getElem?_set_self li) e1 o (DnAll.set (nb3.ge g4 R3.mz) j2 (n3.ge g4 R3.mz))
    exact ((((S.tr R g1).tr R1 g2).step (.put o ne2)).tr R3 g4).nx O _ σ _ R5 (.put o (by rw [hp4]; exact Option.some_ne_none _)) p4
  obtain ⟨es, rfl, p1⟩ := onU_iff p1
  cases n1 with
  | tup ht nz r =>
    cases r with
    | nil => exact p1.elim
    | cons na r2 =>
      cases r2 with
      | nil => exact p1.elim
      | cons nb r3 =>
        cases r3 with
        | cons _ _ => exact p1.elim
        | nil => exact ⟨_, _, rfl, SqT.of ht, rfl, main _ _ _ _ na nb p1⟩
theorem js_put2 (i : Nat) {x : Str} {xp1 xp2 tp1 tp2 tp : Pos} {kt : Nat} {i1 i2 : Expr} (h : JE X e te A) (b1 : JB X i1 t1 B1) (b2 : JB X i2 t2 B2) (hN : X.N[i]? = some x := by rfl) (hv : Vis X.env.scope x := by first | exact Or.inl rfl | exact Or.inr (Or.inl rfl) | exact Or.inr (Or.inr rfl)) (hd : (x == ("__debug__" : Str)) = false := by decide)
    (hcd : (x == ("__classdict__" : Str)) = false := by decide) (hc : X.calm = true := by rfl)
    (ha1 : ∀ v, assign (.Subscript (.Name x xp1) i1 tp1) X.env v = (do
      let ov ← holding [v] (eval (.Name x xp1) X.env)
      let iv ← holding [v, ov] (eval i1 X.env)
      standAt tp1
      holding [v, ov, iv] (setItem ov iv v)
      release [v, ov, iv] []) := by intro _; rfl)
    (ha2 : ∀ v, assign (.Subscript (.Name x xp2) i2 tp2) X.env v = (do
      let ov ← holding [v] (eval (.Name x xp2) X.env)
      let iv ← holding [v, ov] (eval i2 X.env)
      standAt tp2
      holding [v, ov, iv] (setItem ov iv v)
      release [v, ov, iv] []) := by intro _; rfl)
    (q1 : (assignEach [.Subscript (.Name x xp1) i1 tp1, .Subscript (.Name x xp2) i2 tp2] X.env).map (·.2) = assign (.Subscript (.Name x xp1) i1 tp1) X.env :: (assignEach [.Subscript (.Name x xp2) i2 tp2] X.env).map (·.2) := by rfl)
    (q2 : (assignEach [.Subscript (.Name x xp2) i2 tp2] X.env).map (·.2) = assign (.Subscript (.Name x xp2) i2 tp2) X.env :: (assignEach [] X.env).map (·.2) := by rfl)
    (hn : (assignEach [.Subscript (.Name x xp1) i1 tp1, .Subscript (.Name x xp2) i2 tp2] X.env).length = 2 := by rfl) (hst : (assignEach [.Subscript (.Name x xp1) i1 tp1, .Subscript (.Name x xp2) i2 tp2] X.env).findIdx? (·.1) = none := by rfl)
    (hs : swapsWithSole [.Tuple [.Subscript (.Name x xp1) i1 tp1, .Subscript (.Name x xp2) i2 tp2] kt tp] e pos.line X.env = pure false := by rfl) (hw : swappedStores [.Tuple [.Subscript (.Name x xp1) i1 tp1, .Subscript (.Name x xp2) i2 tp2] kt tp] e X.env = pure none := by rfl)
    (h1 : (assignEach [.Tuple [.Subscript (.Name x xp1) i1 tp1, .Subscript (.Name x xp2) i2 tp2] kt tp] X.env).map (·.2) = [assign (.Tuple [.Subscript (.Name x xp1) i1 tp1, .Subscript (.Name x xp2) i2 tp2] kt tp) X.env] := by rfl) :
    JS X (.Assign [.Tuple [.Subscript (.Name x xp1) i1 tp1, .Subscript (.Name x xp2) i2 tp2] kt tp] e pos) (tAsg te (gTup X.K 2 (gCons (gSub (tVar i) t1 rSetL) (gCons (gSub (tVar i) t2 rSetL) gNil)))) (mPut2 i B1 B2 A) :=
  ⟨ps_asg h.pe (pg_tup hc (pgs_cons (pg_sub (pe_var hN hv hd hcd) b1.pe set_list ha1) (pgs_cons (pg_sub (pe_var hN hv hd hcd) b2.pe set_list ha2) pgs_nil q2) q1) hn hst) hs hw h1, put2_sound h.es b1.es b2.es⟩
end
end Dw

set_option maxRecDepth 100000
set_option maxHeartbeats 4000000
/-! Dw21: a module's constants; <= between pairs of whole numbers. -/
namespace Dw
open PySem PySem.Spec PyProof.Rows L2
variable [XCtx]
section
variable {X : Cx} {a b : Expr} {ta tb : TE} {A B : ME} {pos : Pos}
theorem je_cI {x : Str} {i : Int} (h : ∃ u, X.mg x = some u ∧ RelV (V.int i) u) (hg : Gl X x) (hd : (x == ("__debug__" : Str)) = false := by decide) : JE X (.Name x pos) (tC (.int i)) (mC (.int i)) := by
  obtain ⟨u, hm, r⟩ := h
  exact je_glI hg hm r hd
theorem je_cS {x : Str} {i : Str} (h : ∃ u, X.mg x = some u ∧ RelV (V.str i) u) (hg : Gl X x) (hd : (x == ("__debug__" : Str)) = false := by decide) : JE X (.Name x pos) (tC (.str i)) (mC (.str i)) := by
  obtain ⟨u, hm, r⟩ := h
  exact je_glS hg hm r hd
/-- p <= q, pairs -/
def leP (p q : Int × Int) : Bool := if p.1 = q.1 then decide (p.2 ≤ q.2) else decide (p.1 ≤ q.1)
def fLeP (x y : PyData) (P : PyData → Prop) : Prop := ∃ p q : Int × Int, x = prD p ∧ y = prD q ∧ P (.bool (leP p q))
theorem two_is {W : Wl} {H : Hp} {Z : Addr → Prop} {v : V} {p : Int × Int} (h : Tn W H Z v (prD p)) : ∃ a, v = .ref a ∧ TupAt H a ([p.1, p.2].map V.int) := by
  obtain ⟨a, xs, rfl, hp, _, n⟩ := h.tuple
  have e : xs = [p.1, p.2].map V.int := DnAll.ints (ns := [p.1, p.2]) n
  exact ⟨a, rfl, e ▸ hp⟩
theorem lexAt_pair (p q : Int × Int) : Ob.lexAt (fun j => decide ([p.1, p.2].getD j 0 = [q.1, q.2].getD j 0)) (fun j => decide ([p.1, p.2].getD j 0 ≤ [q.1, q.2].getD j 0)) (decide ([p.1, p.2].length ≤ [q.1, q.2].length)) 0 (min [p.1, p.2].length [q.1, q.2].length) = leP p q := by
  show (if decide (p.1 = q.1) = true then (if decide (p.2 = q.2) = true then true else decide (p.2 ≤ q.2)) else decide (p.1 ≤ q.1)) = leP p q
  unfold leP
  by_cases h : p.1 = q.1
  · rw [if_pos h, if_pos (decide_eq_true h)]
    by_cases h2 : p.2 = q.2
    · rw [if_pos (decide_eq_true h2), decide_eq_true (by omega)]
    · rw [if_neg (by rw [decide_eq_false h2]; decide)]
  · rw [if_neg h, if_neg (by rw [decide_eq_false h]; decide)]
theorem s_leP {K : PySem.W.Frag} : R2S (rLeT K) fLeP := by
  intro W Z O env σ H0 H x y d d' P Q R hx hy hf k
  obtain ⟨p, q, rfl, rfl, hp⟩ := hf
  obtain ⟨a, rfl, h1⟩ := two_is hx
  obtain ⟨b, rfl, h2⟩ := two_is hy
  refine ⟨a, b, [p.1, p.2], [q.1, q.2], rfl, rfl, SqT.of h1, SqT.of h2, ?_⟩
  rw [lexAt_pair]
  exact k _ _ H hp .refl (.bl _)
theorem je_leT (hu : X.A.units + 64 < cLine) (ha : JB X a ta A) (hb : JB X b tb B) : JE X (.Compare a [.LtE] [b] pos) (tOp (rLeT X.K) ta tb) (m2 fLeP A B) := je_cmp (op_leT (by omega)) s_leP ha hb (nomark _)
theorem jt_leT (hu : X.A.units + 64 < cLine) (ha : JB X a ta A) (hb : JB X b tb B) : JT X (.Compare a [.LtE] [b] pos) (tTest (tOp (rLeT X.K) ta tb)) (mB (m2 fLeP A B)) := jt_cmp (op_leT (by omega)) s_leP ha hb (nomark _)
/-- .. where the term must not name what is around it -/
theorem jt_eqK {K : PySem.W.Frag} (hK : X.K = K) (hu : X.A.units + 64 < cLine) (ha : JB X a ta A) (hb : JB X b tb B) : JT X (.Compare a [.Eq] [b] pos) (tTest (tOp (rEqD K) ta tb)) (mB (m2 fEq A B)) := by
  subst hK
  exact jt_eq hu ha hb
theorem jt_neK {K : PySem.W.Frag} (hK : X.K = K) (hu : X.A.units + 64 < cLine) (ha : JB X a ta A) (hb : JB X b tb B) : JT X (.Compare a [.NotEq] [b] pos) (tTest (tOp (rNeD K) ta tb)) (mB (m2 fNe A B)) := by
  subst hK
  exact jt_ne hu ha hb
end
end Dw

set_option maxRecDepth 100000
set_option maxHeartbeats 4000000
/-! Dw22: sorted of things ((a, b), r), any number of them; tuple.index of whole numbers; a list from behind. -/
namespace Dw
open PySem PySem.Spec PyProof.Rows L2
variable [XCtx]

/-! ### pairs of a pair and an int, in order -/
abbrev N3 := (Int × Int) × Int
def ltN (p q : N3) : Bool := if p.1 = q.1 then decide (p.2 < q.2) else SrtO.lexB p.1 q.1
theorem ltN_iff {p q : N3} : ltN p q = true ↔ p.1.1 < q.1.1 ∨ (p.1.1 = q.1.1 ∧ (p.1.2 < q.1.2 ∨ (p.1.2 = q.1.2 ∧ p.2 < q.2))) := by
  unfold ltN
  by_cases e : p.1 = q.1
  · rw [if_pos e, decide_eq_true_eq, e]
    omega
  · rw [if_neg e, SrtO.lexB_iff]
    have ne : ¬ (p.1.1 = q.1.1 ∧ p.1.2 = q.1.2) := fun z => e (Prod.ext z.1 z.2)
    omega
theorem ltN_no {p q : N3} : ltN p q = false ↔ ¬ (p.1.1 < q.1.1 ∨ (p.1.1 = q.1.1 ∧ (p.1.2 < q.1.2 ∨ (p.1.2 = q.1.2 ∧ p.2 < q.2)))) := by
  rw [← ltN_iff]
  cases ltN p q <;> simp
theorem ltN_swo {α : Type} (k : α → N3) : SrtO.Swo fun v u => ltN (k v) (k u) := by
  refine ⟨fun x y h => ?_, fun x y z h1 h2 => ?_⟩
  · have a := ltN_iff.mp h
    refine ltN_no.mpr ?_
    omega
  · have a := ltN_no.mp h1
    have b := ltN_no.mp h2
    refine ltN_no.mpr ?_
    omega
structure Nest (h : Heap) (v : Value) (p : N3) : Prop where
  ex : ∃ a o n u t o' n' t1 t2, v = .ref a ∧ (h.get? a = some o ∧ o.cls = .type "tuple" ∧ o.data = .seq #[.ref u, .int p.2 t] n) ∧ h.get? u = some o' ∧ o'.cls = .type "tuple" ∧ o'.data = .seq #[.int p.1.1 t1, .int p.1.2 t2] n'
theorem Nest.keeps {h h' : Heap} {v : Value} {p : N3} (q : Nest h v p) (k : ∀ b o, h.get? b = some o → o.cls = .type "tuple" → h'.get? b = some o) : Nest h' v p := by
  obtain ⟨a, o, n, u, t, o', n', t1, t2, e, ⟨g1, g2, g3⟩, g4, g5, g6⟩ := q.ex
  exact ⟨a, o, n, u, t, o', n', t1, t2, e, ⟨k _ _ g1 g2, g2, g3⟩, k _ _ g4 g5, g5, g6⟩
theorem nest_firsts {h : Heap} {M : Model} (k : Value → N3) : ∀ {vs : List Value}, (∀ v ∈ vs, Nest h v (k v)) → ∃ fs : List Value, PySem.W.KatTups h vs fs ∧ fs.length = vs.length ∧ ∀ f ∈ fs, PySem.W.Looks M h (typeOf f) (Value.type "tuple")
  | [], _ => ⟨[], PySem.W.KatTups.nil, rfl, fun _ m => nomatch m⟩
  | v :: vs, hv => by
    obtain ⟨fs, h1, h2, h3⟩ := nest_firsts (M := M) k (vs := vs) fun u hu => hv u (List.mem_cons_of_mem _ hu)
    obtain ⟨a, o, n, u, t, o', n', t1, t2, e, ⟨g1, g2, g3⟩, g4, g5, g6⟩ := (hv v List.mem_cons_self).ex
    rw [e]
    refine ⟨.ref u :: fs, PySem.W.KatTups.cons g1 g2 g3 rfl h1, by rw [List.length_cons, List.length_cons, h2], fun f hf => ?_⟩
    rcases List.mem_cons.mp hf with rfl | hf
    · rw [← g5]
      exact (PySem.W.Looks.ld g4).andThen .now
    · exact h3 f hf
theorem lexAt_two (p q : Int × Int) : Ob.lexAt (fun j => decide ([p.1, p.2].getD j 0 = [q.1, q.2].getD j 0)) (fun j => decide ([p.1, p.2].getD j 0 < [q.1, q.2].getD j 0)) (decide ((2 : Nat) < 2)) 0 2 = SrtO.lexB p q := by
  show (if decide (p.1 = q.1) = true then (if decide (p.2 = q.2) = true then decide ((2 : Nat) < 2) else decide (p.2 < q.2)) else decide (p.1 < q.1)) = SrtO.lexB p q
  unfold SrtO.lexB
  by_cases h : p.1 = q.1
  · rw [if_pos h, if_pos (decide_eq_true h)]
    by_cases h2 : p.2 = q.2
    · rw [if_pos (decide_eq_true h2), decide_eq_false (p := p.2 < q.2) (by omega)]
      rfl
    · rw [if_neg (by rw [decide_eq_false h2]; decide)]
  · rw [if_neg h, if_neg (by rw [decide_eq_false h]; decide)]
theorem nest_cmp {prog : Program} {w : World} {A : Around} {s : Shared} {vs : List Value} {k : Value → N3} (hu : A.units + 8 < cLine) (hp : ∀ v ∈ vs, Nest s.heap v (k v)) : SrtO.Cmp prog w A s (tuples' false) (fun p => p.1 ∈ vs) (SrtO.lt2 fun v u => ltN (k v) (k u)) := by
  intro p q hm hm'
  have h1 := (hp _ hm).ex
  have h2 := (hp _ hm').ex
  show wpAny (model prog w) A (keyLt' (tuples' false) p.1 q.1) (fun r s' => s' = s ∧ r = ltN (k p.1) (k q.1)) (fun _ _ => False) s
  generalize k p.1 = x at h1 ⊢
  generalize k q.1 = y at h2 ⊢
  obtain ⟨a, o, n, u, t, o', n', t1, t2, e, ⟨g1, g2, g3⟩, g4, g5, g6⟩ := h1
  obtain ⟨b, r, m, z, t', r', m', t3, t4, e', ⟨f1, f2, f3⟩, f4, f5, f6⟩ := h2
  rw [e, e']
  refine PySem.W.kat_lt g1 g3 f1 f3 ?_
  show PySem.W.KatLex prog w A false (decide (2 < 2)) _ [(.ref u, .ref z), (.int x.2 t, .int y.2 t')] 0 s
  have r1 : Reads s.heap (.ref u) (.tuple [.int x.1.1, .int x.1.2]) _ := .tuple g4 g5 g6 (.cons (.int _ _) (.cons (.int _ _) .nil))
  have r2 : Reads s.heap (.ref z) (.tuple [.int y.1.1, .int y.1.2]) _ := .tuple f4 f5 f6 (.cons (.int _ _) (.cons (.int _ _) .nil))
  have ev : PyData.eqv (.tuple [.int x.1.1, .int x.1.2]) (.tuple [.int y.1.1, .int y.1.2]) = decide (x.1 = y.1) := by
    have e0 : PyData.eqv (.tuple [.int x.1.1, .int x.1.2]) (.tuple [.int y.1.1, .int y.1.2]) = ((x.1.1 == y.1.1) && ((x.1.2 == y.1.2) && true)) := by
      simp [PyData.eqv, PyData.eqvAll]
    rw [e0, Bool.eq_iff_iff]
    simp only [Bool.and_true, Bool.and_eq_true, beq_iff_eq, decide_eq_true_eq]
    exact ⟨fun z => Prod.ext z.1 z.2, fun z => by rw [z]; exact ⟨rfl, rfl⟩⟩
  refine PySem.W.kat_cons ((SeqAt.eqAt_reads _ _ A s _ _ _ _ r1 r2 rfl rfl (by
    have d1 : (PyData.tuple [.int x.1.1, .int x.1.2]).depth ≤ 4 := by simp [PyData.depth, PyData.depthAll]
    omega)) prog w _ _ ?_)
  rw [ev]
  refine PySem.W.kat_go (fun e1 => ?_) (fun e1 => ?_)
  · have ex : x.1 = y.1 := of_decide_eq_true e1
    have e3 : ltN x y = decide (x.2 < y.2) := if_pos ex
    refine PySem.W.kat_yes (PySem.W.kat_cons (SeqAt.EqAt.int_int x.2 t y.2 t' prog w _ _ ?_))
    refine PySem.W.kat_go (fun e2 => ?_) (fun e2 => ?_)
    · have ey : x.2 = y.2 := by simpa using e2
      exact PySem.W.kat_yes (PySem.W.kat_nil ⟨rfl, by rw [e3, ey]; exact (decide_eq_false (Int.lt_irrefl _)).symm⟩)
    · refine PySem.W.kat_no (PySem.W.kat_one _ _ (PyProof.Rows.lt_int ?_))
      exact (show s = s ∧ decide (x.2 < y.2) = ltN x y from ⟨rfl, e3.symm⟩)
  · have ex : ¬ x.1 = y.1 := of_decide_eq_false e1
    have e3 : ltN x y = SrtO.lexB x.1 y.1 := if_neg ex
    refine PySem.W.kat_no (PySem.W.kat_one _ _ ?_)
    have ii : ∀ (i j : Nat) (c : Nat), c < 2 → True := fun _ _ _ _ => trivial
    have lt := Ob.RcOp.tuples_lt (A := A) (s := s) (l := u) (b := z) (e := fun j => decide ([x.1.1, x.1.2].getD j 0 = [y.1.1, y.1.2].getD j 0)) (r := fun j => decide ([x.1.1, x.1.2].getD j 0 < [y.1.1, y.1.2].getD j 0)) ⟨_, g4, g5, _, g6⟩ ⟨_, f4, f5, _, f6⟩ (by omega)
      (fun j h1 h2 => by
        match j, h1 with
        | 0, _ => exact (show decide (x.1.1 = y.1.1) = (x.1.1 == y.1.1) by rw [Bool.eq_iff_iff]; simp) ▸ SeqAt.EqAt.int_int _ _ _ _
        | 1, _ => exact (show decide (x.1.2 = y.1.2) = (x.1.2 == y.1.2) by rw [Bool.eq_iff_iff]; simp) ▸ SeqAt.EqAt.int_int _ _ _ _)
      (fun j h1 h2 _ => by
        match j, h1 with
        | 0, _ => exact Ob.RcOp.lt_int _ _ _ _
        | 1, _ => exact Ob.RcOp.lt_int _ _ _ _)
    have fin : Ob.lexAt (fun j => decide ([x.1.1, x.1.2].getD j 0 = [y.1.1, y.1.2].getD j 0)) (fun j => decide ([x.1.1, x.1.2].getD j 0 < [y.1.1, y.1.2].getD j 0)) (decide ((2 : Nat) < 2)) 0 2 = ltN x y := by
      rw [e3]
      exact lexAt_two x.1 y.1
    exact lt prog w _ _ ⟨rfl, fin⟩
theorem nest_sortable {prog : Program} {w : World} {A : Around} {s : Shared} {a : Addr} {ws : List Value} {k : Value → N3} (room : A.units + 8 < cLine) (pos : 0 < ws.length) (nest : ∀ v ∈ ws, Nest s.heap v (k v)) (other : ∀ o, s.heap.get? a = some o → o.cls ≠ .type "tuple") : SrtO.SortableO prog w A s a ws fun v u => ltN (k v) (k u) := by
  intro g keep
  have still : ∀ v ∈ ws, Nest g v (k v) := fun v mem => (nest v mem).keeps fun b o at_b c => keep b o (fun same => other o (same ▸ at_b) c) at_b
  obtain ⟨heads, tups, len, types⟩ := nest_firsts (M := model prog w) k still
  refine ⟨tuples' false, fun Q E fin => ?_, nest_cmp room still⟩
  refine PySem.W.kat_kind (T := .type "tuple") tups (by omega) types (by rfl) ?_
  rw [show (Value.type "tuple" != Value.type "tuple") = false by first | decide +kernel | rfl | decide]
  exact fin
def rSortN (K : PySem.W.Frag) : List V → Hp → VK → Prop := fun vs H Q => ∃ (a : Addr) (xs : List V) (k : V → N3), vs = [V.ref a] ∧ SqL K H a xs ∧ (∀ x ∈ xs, ∃ t u, x = V.ref t ∧ H t = some (.tup [.ref u, .int (k x).2]) ∧ H u = some (.tup [.int (k x).1.1, .int (k x).1.2])) ∧
  ∀ ys p, SrtO.Srtd (fun x y => ltN (k x) (k y)) ys → ys.Perm xs → H p = none → Q (.ref p) (upd H p (.lst ys))
theorem cr_sortN {X : Cx} (room : X.A.units + 64 < cLine) : CallR X (.builtin "sorted") (rSortN X.K) := by
  intro pins s σ H vs us Q I args given
  obtain ⟨a, xs, k, rfl, here, each, go⟩ := given
  obtain ⟨ws, rel, isl, fits⟩ := I.list here
  obtain ⟨arg, rfl, arel⟩ := vals1 args
  cases (show arg = Value.ref a from arel)
  obtain ⟨asList, asRefs⟩ := refs_back rel fun x mem => by
    obtain ⟨t, _, e, _⟩ := each x mem
    exact ⟨t, e⟩
  have nest : ∀ v ∈ ws, Nest s.heap v (k (backV v)) := fun v mem => by
    obtain ⟨t, rfl⟩ := asRefs v mem
    have inXs : V.ref t ∈ xs := by rw [asList]; exact List.mem_map.mpr ⟨_, mem, rfl⟩
    obtain ⟨_, pr, e, atT, atPr⟩ := each _ inXs
    cases e
    obtain ⟨_, two, rtwo, o, oAt, oTy, n, oDt⟩ := I.hok _ _ atT
    obtain ⟨v1, v2, rfl, r1, ⟨t2, rfl⟩⟩ := vals2 rtwo
    cases (show v1 = Value.ref pr from r1)
    obtain ⟨_, both, rints, o', oAt', oTy', n', oDt'⟩ := I.hok _ _ atPr
    obtain ⟨_, _, rfl, ⟨t3, rfl⟩, ⟨t4, rfl⟩⟩ := vals2 rints
    exact ⟨⟨t, o, n, pr, t2, o', n', t3, t4, rfl, ⟨oAt, oTy, oDt⟩, oAt', oTy', oDt'⟩⟩
  refine SrtO.sorted_ord (ltN_swo fun u => k (backV u)) isl.isList (by rw [← rel.length]; exact fits) (fun two g b atB kept => ?_) fun out sorted stable => ?_
  · refine nest_sortable (s := { s with heap := g }) (k := fun u => k (backV u)) (by show X.A.units + 1 + 1 + 8 < _; omega) (by omega) (fun v mem => (nest v mem).keeps fun c o atC _ => (kept c o atC).2) fun o atO c => ?_
    have same : some o = some (seqObj "list" ws.toArray 0) := atO.symm.trans atB
    cases same
    exact absurd (Value.type.inj c) (by decide)
  · have refs : ∀ u ∈ out, ∃ b, u = Value.ref b := fun u mem => asRefs u (stable.perm.mem_iff.mp mem)
    have perm : (out.map backV).Perm xs := by
      rw [asList]
      exact stable.perm.map backV
    obtain ⟨n, atN⟩ := sortedAll_at s.heap ws out.toArray
    refine ⟨.ref _, upd H _ (.lst (out.map backV)), I.laid (t' := s.toks) (fun b o e => sortedAll_old e) (Nat.le_succ _) ⟨?_, out, n, vals_back refs, atN⟩, rfl, go _ _ (SrtO.srtd_map sorted) perm (I.hok.fresh (Nat.le_succ _))⟩
    rw [perm.length_eq]
    exact fits
end Dw

set_option maxRecDepth 100000
set_option maxHeartbeats 4000000
/-! Dw23: {k: e}, k a whole number; >= between pairs. -/
namespace Dw
open PySem PySem.Spec PyProof.Rows L2
variable [XCtx]
section
variable {X : Cx} {a b : Expr} {ta tb : TE} {A B : ME} {pos : Pos}
def mDic1 (A B : ME) : ME := fun env P => A env fun x => onI x fun k => B env fun d => P (.dict [(.int k, d)])
theorem je_dic1 (ha : JE X a ta A) (hb : JE X b tb B) : JE X (.Dict [some a] [b] pos) (tDisp [(ta, tb)]) (mDic1 A B) := ⟨pe_disp (pps_cons ha.pe hb.pe pps_nil) rfl rfl (by simp) (by show 1 ≤ 15; decide), by
  intro W Z O env σ H0 H P Q R hm k p hp
  have R1 := R.own (o := .dK []) hp
  refine ha.es W Z _ env σ H0 _ _ _ R1 hm fun x v H1 p1 g1 n1 => ?_
  obtain ⟨i, rfl, p1⟩ := onI_iff p1
  cases n1
  refine hb.es W Z _ env σ H0 H1 _ _ (R1.tr g1) p1 fun d u H2 p2 g2 n2 => ?_
  have g := g1.trans g2
  have nm : ¬ Mu W p := R1.om p (.inr rfl)
  have at2 : H2 p = some (.dK []) := g.keep p _ nm upd_same
  refine ⟨at2, [(.inl i, u)], rfl, (by decide : 1 ≤ 15), ?_⟩
  have g0 : Ge W H (upd H p (.dK [])) := .new hp
  have gg : Ge W H (upd H2 p (.dK [(.inl i, u)])) := ⟨fun c o m e => by
    have ne : c ≠ p := ne_of_none e hp
    rw [upd_ne ne]
    exact (g0.trans g).keep c o m e, fun z => ((g0.trans g).wl z).upd (.inr nm)⟩
  refine k _ _ _ p2 gg (.dic1 upd_same (R.new hp) ?_)
  refine Dn.tr (fun c o z e => ?_) _ _ n2
  have ne : c ≠ p := fun q => z (.inr (.inr q))
  exact ⟨by rw [upd_ne ne]; exact e, fun q => z (q.imp id .inl)⟩⟩
/-- p >= q, pairs -/
def geP (p q : Int × Int) : Bool := if p.1 = q.1 then decide (q.2 ≤ p.2) else decide (q.1 ≤ p.1)
def fGeP (x y : PyData) (P : PyData → Prop) : Prop := ∃ p q : Int × Int, x = prD p ∧ y = prD q ∧ P (.bool (geP p q))
def rGePr (K : PySem.W.Frag) : R2 := fun x y H Q => ∃ (a b : Addr) (p q : Int × Int), x = .ref a ∧ y = .ref b ∧ TupAt H a [.int p.1, .int p.2] ∧ TupAt H b [.int q.1, .int q.2] ∧ Q (.bl (geP p q)) H
theorem op_gePr {X : Cx} (room : X.A.units + 64 < cLine) : OpR X (compareOp .GtE) (rGePr X.K) := by
  intro pins s σ H x y v u Q I one two given
  obtain ⟨a, b, p, q, rfl, rfl, atA, atB, go⟩ := given
  cases one
  cases two
  obtain ⟨its, o1, n1, r1, h1, c1, d1⟩ := at_tuple I atA
  obtain ⟨jts, o2, n2, r2, h2, c2, d2⟩ := at_tuple I atB
  obtain ⟨_, _, rfl, ⟨t1, rfl⟩, ⟨t2, rfl⟩⟩ := vals2 r1
  obtain ⟨_, _, rfl, ⟨t3, rfl⟩, ⟨t4, rfl⟩⟩ := vals2 r2
  have cmp := Ob.RcOp.tuples_ge (A := X.A) (s := s) (l := a) (b := b) (e := fun j => decide ([p.1, p.2].getD j 0 = [q.1, q.2].getD j 0)) (r := fun j => decide ([q.1, q.2].getD j 0 ≤ [p.1, p.2].getD j 0)) ⟨_, h1, c1, _, d1⟩ ⟨_, h2, c2, _, d2⟩ (by omega)
    (fun j e1 e2 => by
      match j, e1 with
      | 0, _ => exact (show decide (p.1 = q.1) = (p.1 == q.1) by rw [Bool.eq_iff_iff]; simp) ▸ SeqAt.EqAt.int_int _ _ _ _
      | 1, _ => exact (show decide (p.2 = q.2) = (p.2 == q.2) by rw [Bool.eq_iff_iff]; simp) ▸ SeqAt.EqAt.int_int _ _ _ _)
    (fun j e1 e2 _ => by
      match j, e1 with
      | 0, _ => exact Ob.RcOp.ge_int _ _ _ _
      | 1, _ => exact Ob.RcOp.ge_int _ _ _ _)
  have val : Ob.lexAt (fun j => decide ([p.1, p.2].getD j 0 = [q.1, q.2].getD j 0)) (fun j => decide ([q.1, q.2].getD j 0 ≤ [p.1, p.2].getD j 0)) (decide ((2 : Nat) ≤ 2)) 0 2 = geP p q := by
    show (if decide (p.1 = q.1) = true then (if decide (p.2 = q.2) = true then decide ((2 : Nat) ≤ 2) else decide (q.2 ≤ p.2)) else decide (q.1 ≤ p.1)) = geP p q
    unfold geP
    by_cases h : p.1 = q.1
    · rw [if_pos h, if_pos (decide_eq_true h)]
      by_cases h2 : p.2 = q.2
      · rw [if_pos (decide_eq_true h2), decide_eq_true (p := q.2 ≤ p.2) (by omega)]
        rfl
      · rw [if_neg (by rw [decide_eq_false h2]; decide)]
    · rw [if_neg h, if_neg (by rw [decide_eq_false h]; decide)]
  have fin : wpAny (model X.prog X.w) X.A (compareOp .GtE (.ref a) (.ref b)) (EP X pins σ Q) X.xe s := cmp X.prog X.w X.xe (EP X pins σ Q) ⟨.bl (geP p q), H, I, congrArg Value.bool val.symm ▸ rfl, go⟩
  exact fin
theorem s_geP {K : PySem.W.Frag} : R2S (rGePr K) fGeP := by
  intro W Z O env σ H0 H x y d d' P Q R hx hy hf k
  obtain ⟨p, q, rfl, rfl, hp⟩ := hf
  obtain ⟨a, rfl, h1⟩ := two_is hx
  obtain ⟨b, rfl, h2⟩ := two_is hy
  exact ⟨a, b, p, q, rfl, rfl, h1, h2, k _ _ H hp .refl (.bl _)⟩
theorem jt_geT (hu : X.A.units + 64 < cLine) (ha : JB X a ta A) (hb : JB X b tb B) : JT X (.Compare a [.GtE] [b] pos) (tTest (tOp (rGePr X.K) ta tb)) (mB (m2 fGeP A B)) := jt_cmp (op_gePr hu) s_geP ha hb (nomark _)
end
/-! a def without parameters -/
def no0 {α : Type} (us _ws : List α) : List α := us
theorem perm0 : PermC no0 no0 no0 0 0 0 := ⟨fun W H Z vs zs cs ds h1 _ a _ => ⟨a, h1⟩⟩
theorem kb0 {x qual : Str} {st : Stmt} {K : PySem.W.Frag} {f : Addr} {fd : FuncData} (F : Fun K x qual st f fd)
    (h : ∀ (kV doc pm' : Value) (an : Option Addr) (cdv ct : Value), bindArgs (PySem.W.fnOf x qual (defArgs st) (defBody st) (defScope st) .none kV doc pm' an cdv ct) ⟨[], []⟩ = pure []) : KBinds K fd [] [] no0 no0 := by
  obtain ⟨oc, od, kV, doc, pm', an, cdv, ct, osl, rfl, lk, hcd⟩ := F.ex
  refine ⟨fun s us ws _ hl => ?_, fun r _ => r⟩
  cases (List.eq_nil_of_length_eq_zero hl : us = [])
  exact .of_eq (h kV doc pm' an cdv ct)
end Dw

set_option maxRecDepth 100000
set_option maxHeartbeats 4000000
/-! Dw24: dicts of one's own, whole numbers to whole numbers. -/
namespace Dw
open PySem PySem.Spec PyProof.Rows L2
variable [XCtx]
theorem un1 {k : Nat} {A : Around} (r : Room k A) : A.units + 1 < cLine := by have := un64 r; omega
def getI (kvs : List (Int × Int)) (k : Int) : Option Int := (kvs.find? fun q => decide (q.1 = k)).map (·.2)
def putI (kvs : List (Int × Int)) (k v : Int) : List (Int × Int) := if (kvs.any fun q => decide (q.1 = k)) = true then kvs.map (fun q => if q.1 = k then (q.1, v) else q) else kvs ++ [(k, v)]
def keyP (q : Int × Int) : Key × V := (.inl q.1, .int q.2)
theorem dicO_eq (kvs : List (Int × Int)) : dicO kvs = .dK (kvs.map keyP) := rfl
theorem valV_keyP (k : Int) : ∀ kvs : List (Int × Int), valV (kvs.map keyP) (.inl k) = (getI kvs k).map V.int
  | [] => rfl
  | q :: r => by
    rw [List.map_cons]
    by_cases e : q.1 = k
    · rw [valV_pos (p := keyP q) (show (Sum.inl q.1 : Key) = Sum.inl k by rw [e])]
      unfold getI
      rw [List.find?_cons, decide_eq_true e]
      rfl
    · rw [valV_neg (p := keyP q) (fun z => e (Sum.inl.inj z)), valV_keyP k r]
      unfold getI
      rw [List.find?_cons, decide_eq_false e]
theorem putK_keyP (k v : Int) (kvs : List (Int × Int)) : putK (kvs.map keyP) (.inl k) (.int v) = (putI kvs k v).map keyP := by
  have h1 : ((kvs.map keyP).any fun kv => decide (kv.1 = (Sum.inl k : Key))) = kvs.any fun q => decide (q.1 = k) := by
    induction kvs with
    | nil => rfl
    | cons q r ih =>
      rw [List.map_cons, List.any_cons, List.any_cons, ih]
      congr 1
      by_cases e : q.1 = k
      · rw [decide_eq_true e, decide_eq_true (show (keyP q).1 = Sum.inl k from congrArg Sum.inl e)]
      · rw [decide_eq_false e, decide_eq_false (show ¬ (keyP q).1 = Sum.inl k from fun z => e (Sum.inl.inj z))]
  unfold putK putI
  rw [h1]
  split
  · rw [List.map_map, List.map_map]
    apply List.map_congr_left
    intro q _
    show (if (keyP q).1 = Sum.inl k then ((keyP q).1, V.int v) else keyP q) = keyP (if q.1 = k then (q.1, v) else q)
    by_cases e : q.1 = k
    · rw [if_pos e, if_pos (show (keyP q).1 = Sum.inl k from congrArg Sum.inl e)]
      rfl
    · rw [if_neg e, if_neg (show ¬ (keyP q).1 = Sum.inl k from fun z => e (Sum.inl.inj z))]
  · rw [List.map_append]
    rfl

/-! ### slots that hold dicts -/
section
variable {W : Wl} {Z O : Addr → Prop} {env : Cells} {σ : L2.St} {H0 H H1 : Hp}
theorem Rel.setDic (R : Rel W Z O env σ H0 H) {p : Addr} {kvs : List (Int × Int)} (hp : O p) (no : ∀ (i : Nat) (ds : Hold), env[i]? = some (Cell.of ds) → σ[i]? ≠ some (some (.ref p))) (h : H p = some (dicO kvs)) (i : Nat) :
    Rel W Z O (env.set i (.dic kvs)) (σ.set i (some (.ref p))) H0 H where
  ge := R.ge
  wl := R.wl
  mz := R.mz
  za := R.za
  oz := R.oz
  oh := R.oh
  len := by rw [List.length_set, List.length_set]; exact R.len
  cell := fun j c e => by
    have hj : j < (env.set i (.dic kvs)).length := (List.getElem?_eq_some_iff.mp e).1
    rw [List.length_set, R.len] at hj
    rcases getElem?_set_cases e with ⟨rfl, rfl⟩ | ⟨ne, e⟩
    · exact ⟨p, set_at hj, hp, h⟩
    · rw [List.getElem?_set_ne ne]
      exact R.cell j c e
  uniq := fun j k es fs q e1 e2 s1 s2 => by
    rcases getElem?_set_cases e1 with ⟨rfl, _⟩ | ⟨n1, e1⟩
    · rcases getElem?_set_cases e2 with ⟨rfl, _⟩ | ⟨n2, e2⟩
      · rfl
      · rw [List.getElem?_set_ne n2] at s2
        have hj : i < σ.length := by
          have := (List.getElem?_eq_some_iff.mp s1).1
          rw [List.length_set] at this
          exact this
        rw [set_at hj] at s1
        cases s1
        exact absurd s2 (no k fs e2)
    · rw [List.getElem?_set_ne n1] at s1
      rcases getElem?_set_cases e2 with ⟨rfl, _⟩ | ⟨n2, e2⟩
      · have hj : i < σ.length := by
          have := (List.getElem?_eq_some_iff.mp s2).1
          rw [List.length_set] at this
          exact this
        rw [set_at hj] at s2
        cases s2
        exact absurd s1 (no j es e1)
      · rw [List.getElem?_set_ne n2] at s2
        exact R.uniq j k es fs q e1 e2 s1 s2
  xr := R.xr
/-- a new object of any kind becomes one's own -/
theorem Rel.takeO (R : Rel W Z O env σ H0 H) (g : Ge W H H1) {p : Addr} {o : HO} (hp : H p = none) (h : H1 p = some o) (nt : NT (some o) := by first | exact nt_lst | exact nt_dK | exact nt_dT) : Rel W Z (fun a => O a ∨ a = p) env σ H0 H1 := by
  have R1 := R.tr g
  have nin : ∀ a u, ¬ ZO Z O a → H a = some u → H1 a = some u ∧ ¬ ZO Z (fun a => O a ∨ a = p) a := fun a u z e => ⟨g.keep a u (fun m => z (.inl (R.mz a m))) e, by
    rintro (q | q | q)
    · exact z (.inl q)
    · exact z (.inr q)
    · exact ne_of_none e hp q⟩
  refine ⟨⟨R1.ge, R1.wl, R1.mz, R1.za, fun a q => ?_, fun a q => ?_, R1.len, fun i c e => ?_, R1.uniq⟩, R.xr.step ⟨fun a o z e => g.keep a o (fun m => z (.inl (R.mz a m))) e, fun a q => q.imp id fun e => by rw [e]; exact hp, fun a h => g.fresh R.wl h⟩⟩
  · rcases q with q | rfl
    · exact R.oz a q
    · cases e : H0 a with
      | none => rfl
      | some u => exact absurd hp (R.ge.there R.wl e)
  · rcases q with q | rfl
    · exact R1.oh a q
    · rw [h]
      exact nt
  · have k := R.cell i c e
    cases c with
    | non => trivial
    | val d =>
      obtain ⟨v, e1, n⟩ := k
      exact ⟨v, e1, Dn.tr nin _ _ n⟩
    | own ds =>
      obtain ⟨q, ys, e1, oq, hq, n⟩ := k
      exact ⟨q, ys, e1, .inl oq, g.keep _ _ (R.om q oq) hq, DnAll.tr nin _ _ n⟩
    | dic kvs =>
      obtain ⟨q, e1, oq, hq⟩ := k
      exact ⟨q, e1, .inl oq, g.keep _ _ (R.om q oq) hq⟩
    | hob ho =>
      obtain ⟨q, e1, oq, hq⟩ := k
      exact ⟨q, e1, .inl oq, g.keep _ _ (R.om q oq) hq⟩
    | well => exact k
    | raw _ => exact k
theorem Rel.upDic (R : Rel W Z O env σ H0 H) {i : Nat} {kvs kvs' : List (Int × Int)} {p : Addr} (e : env[i]? = some (.dic kvs)) (s : σ[i]? = some (some (.ref p))) (o : O p) :
    Rel W Z O (env.set i (.dic kvs')) σ H0 (upd H p (dicO kvs')) := by
  have R1 : Rel W Z O (env.set i .non) σ H0 H := ⟨⟨R.ge, R.wl, R.mz, R.za, R.oz, R.oh, by rw [List.length_set]; exact R.len, fun j c q => by
    rcases getElem?_set_cases q with ⟨rfl, rfl⟩ | ⟨ne, q⟩
    · trivial
    · exact R.cell j c q, fun j k ds es p e1 e2 s1 s2 => by
    rcases getElem?_set_cases e1 with ⟨_, q⟩ | ⟨n1, e1⟩
    · cases ds <;> cases q
    rcases getElem?_set_cases e2 with ⟨_, q⟩ | ⟨n2, e2⟩
    · cases es <;> cases q
    exact R.uniq j k ds es p e1 e2 s1 s2⟩, R.xr⟩
  have no : ∀ (j : Nat) (fs : Hold), (env.set i .non)[j]? = some (Cell.of fs) → σ[j]? ≠ some (some (.ref p)) := fun j fs q s' => by
    rcases getElem?_set_cases q with ⟨_, q⟩ | ⟨n1, q⟩
    · cases fs <;> cases q
    · exact n1 (R.uniq i j (.inr kvs) fs p e q s s')
  have R2 := R1.put (o := dicO kvs') o no
  have hi : i < σ.length := (List.getElem?_eq_some_iff.mp s).1
  have R3 := R2.setDic o no upd_same i
  have e1 : (env.set i .non).set i (.dic kvs') = env.set i (.dic kvs') := List.set_set ..
  have e2 : σ.set i (some (.ref p)) = σ := by
    apply List.ext_getElem?
    intro j
    by_cases q : i = j
    · subst q
      rw [List.getElem?_set_self hi, s]
    · rw [List.getElem?_set_ne q]
  rw [e1, e2] at R3
  exact R3
end

/-! ### a new dict -/
abbrev MD := Cells → (List (Int × Int) → Prop) → Prop
def DS (t : TE) (m : MD) : Prop := ∀ (W : Wl) (Z O : Addr → Prop) (env : Cells) (σ : L2.St) (H0 H : Hp) (P : List (Int × Int) → Prop) (Q : V → Hp → Prop), Rel W Z O env σ H0 H → m env P → (∀ kvs p H', P kvs → Ge W H H' → H p = none → H' p = some (dicO kvs) → Q (.ref p) H') → t σ H Q
structure JD (X : Cx) (e : Expr) (t : TE) (m : MD) : Prop where
  pe : PE X e t
  es : DS t m
def mD1 (A B : ME) : MD := fun env P => A env fun x => onI x fun k => B env fun y => onI y fun v => P [(k, v)]
section
variable {X : Cx} {a b : Expr} {ta tb : TE} {A B : ME} {pos : Pos}
theorem jd_1 (ha : JE X a ta A) (hb : JE X b tb B) : JD X (.Dict [some a] [b] pos) (tDisp [(ta, tb)]) (mD1 A B) := ⟨pe_disp (pps_cons ha.pe hb.pe pps_nil) rfl rfl (by simp) (by show 1 ≤ 15; decide), by
  intro W Z O env σ H0 H P Q R hm k p hp
  have R1 := R.own (o := .dK []) hp
  refine ha.es W Z _ env σ H0 _ _ _ R1 hm fun x v H1 p1 g1 n1 => ?_
  obtain ⟨i, rfl, p1⟩ := onI_iff p1
  cases n1
  refine hb.es W Z _ env σ H0 H1 _ _ (R1.tr g1) p1 fun d u H2 p2 g2 n2 => ?_
  obtain ⟨j, rfl, p2⟩ := onI_iff p2
  cases n2
  have g := g1.trans g2
  have nm : ¬ Mu W p := R1.om p (.inr rfl)
  have at2 : H2 p = some (.dK []) := g.keep p _ nm upd_same
  refine ⟨at2, [(.inl i, .int j)], rfl, (by decide : 1 ≤ 15), ?_⟩
  have g0 : Ge W H (upd H p (.dK [])) := .new hp
  have gg : Ge W H (upd H2 p (.dK [(.inl i, .int j)])) := ⟨fun c o m e => by
    have ne : c ≠ p := ne_of_none e hp
    rw [upd_ne ne]
    exact (g0.trans g).keep c o m e, fun z => ((g0.trans g).wl z).upd (.inr nm)⟩
  exact k [(i, j)] p _ p2 gg hp upd_same⟩
end
def mD0 : MD := fun _ P => P []
theorem jd_0 {X : Cx} {pos : Pos} : JD X (.Dict [] [] pos) tDNewK mD0 := ⟨pe_dnewK, fun W Z O env σ H0 H P Q R hm k p hp => k [] p _ hm (.new hp) hp upd_same⟩
def onDic (env : Cells) (i : Nat) (k : List (Int × Int) → Prop) : Prop := match env[i]? with
  | some (.dic kvs) => k kvs
  | _ => False
theorem onDic_iff {env : Cells} {i : Nat} {k : List (Int × Int) → Prop} (h : onDic env i k) : ∃ kvs, env[i]? = some (.dic kvs) ∧ k kvs := by
  unfold onDic at h
  split at h
  · rename_i ds e
    exact ⟨ds, e, h⟩
  · exact h.elim
def onSm (o : Option Int) (k : Int → Prop) : Prop := match o with
  | some v => k v
  | none => False
theorem onSm_iff {o : Option Int} {k : Int → Prop} (h : onSm o k) : ∃ v, o = some v ∧ k v := by
  cases o with
  | some v => exact ⟨v, rfl, h⟩
  | none => exact h.elim
/-- x in d, x not in d, d[x] -/
def mDIn (A : ME) (i : Nat) : ME := fun env P => A env fun x => onI x fun k => onDic env i fun kvs => P (.bool (getI kvs k).isSome)
def mDNotIn (A : ME) (i : Nat) : ME := fun env P => A env fun x => onI x fun k => onDic env i fun kvs => P (.bool (!(getI kvs k).isSome))
def mDGet (i : Nat) (A : ME) : ME := fun env P => onDic env i fun kvs => A env fun x => onI x fun k => onSm (getI kvs k) fun v => P (.int v)
/-- d[x] = e -/
def mDPut (i : Nat) (B A : ME) : MS := fun M env => onDic env i fun kvs => A env fun d => onI d fun v => B env fun x => onI x fun k => kvs.length < 100000 ∧ M.nx (env.set i (.dic (putI kvs k v)))
section
variable {X : Cx} {e ie : Expr} {te ti : TE} {A B : ME} {pos tp spos xp : Pos} {x : Str}
theorem valV_dicO {H : Hp} {p : Addr} {kvs : List (Int × Int)} (h : H p = some (dicO kvs)) (k : Int) : DGet H p (.int k) ((getI kvs k).map V.int) := by
  rw [← valV_keyP]
  exact DGet.k (k := .inl k) h
theorem je_dIn (i : Nat) (hu : X.A.units + 1 < cLine) (ha : JB X e te A) (hN : X.N[i]? = some x := by rfl) (hv : Vis X.env.scope x := by first | exact Or.inl rfl | exact Or.inr (Or.inl rfl) | exact Or.inr (Or.inr rfl)) (hd : (x == ("__debug__" : Str)) = false := by decide)
    (hcd : (x == ("__classdict__" : Str)) = false := by decide) : JE X (.Compare e [.In] [.Name x xp] pos) (tDIn te (tVar i)) (mDIn A i) := ⟨pe_cmp (pc_din hu ha.pe (pe_var hN hv hd hcd)) rfl, by
  intro W Z O env σ H0 H P Q R hm k
  refine ha.es W Z O env σ H0 H _ _ R hm fun d v H1 p1 g1 n1 => ?_
  obtain ⟨j, rfl, p1⟩ := onI_iff p1
  obtain ⟨kvs, q, p1⟩ := onDic_iff p1
  obtain ⟨p, e1, o, hp⟩ := R.cell i _ q
  refine ⟨.ref p, e1, p, (getI kvs j).map V.int, rfl, n1.int ▸ valV_dicO (g1.keep _ _ (R.om p o) hp) j, ?_⟩
  have e2 : ((getI kvs j).map V.int).isSome = (getI kvs j).isSome := by cases getI kvs j <;> rfl
  rw [e2]
  exact k _ _ H1 p1 g1 (.bl _)⟩
theorem je_dNotIn (i : Nat) (hu : X.A.units + 1 < cLine) (ha : JB X e te A) (hN : X.N[i]? = some x := by rfl) (hv : Vis X.env.scope x := by first | exact Or.inl rfl | exact Or.inr (Or.inl rfl) | exact Or.inr (Or.inr rfl)) (hd : (x == ("__debug__" : Str)) = false := by decide)
    (hcd : (x == ("__classdict__" : Str)) = false := by decide) : JE X (.Compare e [.NotIn] [.Name x xp] pos) (tDNotIn te (tVar i)) (mDNotIn A i) := ⟨pe_cmp (pc_dnotin hu ha.pe (pe_var hN hv hd hcd)) rfl, by
  intro W Z O env σ H0 H P Q R hm k
  refine ha.es W Z O env σ H0 H _ _ R hm fun d v H1 p1 g1 n1 => ?_
  obtain ⟨j, rfl, p1⟩ := onI_iff p1
  obtain ⟨kvs, q, p1⟩ := onDic_iff p1
  obtain ⟨p, e1, o, hp⟩ := R.cell i _ q
  refine ⟨.ref p, e1, p, (getI kvs j).map V.int, rfl, n1.int ▸ valV_dicO (g1.keep _ _ (R.om p o) hp) j, ?_⟩
  have e2 : ((getI kvs j).map V.int).isSome = (getI kvs j).isSome := by cases getI kvs j <;> rfl
  rw [e2]
  exact k _ _ H1 p1 g1 (.bl _)⟩
theorem jt_dIn (i : Nat) (hu : X.A.units + 1 < cLine) (ha : JB X e te A) (hN : X.N[i]? = some x := by rfl) (hv : Vis X.env.scope x := by first | exact Or.inl rfl | exact Or.inr (Or.inl rfl) | exact Or.inr (Or.inr rfl)) (hd : (x == ("__debug__" : Str)) = false := by decide)
    (hcd : (x == ("__classdict__" : Str)) = false := by decide) : JT X (.Compare e [.In] [.Name x xp] pos) (tB (tDIn te (tVar i))) (mB (mDIn A i)) := ⟨pt_cmp (pc_din hu ha.pe (pe_var hN hv hd hcd)) rfl, by
  intro W Z O env σ H0 H P Q R hm k
  refine (je_dIn (X := X) (pos := pos) (xp := xp) i hu ha hN hv hd hcd).es W Z O env σ H0 H _ _ R hm fun d v H1 p1 g1 n1 => ?_
  obtain ⟨b, rfl, p1⟩ := onB_iff p1
  cases n1
  exact ⟨b, rfl, k b H1 p1 g1⟩⟩
theorem jt_dNotIn (i : Nat) (hu : X.A.units + 1 < cLine) (ha : JB X e te A) (hN : X.N[i]? = some x := by rfl) (hv : Vis X.env.scope x := by first | exact Or.inl rfl | exact Or.inr (Or.inl rfl) | exact Or.inr (Or.inr rfl)) (hd : (x == ("__debug__" : Str)) = false := by decide)
    (hcd : (x == ("__classdict__" : Str)) = false := by decide) : JT X (.Compare e [.NotIn] [.Name x xp] pos) (tB (tDNotIn te (tVar i))) (mB (mDNotIn A i)) := ⟨pt_cmp (pc_dnotin hu ha.pe (pe_var hN hv hd hcd)) rfl, by
  intro W Z O env σ H0 H P Q R hm k
  refine (je_dNotIn (X := X) (pos := pos) (xp := xp) i hu ha hN hv hd hcd).es W Z O env σ H0 H _ _ R hm fun d v H1 p1 g1 n1 => ?_
  obtain ⟨b, rfl, p1⟩ := onB_iff p1
  cases n1
  exact ⟨b, rfl, k b H1 p1 g1⟩⟩
theorem je_dGet (i : Nat) (hu : X.A.units + 1 < cLine) (ha : JB X ie te A) (hs : NoSl ie) (hN : X.N[i]? = some x := by rfl) (hv : Vis X.env.scope x := by first | exact Or.inl rfl | exact Or.inr (Or.inl rfl) | exact Or.inr (Or.inr rfl)) (hd : (x == ("__debug__" : Str)) = false := by decide)
    (hcd : (x == ("__classdict__" : Str)) = false := by decide) : JE X (.Subscript (.Name x xp) ie pos) (tDGet (tVar i) te) (mDGet i A) := ⟨pe_dget hu (pe_var hN hv hd hcd) ha.pe hs, by
  intro W Z O env σ H0 H P Q R hm k
  obtain ⟨kvs, q, hm⟩ := onDic_iff hm
  obtain ⟨p, e1, o, hp⟩ := R.cell i _ q
  refine ⟨.ref p, e1, ha.es W Z O env σ H0 H _ _ R hm fun d v H1 p1 g1 n1 => ?_⟩
  obtain ⟨j, rfl, p1⟩ := onI_iff p1
  obtain ⟨u, eu, p1⟩ := onSm_iff p1
  have := valV_dicO (g1.keep _ _ (R.om p o) hp) j
  rw [eu] at this
  exact ⟨p, .int u, rfl, n1.int ▸ this, k _ _ H1 p1 g1 (.int _)⟩⟩
theorem js_dPut (i : Nat) (hu : X.A.units + 1 < cLine) (h : JE X e te A) (hb : JB X ie ti B) (hN : X.N[i]? = some x := by rfl) (hv : Vis X.env.scope x := by first | exact Or.inl rfl | exact Or.inr (Or.inl rfl) | exact Or.inr (Or.inr rfl)) (hd : (x == ("__debug__" : Str)) = false := by decide)
    (hcd : (x == ("__classdict__" : Str)) = false := by decide) (hs : swapsWith e (some (.Subscript (.Name x xp) ie tp)) spos.line X.env = pure false := by rfl) :
    JS X (.Assign [.Subscript (.Name x xp) ie tp] e spos) (sDPut (tVar i) ti te) (mDPut i B A) := ⟨ps_dput hu (pe_var hN hv hd hcd) hb.pe h.pe hs, by
  intro W Z O env σ H0 H M D R S hm
  obtain ⟨kvs, q, hm⟩ := onDic_iff hm
  obtain ⟨p, e1, o, hp⟩ := R.cell i _ q
  refine h.es W Z O env σ H0 H _ _ R hm fun d v H1 p1 g1 n1 => ?_
  obtain ⟨u, rfl, p1⟩ := onI_iff p1
  cases n1
  have R1 := R.tr g1
  refine ⟨.ref p, e1, hb.es W Z O env σ H0 H1 _ _ R1 p1 fun kd kv H2 p2 g2 n2 => ?_⟩
  obtain ⟨k, rfl, hl, p2⟩ := onI_iff p2
  have R2 := R1.tr g2
  have hp2 := (g1.trans g2).keep _ _ (R.om p o) hp
  refine ⟨p, upd H2 p (dicO (putI kvs k u)), rfl, ?_, ?_⟩
  · have h3 : DPut H2 p (.int k) (.int u) _ := DPut.k (k := .inl k) (v := .int u) hp2 (by rw [List.length_map]; exact Nat.lt_of_lt_of_le hl (small_line (Nat.le_refl _)))
    have e3 : dicO (putI kvs k u) = .dK (putK (kvs.map fun q => ((.inl q.1 : Key), V.int q.2)) (.inl k) (.int u)) := by
      rw [dicO_eq]
      exact congrArg HO.dK (putK_keyP k u kvs).symm
    rw [e3, n2.int]
    exact h3
  · exact ((S.tr R g1).tr R1 g2).nx O _ σ _ (R2.upDic q e1 o) (.put o (by rw [hp2]; exact Option.some_ne_none _)) p2⟩
end
/-- x = {..} -/
def mSetD (i : Nat) (A : MD) : MS := fun M env => A env fun kvs => M.nx (env.set i (.dic kvs))
/-- a, b, c = {..}, e1, e2 -/
def mPar3D (i j l : Nat) (A : MD) (B C : ME) : MS := fun M env => A env fun kvs => B env fun y => C env fun z => M.nx (((env.set i (.dic kvs)).set j (.val y)).set l (.val z))
section
variable {X : Cx} {e a b c : Expr} {te ta tb tc : TE} {F A : MD} {B C : ME} {pos : Pos} {px py pz pt : Pos} {kt k2 : Nat} {pt2 : Pos}
theorem js_setD (i : Nat) {x : Str} {pos' : Pos} (hN : X.N.Nodup) (h : JD X e te F) (hi : X.N[i]? = some x := by rfl) (hx : Loc X.env.scope x := by first | exact .inl rfl | exact .inr rfl) (hs : swapsWith e (some (.Name x pos')) pos.line X.env = pure false := by rfl)
    (hf : X.fn x = true ∨ X.env.scope.names.lookup x = some .local := by first | exact .inl rfl | exact .inr rfl) : JS X (.Assign [.Name x pos'] e pos) (tAsg te (gName i)) (mSetD i F) := ⟨ps_set hN hi hx h.pe hs hf, fun W Z O env σ H0 H M D R S hm => by
  refine h.es W Z O env σ H0 H _ _ R hm fun kvs p H1 p1 g1 hp h1 => ?_
  exact S.nx _ _ _ H1 ((R.takeO g1 hp h1).setDic (.inr rfl) (fun i ds e => R.takeNo hp i ds e) h1 i) (.take g1 R.wl R.mz hp) p1⟩
theorem js_par3D (i j l : Nat) {x y z : Str} (hN : X.N.Nodup) (ha : JD X a ta A) (hb : JE X b tb B) (hc' : JE X c tc C) (hx : X.env.scope.names.lookup x = some .local) (hy : X.env.scope.names.lookup y = some .local) (hz : X.env.scope.names.lookup z = some .local)
    (hi : X.N[i]? = some x := by rfl) (hj : X.N[j]? = some y := by rfl) (hl : X.N[l]? = some z := by rfl) (hij : i ≠ j := by decide) (hil : i ≠ l := by decide) (hjl : j ≠ l := by decide)
    (hs1 : starEach [a, b, c] X.env = (false, eval a X.env) :: starEach [b, c] X.env := by rfl) (hs2 : starEach [b, c] X.env = (false, eval b X.env) :: starEach [c] X.env := by rfl) (hs3 : starEach [c] X.env = (false, eval c X.env) :: starEach [] X.env := by rfl)
    (hw : swappedStores [.Tuple [.Name x px, .Name y py, .Name z pz] kt pt] (.Tuple [a, b, c] k2 pt2) X.env = pure (some [x, y, z]) := by rfl) (hs : swapsWithSole [.Tuple [.Name x px, .Name y py, .Name z pz] kt pt] (.Tuple [a, b, c] k2 pt2) pos.line X.env = pure false := by rfl) (hc : X.calm = true := by rfl) :
    JS X (.Assign [.Tuple [.Name x px, .Name y py, .Name z pz] kt pt] (.Tuple [a, b, c] k2 pt2) pos) (tPar3 i j l (tCons ta (tCons tb (tCons tc tNil)))) (mPar3D i j l A B C) := ⟨ps_par3 hc hN hi hj hl hij hil hjl hx hy hz (pa_cons ha.pe (pa_cons hb.pe (pa_cons hc'.pe pa_nil hs3) hs2) hs1) hw hs, fun W Z O env σ H0 H M D R S hm => by
  refine ha.es W Z O env σ H0 H _ _ R hm fun kvs p H1 p1 g1 hp h1 => ?_
  have R1 := R.takeO g1 hp h1
  refine hb.es W Z _ env σ H0 H1 _ _ R1 p1 fun d2 v2 H2 p2 g2 n2 => ?_
  have R2 := R1.tr g2
  refine hc'.es W Z _ env σ H0 H2 _ _ R2 p2 fun d3 v3 H3 p3 g3 n3 => ?_
  have R3 := R2.tr g3
  refine ⟨.ref p, v2, v3, rfl, ?_⟩
  have h3 : H3 p = some (dicO kvs) := g3.keep _ _ (R2.om p (.inr rfl)) (g2.keep _ _ (R1.om p (.inr rfl)) h1)
  have R4 := R3.setDic (p := p) (.inr rfl) (fun k ds e => R.takeNo hp k ds e) h3 i
  have R5 := (R4.set (n2.ge g3 R2.mz) j).set n3 l
  exact (((S.step (.take g1 R.wl R.mz hp)).tr R1 g2).tr R2 g3).next R5 p3⟩
/-- the same, names that hold cells -/
theorem js_par3DT {K : PySem.W.Frag} (hK : X.K = K) (i j l : Nat) {x y z : Str} (hN : X.N.Nodup) (ha : JD X a ta A) (hb : JE X b tb B) (hc' : JE X c tc C)
    (hi : X.N[i]? = some x := by rfl) (hj : X.N[j]? = some y := by rfl) (hl : X.N[l]? = some z := by rfl)
    (hx : Loc X.env.scope x := by first | exact .inl rfl | exact .inr rfl) (hy : Loc X.env.scope y := by first | exact .inl rfl | exact .inr rfl) (hz : Loc X.env.scope z := by first | exact .inl rfl | exact .inr rfl)
    (fx : X.fn x = true ∨ X.env.scope.names.lookup x = some .local := by first | exact .inl rfl | exact .inr rfl) (fy : X.fn y = true ∨ X.env.scope.names.lookup y = some .local := by first | exact .inl rfl | exact .inr rfl) (fz : X.fn z = true ∨ X.env.scope.names.lookup z = some .local := by first | exact .inl rfl | exact .inr rfl)
    (hs1 : starEach [a, b, c] X.env = (false, eval a X.env) :: starEach [b, c] X.env := by rfl) (hs2 : starEach [b, c] X.env = (false, eval b X.env) :: starEach [c] X.env := by rfl) (hs3 : starEach [c] X.env = (false, eval c X.env) :: starEach [] X.env := by rfl)
    (hn : (assignEach [.Name x px, .Name y py, .Name z pz] X.env).length = 3 := by rfl) (hst : (assignEach [.Name x px, .Name y py, .Name z pz] X.env).findIdx? (·.1) = none := by rfl)
    (g1 : (assignEach [.Name x px, .Name y py, .Name z pz] X.env).map (·.2) = assign (.Name x px) X.env :: (assignEach [.Name y py, .Name z pz] X.env).map (·.2) := by rfl) (g2 : (assignEach [.Name y py, .Name z pz] X.env).map (·.2) = assign (.Name y py) X.env :: (assignEach [.Name z pz] X.env).map (·.2) := by rfl) (g3 : (assignEach [.Name z pz] X.env).map (·.2) = assign (.Name z pz) X.env :: (assignEach [] X.env).map (·.2) := by rfl)
    (hs : swapsWithSole [.Tuple [.Name x px, .Name y py, .Name z pz] kt pt] (.Tuple [a, b, c] k2 pt2) pos.line X.env = pure false := by rfl) (hw : swappedStores [.Tuple [.Name x px, .Name y py, .Name z pz] kt pt] (.Tuple [a, b, c] k2 pt2) X.env = pure none := by rfl)
    (h1 : (assignEach [.Tuple [.Name x px, .Name y py, .Name z pz] kt pt] X.env).map (·.2) = [assign (.Tuple [.Name x px, .Name y py, .Name z pz] kt pt) X.env] := by rfl) (hc : X.calm = true := by rfl) :
    JS X (.Assign [.Tuple [.Name x px, .Name y py, .Name z pz] kt pt] (.Tuple [a, b, c] k2 pt2) pos) (tAsg (tTup (tCons ta (tCons tb (tCons tc tNil)))) (gTup K 3 (gCons (gName i) (gCons (gName j) (gCons (gName l) gNil))))) (mPar3D i j l A B C) := by
  subst hK
  refine ⟨ps_asg (pe_tup (pa_cons ha.pe (pa_cons hb.pe (pa_cons hc'.pe pa_nil hs3) hs2) hs1)) (pg_tup hc (pgs_cons (pg_name hN hi hx fx) (pgs_cons (pg_name hN hj hy fy) (pgs_cons (pg_name hN hl hz fz) pgs_nil g3) g2) g1) hn hst) hs hw h1, fun W Z O env σ H0 H M D R S hm => ?_⟩
  refine ha.es W Z O env σ H0 H _ _ R hm fun kvs p H1 p1 g1 hp h1 => ?_
  have R1 := R.takeO g1 hp h1
  refine hb.es W Z _ env σ H0 H1 _ _ R1 p1 fun d2 v2 H2 p2 g2 n2 => ?_
  have R2 := R1.tr g2
  refine hc'.es W Z _ env σ H0 H2 _ _ R2 p2 fun d3 v3 H3 p3 g3 n3 => ?_
  have R3 := R2.tr g3
  refine ⟨by show 3 ≤ sizeLine; decide, fun t to ht htc htd => ⟨t, _, rfl, SqT.of (TupAt.up htc htd), rfl, _, _, rfl, _, _, rfl, _, _, rfl, rfl, ?_⟩⟩
  have g4 : Ge W H3 (upd H3 t (.frz to (.tup [.ref p, v2, v3]))) := .new ht
  have h3 : H3 p = some (dicO kvs) := g3.keep _ _ (R2.om p (.inr rfl)) (g2.keep _ _ (R1.om p (.inr rfl)) h1)
  have R4 := (R3.tr g4).setDic (p := p) (.inr rfl) (fun k ds e => R.takeNo hp k ds e) (g4.keep _ _ (R3.om p (.inr rfl)) h3) i
  have R5 := (R4.set ((n2.ge g3 R2.mz).ge g4 R3.mz) j).set (n3.ge g4 R3.mz) l
  exact ((((S.step (.take g1 R.wl R.mz hp)).tr R1 g2).tr R2 g3).tr R3 g4).next R5 p3
end
end Dw

set_option maxRecDepth 100000
set_option maxHeartbeats 4000000
/-! Dw25: len(set(t)), t a tuple of different tuples of whole numbers; dicts of one's own with such keys. -/
namespace Dw
open PySem PySem.Spec PyProof.Rows L2
section
variable {P : Program} {w : World} {A : Around} {E : Value → Shared → Prop} {s : Shared}
def newS (w : World) : Obj := { cls := .type "set", dict := none, data := .set #[] 0 (.fresh 0 0 (!w.params.followText "set-order")) }
/-- set(x), x any reference: all but what its filling does -/
theorem set_shell {l : Addr} {Q : Value → Shared → Prop} (F : Shared → Prop)
    (hi : codeAny (model P w) A.in1 (.call (.builtin "set.__init__") ⟨[.ref s.heap.objs.size, .ref l], []⟩) (wants (fun r s2 => r = Value.none ∧ F s2) E) { s with heap := s.heap.push (newS w) })
    (hQ : ∀ s2, F s2 → Q (.ref s.heap.objs.size) s2) : wpAny (model P w) A (call (.type "set") [.ref l]) Q E s := by
  obtain ⟨c, tl, hmro⟩ := PySem.F.called_set.mro
  have f1 := PySem.F.called_set.made
  have f2 := PySem.F.called_set.sub
  have f3 := PySem.F.called_set.notType
  have f4 := PySem.F.called_set.canCreate
  have f5 := PySem.F.typeCall_set_1 (.ref l)
  refine wpAny_call (codeAny_of_tree ?_)
  show wpAny _ _ (callAny (.type "set") _) _ _ _
  refine wpAny_pure ⟨Code.quiet_builtin _ (by decide +kernel), codeAny_builtin PySem.F.entry_type_call ?_⟩
  rw [Around.under_plain (weight_type_call_type "set" [.ref l] []) rfl]
  repeat (any_goals (first | assumption | wp_step))
  refine codeAny_mono (code_set_led1 (.ref l) (E := E) (Q₁ := fun obj s1 => obj = .ref s.heap.objs.size ∧ s1 = { s with heap := s.heap.push (newS w) }) ⟨rfl, rfl⟩) fun r s1 hr => ?_
  rcases r with e | (fl : Flow)
  · exact hr
  cases fl with
  | ret obj =>
    obtain ⟨rfl, rfl⟩ := hr
    have g1 : (s.heap.push (newS w)).get? s.heap.objs.size = some (newS w) := Heap.get?_push_size _ rfl
    have g2 : Shared.TypeIs { s with heap := s.heap.push (newS w) } (.ref s.heap.objs.size) "set" := ⟨_, g1, rfl⟩
    have g3 := PySem.F.called_set.init.lookup
    have g4 := PySem.F.called_set.init.bind (.ref s.heap.objs.size)
    repeat (any_goals (first | assumption | wp_step))
    refine codeAny_mono hi fun r s2 hr => ?_
    rcases r with e | (fl : Flow)
    · exact hr
    cases fl with
    | ret r =>
      obtain ⟨rfl, f⟩ := hr
      repeat (any_goals (first | assumption | wp_step))
      exact hQ s2 f
    | _ => exact hr.elim
  | _ => exact hr.elim
/-- what the filling leaves -/
def Filled (P : Program) (w : World) (s : Shared) (ks : List (Addr × List Int)) (s2 : Shared) : Prop := ∃ h' tk L es ep t, s2 = { s with heap := h', toks := tk } ∧ SetTR P w h' s.heap.objs.size L es ep t ∧ Got ks ks.length L ∧ ∀ b o, s.heap.get? b = some o → h'.get? b = some o
/-- set(t), t a tuple of tuples of whole numbers -/
theorem set_tt {l : Addr} {items : Array Value} (ks : List (Addr × List Int)) {Q : Value → Shared → Prop} (hh : A.handled = none) (hl : s.heap.IsTuple l items) (hit : items.toList = ks.map fun p => Value.ref p.1) (hk : ∀ p ∈ ks, IsT P w s.heap p.2 p.1) (hfew : ks.length < 64) (hu : A.units + 3 < cLine)
    (hQ : ∀ s2, Filled P w s ks s2 → Q (.ref s.heap.objs.size) s2) : wpAny (model P w) A (call (.type "set") [.ref l]) Q E s := by
  refine set_shell (Filled P w s ks) ?_ hQ
  have size : items.size = ks.length := by rw [← Array.length_toList, hit, List.length_map]
  have g1 : (s.heap.push (newS w)).get? s.heap.objs.size = some (newS w) := Heap.get?_push_size _ rfl
  have up : ∀ b, s.heap.objs.size ≤ b → s.heap.get? b = none := fun b hb => by
    cases q : s.heap.get? b with
    | none => rfl
    | some o => exact absurd (Heap.lt_size q) (Nat.not_lt.mpr hb)
  have lS : l < s.heap.objs.size := let ⟨o, ho, _⟩ := hl; Heap.lt_size ho
  refine codeAny_call_builtin (R := wants (fun r s2 => r = Value.none ∧ Filled P w s ks s2) E) PySem.F.called_set.init.plain PySem.F.entry_set_init (check_set_init_1 (show Shared.TypeIs { s with heap := s.heap.push (newS w) } (.ref s.heap.objs.size) "set" from ⟨_, g1, rfl⟩) ?_)
  obtain ⟨⟨ocls, odict, odata, oslots⟩, ho, hc, nl, hd⟩ := hl
  simp only at hc hd
  subst hc hd
  have g2 : (s.heap.push (newS w)).get? l = some { cls := .type "tuple", dict := odict, data := .seq items nl, slots := oslots } := Heap.get?_push_of_some _ ho
  have g3 : (s.heap.push (newS w)).IsTuple l items := ⟨_, g2, rfl, nl, rfl⟩
  have d1 := PySem.F.sub_tuple_set
  have d2 := PySem.F.sub_tuple_frozenset
  have d3 : (Value.type "tuple" == Value.type "dict") = false := by decide
  unfold newS at g1 g2 g3 ⊢
  unfold Builtin.«set.__init__» noKeywords Builtin.Frozenset.updateFrom
  generalize hI : pyIter = I
  wp_walk
  subst hI
  refine wpAny_pyIter_tuple g3 ?_
  refine wpAny_bind (wpAny_runValue ?_)
  have n1 : ∀ o : Obj, (s.heap.push o).objs.size = s.heap.objs.size + 1 := fun o => Heap.size_push ..
  have at' : ∀ (i : Nat) (v : Value), items[i]? = some v → ∃ p, ks[i]? = some p ∧ v = .ref p.1 := fun i v hv => by
    have e : (ks.map fun p => Value.ref p.1)[i]? = some v := by rw [← hit, Array.getElem?_toList]; exact hv
    rw [List.getElem?_map] at e
    cases q : ks[i]? with
    | none => rw [q] at e; cases e
    | some p => rw [q] at e; exact ⟨p, rfl, (Option.some.inj e).symm⟩
  refine set_update_tups (Walks.tuple (by simp [hh]) _ l (by rw [n1]; exact Nat.ne_of_lt (Nat.lt_succ_of_lt lS)) items).toS s.heap.objs.size (by
    rw [n1, List.mem_cons, List.mem_singleton]
    exact fun z => z.elim (Nat.ne_of_lt (Nat.lt_succ_self _)) (Nat.ne_of_gt lS)) ks size hfew at' s.heap hk (up _ (Nat.le_refl _)) (fun b hb => up b (by rw [List.mem_singleton.mp hb, n1]; omega)) hu (items.size - 0) 0 _ (by omega) (Nat.zero_le _) ⟨⟨_, Heap.get?_push_size _ rfl, rfl, rfl⟩, g3.push _⟩ (fun b o e => Heap.get?_push_of_some _ (Heap.get?_push_of_some _ e)) ?_ fun s2 L es ep t hm R g kp => ?_
  · exact ⟨[], #[], 0, _, setTR_fresh (Heap.get?_push_of_some _ g1), Got.zero ks⟩
  · obtain ⟨h2, gs, dr, tk, os⟩ := s2
    have q1 : gs = s.gens := hm.gens
    have q2 : dr = s.drawn := hm.drawn
    have q3 : os = s.os := hm.os
    subst q1 q2 q3
    rw [size] at g
    show wpAny _ _ _ _ _ _
    refine wpAny_pure ?_
    show wpAny _ _ (ret Value.none) _ _ _
    exact wpAny_pure ⟨rfl, h2, tk, L, es, ep, t, rfl, R, g, kp⟩
end
theorem nodup_sub {α : Type} [DecidableEq α] : ∀ {as bs : List α}, as.Nodup → (∀ a ∈ as, a ∈ bs) → as.length ≤ bs.length
  | [], _, _, _ => Nat.zero_le _
  | a :: as, bs, hn, hs => by
    obtain ⟨h1, h2⟩ := List.nodup_cons.mp hn
    have hm := hs a List.mem_cons_self
    have ih := nodup_sub (as := as) (bs := bs.erase a) h2 fun x hx => (List.mem_erase_of_ne (fun e => h1 (by rw [← e]; exact hx))).mpr (hs x (List.mem_cons_of_mem _ hx))
    rw [List.length_erase_of_mem hm] at ih
    have := List.length_pos_of_mem hm
    rw [List.length_cons]
    omega
section
variable {X : Cx}
def tLenSetT (K : PySem.W.Frag) (ta : TE) : TE := fun σ H Q => ta σ H fun x H1 => ∃ (l : Addr) (ks : List (Addr × List Int)), x = V.ref l ∧ SqT K H1 l (ks.map fun p => V.ref p.1) ∧ (∀ p ∈ ks, SqT K H1 p.1 (p.2.map V.int)) ∧ ks.length < 64 ∧ (ks.map (·.2)).Nodup ∧ Q (.int ks.length) H1
theorem pe_lenSetT {a : Expr} {ta : TE} {p p2 q pos : Pos} (hu : X.A.units + 64 < cLine) (hc : X.calm = true) (hg : Gl X "len") (hm : X.mg "len" = none) (hg2 : Gl X "set") (hm2 : X.mg "set" = none) (ha : PE X a ta)
    (na : starEach [a] X.env = (false, eval a X.env) :: starEach [] X.env := by rfl) : PE X (.Call (.Name "len" p) [.Call (.Name "set" p2) [a] [] q] [] pos) (tLenSetT X.K ta) := by
  refine ⟨fun pins s σ H Q I h => ?_⟩
  refine Call_ (ld_blt I hg hm PySem.boot_len ?_)
  refine PyProof.Rows.callWith_builtin1 (PyProof.Rows.args_cons ?_ rfl) rfl rfl
  refine Call_ (ld_blt I hg2 hm2 PyProof.Rows.boot_set ?_)
  refine PyProof.Rows.callWith_type1 (PyProof.Rows.args_cons (thn (ha.run pins s σ H _ I h) fun v s1 ⟨x, H1, I1, r1, q1⟩ => PyProof.Rows.args_nil ?_) na) na rfl
  obtain ⟨l, ks, rfl, ht, hk, hf, hn, q1⟩ := q1
  cases r1
  obtain ⟨its, r, tp, hz⟩ := I1.tuple ht
  refine set_tt ks (I1.ok.hd hc) (show s1.heap.IsTuple l its.toArray from tp) (by simpa using refs_of_vals r) (fun p hp => I1.isT (hk p hp)) hf (by omega) fun s2 hF => ?_
  obtain ⟨h2, tk, L, es, ep, t, rfl, R, g, kp⟩ := hF
  refine PyProof.Rows.args_nil ?_
  have R' : SetTR X.prog X.w ({ s1 with heap := h2, toks := tk } : Shared).heap s1.heap.objs.size L es ep t := R
  obtain ⟨o, ho, hex, hd⟩ := R'.ob
  have size := R'.size
  have fits := R'.fits
  have nd := R'.nd
  have I2 : Inv X pins σ H1 { s1 with heap := h2, toks := tk } := I1.kept fun b o e => kp b o e
  have l1 : L.length ≤ ks.length := by
    have := nodup_sub nd (bs := ks.map (·.2)) fun a ha => by
      obtain ⟨p, hp, rfl⟩ := List.mem_map.mp ha
      exact List.mem_map.mpr ⟨p, List.mem_of_mem_take (g.sub p hp), rfl⟩
    rwa [List.length_map, List.length_map] at this
  have l2 : ks.length ≤ L.length := by
    have := nodup_sub hn (bs := L.map (·.2)) fun a ha => by
      obtain ⟨p, hp, rfl⟩ := List.mem_map.mp ha
      exact g.all p (by rw [List.take_length]; exact hp)
    rwa [List.length_map, List.length_map] at this
  refine call_len_set ho hex hd fits (by rw [size] <;> omega) ⟨.int ks.length, H1, I2.tok _, ⟨_, by rw [size, Nat.le_antisymm l1 l2]⟩, q1⟩
end
section
variable [XCtx]
/-- a tuple of whole numbers -/
def tI (k : List Int) : PyData := .tuple (k.map PyData.int)
theorem DnAll.tIs {H : Hp} {Z : Addr → Prop} : ∀ {kss : List (List Int)} {vs : List V}, DnAll H Z vs (kss.map tI) → ∃ ks : List (Addr × List Int), vs = ks.map (fun p => V.ref p.1) ∧ ks.map (·.2) = kss ∧ ∀ p ∈ ks, TupAt H p.1 (p.2.map V.int)
  | [], _, .nil => ⟨[], rfl, rfl, fun _ h => nomatch h⟩
  | k :: kss, _, .cons a r => by
    obtain ⟨ks, e1, e2, h⟩ := DnAll.tIs r
    cases a with
    | @tup p xs _ h1 _ n =>
      have := n.ints
      subst this
      refine ⟨(p, k) :: ks, by rw [e1]; rfl, by rw [← e2]; rfl, fun q hq => ?_⟩
      rcases List.mem_cons.mp hq with rfl | hq
      · exact h1
      · exact h q hq
def mLenSetT (A : ME) : ME := fun env P => A env fun x => onU x fun xs => ∃ kss : List (List Int), xs = kss.map tI ∧ kss.length < 64 ∧ kss.Nodup ∧ P (.int (kss.length : Nat))
theorem je_lenSetT {X : Cx} {a : Expr} {ta : TE} {A : ME} {p p2 q pos : Pos} (hu : X.A.units + 64 < cLine) (hm : X.mg "len" = none) (hm2 : X.mg "set" = none) (ha : JE X a ta A) (hg : Gl X "len" := by rfl) (hg2 : Gl X "set" := by rfl) (hc : X.calm = true := by rfl)
    (na : starEach [a] X.env = (false, eval a X.env) :: starEach [] X.env := by rfl) : JE X (.Call (.Name "len" p) [.Call (.Name "set" p2) [a] [] q] [] pos) (tLenSetT X.K ta) (mLenSetT A) := ⟨pe_lenSetT hu hc hg hm hg2 hm2 ha.pe na, by
  intro W Z O env σ H0 H P Q R hm k
  refine ha.es W Z O env σ H0 H _ _ R hm fun d v H1 p1 g1 n1 => ?_
  obtain ⟨xs, rfl, kss, rfl, hl, hn, p1⟩ := onU_iff p1
  cases n1 with
  | tup h1 _ n =>
    obtain ⟨ks, rfl, e, hk⟩ := n.tIs
    have len : ks.length = kss.length := by rw [← e, List.length_map]
    refine ⟨_, ks, rfl, SqT.of h1, fun p hp => SqT.of (hk p hp), by rw [len]; exact hl, by rw [e]; exact hn, ?_⟩
    rw [len]
    exact k _ _ H1 p1 g1 (.int _)⟩

/-! ### dicts of one's own, tuples of whole numbers to whole numbers -/
section
variable {α : Type} [DecidableEq α]
def getG (kvs : List (α × Int)) (k : α) : Option Int := (kvs.find? fun q => decide (q.1 = k)).map (·.2)
def putG (kvs : List (α × Int)) (k : α) (v : Int) : List (α × Int) := if (kvs.any fun q => decide (q.1 = k)) = true then kvs.map (fun q => if q.1 = k then (q.1, v) else q) else kvs ++ [(k, v)]
variable {κ : Type} [DecidableEq κ] {f : α → κ}
theorem valV_G (hf : ∀ a b, f a = f b → a = b) (k : α) : ∀ kvs : List (α × Int), valV (kvs.map fun q => (f q.1, V.int q.2)) (f k) = (getG kvs k).map V.int
  | [] => rfl
  | q :: r => by
    rw [List.map_cons]
    by_cases e : q.1 = k
    · rw [valV_pos (p := (f q.1, V.int q.2)) (congrArg f e)]
      unfold getG
      rw [List.find?_cons, decide_eq_true e]
      rfl
    · rw [valV_neg (p := (f q.1, V.int q.2)) (fun z => e (hf _ _ z)), valV_G hf k r]
      unfold getG
      rw [List.find?_cons, decide_eq_false e]
theorem putK_G (hf : ∀ a b, f a = f b → a = b) (k : α) (v : Int) (kvs : List (α × Int)) : putK (kvs.map fun q => (f q.1, V.int q.2)) (f k) (.int v) = (putG kvs k v).map fun q => (f q.1, V.int q.2) := by
  have h1 : ((kvs.map fun q => (f q.1, V.int q.2)).any fun kv => decide (kv.1 = f k)) = kvs.any fun q => decide (q.1 = k) := by
    induction kvs with
    | nil => rfl
    | cons q r ih =>
      rw [List.map_cons, List.any_cons, List.any_cons, ih]
      congr 1
      by_cases e : q.1 = k
      · rw [decide_eq_true e, decide_eq_true (show (f q.1, V.int q.2).1 = f k from congrArg f e)]
      · rw [decide_eq_false e, decide_eq_false (show ¬ (f q.1, V.int q.2).1 = f k from fun z => e (hf _ _ z))]
  unfold putK putG
  rw [h1]
  split
  · rw [List.map_map, List.map_map]
    apply List.map_congr_left
    intro q _
    show (if f q.1 = f k then (f q.1, V.int v) else (f q.1, V.int q.2)) = (fun q : α × Int => (f q.1, V.int q.2)) (if q.1 = k then (q.1, v) else q)
    by_cases e : q.1 = k
    · rw [if_pos e, if_pos (congrArg f e)]
    · rw [if_neg e, if_neg (fun z => e (hf _ _ z))]
  · rw [List.map_append]
    rfl
end
def keyT (k : List Int) : List Key := k.map Sum.inl
theorem keyT_inj : ∀ (a b : List Int), keyT a = keyT b → a = b
  | [], [], _ => rfl
  | [], _ :: _, h => by cases h
  | _ :: _, [], h => by cases h
  | x :: a, y :: b, h => by
    obtain ⟨h1, h2⟩ := List.cons.inj h
    rw [Sum.inl.inj h1, keyT_inj a b h2]
theorem keyT_kV (k : List Int) : (keyT k).map kV = k.map V.int := by
  unfold keyT
  rw [List.map_map]
  rfl
def dctO (kvs : List (List Int × Int)) : HO := .dT (kvs.map fun q => (keyT q.1, V.int q.2))
theorem Rel.setHob {W : Wl} {Z O : Addr → Prop} {env : Cells} {σ : L2.St} {H0 H : Hp} (R : Rel W Z O env σ H0 H) {p : Addr} {o : HO} (hp : O p) (no : ∀ (i : Nat) (ds : Hold), env[i]? = some (Cell.of ds) → σ[i]? ≠ some (some (.ref p))) (h : H p = some o) (i : Nat) :
    Rel W Z O (env.set i (.hob o)) (σ.set i (some (.ref p))) H0 H where
  ge := R.ge
  wl := R.wl
  mz := R.mz
  za := R.za
  oz := R.oz
  oh := R.oh
  len := by rw [List.length_set, List.length_set]; exact R.len
  cell := fun j c e => by
    have hj : j < (env.set i (.hob o)).length := (List.getElem?_eq_some_iff.mp e).1
    rw [List.length_set, R.len] at hj
    rcases getElem?_set_cases e with ⟨rfl, rfl⟩ | ⟨ne, e⟩
    · exact ⟨p, set_at hj, hp, h⟩
    · rw [List.getElem?_set_ne ne]
      exact R.cell j c e
  uniq := fun j k es fs q e1 e2 s1 s2 => by
    have own : ∀ {s : Option (Option V)}, (σ.set i (some (.ref p)))[i]? = some (some (.ref q)) → p = q := fun {_} s1 => by
      have hj : i < σ.length := by
        have := (List.getElem?_eq_some_iff.mp s1).1
        rw [List.length_set] at this
        exact this
      rw [set_at hj] at s1
      cases s1
      rfl
    rcases getElem?_set_cases e1 with ⟨rfl, _⟩ | ⟨n1, e1⟩
    · rcases getElem?_set_cases e2 with ⟨rfl, _⟩ | ⟨n2, e2⟩
      · rfl
      · rw [List.getElem?_set_ne n2] at s2
        have := own (s := none) s1
        subst this
        exact absurd s2 (no k fs e2)
    · rw [List.getElem?_set_ne n1] at s1
      rcases getElem?_set_cases e2 with ⟨rfl, _⟩ | ⟨n2, e2⟩
      · have := own (s := none) s2
        subst this
        exact absurd s1 (no j es e1)
      · rw [List.getElem?_set_ne n2] at s2
        exact R.uniq j k es fs q e1 e2 s1 s2
  xr := R.xr
theorem Rel.upHob {W : Wl} {Z O : Addr → Prop} {env : Cells} {σ : L2.St} {H0 H : Hp} (R : Rel W Z O env σ H0 H) {i : Nat} {o o' : HO} {p : Addr} (e : env[i]? = some (.hob o)) (s : σ[i]? = some (some (.ref p))) (hp : O p) (nt : NT (some o') := by first | exact nt_lst | exact nt_dK | exact nt_dT) :
    Rel W Z O (env.set i (.hob o')) σ H0 (upd H p o') := by
  have R1 : Rel W Z O (env.set i .non) σ H0 H := ⟨⟨R.ge, R.wl, R.mz, R.za, R.oz, R.oh, by rw [List.length_set]; exact R.len, fun j c q => by
    rcases getElem?_set_cases q with ⟨rfl, rfl⟩ | ⟨ne, q⟩
    · trivial
    · exact R.cell j c q, fun j k ds es p e1 e2 s1 s2 => by
    rcases getElem?_set_cases e1 with ⟨_, q⟩ | ⟨n1, e1⟩
    · cases ds <;> cases q
    rcases getElem?_set_cases e2 with ⟨_, q⟩ | ⟨n2, e2⟩
    · cases es <;> cases q
    exact R.uniq j k ds es p e1 e2 s1 s2⟩, R.xr⟩
  have no : ∀ (j : Nat) (fs : Hold), (env.set i .non)[j]? = some (Cell.of fs) → σ[j]? ≠ some (some (.ref p)) := fun j fs q s' => by
    rcases getElem?_set_cases q with ⟨_, q⟩ | ⟨n1, q⟩
    · cases fs <;> cases q
    · exact n1 (R.uniq i j (.hob o) fs p e q s s')
  have R2 := R1.put (o := o') hp no nt
  have hi : i < σ.length := (List.getElem?_eq_some_iff.mp s).1
  have R3 := R2.setHob hp no upd_same i
  have e1 : (env.set i .non).set i (.hob o') = env.set i (.hob o') := List.set_set ..
  have e2 : σ.set i (some (.ref p)) = σ := by
    apply List.ext_getElem?
    intro j
    by_cases q : i = j
    · subst q
      rw [List.getElem?_set_self hi, s]
    · rw [List.getElem?_set_ne q]
  rw [e1, e2] at R3
  exact R3
def onDct (env : Cells) (i : Nat) (k : List (List Int × Int) → Prop) : Prop := match env[i]? with
  | some (.hob o) => ∃ kvs, o = dctO kvs ∧ k kvs
  | _ => False
theorem onDct_iff {env : Cells} {i : Nat} {k : List (List Int × Int) → Prop} (h : onDct env i k) : ∃ kvs, env[i]? = some (.hob (dctO kvs)) ∧ k kvs := by
  unfold onDct at h
  split at h
  · rename_i o e
    obtain ⟨kvs, rfl, h⟩ := h
    exact ⟨kvs, e, h⟩
  · exact h.elim
/-- a value that is a tuple of whole numbers -/
def onTI (x : PyData) (k : List Int → Prop) : Prop := ∃ ns, x = tI ns ∧ k ns
def mSetT (i : Nat) : MS := fun M env => M.nx (env.set i (.hob (dctO [])))
def mTGet (i : Nat) (A : ME) : ME := fun env P => onDct env i fun kvs => A env fun x => onTI x fun k => onSm (getG kvs k) fun v => P (.int v)
def mTPut (i : Nat) (B A : ME) : MS := fun M env => onDct env i fun kvs => A env fun d => onI d fun v => B env fun x => onTI x fun k => kvs.length < 100000 ∧ M.nx (env.set i (.hob (dctO (putG kvs k v))))
section
variable {X : Cx} {e ie : Expr} {te ti : TE} {A B : ME} {pos tp spos xp : Pos} {x : Str}
theorem js_setT (i : Nat) {pos' : Pos} (hN : X.N.Nodup) (hi : X.N[i]? = some x := by rfl) (hx : Loc X.env.scope x := by first | exact .inl rfl | exact .inr rfl) (hs : swapsWith (.Dict [] [] xp) (some (.Name x pos')) pos.line X.env = pure false := by rfl)
    (hf : X.fn x = true ∨ X.env.scope.names.lookup x = some .local := by first | exact .inl rfl | exact .inr rfl) : JS X (.Assign [.Name x pos'] (.Dict [] [] xp) pos) (tAsg tDNewT (gName i)) (mSetT i) := ⟨ps_set hN hi hx pe_dnewT hs hf, fun W Z O env σ H0 H M D R S hm p hp => by
  have g : Ge W H (upd H p (dctO [])) := .new hp
  exact S.nx _ _ _ _ ((R.takeO g hp upd_same).setHob (.inr rfl) (fun i ds e => R.takeNo hp i ds e) upd_same i) (.take g R.wl R.mz hp) hm⟩
theorem je_tGet [NoFz] (i : Nat) (hu : X.A.units + 1 < cLine) (ha : JE X ie te A) (hs : NoSl ie) (hN : X.N[i]? = some x := by rfl) (hv : Vis X.env.scope x := by first | exact Or.inl rfl | exact Or.inr (Or.inl rfl) | exact Or.inr (Or.inr rfl)) (hd : (x == ("__debug__" : Str)) = false := by decide)
    (hcd : (x == ("__classdict__" : Str)) = false := by decide) : JE X (.Subscript (.Name x xp) ie pos) (tDGet (tVar i) te) (mTGet i A) := ⟨pe_dget hu (pe_var hN hv hd hcd) ha.pe hs, by
  intro W Z O env σ H0 H P Q R hm k
  obtain ⟨kvs, q, hm⟩ := onDct_iff hm
  obtain ⟨p, e1, o, hp⟩ := R.cell i _ q
  refine ⟨.ref p, e1, ha.es W Z O env σ H0 H _ _ R hm fun d v H1 p1 g1 n1 => ?_⟩
  obtain ⟨ns, rfl, p1⟩ := p1
  obtain ⟨u, eu, p1⟩ := onSm_iff p1
  cases n1 with
  | @tup b xs _ h1 _ n =>
    have := n.ints
    subst this
    have g := DGet.t (k := keyT ns) (show H1 p = some (.dT (kvs.map fun q => (keyT q.1, V.int q.2))) from g1.keep _ _ (R.om p o) hp) (show H1 b = some (.tup ((keyT ns).map kV)) by rw [keyT_kV]; exact NoFz.out _ _ _ h1)
    rw [valV_G keyT_inj, eu] at g
    exact ⟨p, .int u, rfl, g, k _ _ H1 p1 g1 (.int _)⟩⟩
theorem js_tPut [NoFz] (i : Nat) (hu : X.A.units + 1 < cLine) (h : JE X e te A) (hb : JE X ie ti B) (hN : X.N[i]? = some x := by rfl) (hv : Vis X.env.scope x := by first | exact Or.inl rfl | exact Or.inr (Or.inl rfl) | exact Or.inr (Or.inr rfl)) (hd : (x == ("__debug__" : Str)) = false := by decide)
    (hcd : (x == ("__classdict__" : Str)) = false := by decide) (hs : swapsWith e (some (.Subscript (.Name x xp) ie tp)) spos.line X.env = pure false := by rfl) :
    JS X (.Assign [.Subscript (.Name x xp) ie tp] e spos) (sDPut (tVar i) ti te) (mTPut i B A) := ⟨ps_dput hu (pe_var hN hv hd hcd) hb.pe h.pe hs, by
  intro W Z O env σ H0 H M D R S hm
  obtain ⟨kvs, q, hm⟩ := onDct_iff hm
  obtain ⟨p, e1, o, hp⟩ := R.cell i _ q
  refine h.es W Z O env σ H0 H _ _ R hm fun d v H1 p1 g1 n1 => ?_
  obtain ⟨u, rfl, p1⟩ := onI_iff p1
  cases n1
  have R1 := R.tr g1
  refine ⟨.ref p, e1, hb.es W Z O env σ H0 H1 _ _ R1 p1 fun kd kv H2 p2 g2 n2 => ?_⟩
  obtain ⟨k, rfl, hl, p2⟩ := p2
  cases n2 with
  | @tup b xs _ h1 _ n =>
    have := n.ints
    subst this
    have R2 := R1.tr g2
    have hp2 := (g1.trans g2).keep _ _ (R.om p o) hp
    refine ⟨p, upd H2 p (dctO (putG kvs k u)), rfl, ?_, ?_⟩
    · have h3 : DPut H2 p (.ref b) (.int u) _ := DPut.t (k := keyT k) (v := .int u) hp2 (show H2 b = some (.tup ((keyT k).map kV)) by rw [keyT_kV]; exact NoFz.out _ _ _ h1) (by rw [List.length_map]; exact Nat.lt_of_lt_of_le hl (small_line (Nat.le_refl _)))
      rw [putK_G keyT_inj] at h3
      exact h3
    · exact ((S.tr R g1).tr R1 g2).nx O _ σ _ (R2.upHob q e1 o) (.put o (by rw [hp2]; exact Option.some_ne_none _)) p2⟩
end
end
section
variable [XCtx] {X : Cx} {a b : Expr} {ta tb : TE} {A : ME} {B' : ML} {pos px py pt : Pos} {kt k2 : Nat} {pt2 : Pos}
/-- a, b = data, a new list; names that hold cells -/
theorem js_parFT {K : PySem.W.Frag} (hK : X.K = K) (i j : Nat) {x y : Str} (hN : X.N.Nodup) (ha : JE X a ta A) (hb : JF X b tb B')
    (hi : X.N[i]? = some x := by rfl) (hj : X.N[j]? = some y := by rfl)
    (hx : Loc X.env.scope x := by first | exact .inl rfl | exact .inr rfl) (hy : Loc X.env.scope y := by first | exact .inl rfl | exact .inr rfl)
    (fx : X.fn x = true ∨ X.env.scope.names.lookup x = some .local := by first | exact .inl rfl | exact .inr rfl) (fy : X.fn y = true ∨ X.env.scope.names.lookup y = some .local := by first | exact .inl rfl | exact .inr rfl)
    (hs1 : starEach [a, b] X.env = (false, eval a X.env) :: starEach [b] X.env := by rfl) (hs2 : starEach [b] X.env = (false, eval b X.env) :: starEach [] X.env := by rfl)
    (hn : (assignEach [.Name x px, .Name y py] X.env).length = 2 := by rfl) (hst : (assignEach [.Name x px, .Name y py] X.env).findIdx? (·.1) = none := by rfl)
    (g1 : (assignEach [.Name x px, .Name y py] X.env).map (·.2) = assign (.Name x px) X.env :: (assignEach [.Name y py] X.env).map (·.2) := by rfl) (g2 : (assignEach [.Name y py] X.env).map (·.2) = assign (.Name y py) X.env :: (assignEach [] X.env).map (·.2) := by rfl)
    (hs : swapsWithSole [.Tuple [.Name x px, .Name y py] kt pt] (.Tuple [a, b] k2 pt2) pos.line X.env = pure false := by rfl) (hw : swappedStores [.Tuple [.Name x px, .Name y py] kt pt] (.Tuple [a, b] k2 pt2) X.env = pure none := by rfl)
    (h1 : (assignEach [.Tuple [.Name x px, .Name y py] kt pt] X.env).map (·.2) = [assign (.Tuple [.Name x px, .Name y py] kt pt) X.env] := by rfl) (hc : X.calm = true := by rfl) :
    JS X (.Assign [.Tuple [.Name x px, .Name y py] kt pt] (.Tuple [a, b] k2 pt2) pos) (tAsg (tTup (tCons ta (tCons tb tNil))) (gTup K 2 (gCons (gName i) (gCons (gName j) gNil)))) (mParF i j A B') := by
  subst hK
  refine ⟨ps_asg (pe_tup (pa_cons ha.pe (pa_cons hb.pe pa_nil hs2) hs1)) (pg_tup hc (pgs_cons (pg_name hN hi hx fx) (pgs_cons (pg_name hN hj hy fy) pgs_nil g2) g1) hn hst) hs hw h1, fun W Z O env σ H0 H M D R S hm => ?_⟩
  refine ha.es W Z O env σ H0 H _ _ R hm fun d1 v1 H1 p1 g1 n1 => ?_
  have R1 := R.tr g1
  refine hb.es W Z _ env σ H0 H1 _ _ R1 p1 fun ds p xs H2 p2 g2 hp h2 n2 => ?_
  have R2 := R1.takeO g2 hp h2
  refine ⟨by show 2 ≤ sizeLine; decide, fun t to ht htc htd => ⟨t, _, rfl, SqT.of (TupAt.up htc htd), rfl, _, _, rfl, _, _, rfl, rfl, ?_⟩⟩
  have g3 : Ge W H2 (upd H2 t (.frz to (.tup [v1, .ref p]))) := .new ht
  have R3 := R2.tr g3
  have h3 := g3.keep _ _ (R2.om p (.inr rfl)) h2
  have n1' : Dn (upd H2 t (.frz to (.tup [v1, .ref p]))) (ZO Z fun a => O a ∨ a = p) v1 d1 := Dn.ge (Dn.tr (fun a u z e => ⟨g2.keep a u (fun m => z (.inl (R1.mz a m))) e, by
    rintro (q | q | q)
    · exact z (.inl q)
    · exact z (.inr q)
    · exact ne_of_none e hp q⟩) _ _ n1) g3 R2.mz
  have R4 := R3.set n1' i
  have R5 := R4.setOwn (p := p) (.inr rfl) (fun k ds e => ?_) h3 (n2.ge g3 R2.mz) j
  · exact (((S.tr R g1).step (.take g2 R1.wl R1.mz hp)).tr R2 g3).next R5 p2
  · rcases getElem?_set_cases e with ⟨ek, q⟩ | ⟨nk, q⟩
    · cases ds <;> cases q
    · rw [List.getElem?_set_ne nk]
      exact R1.takeNo hp k ds q
end
end Dw

set_option maxRecDepth 100000
set_option maxHeartbeats 4000000
/-! Dw26: sorted of what may be walked: tuples of pairs, dicts whose keys are pairs. -/
namespace Dw
open PySem PySem.Spec PyProof.Rows L2
section
variable {prog : Program} {w : World} {A : Around} {E : Value → Shared → Prop} {s : Shared}
/-- sorted(v), by what walking v gives -/
theorem sorted_walked {v : Value} {ltv : Value → Value → Bool} {Q : Value → Shared → Prop} (O : SrtO.Swo ltv) (W : List Value → Prop)
    (hc : ∀ R : List Value → Shared → Prop, (∀ (h' : Heap) (tk : Nat) (vs : List Value), W vs → vs.length ≤ sizeLine → (∀ b o, s.heap.get? b = some o → h'.get? b = some o) → R vs { s with heap := h', toks := tk }) → wpAny (model prog w) A.in1 (collect v) R E s)
    (hS : ∀ (vs : List Value), W vs → 2 ≤ vs.length → ∀ (h1 : Heap) (tk : Nat) (a : Addr), h1.get? a = some (seqObj "list" vs.toArray 0) → (∀ b o, s.heap.get? b = some o → b ≠ a ∧ h1.get? b = some o) → SrtO.SortableO prog w A.in1.in1 { s with heap := h1, toks := tk } a vs ltv)
    (h : ∀ (h' h2 : Heap) (tk : Nat) (d : Addr) (vs out : List Value), W vs → SrtO.Srtd ltv out → SrtO.Stb ltv out vs → vs.length ≤ sizeLine → (∀ b o, s.heap.get? b = some o → h'.get? b = some o) → (∀ b o, h'.get? b = some o → h2.get? b = some o) → h'.objs.size ≤ d → (∃ n, h2.get? d = some (seqObj "list" out.toArray n)) → Q (.ref d) { s with heap := h2, toks := tk }) :
    wpAny (model prog w) A (call (.builtin "sorted") [v]) Q E s := by
  refine Calls.call_function_entry PyProof.Rows.kind_sorted PyProof.Rows.plain_sorted PyProof.Rows.entry_sorted (PyProof.Rows.args_sorted1 _) ?_
  unfold Builtin.«sorted»
  refine wpAny_bind (m := checkCount "sorted" 1 1 _) (wpAny_pure ?_)
  refine wpAny_bind (hc _ fun h' tk vs hw hz kp => ?_)
  refine wpAny_bind (wpAny_newList ?_ hz)
  have at1 : (h'.push (seqObj "list" vs.toArray 0)).get? h'.objs.size = some (seqObj "list" vs.toArray 0) := Heap.get?_push_size _ rfl
  have lt : ∀ b o, s.heap.get? b = some o → b < h'.objs.size := fun b o e => Heap.lt_size (kp b o e)
  have kp1 : ∀ b o, s.heap.get? b = some o → b ≠ h'.objs.size ∧ (h'.push (seqObj "list" vs.toArray 0)).get? b = some o := fun b o e => ⟨Nat.ne_of_lt (lt b o e), Heap.get?_push_of_some _ (kp b o e)⟩
  show wpAny _ _ _ _ _ { s with heap := h'.push (seqObj "list" vs.toArray 0), toks := tk }
  refine wpAny_bind (wpAny_holding (wpAny_call_entry PyProof.Rows.slot_list_sort ⟨_, at1, rfl⟩ PyProof.Rows.entry_list_sort (SrtO.list_sort_ord (s := { s with heap := h'.push (seqObj "list" vs.toArray 0), toks := tk }) O at1 hz (fun h2 => hS vs hw h2 _ tk _ at1 kp1) fun out hs hb => ⟨_, rfl, ?_⟩) (PyProof.Rows.args_list_sort _)))
  have old : ∀ b o, h'.get? b = some o → (PyProof.Rows.sortedHeap (h'.push (seqObj "list" vs.toArray 0)) h'.objs.size vs out.toArray).get? b = some o := fun b o e => by
    have l := Heap.lt_size e
    rw [PyProof.Rows.sortedHeap_old (Nat.ne_of_lt l) (by rw [Heap.size_push]; exact Nat.lt_succ_of_lt l)]
    exact Heap.get?_push_of_some _ e
  exact wpAny_pure ⟨_, rfl, h h' _ tk _ vs out hw hs hb hz kp old (Nat.le_refl _) (PyProof.Rows.sortedHeap_at at1)⟩
theorem isPair_any {h : Heap} {v : Value} {p : Int × Int} (k : Srt.IsPair h v p.1 p.2) {h' : Heap} (kp : ∀ b o, h.get? b = some o → h'.get? b = some o) : Srt.IsPair h' v p.1 p.2 := k.keeps fun b o e _ => kp b o e
/-- .. pairs of whole numbers -/
theorem sorted_walkedP {v : Value} {k : Value → Int × Int} {Q : Value → Shared → Prop} (W : List Value → Prop)
    (hc : ∀ R : List Value → Shared → Prop, (∀ (h' : Heap) (tk : Nat) (vs : List Value), W vs → vs.length ≤ sizeLine → (∀ b o, s.heap.get? b = some o → h'.get? b = some o) → R vs { s with heap := h', toks := tk }) → wpAny (model prog w) A.in1 (collect v) R E s)
    (hp : ∀ (vs : List Value), W vs → ∀ u ∈ vs, Srt.IsPair s.heap u (k u).1 (k u).2)
    (h : ∀ (h' h2 : Heap) (tk : Nat) (d : Addr) (vs out : List Value), W vs → SrtO.Srtd (fun v u => SrtO.lexB (k v) (k u)) out → SrtO.Stb (fun v u => SrtO.lexB (k v) (k u)) out vs → vs.length ≤ sizeLine → (∀ b o, s.heap.get? b = some o → h'.get? b = some o) → (∀ b o, h'.get? b = some o → h2.get? b = some o) → h'.objs.size ≤ d → (∃ n, h2.get? d = some (seqObj "list" out.toArray n)) → Q (.ref d) { s with heap := h2, toks := tk }) :
    wpAny (model prog w) A (call (.builtin "sorted") [v]) Q E s := by
  refine sorted_walked (SrtO.swo_lex k) W hc (fun vs hw h2 h1 tk a ha kk => ?_) h
  refine SrtO.pairs_sortableO (s := { s with heap := h1, toks := tk }) (by omega) (fun u hm => (hp vs hw u hm).keeps fun b o e _ => (kk b o e).2) fun o e => ?_
  have e' : some o = some (seqObj "list" vs.toArray 0) := e.symm.trans ha
  cases e'
  intro c
  exact absurd (Value.type.inj c) (by decide)
end
section
variable {X : Cx}
/-- sorted(t), t a tuple of pairs -/
def rSortT : List V → Hp → VK → Prop := fun vs H Q => ∃ (a : Addr) (xs : List V) (k : V → Int × Int), vs = [V.ref a] ∧ TupAt H a xs ∧ (∀ x ∈ xs, ∃ t, x = V.ref t ∧ TupAt H t [.int (k x).1, .int (k x).2]) ∧
  ∀ ys p, SrtO.Srtd (ltP k) ys → SrtO.Stb (ltP k) ys xs → H p = none → Q (.ref p) (upd H p (.lst ys))
theorem cr_sortT : CallR X (.builtin "sorted") rSortT := by
  intro pins s σ H vs us Q I r h
  obtain ⟨a, xs, k, rfl, hs, hx, q⟩ := h
  obtain ⟨its, rv, ⟨o, ho, hc, n0, hd0⟩, zs⟩ := I.tuple (SqT.of hs)
  obtain ⟨u, rfl, ru⟩ := vals1 r
  obtain rfl : u = Value.ref a := ru
  obtain ⟨e1, e2⟩ := refs_back rv fun x m => by
    obtain ⟨t, e, _⟩ := hx x m
    exact ⟨t, e⟩
  have len := rv.length
  refine sorted_walkedP (k := fun u => k (backV u)) (fun vs => vs = its) (fun R hR => wpAny_collect_seq a (.inr rfl) ho hc hd0 (fun h' kp => ?_) (by rw [List.size_toArray, ← len]; exact zs)) (fun vs hv v hm => ?_) fun h' hf tk d vs out hw h1 h2 hz kp old hd hn => ?_
  · have := hR h' s.toks its rfl (by rw [← len]; exact zs) kp
    simpa using this
  · have hm : v ∈ its := by rw [← hv]; exact hm
    obtain ⟨t, rfl⟩ := e2 v hm
    have hm2 : V.ref t ∈ xs := by rw [e1]; exact List.mem_map.mpr ⟨_, hm, rfl⟩
    obtain ⟨t', e, ht⟩ := hx _ hm2
    cases e
    obtain ⟨its2, r2, ⟨o2, ho2, hc2, n2, hd2⟩, _⟩ := I.tuple (SqT.of ht)
    obtain ⟨u1, u2, rfl, ri, rj⟩ := vals2 r2
    obtain ⟨t1, rfl⟩ := ri
    obtain ⟨t2, rfl⟩ := rj
    exact ⟨t, o2, t1, t2, n2, rfl, ho2, hc2, hd2⟩
  · rw [hw] at h2
    have h3 : ∀ u ∈ out, ∃ a, u = Value.ref a := fun u hu => e2 u (h2.perm.mem_iff.mp hu)
    obtain ⟨n, hn⟩ := hn
    have hb : SrtO.Stb (ltP k) (out.map backV) xs := by
      rw [e1]
      exact SrtO.Stb.map (ltP_swo k) backV h2
    have I1 : Inv X pins σ H { s with heap := h', toks := tk } := I.kept kp
    refine ⟨.ref d, upd H d (.lst (out.map backV)), I1.laid (t' := tk) old hd ⟨?_, out, n, vals_back h3, hn⟩, rfl, q _ d (SrtO.srtd_map h1) hb (I1.hok.fresh hd)⟩
    rw [hb.len]
    exact zs
/-- the pair that stands at a reference -/
def pairAt : Option HO → Int × Int
  | some (.tup [.int a, .int b]) => (a, b)
  | _ => (0, 0)
def kH (H : Hp) : V → Int × Int
  | .ref t => pairAt (H t)
  | _ => (0, 0)
def keyP2 (p : Int × Int) : List Key := [.inl p.1, .inl p.2]
/-- sorted(d), the keys of d pairs -/
def rSortDT : List V → Hp → VK → Prop := fun vs H Q => ∃ (a : Addr) (kvs : List (List Key × V)) (ps : List (Int × Int)), vs = [V.ref a] ∧ H a = some (.dT kvs) ∧ kvs.map (·.1) = ps.map keyP2 ∧
  ∀ (ts : List Addr) (ys : List V) (p : Addr), ts.length = ps.length → (∀ (j : Nat) (t : Addr) (q : Int × Int), ts[j]? = some t → ps[j]? = some q → H t = some (.tup [.int q.1, .int q.2])) → SrtO.Srtd (ltP (kH H)) ys → SrtO.Stb (ltP (kH H)) ys (ts.map V.ref) → H p = none → Q (.ref p) (upd H p (.lst ys))
theorem keys_at {H : Hp} : ∀ {kvs : List (List Key × V)} {ps : List (Int × Int)} {xs : List (List Key × Addr × Value)}, KT H kvs xs → kvs.map (·.1) = ps.map keyP2 → xs.length = ps.length ∧ ∀ (j : Nat) (x : List Key × Addr × Value) (q : Int × Int), xs[j]? = some x → ps[j]? = some q → H x.2.1 = some (.tup [.int q.1, .int q.2]) := by
  intro kvs ps xs r
  unfold KT at r
  induction r generalizing ps with
  | nil =>
    intro e
    cases ps with
    | nil => exact ⟨rfl, fun j x q h => by simp at h⟩
    | cons _ _ => cases e
  | @cons kv x kvs xs h t ih =>
    intro e
    cases ps with
    | nil => cases e
    | cons p ps =>
      obtain ⟨e1, e2⟩ := List.cons.inj e
      obtain ⟨l, g⟩ := ih e2
      refine ⟨by rw [List.length_cons, List.length_cons, l], fun j y q h1 h2 => ?_⟩
      cases j with
      | zero =>
        cases (Option.some.inj h1 : x = y)
        cases (Option.some.inj h2 : p = q)
        have := h.2.1
        rw [show kv.1 = keyP2 p from e1] at this
        exact this
      | succ j => exact g j y q h1 h2
theorem cr_sortDT (hc : X.calm = true) : CallR X (.builtin "sorted") rSortDT := by
  intro pins s σ H vs us Q I r h
  obtain ⟨a, kvs, ps, rfl, hd, hk, q⟩ := h
  obtain ⟨u, rfl, ru⟩ := vals1 r
  obtain rfl : u = Value.ref a := ru
  obtain ⟨z, sm, xs, pr, o, es, ep, ho, hx, hdt, he, hn⟩ := (show ObjOk X.prog X.w H s.heap a (.dT kvs) from I.hok a _ hd)
  obtain ⟨lx, at'⟩ := keys_at pr hk
  have les : es.size = xs.length := by
    have := congrArg List.length he
    rw [Array.length_toList, List.length_map] at this
    exact this
  have lkv : kvs.length = xs.length := by
    have := congrArg List.length hk
    rw [List.length_map, List.length_map] at this
    omega
  have pairs : ∀ x ∈ xs, ∃ p : Int × Int, H x.2.1 = some (.tup [.int p.1, .int p.2]) := fun x hm => by
    obtain ⟨j, hj, rfl⟩ := List.getElem_of_mem hm
    have hj2 : j < ps.length := by omega
    exact ⟨ps[j], at' j _ _ (List.getElem?_eq_getElem hj) (List.getElem?_eq_getElem hj2)⟩
  refine sorted_walkedP (k := fun u => kH H (backV u)) (fun vs => vs = xs.map fun x => Value.ref x.2.1) (fun R hR => ?_) (fun vs hv v hm => ?_) fun h' hf tk d vs out hw h1 h2 hz kp old hd' hn' => ?_
  · refine PySem.W.kdu_collect (kdl_raw sm hx hdt) (I.ok.hd hc) ho (by omega) fun h' tk acc kp it => ?_
    have e : acc.toList = xs.map fun x => Value.ref x.2.1 := by
      apply List.ext_getElem
      · rw [Array.length_toList, it.1, List.length_map, les]
      · intro j g1 g2
        obtain ⟨en, hen, hv⟩ := it.2 j acc.toList[j] (by rw [← Array.getElem?_toList]; exact List.getElem?_eq_getElem g1)
        rw [hv]
        have hj : j < xs.length := by rw [List.length_map] at g2; exact g2
        rw [← Array.getElem?_toList, he, List.getElem?_map, List.getElem?_eq_getElem hj] at hen
        cases hen
        rw [List.getElem_map]
        rfl
    exact hR h' tk acc.toList e (by rw [e, List.length_map]; omega) kp
  · rw [hv] at hm
    obtain ⟨x, hx2, rfl⟩ := List.mem_map.mp hm
    obtain ⟨p, hp⟩ := pairs x hx2
    obtain ⟨_, its2, r2, o2, ho2, hc2, n2, hd2⟩ := I.hok _ _ hp
    obtain ⟨u1, u2, rfl, ri, rj⟩ := vals2 r2
    obtain ⟨t1, rfl⟩ := ri
    obtain ⟨t2, rfl⟩ := rj
    have e : kH H (backV (Value.ref x.2.1)) = p := by
      show pairAt (H x.2.1) = p
      rw [hp]
      rfl
    rw [e]
    exact ⟨x.2.1, o2, t1, t2, n2, rfl, ho2, hc2, hd2⟩
  · rw [hw] at h2
    have back : ∀ u ∈ xs.map (fun x => Value.ref x.2.1), ∃ a, u = Value.ref a := fun u hu => by
      obtain ⟨x, _, rfl⟩ := List.mem_map.mp hu
      exact ⟨_, rfl⟩
    have h3 : ∀ u ∈ out, ∃ a, u = Value.ref a := fun u hu => back u (h2.perm.mem_iff.mp hu)
    obtain ⟨n, hn'⟩ := hn'
    have e1 : (xs.map fun x => Value.ref x.2.1).map backV = (xs.map fun x => x.2.1).map V.ref := by rw [List.map_map, List.map_map]; rfl
    have hb : SrtO.Stb (ltP (kH H)) (out.map backV) ((xs.map fun x => x.2.1).map V.ref) := by
      rw [← e1]
      exact SrtO.Stb.map (ltP_swo (kH H)) backV h2
    have I1 : Inv X pins σ H { s with heap := h', toks := tk } := I.kept kp
    refine ⟨.ref d, upd H d (.lst (out.map backV)), I1.laid (t' := tk) old hd' ⟨?_, out, n, vals_back h3, hn'⟩, rfl, q (xs.map fun x => x.2.1) _ d (by rw [List.length_map]; exact lx) (fun j t p g1 g2 => ?_) (SrtO.srtd_map h1) hb (I1.hok.fresh hd')⟩
    · rw [hb.len, List.length_map, List.length_map]
      omega
    · rw [List.getElem?_map] at g1
      cases g : xs[j]? with
      | none => rw [g] at g1; cases g1
      | some x =>
        rw [g] at g1
        cases g1
        exact at' j x p g g2
end
end Dw
namespace Dw
open PySem PySem.Spec PyProof.Rows L2
variable [XCtx]
def fSortT (ds : List PyData) (P : List PyData → Prop) : Prop := on1 ds fun d => onU d fun xs => ∃ ps : List (Int × Int), xs = ps.map prD ∧ ∀ qs : List (Int × Int), qs.Perm ps → qs.Pairwise lexLe → P (qs.map prD)
theorem rf_sortT : RF rSortT fSortT := by
  intro W Z O env σ H0 H vs ds P Q R hv hf k
  obtain ⟨d, rfl, hf⟩ := on1_iff hf
  obtain ⟨v, rfl, hw⟩ := hv.one
  obtain ⟨xs, rfl, ps, rfl, hp⟩ := onU_iff hf
  obtain ⟨p, ys, rfl, h1, nz, n⟩ := hw.tuple
  obtain ⟨e1, e2⟩ := two_all n
  refine ⟨p, ys, twoOf H, rfl, h1, fun x hx => ?_, fun zs q h2 h3 hq => ?_⟩
  · obtain ⟨pp, hpp⟩ := e2 x hx
    obtain ⟨⟨t, et, ht⟩, e⟩ := two_of hpp
    exact ⟨t, et, by rw [e]; exact ht⟩
  · have hz : ∀ v ∈ zs, ∃ p, Dn H (ZO Z O) v (prD p) := fun v hv => e2 v (h3.perm.mem_iff.mp hv)
    refine k _ q _ _ (hp (zs.map (twoOf H)) ?_ ?_) (.new hq) hq upd_same ((two_back hz).own hq)
    · rw [← e1]
      exact h3.perm.map _
    · exact List.pairwise_map.mpr h2
section
variable {X : Cx} {e : Expr} {t : TA} {M : ML} {pos p : Pos}
/-- sorted(t), t a tuple of pairs -/
theorem jf_sortT (hm : X.mg "sorted" = none) (ha : JAb X [e] t M) (hg : Gl X "sorted" := by rfl) (he : starEach [e] X.env = (false, eval e X.env) :: starEach [] X.env := by rfl) : JF X (.Call (.Name "sorted" p) [e] [] pos) (tCB rSortT t) (mBlF fSortT M) := jf_B cr_sortT rf_sortT hm (by decide +kernel) ha hg (by decide) (by decide) he rfl
end
end Dw

set_option maxRecDepth 100000
set_option maxHeartbeats 4000000
/-! Dw27: xs.append(ys.pop(e)), two lists of one's own. -/
namespace Dw
open PySem PySem.Spec PyProof.Rows L2
variable [XCtx]
theorem DnAll.erase {H : Hp} {Z : Addr → Prop} : ∀ {vs : List V} {ds : List PyData} (k : Nat), DnAll H Z vs ds → DnAll H Z (vs.eraseIdx k) (ds.eraseIdx k)
  | _, _, _, .nil => by simp only [List.eraseIdx_nil]; exact .nil
  | _, _, 0, .cons _ r => r
  | _, _, k + 1, .cons a r => .cons a (DnAll.erase k r)
/-- xs.append(ys.pop(e)) -/
def mAppPop (i j : Nat) (A : ME) : MS := fun M env => onOwn env i fun fs => fs.length < 100000 ∧ onOwn env j fun ls => A env fun d => onI d fun k => 0 ≤ k ∧ k < ls.length ∧ k < 2 ^ 63 ∧ ∃ y, ls[k.toNat]? = some y ∧ M.nx ((env.set j (.own (ls.eraseIdx k.toNat))).set i (.own (fs ++ [y])))
section
variable {X : Cx} {e : Expr} {te : TE} {A : ME}
theorem appPop_sound {K : PySem.W.Frag} {i j : Nat} (ne : i ≠ j) (h : ES te A) : SS (tDrop (tBM K "list" rAppend (tVar i) (tCons (tBM K "list" rPopAt (tVar j) (tCons te tNil)) tNil))) (mAppPop i j A) := by
  intro W Z O env σ H0 H M D R S hm
  obtain ⟨fs, q1, hl, hm⟩ := onOwn_iff hm
  obtain ⟨ls, q2, hm⟩ := onOwn_iff hm
  obtain ⟨p, xs, e1, o1, hp, n1⟩ := R.cell i _ q1
  obtain ⟨r, ys, e2, o2, hr, n2⟩ := R.cell j _ q2
  have pr : p ≠ r := fun z => ne (R.uniq i j (.inl fs) (.inl ls) p q1 q2 e1 (by rw [z]; exact e2))
  refine ⟨.ref p, e1, .inl ⟨rfl, xs, SqL.of hp⟩, ?_⟩
  refine ⟨.ref r, e2, .inl ⟨rfl, ys, SqL.of hr⟩, ?_⟩
  refine h W Z O env σ H0 H _ _ R hm fun d v H1 p1 g1 m1 => ?_
  obtain ⟨k, rfl, k0, k1, k2, y, hy, p1⟩ := onI_iff p1
  cases m1
  have R1 := R.tr g1
  have hp1 := g1.keep _ _ (R.om p o1) hp
  have hr1 := g1.keep _ _ (R.om r o2) hr
  have n1' := n1.ge g1 R.mz
  have n2' := n2.ge g1 R.mz
  obtain ⟨vy, hv, ny⟩ := n2'.get hy
  obtain ⟨c, rfl⟩ := Int.eq_ofNat_of_zero_le k0
  have hc : c < ls.length := by omega
  refine ⟨r, ys, _, c, vy, rfl, rfl, hr1, by omega, k2, by rw [n2'.length]; exact seqIx hc, hv, ?_⟩
  have R2 := R1.upOwn q2 e2 o2 (DnAll.erase c n2')
  have q1' : (env.set j (.own (ls.eraseIdx c)))[i]? = some (.own fs) := by rw [List.getElem?_set_ne (fun z => ne z.symm)]; exact q1
  have hp2 : upd H1 r (.lst (ys.eraseIdx c)) p = some (.lst xs) := by rw [upd_ne pr]; exact hp1
  refine ⟨p, xs, vy, rfl, rfl, hp2, Nat.lt_of_lt_of_le (by rw [n1'.length]; exact hl) (small_line (Nat.le_refl _)), ?_⟩
  have S2 := (S.tr R g1).step (.put (H := H1) (o := .lst (ys.eraseIdx c)) o2 (by rw [hr1]; exact Option.some_ne_none _))
  have ny2 : DnAll (upd H1 r (.lst (ys.eraseIdx c))) (ZO Z O) [vy] [y] := DnAll.put o2 (.cons ny .nil)
  have R3 := R2.upOwn q1' e1 o1 ((n1'.put o2).app ny2)
  exact S2.nx O _ σ _ R3 (.put o1 (by rw [hp2]; exact Option.some_ne_none _)) p1
theorem js_appPop {K : PySem.W.Frag} (hK : X.K = K) (i j : Nat) {x y : Str} {p p2 apos cpos bpos dpos spos : Pos} (h : JE X e te A) (hij : i ≠ j) (hN : X.N[i]? = some x) (hv : Vis X.env.scope x) (hN2 : X.N[j]? = some y) (hv2 : Vis X.env.scope y) (hd : (x == ("__debug__" : Str)) = false) (hcd : (x == ("__classdict__" : Str)) = false) (hd2 : (y == ("__debug__" : Str)) = false) (hcd2 : (y == ("__classdict__" : Str)) = false)
    (a1 : attributeBase (.Name x p) "append" X.env (eval (.Name x p) X.env) = eval (.Name x p) X.env)
    (a2 : ((((backTo cpos (starEach [.Call (.Attribute (.Name y p2) "pop" bpos) [e] [] dpos] X.env)).all fun x => !x.fst) && (backToKw cpos (keywordEach [] X.env)).all fun x => x.fst.isSome) && decide ((([.Call (.Attribute (.Name y p2) "pop" bpos) [e] [] dpos] : List Expr).length + 0 + if true = true then 0 else 1) < 30)) = true)
    (a3 : (apos.endLine == cpos.line) = true) (a4 : starEach [.Call (.Attribute (.Name y p2) "pop" bpos) [e] [] dpos] X.env = (false, eval (.Call (.Attribute (.Name y p2) "pop" bpos) [e] [] dpos) X.env) :: starEach [] X.env) (a5 : ((backTo cpos (starEach [] X.env)).any fun x => x.fst) = false)
    (b1 : attributeBase (.Name y p2) "pop" X.env (eval (.Name y p2) X.env) = eval (.Name y p2) X.env)
    (b2 : ((((backTo dpos (starEach [e] X.env)).all fun x => !x.fst) && (backToKw dpos (keywordEach [] X.env)).all fun x => x.fst.isSome) && decide ((([e] : List Expr).length + 0 + if true = true then 0 else 1) < 30)) = true)
    (b3 : (bpos.endLine == dpos.line) = true) (b4 : starEach [e] X.env = (false, eval e X.env) :: starEach [] X.env) (b5 : ((backTo dpos (starEach [] X.env)).any fun x => x.fst) = false)
    (h6 : swapsWith (.Call (.Attribute (.Name x p) "append" apos) [.Call (.Attribute (.Name y p2) "pop" bpos) [e] [] dpos] [] cpos) none spos.line X.env = pure false) :
    JS X (.Expr (.Call (.Attribute (.Name x p) "append" apos) [.Call (.Attribute (.Name y p2) "pop" bpos) [e] [] dpos] [] cpos) spos) (tDrop (tBM K "list" rAppend (tVar i) (tCons (tBM K "list" rPopAt (tVar j) (tCons te tNil)) tNil))) (mAppPop i j A) := by
  subst hK
  exact ⟨ps_expr (pe_bm PySem.F.plainAttrs_list PySem.F.slot_list_append PySem.F.type_list_append mt_append (pe_var hN hv hd hcd) (pa_cons (pe_bm PySem.F.plainAttrs_list PySem.F.slot_list_pop PySem.F.type_list_pop mt_popAt (pe_var hN2 hv2 hd2 hcd2) (pa_cons h.pe pa_nil b4) b1 b2 b3 b4 b5) pa_nil a4) a1 a2 a3 a4 a5) h6, appPop_sound hij h.es⟩
end
/-- xs.extend([..]) -/
def mExt (i : Nat) (A : ML) : MS := fun M env => onOwn env i fun fs => A env fun es => fs.length + es.length ≤ 100000 ∧ M.nx (env.set i (.own (fs ++ es)))
section
variable {X : Cx} {e : Expr} {te : TE} {A : ML}
theorem ext_sound {K : PySem.W.Frag} {i : Nat} (h : FS te A) : SS (tDrop (tBM K "list" rExtend (tVar i) (tCons te tNil))) (mExt i A) := by
  intro W Z O env σ H0 H M D R S hm
  obtain ⟨fs, q, hm⟩ := onOwn_iff hm
  obtain ⟨p, xs, e1, o, hp, n⟩ := R.cell i _ q
  refine ⟨.ref p, e1, .inl ⟨rfl, xs, SqL.of hp⟩, ?_⟩
  refine h W Z O env σ H0 H _ _ R hm fun es b zs H1 p1 g1 hb h1 n1 => ?_
  obtain ⟨hl, p1⟩ := p1
  have hp1 := g1.keep _ _ (R.om p o) hp
  have n2 := n.ge g1 R.mz
  refine ⟨p, b, xs, zs, rfl, rfl, hp1, h1, by rw [n2.length, n1.length]; exact small_line hl, ?_⟩
  exact (S.tr R g1).nx O _ σ _ ((R.tr g1).upOwn q e1 o (n2.app (DnAll.tr (fun a u z e => ⟨e, fun q => z (q.imp id .inl)⟩) _ _ n1))) (.put o (by rw [hp1]; exact Option.some_ne_none _)) p1
theorem js_extend {K : PySem.W.Frag} (hK : X.K = K) (i : Nat) {x : Str} {p apos cpos spos : Pos} (h : JF X e te A) (hN : X.N[i]? = some x ) (hv : Vis X.env.scope x ) (hd : (x == ("__debug__" : Str)) = false )
    (hcd : (x == ("__classdict__" : Str)) = false )
    (h1 : attributeBase (.Name x p) "extend" X.env (eval (.Name x p) X.env) = eval (.Name x p) X.env )
    (h2 : ((((backTo cpos (starEach [e] X.env)).all fun x => !x.fst) && (backToKw cpos (keywordEach [] X.env)).all fun x => x.fst.isSome) && decide ((([e] : List Expr).length + 0 + if true = true then 0 else 1) < 30)) = true )
    (h3 : (apos.endLine == cpos.line) = true )
    (h4 : starEach [e] X.env = (false, eval e X.env) :: starEach [] X.env )
    (h5 : ((backTo cpos (starEach [] X.env)).any fun x => x.fst) = false )
    (h6 : swapsWith (.Call (.Attribute (.Name x p) "extend" apos) [e] [] cpos) none spos.line X.env = pure false ) :
    JS X (.Expr (.Call (.Attribute (.Name x p) "extend" apos) [e] [] cpos) spos) (tDrop (tBM K "list" rExtend (tVar i) (tCons te tNil))) (mExt i A) := by
  subst hK
  exact ⟨ps_expr (pe_bm PySem.F.plainAttrs_list PySem.F.slot_list_extend PySem.F.type_list_extend mt_extend (pe_var hN hv hd hcd) (pa_cons h.pe pa_nil h4) h1 h2 h3 h4 h5) h6, ext_sound h.es⟩
end
/-- a op b op c op d, as a test -/
def tTest3 (r r' r2 : R2) (ta tb tc td : TE) : TT := fun σ H Q => ta σ H fun x H1 => tb σ H1 fun y H2 => r x y H2 fun z H3 => ∃ k, z = .bl k ∧ (if k = true then tc σ H3 fun u H4 => r' y u H4 fun z H5 => ∃ k, z = .bl k ∧ (if k = true then td σ H5 fun v H6 => r2 u v H6 fun z H7 => ∃ k, z = .bl k ∧ Q k H7 else Q false H5) else Q false H3)
section
variable {X : Cx} {a b c d : Expr} {ta tb tc td : TE} {A B C D : ME} {pos : Pos} {op op' op2 : CmpOp} {r r' r2 : R2}
theorem pt_chain3 (ho : OpR X (compareOp op) r) (ho' : OpR X (compareOp op') r') (ho2 : OpR X (compareOp op2) r2) (ha : PE X a ta) (hb : PE X b tb) (hc : PE X c tc) (hd : PE X d td)
    (hm : lastMarks [op, op', op2] [b, c, d] = false := by with_unfolding_all rfl) : PT X (.Compare a [op, op', op2] [b, c, d] pos) (tTest3 r r' r2 ta tb tc td) := by
  refine ⟨fun pins s σ H Q I h => ?_⟩
  refine isTrue_chain (thn (ha.run pins s σ H _ I h) fun v s1 ⟨x, H1, I1, r1, q1⟩ => test_link (thn (hb.run pins s1 σ H1 _ I1 q1) fun u s2 ⟨y, H2, I2, r2, q2⟩ =>
    thn (ho pins s2 σ H2 x y v u _ I2 r1 r2 q2) fun d s3 ⟨z, H3, I3, r3, k, e, q3⟩ => ?_)) hm
  subst e
  cases r3
  refine wpAny_truthy_bool ?_
  cases k with
  | false => exact ite_ff ⟨H3, I3, q3⟩
  | true =>
    refine ite_tt (test_link (thn (hc.run pins s3 σ H3 _ I3 q3) fun u2 s4 ⟨y2, H4, I4, r4, q4⟩ => thn (ho' pins s4 σ H4 y y2 u u2 _ I4 r2 r4 q4) fun d2 s5 ⟨z2, H5, I5, r5, k2, e2, q5⟩ => ?_))
    subst e2
    cases r5
    refine wpAny_truthy_bool ?_
    cases k2 with
    | false => exact ite_ff ⟨H5, I5, q5⟩
    | true =>
      refine ite_tt (test_last (thn (hd.run pins s5 σ H5 _ I5 q5) fun u3 s6 ⟨y3, H6, I6, r6, q6⟩ => thn (ho2 pins s6 σ H6 y2 y3 u2 u3 _ I6 r4 r6 q6) fun d3 s7 ⟨z3, H7, I7, r7, k3, e3, q7⟩ => ?_))
      subst e3
      cases r7
      exact wpAny_truthy_bool ⟨H7, I7, q7⟩
def mTest3 (f g h : PyData → PyData → (PyData → Prop) → Prop) (A B C D : ME) : MT := fun env P => A env fun x => B env fun y => f x y fun z => onB z fun k => if k = true then C env fun u => g y u fun z => onB z fun k => if k = true then D env fun v => h u v fun z => onB z P else P false else P false
theorem jt_chain3 {f g h : PyData → PyData → (PyData → Prop) → Prop} (ho : OpR X (compareOp op) r) (ho' : OpR X (compareOp op') r') (ho2 : OpR X (compareOp op2) r2) (hs : R2S r f) (hs' : R2S r' g) (hs2 : R2S r2 h) (ha : JB X a ta A) (hb : JB X b tb B) (hc : JB X c tc C) (hd : JB X d td D)
    (hm : lastMarks [op, op', op2] [b, c, d] = false := by with_unfolding_all rfl) : JT X (.Compare a [op, op', op2] [b, c, d] pos) (tTest3 r r' r2 ta tb tc td) (mTest3 f g h A B C D) := ⟨pt_chain3 ho ho' ho2 ha.pe hb.pe hc.pe hd.pe hm, by
  intro W Z O env σ H0 H P Q R hm k
  refine ha.es W Z O env σ H0 H _ _ R hm fun d1 v1 H1 p1 g1 n1 => ?_
  have R1 := R.tr g1
  refine hb.es W Z O env σ H0 H1 _ _ R1 p1 fun d2 v2 H2 p2 g2 n2 => ?_
  have R2 := R1.tr g2
  refine hs W Z O env σ H0 H2 v1 v2 d1 d2 _ _ R2 (n1.ge g2 R.mz) n2 p2 fun z w H3 p3 g3 n3 => ?_
  have R3 := R2.tr g3
  obtain ⟨b1, rfl, p3⟩ := onB_iff p3
  cases n3
  refine ⟨b1, rfl, ?_⟩
  cases b1 with
  | false => exact k _ H3 p3 ((g1.trans g2).trans g3)
  | true =>
    refine hc.es W Z O env σ H0 H3 _ _ R3 p3 fun d4 v4 H4 p4 g4 n4 => ?_
    have R4 := R3.tr g4
    refine hs' W Z O env σ H0 H4 v2 v4 d2 d4 _ _ R4 ((n2.ge g3 R.mz).ge g4 R.mz) n4 p4 fun z w H5 p5 g5 n5 => ?_
    have R5 := R4.tr g5
    obtain ⟨b2, rfl, p5⟩ := onB_iff p5
    cases n5
    refine ⟨b2, rfl, ?_⟩
    cases b2 with
    | false => exact k _ H5 p5 ((((g1.trans g2).trans g3).trans g4).trans g5)
    | true =>
      refine hd.es W Z O env σ H0 H5 _ _ R5 p5 fun d6 v6 H6 p6 g6 n6 => ?_
      have R6 := R5.tr g6
      refine hs2 W Z O env σ H0 H6 v4 v6 d4 d6 _ _ R6 ((n4.ge g5 R.mz).ge g6 R.mz) n6 p6 fun z w H7 p7 g7 n7 => ?_
      obtain ⟨b3, rfl, p7⟩ := onB_iff p7
      cases n7
      exact ⟨b3, rfl, k _ H7 p7 ((((((g1.trans g2).trans g3).trans g4).trans g5).trans g6).trans g7)⟩⟩
/-- a <= b < c < d -/
theorem jt_lelt2 (ha : JB X a ta A) (hb : JB X b tb B) (hc : JB X c tc C) (hd : JB X d td D) (hm : lastMarks [.LtE, .Lt, .Lt] [b, c, d] = false := by with_unfolding_all rfl) : JT X (.Compare a [.LtE, .Lt, .Lt] [b, c, d] pos) (tTest3 (rI0 fun i j => .bl (decide (i ≤ j))) (rI0 fun i j => .bl (decide (i < j))) (rI0 fun i j => .bl (decide (i < j))) ta tb tc td) (mTest3 fLe fLt fLt A B C D) := jt_chain3 op_le op_lt op_lt s_le s_lt s_lt ha hb hc hd hm
end
end Dw

set_option maxRecDepth 100000
set_option maxHeartbeats 4000000
/-! Dw28: dicts of one's own that say True of whole numbers; < between pairs. -/
namespace Dw
open PySem PySem.Spec PyProof.Rows L2
variable [XCtx]
def keyB (k : Int) : Key × V := (.inl k, .bl true)
def dbO (ks : List Int) : HO := .dK (ks.map keyB)
def addB (ks : List Int) (k : Int) : List Int := if k ∈ ks then ks else ks ++ [k]
theorem valV_B (k : Int) : ∀ ks : List Int, (valV (ks.map keyB) (.inl k)).isSome = decide (k ∈ ks)
  | [] => rfl
  | q :: r => by
    rw [List.map_cons]
    by_cases e : q = k
    · rw [valV_pos (p := keyB q) (congrArg Sum.inl e), decide_eq_true (by rw [e]; exact List.mem_cons_self)]
      rfl
    · rw [valV_neg (p := keyB q) (fun z => e (Sum.inl.inj z)), valV_B k r, Bool.eq_iff_iff, decide_eq_true_eq, decide_eq_true_eq, List.mem_cons]
      exact ⟨.inr, fun h => h.resolve_left fun z => e z.symm⟩
theorem putK_B (k : Int) (ks : List Int) : putK (ks.map keyB) (.inl k) (.bl true) = (addB ks k).map keyB := by
  have h1 : ((ks.map keyB).any fun kv => decide (kv.1 = (Sum.inl k : Key))) = decide (k ∈ ks) := by rw [valV_any, valV_B]
  unfold putK addB
  rw [h1]
  by_cases h : k ∈ ks
  · rw [if_pos (decide_eq_true h), if_pos h, List.map_map]
    apply List.map_congr_left
    intro q _
    show (if (keyB q).1 = Sum.inl k then ((keyB q).1, V.bl true) else keyB q) = keyB q
    split <;> rfl
  · rw [if_neg (by rw [decide_eq_false h]; decide), if_neg h, List.map_append]
    rfl
def onDb (env : Cells) (i : Nat) (k : List Int → Prop) : Prop := match env[i]? with
  | some (.hob o) => ∃ ks, o = dbO ks ∧ k ks
  | _ => False
theorem onDb_iff {env : Cells} {i : Nat} {k : List Int → Prop} (h : onDb env i k) : ∃ ks, env[i]? = some (.hob (dbO ks)) ∧ k ks := by
  unfold onDb at h
  split at h
  · rename_i o e
    obtain ⟨ks, rfl, h⟩ := h
    exact ⟨ks, e, h⟩
  · exact h.elim
/-- d = {e: True} -/
def mSetB (i : Nat) (A : ME) : MS := fun M env => A env fun x => onI x fun k => M.nx (env.set i (.hob (dbO [k])))
def mBIn (A : ME) (i : Nat) : ME := fun env P => A env fun x => onI x fun k => onDb env i fun ks => P (.bool (decide (k ∈ ks)))
def mBLen (i : Nat) : ME := fun env P => onDb env i fun ks => ks.length ≤ 100000 ∧ P (.int (ks.length : Nat))
/-- d[a], d[b] = (True, True) -/
def mBPut2 (i : Nat) (B1 B2 : ME) : MS := fun M env => onDb env i fun ks => B1 env fun x => onI x fun a => ks.length < 90000 ∧ B2 (env.set i (.hob (dbO (addB ks a)))) fun y => onI y fun b => M.nx ((env.set i (.hob (dbO (addB ks a)))).set i (.hob (dbO (addB (addB ks a) b))))
theorem addB_len (ks : List Int) (k : Int) : (addB ks k).length ≤ ks.length + 1 := by
  unfold addB
  split
  · omega
  · rw [List.length_append]; exact Nat.le_refl _
section
variable {X : Cx} {e i1 i2 : Expr} {te t1 t2 : TE} {A B1 B2 : ME} {pos tp spos xp dpos : Pos} {x : Str} {kk : Nat} {bp : Pos}
theorem js_setB (i : Nat) {pos' : Pos} (hN : X.N.Nodup) (ha : JE X e te A) (hi : X.N[i]? = some x := by rfl) (hx : Loc X.env.scope x := by first | exact .inl rfl | exact .inr rfl) (hs : swapsWith (.Dict [some e] [.Constant (.bool true) kk bp] dpos) (some (.Name x pos')) pos.line X.env = pure false := by rfl)
    (hf : X.fn x = true ∨ X.env.scope.names.lookup x = some .local := by first | exact .inl rfl | exact .inr rfl) : JS X (.Assign [.Name x pos'] (.Dict [some e] [.Constant (.bool true) kk bp] dpos) pos) (tAsg (tDisp [(te, tC (.bl true))]) (gName i)) (mSetB i A) := ⟨ps_set hN hi hx (pe_disp (pps_cons ha.pe pe_bl pps_nil) rfl rfl (by simp) (by show 1 ≤ 15; decide)) hs hf, fun W Z O env σ H0 H M D R S hm p hp => by
  have R1 := R.own (o := .dK []) hp
  refine ha.es W Z _ env σ H0 _ _ _ R1 hm fun d v H1 p1 g1 n1 => ?_
  obtain ⟨k, rfl, p1⟩ := onI_iff p1
  cases n1
  have nm : ¬ Mu W p := R1.om p (.inr rfl)
  have at2 : H1 p = some (.dK []) := g1.keep p _ nm upd_same
  refine ⟨at2, [(.inl k, .bl true)], rfl, (by decide : 1 ≤ 15), ?_⟩
  have g0 : Ge W H (upd H p (.dK [])) := .new hp
  have gg : Ge W H (upd H1 p (dbO [k])) := ⟨fun c o m e => by
    have ne : c ≠ p := ne_of_none e hp
    rw [upd_ne ne]
    exact (g0.trans g1).keep c o m e, fun z => ((g0.trans g1).wl z).upd (.inr nm)⟩
  exact S.nx _ _ _ _ ((R.takeO gg hp upd_same).setHob (.inr rfl) (fun i ds e => R.takeNo hp i ds e) upd_same i) (.take gg R.wl R.mz hp) p1⟩
theorem je_bIn (i : Nat) (hu : X.A.units + 1 < cLine) (ha : JB X e te A) (hN : X.N[i]? = some x := by rfl) (hv : Vis X.env.scope x := by first | exact Or.inl rfl | exact Or.inr (Or.inl rfl) | exact Or.inr (Or.inr rfl)) (hd : (x == ("__debug__" : Str)) = false := by decide)
    (hcd : (x == ("__classdict__" : Str)) = false := by decide) : JE X (.Compare e [.In] [.Name x xp] pos) (tDIn te (tVar i)) (mBIn A i) := ⟨pe_cmp (pc_din hu ha.pe (pe_var hN hv hd hcd)) rfl, by
  intro W Z O env σ H0 H P Q R hm k
  refine ha.es W Z O env σ H0 H _ _ R hm fun d v H1 p1 g1 n1 => ?_
  obtain ⟨j, rfl, p1⟩ := onI_iff p1
  obtain ⟨ks, q, p1⟩ := onDb_iff p1
  obtain ⟨p, e1, o, hp⟩ := R.cell i _ q
  refine ⟨.ref p, e1, p, valV (ks.map keyB) (.inl j), rfl, n1.int ▸ DGet.k (k := .inl j) (g1.keep _ _ (R.om p o) hp), ?_⟩
  rw [valV_B]
  exact k _ _ H1 p1 g1 (.bl _)⟩
theorem jt_bIn (i : Nat) (hu : X.A.units + 1 < cLine) (ha : JB X e te A) (hN : X.N[i]? = some x := by rfl) (hv : Vis X.env.scope x := by first | exact Or.inl rfl | exact Or.inr (Or.inl rfl) | exact Or.inr (Or.inr rfl)) (hd : (x == ("__debug__" : Str)) = false := by decide)
    (hcd : (x == ("__classdict__" : Str)) = false := by decide) : JT X (.Compare e [.In] [.Name x xp] pos) (tB (tDIn te (tVar i))) (mB (mBIn A i)) := ⟨pt_cmp (pc_din hu ha.pe (pe_var hN hv hd hcd)) rfl, by
  intro W Z O env σ H0 H P Q R hm k
  refine (je_bIn (X := X) (pos := pos) (xp := xp) i hu ha hN hv hd hcd).es W Z O env σ H0 H _ _ R hm fun d v H1 p1 g1 n1 => ?_
  obtain ⟨b, rfl, p1⟩ := onB_iff p1
  cases n1
  exact ⟨b, rfl, k b H1 p1 g1⟩⟩
theorem bput2_sound {K : PySem.W.Frag} {i : Nat} (h1 : BS t1 B1) (h2 : BS t2 B2) : SS (tAsg (tTup (tCons (tC (.bl true)) (tCons (tC (.bl true)) tNil))) (gTup K 2 (gCons (gSub (tVar i) t1 rSetD) (gCons (gSub (tVar i) t2 rSetD) gNil)))) (mBPut2 i B1 B2) := by
  intro W Z O env σ H0 H M D R S hm
  obtain ⟨ks, q, hm⟩ := onDb_iff hm
  refine ⟨by show 2 ≤ sizeLine; decide, fun t to ht htc htd => ⟨t, _, rfl, SqT.of (TupAt.up htc htd), rfl, _, _, rfl, ?_⟩⟩
  have g0 : Ge W H (upd H t (.frz to (.tup [.bl true, .bl true]))) := .new ht
  have R0 := R.tr g0
  obtain ⟨p, e1, o, hp⟩ := R0.cell i _ q
  refine ⟨_, e1, h1 W Z O env σ H0 _ _ _ R0 hm fun kd kv H2 p2 g2 nk => ?_⟩
  obtain ⟨a, rfl, hl, p2⟩ := onI_iff p2
  have R2 := R0.tr g2
  have hp2 := g2.keep _ _ (R0.om p o) hp
  have ne2 : H2 p ≠ none := by rw [hp2]; exact Option.some_ne_none _
  have R3 := R2.upHob (o' := dbO (addB ks a)) q e1 o
  have put : ∀ {H : Hp} {ks : List Int} {a : Int}, H p = some (dbO ks) → ks.length < 100000 → DPut H p (.int a) (.bl true) (upd H p (dbO (addB ks a))) := fun {H} {ks} {a} hp hl => by
    have h3 : DPut H p (.int a) (.bl true) _ := DPut.k (k := .inl a) (v := .bl true) hp (by rw [List.length_map]; exact Nat.lt_of_lt_of_le hl (small_line (Nat.le_refl _)))
    rw [putK_B] at h3
    exact h3
  refine ⟨p, _, rfl, nk.int ▸ put hp2 (by omega), ?_⟩
  refine ⟨_, _, rfl, _, e1, h2 W Z O _ σ H0 _ _ _ R3 p2 fun kd2 kv2 H4 p4 g4 nk2 => ?_⟩
  obtain ⟨b, rfl, p4⟩ := onI_iff p4
  have R4 := R3.tr g4
  have hp4 := g4.keep _ _ (R3.om p o) upd_same
  have li : i < env.length := (List.getElem?_eq_some_iff.mp q).1
  have al := addB_len ks a
  refine ⟨p, _, rfl, nk2.int ▸ put hp4 (by omega), rfl, ?_⟩
  have R5 := R4.upHob (o' := dbO (addB (addB ks a) b)) (List.getElem?_set_self li) e1 o
  exact ((((S.tr R g0).tr R0 g2).step (.put o ne2)).tr R3 g4).nx O _ σ _ R5 (.put o (by rw [hp4]; exact Option.some_ne_none _)) p4
theorem js_bPut2 {K : PySem.W.Frag} (hK : X.K = K) (i : Nat) (hu : X.A.units + 1 < cLine) {x : Str} {xp1 xp2 tp1 tp2 tp : Pos} {kt : Nat} {i1 i2 : Expr} {b1p b2p tup : Pos} {bk1 bk2 tk2 : Nat} (b1 : JB X i1 t1 B1) (b2 : JB X i2 t2 B2) (hN : X.N[i]? = some x := by rfl) (hv : Vis X.env.scope x := by first | exact Or.inl rfl | exact Or.inr (Or.inl rfl) | exact Or.inr (Or.inr rfl)) (hd : (x == ("__debug__" : Str)) = false := by decide)
    (hcd : (x == ("__classdict__" : Str)) = false := by decide) (hc : X.calm = true := by rfl)
    (ha1 : ∀ v, assign (.Subscript (.Name x xp1) i1 tp1) X.env v = (do
      let ov ← holding [v] (eval (.Name x xp1) X.env)
      let iv ← holding [v, ov] (eval i1 X.env)
      standAt tp1
      holding [v, ov, iv] (setItem ov iv v)
      release [v, ov, iv] []) := by intro _; rfl)
    (ha2 : ∀ v, assign (.Subscript (.Name x xp2) i2 tp2) X.env v = (do
      let ov ← holding [v] (eval (.Name x xp2) X.env)
      let iv ← holding [v, ov] (eval i2 X.env)
      standAt tp2
      holding [v, ov, iv] (setItem ov iv v)
      release [v, ov, iv] []) := by intro _; rfl)
    (q1 : (assignEach [.Subscript (.Name x xp1) i1 tp1, .Subscript (.Name x xp2) i2 tp2] X.env).map (·.2) = assign (.Subscript (.Name x xp1) i1 tp1) X.env :: (assignEach [.Subscript (.Name x xp2) i2 tp2] X.env).map (·.2) := by rfl)
    (q2 : (assignEach [.Subscript (.Name x xp2) i2 tp2] X.env).map (·.2) = assign (.Subscript (.Name x xp2) i2 tp2) X.env :: (assignEach [] X.env).map (·.2) := by rfl)
    (hn : (assignEach [.Subscript (.Name x xp1) i1 tp1, .Subscript (.Name x xp2) i2 tp2] X.env).length = 2 := by rfl) (hst : (assignEach [.Subscript (.Name x xp1) i1 tp1, .Subscript (.Name x xp2) i2 tp2] X.env).findIdx? (·.1) = none := by rfl)
    (hs : swapsWithSole [.Tuple [.Subscript (.Name x xp1) i1 tp1, .Subscript (.Name x xp2) i2 tp2] kt tp] (.Tuple [.Constant (.bool true) bk1 b1p, .Constant (.bool true) bk2 b2p] tk2 tup) pos.line X.env = pure false := by rfl) (hw : swappedStores [.Tuple [.Subscript (.Name x xp1) i1 tp1, .Subscript (.Name x xp2) i2 tp2] kt tp] (.Tuple [.Constant (.bool true) bk1 b1p, .Constant (.bool true) bk2 b2p] tk2 tup) X.env = pure none := by rfl)
    (h1 : (assignEach [.Tuple [.Subscript (.Name x xp1) i1 tp1, .Subscript (.Name x xp2) i2 tp2] kt tp] X.env).map (·.2) = [assign (.Tuple [.Subscript (.Name x xp1) i1 tp1, .Subscript (.Name x xp2) i2 tp2] kt tp) X.env] := by rfl) :
    JS X (.Assign [.Tuple [.Subscript (.Name x xp1) i1 tp1, .Subscript (.Name x xp2) i2 tp2] kt tp] (.Tuple [.Constant (.bool true) bk1 b1p, .Constant (.bool true) bk2 b2p] tk2 tup) pos) (tAsg (tTup (tCons (tC (.bl true)) (tCons (tC (.bl true)) tNil))) (gTup K 2 (gCons (gSub (tVar i) t1 rSetD) (gCons (gSub (tVar i) t2 rSetD) gNil)))) (mBPut2 i B1 B2) := by
  subst hK
  exact ⟨ps_asg (pe_tup (pa_cons pe_bl (pa_cons pe_bl pa_nil rfl) rfl)) (pg_tup hc (pgs_cons (pg_sub (pe_var hN hv hd hcd) b1.pe (set_dict hu) ha1) (pgs_cons (pg_sub (pe_var hN hv hd hcd) b2.pe (set_dict hu) ha2) pgs_nil q2) q1) hn hst) hs hw h1, bput2_sound b1.es b2.es⟩
/-- len(d) -/
def rLenD : List V → Hp → VK → Prop := fun vs H Q => ∃ (a : Addr) (kvs : List (Key × V)), vs = [V.ref a] ∧ H a = some (.dK kvs) ∧ Q (.int kvs.length) H
theorem cr_lenD : CallR X (.builtin "len") rLenD := by
  intro pins s σ H vs us Q I r h
  obtain ⟨a, kvs, rfl, hd, q⟩ := h
  obtain ⟨u, rfl, ru⟩ := vals1 r
  obtain rfl : u = Value.ref a := ru
  exact d_len I (.inl hd) fun t s' I' => ⟨.int kvs.length, H, I', ⟨t, rfl⟩, q⟩
theorem je_bLen (i : Nat) {fp : Pos} (hm : X.mg "len" = none) (hg : Gl X "len" := by rfl) (hN : X.N[i]? = some x := by rfl) (hv : Vis X.env.scope x := by first | exact Or.inl rfl | exact Or.inr (Or.inl rfl) | exact Or.inr (Or.inr rfl)) (hd : (x == ("__debug__" : Str)) = false := by decide)
    (hcd : (x == ("__classdict__" : Str)) = false := by decide) (he : starEach [.Name x xp] X.env = (false, eval (.Name x xp) X.env) :: starEach [] X.env := by rfl) :
    JE X (.Call (.Name "len" fp) [.Name x xp] [] pos) (tCB rLenD (tCons (tVar i) tNil)) (mBLen i) := ⟨pe_callB cr_lenD hg hm (by decide +kernel) (pa_cons (pe_var hN hv hd hcd) pa_nil he) (by decide) (by decide) he rfl, by
  intro W Z O env σ H0 H P Q R hm k
  obtain ⟨ks, q, hl, hm⟩ := onDb_iff hm
  obtain ⟨p, e1, o, hp⟩ := R.cell i _ q
  refine ⟨.ref p, e1, p, ks.map keyB, rfl, hp, ?_⟩
  rw [List.length_map]
  exact k _ _ H hm .refl (.int _)⟩
end
/-! ### p < q, pairs -/
def ltB (p q : Int × Int) : Bool := SrtO.lexB p q
def fLtP (x y : PyData) (P : PyData → Prop) : Prop := ∃ p q : Int × Int, x = prD p ∧ y = prD q ∧ P (.bool (ltB p q))
theorem lexLt_two (p q : Int × Int) : HT.lexLt [p.1, p.2] [q.1, q.2] = ltB p q := by
  unfold ltB SrtO.lexB
  simp only [HT.lexLt]
  by_cases h : p.1 = q.1
  · rw [if_pos h]
    simp [h]
    omega
  · rw [if_neg h]
    simp [h]
theorem s_ltP {K : PySem.W.Frag} : R2S (rLtT K) fLtP := by
  intro W Z O env σ H0 H x y d d' P Q R hx hy hf k
  obtain ⟨p, q, rfl, rfl, hp⟩ := hf
  obtain ⟨a, rfl, h1⟩ := two_is hx
  obtain ⟨b, rfl, h2⟩ := two_is hy
  refine ⟨a, b, [p.1, p.2], [q.1, q.2], rfl, rfl, SqT.of h1, SqT.of h2, ?_⟩
  rw [lexLt_two]
  exact k _ _ H hp .refl (.bl _)
section
variable {X : Cx} {a b : Expr} {ta tb : TE} {A B : ME} {pos : Pos}
theorem jt_ltT (hu : X.A.units + 64 < cLine) (ha : JB X a ta A) (hb : JB X b tb B) : JT X (.Compare a [.Lt] [b] pos) (tTest (tOp (rLtT X.K) ta tb)) (mB (m2 fLtP A B)) := jt_cmp (op_ltT (by omega)) s_ltP ha hb (nomark _)
end
end Dw

set_option maxRecDepth 100000
set_option maxHeartbeats 4000000
namespace Dw
open PySem PySem.Spec PyProof.Rows L2

/-! ### tuple * k, k from 0 on -/
theorem tuple_mul0 (l : Addr) (items : Array Value) (n : Nat) (dd : Option Addr) (sl : Array (Option Value)) (u : Tok) (c1 : (items.isEmpty || ((0 : Int) == 1)) = false) :
    Meets (Builtin.«tuple.__mul__» ⟨[.ref l, .int 0 u], []⟩) (fun _ R s => s.heap.get? l = some { cls := .type "tuple", dict := dd, data := .seq items n, slots := sl } ∧
      R (.ok (.ret (Value.ref s.heap.objs.size))) { s with heap := s.heap.push { cls := Value.type "tuple", data := Data.seq #[] }, toks := s.toks }) :=
  .of_wp fun prog w A R s h => by
    obtain ⟨hp, g, d, tk, os⟩ := s
    obtain ⟨hl, h⟩ := h
    have f1 := AutoSeq1.idx_int
    wp_walk using wpAny_loadPart' hl
    repeat (first
      | (refine wpAny_ite_false (decide_eq_false (by rw [c1]; exact Bool.false_ne_true)) ?_; wp_walk using wpAny_loadPart' hl))
    exact ⟨_, rfl, h⟩
def rRep0 (K : PySem.W.Frag) : R2 := fun x y H Q => ∃ l xs, x = .ref l ∧ y = .int 0 ∧ SqT K H l xs ∧ xs ≠ [] ∧ ∀ p, H p = none → Q (.ref p) (upd H p (.tup []))
theorem op_rep0 {X : Cx} : OpR X (binaryOp .Mult) (rRep0 X.K) := by
  intro pins s σ H x y v u Q I rx ry h
  obtain ⟨l, xs, rfl, rfl, hT, hne, q⟩ := h
  cases rx
  obtain ⟨t, rfl⟩ := ry
  obtain ⟨its, r, ⟨⟨cls, dd, data, sl⟩, ho, hc, n, hd⟩, hs⟩ := I.tuple hT
  simp only at hc hd
  subst hc hd
  have hle : its.length = xs.length := r.length.symm
  have hn : its ≠ [] := fun e => hne (by
    rw [e] at hle
    exact List.eq_nil_of_length_eq_zero hle.symm)
  have hi : its.toArray.isEmpty = false := by
    cases its with
    | nil => exact absurd rfl hn
    | cons a b => rfl
  have c1 : (its.toArray.isEmpty || ((0 : Int) == 1)) = false := by rw [hi]; rfl
  refine wpAny_binaryOp_repeat_ref (T := "tuple") (U := "int") (by decide) ⟨_, ho, rfl⟩ (fun s' => typeIs_int s' 0 t) noFill_tuple_mul F.fills_int_mul F.slot_int_rmul repeat_tuple F.slot_int_index.lookup
    (call_meets F.slot_int_rmul (typeIs_int s 0 t) F.entry_int_rmul (F.args_int_rmul_2 _ _) (int_rmul_tuple 0 t l its.toArray n dd sl)
      ⟨ho, rfl, ⟨_, ho, rfl⟩, call_meets F.slot_tuple_mul ⟨_, ho, rfl⟩ F.entry_tuple_mul (F.args_tuple_mul_2 _ _) (tuple_mul0 l its.toArray n dd sl t c1) ⟨ho, ?_⟩⟩)
  refine ⟨.ref s.heap.objs.size, _, I.laid (t' := s.toks) (o := .tup []) (fun b ob q => Heap.get?_push_of_some _ q) (Nat.le_refl _) ?_, rfl, q _ (I.hok.fresh (Nat.le_refl _))⟩
  exact ⟨Nat.zero_le _, _, .nil, IsTup.new _ _⟩
def fMulD (x y : PyData) (P : PyData → Prop) : Prop := match x, y with
  | .int i, .int j => CMul i j ∧ P (.int (i * j))
  | .list a, .int k => -(2 ^ 63) ≤ k ∧ k < 2 ^ 63 ∧ a.length * k.toNat ≤ 100000 ∧ P (.list (List.replicate k.toNat a).flatten)
  | .tuple a, .int k => OldT ∧ a ≠ [] ∧ 0 ≤ k ∧ k ≤ 1000 ∧ a.length ≤ 1000 ∧ P (.tuple (List.replicate k.toNat a).flatten)
  | _, _ => False
def rMulD (K : PySem.W.Frag) : R2 := fun x y H Q => rMulB K x y H Q ∨ rRep0 K x y H Q
theorem s_mulD [XCtx] {K : PySem.W.Frag} : R2S (rMulD K) fMulD := by
  intro W Z O env σ H0 H x y d d' P Q R hx hy hf k
  cases d <;> cases d' <;> first | exact hf.elim | skip
  · exact .inl (s_mulB W Z O env σ H0 H x y _ _ P Q R hx hy hf k)
  · exact .inl (s_mulB W Z O env σ H0 H x y _ _ P Q R hx hy hf k)
  · rename_i a kk
    obtain ⟨h0, h1, h2, h3, h4, h5⟩ := hf
    haveI := h0
    by_cases e : kk = 0
    · subst e
      obtain ⟨p, xs, rfl, hp, nz, r⟩ := hx.tuple
      refine .inr ⟨p, xs, rfl, hy.int, SqT.of hp, (fun e => ?_), fun l hl => k _ _ _ h5 (.new hl) (.tup (OldT.out upd_same) (R.new hl) .nil)⟩
      subst e
      cases r
      exact h1 rfl
    · exact .inl (s_mulB W Z O env σ H0 H x y _ _ P Q R hx hy ⟨h0, h1, by omega, h3, h4, h5⟩ k)
section
variable [XCtx] {X : Cx} {a b : Expr} {ta tb : TE} {A B : ME} {pos : Pos}
theorem je_mulD (ha : JB X a ta A) (hb : JB X b tb B) : JE X (.BinOp a .Mult b pos) (tOp (rMulD X.K) ta tb) (m2 fMulD A B) := je_op (OpR.or (OpR.or (OpR.or (OpR.or op_mul op_rep) op_repT) op_rep1) op_rep0) s_mulD ha hb
end
end Dw

set_option maxRecDepth 100000
set_option maxHeartbeats 4000000
/-! Dw30: all, any of a list of bools; sorted of a dict of one's own whose keys are pairs. -/
namespace Dw
open PySem PySem.Spec PyProof.Rows L2
variable [XCtx]
def fAll (ds : List PyData) (P : PyData → Prop) : Prop := on1 ds fun d => ∃ bs : List Bool, d = .list (bs.map PyData.bool) ∧ P (.bool (bs.all id))
def fAny (ds : List PyData) (P : PyData → Prop) : Prop := on1 ds fun d => ∃ bs : List Bool, d = .list (bs.map PyData.bool) ∧ P (.bool (bs.any id))
theorem rs_all {K : PySem.W.Frag} : RS (rAll K) fAll := by
  intro W Z O env σ H0 H vs ds P Q R hv hf k
  obtain ⟨d, rfl, bs, rfl, hp⟩ := on1_iff hf
  obtain ⟨v, rfl, hw⟩ := hv.one
  obtain ⟨p, ys, rfl, hpp, r⟩ := hw.list
  obtain rfl := r.bls
  exact ⟨p, bs, rfl, SqL.of hpp, k _ _ H hp .refl (.bl _)⟩
theorem rs_any {K : PySem.W.Frag} : RS (rAny K) fAny := by
  intro W Z O env σ H0 H vs ds P Q R hv hf k
  obtain ⟨d, rfl, bs, rfl, hp⟩ := on1_iff hf
  obtain ⟨v, rfl, hw⟩ := hv.one
  obtain ⟨p, ys, rfl, hpp, r⟩ := hw.list
  obtain rfl := r.bls
  exact ⟨p, bs, rfl, SqL.of hpp, k _ _ H hp .refl (.bl _)⟩
theorem kH_of {H : Hp} {t : Addr} {q : Int × Int} (h : H t = some (.tup [.int q.1, .int q.2])) : kH H (.ref t) = q := by
  show pairAt (H t) = q
  rw [h]
  rfl
def mSortDT (i : Nat) : ML := fun env P => onDct env i fun kvs => ∃ ps : List (Int × Int), kvs.map (·.1) = ps.map (fun p => [p.1, p.2]) ∧ ∀ qs : List (Int × Int), qs.Perm ps → qs.Pairwise lexLe → P (qs.map prD)
theorem pairs_dn [OldT] {H : Hp} {Z : Addr → Prop} : ∀ {vs : List V}, (∀ v ∈ vs, ∃ (t : Addr) (q : Int × Int), v = .ref t ∧ H t = some (.tup [.int q.1, .int q.2]) ∧ ¬ Z t) → DnAll H Z vs ((vs.map (kH H)).map prD)
  | [], _ => .nil
  | v :: vs, h => by
    obtain ⟨t, q, rfl, ht, hz⟩ := h v List.mem_cons_self
    refine .cons ?_ (pairs_dn fun u hu => h u (List.mem_cons_of_mem _ hu))
    show Dn H Z (.ref t) (prD (kH H (.ref t)))
    rw [kH_of ht]
    exact .tup (OldT.out ht) hz (.cons (.int _) (.cons (.int _) .nil))
theorem sortDT_sound [OldT] {i : Nat} : FS (tCB rSortDT (tCons (tVar i) tNil)) (mSortDT i) := by
  intro W Z O env σ H0 H P Q R hm k
  obtain ⟨kvs, q, ps, hk, hm⟩ := onDct_iff hm
  obtain ⟨a, e1, o, hp⟩ := R.cell i _ q
  refine ⟨.ref a, e1, a, _, ps, rfl, hp, ?_, fun ts ys p hl hat hs hb hq => ?_⟩
  · rw [List.map_map]
    have : kvs.map (fun q => keyT q.1) = (kvs.map (·.1)).map keyT := by rw [List.map_map]; rfl
    show kvs.map (fun q => keyT q.1) = _
    rw [this, hk, List.map_map]
    rfl
  · have hts : ∀ t ∈ ts, ∃ q : Int × Int, H t = some (.tup [.int q.1, .int q.2]) := fun t ht => by
      obtain ⟨j, hj, rfl⟩ := List.getElem_of_mem ht
      exact ⟨ps[j], hat j _ _ (List.getElem?_eq_getElem hj) (List.getElem?_eq_getElem (by omega))⟩
    have e2 : (ts.map V.ref).map (kH H) = ps := by
      rw [List.map_map]
      apply List.ext_getElem
      · rw [List.length_map]; exact hl
      · intro j g1 g2
        rw [List.length_map] at g1
        rw [List.getElem_map]
        exact kH_of (hat j _ _ (List.getElem?_eq_getElem g1) (List.getElem?_eq_getElem g2))
    have hys : ∀ v ∈ ys, ∃ (t : Addr) (q : Int × Int), v = .ref t ∧ H t = some (.tup [.int q.1, .int q.2]) ∧ ¬ ZO Z O t := fun v hv => by
      obtain ⟨t, ht, rfl⟩ := List.mem_map.mp (hb.perm.mem_iff.mp hv)
      obtain ⟨q, hq⟩ := hts t ht
      exact ⟨t, q, rfl, hq, fun z => ((R.zh t z).2 _).1 hq⟩
    refine k _ p _ _ (hm (ys.map (kH H)) ?_ ?_) (.new hq) hq upd_same ((pairs_dn hys).own hq)
    · rw [← e2]
      exact hb.perm.map _
    · exact List.pairwise_map.mpr hs
section
variable {X : Cx} {e : Expr} {t : TA} {M : ML} {pos p xp : Pos} {x : Str}
theorem je_all (hm : X.mg "all" = none) (ha : JAb X [e] t M) (hc : X.calm = true := by rfl) (hg : Gl X "all" := by rfl) (he : starEach [e] X.env = (false, eval e X.env) :: starEach [] X.env := by rfl) : JE X (.Call (.Name "all" p) [e] [] pos) (tCB (rAll X.K) t) (mBl fAll M) := je_B (cr_all hc) rs_all hm (by decide +kernel) ha hg (by decide) (by decide) he rfl
theorem je_any (hm : X.mg "any" = none) (ha : JAb X [e] t M) (hc : X.calm = true := by rfl) (hg : Gl X "any" := by rfl) (he : starEach [e] X.env = (false, eval e X.env) :: starEach [] X.env := by rfl) : JE X (.Call (.Name "any" p) [e] [] pos) (tCB (rAny X.K) t) (mBl fAny M) := je_B (cr_any hc) rs_any hm (by decide +kernel) ha hg (by decide) (by decide) he rfl
/-- sorted(d), d a dict of one's own whose keys are pairs of whole numbers -/
theorem jf_sortDT [OldT] (i : Nat) (hm : X.mg "sorted" = none) (hc : X.calm = true := by rfl) (hN : X.N[i]? = some x := by rfl) (hv : Vis X.env.scope x := by first | exact Or.inl rfl | exact Or.inr (Or.inl rfl) | exact Or.inr (Or.inr rfl)) (hd : (x == ("__debug__" : Str)) = false := by decide)
    (hcd : (x == ("__classdict__" : Str)) = false := by decide) (hg : Gl X "sorted" := by rfl) (he : starEach [.Name x xp] X.env = (false, eval (.Name x xp) X.env) :: starEach [] X.env := by rfl) : JF X (.Call (.Name "sorted" p) [.Name x xp] [] pos) (tCB rSortDT (tCons (tVar i) tNil)) (mSortDT i) :=
  ⟨pe_callB (cr_sortDT hc) hg hm (by decide +kernel) (pa_cons (pe_var hN hv hd hcd) pa_nil he) (by decide) (by decide) he rfl, sortDT_sound⟩
end
end Dw

set_option maxRecDepth 100000
set_option maxHeartbeats 4000000
/-! Dw31: sorted of a list of tuples of whole numbers, of any lengths; a, d = e, {} where d is a dict with tuple keys. -/
namespace Dw
open PySem PySem.Spec PyProof.Rows L2
theorem eachIs_of {Z : Addr → Prop} {H : Hp} : ∀ {xs : List V} {us : List Value} {rs : List (List Int)}, Vals xs us → DnAll H Z xs (rs.map tI) → PySem.W.EachIs (fun (v : Value) (b : V × List Int) => RelV b.1 v ∧ Dn H Z b.1 (tI b.2)) us (xs.zip rs)
  | _, _, [], .nil, .nil => .nil
  | _, _, r :: rs, .cons q t, .cons n m => .cons ⟨q, n⟩ (eachIs_of t m)
theorem eachIs_vals {Z : Addr → Prop} {H : Hp} : ∀ {us : List Value} {bs : List (V × List Int)}, PySem.W.EachIs (fun (v : Value) (b : V × List Int) => RelV b.1 v ∧ Dn H Z b.1 (tI b.2)) us bs → Vals (bs.map (·.1)) us ∧ DnAll H Z (bs.map (·.1)) ((bs.map (·.2)).map tI)
  | _, _, .nil => ⟨.nil, .nil⟩
  | _, _, .cons q t => ⟨.cons q.1 (eachIs_vals t).1, .cons q.2 (eachIs_vals t).2⟩
theorem tI_noDict (ns : List Int) : (tI ns).hasDict = false := by
  have : ∀ ns : List Int, PyData.hasDictAll (ns.map PyData.int) = false := fun ns => by
    induction ns with
    | nil => simp [PyData.hasDictAll]
    | cons n ns ih => simp only [List.map_cons, PyData.hasDictAll, PyData.hasDict, ih, Bool.or_self]
  show PyData.hasDict (.tuple (ns.map PyData.int)) = false
  simp only [PyData.hasDict, this]
theorem tI_depth (ns : List Int) : (tI ns).depth ≤ 1 := by
  show PyData.depth (.tuple (ns.map PyData.int)) ≤ 1
  simp only [PyData.depth, PySem.W.depth_ints]
  omega
theorem dataLe_tI {β : Type} (x : β → List Int) : PySem.W.dataLe false (fun b => tI (x b)) = fun p q => decide (x p ≤ x q) := by
  rw [← PySem.W.dataLe_rows]
  unfold PySem.W.dataLe
  congr 1
/-- sorted(xs), xs a list of tuples of whole numbers -/
def rSortR (K : PySem.W.Frag) : List V → Hp → VK → Prop := fun vs H Q => ∃ (a : Addr) (xs : List V) (rs : List (List Int)) (Z : Addr → Prop), vs = [V.ref a] ∧ SqL K H a xs ∧ DnAll H Z xs (rs.map tI) ∧ (∀ r ∈ rs, r ≠ []) ∧
  ∀ (ys : List V) (qs : List (List Int)) (p : Addr), DnAll H Z ys (qs.map tI) → qs.Perm rs → qs.Pairwise (fun a b => a ≤ b) → H p = none → Q (.ref p) (upd H p (.lst ys))
theorem cr_sortR {X : Cx} (hu : X.A.units + 64 < cLine) : CallR X (.builtin "sorted") (rSortR X.K) := by
  intro pins s σ H vs us Q I r h
  obtain ⟨a, xs, rs, Z, rfl, hs, hn, h0, q⟩ := h
  obtain ⟨its, rv, hl, hz⟩ := I.list hs
  obtain ⟨u, rfl, ru⟩ := vals1 r
  obtain rfl : u = Value.ref a := ru
  have lr : xs.length = rs.length := by have := hn.length; rw [List.length_map] at this; exact this
  have e := eachIs_of rv hn
  have hb2 : ∀ b ∈ xs.zip rs, b.2 ∈ rs := fun b hb => (List.of_mem_zip hb).2
  have lb : (xs.zip rs).length = xs.length := by rw [List.length_zip, lr, Nat.min_self]
  refine PySem.W.sorted_data (R := fun (v : Value) (b : V × List Int) => RelV b.1 v ∧ Dn H Z b.1 (tI b.2)) (enc := fun b => tI b.2) hl.isList e ?_ ?_ ?_ (by rw [lb]; exact hz) (fun b _ => ?_) fun out ol oe => ?_
  · exact e.mono fun v b ⟨q1, q2⟩ => Dp.reads I _ _ _ (Dn.dp _ _ q2 (tI_noDict _)) q1
  · exact PySem.W.AllAlike.of fun b b' => by
      show PySem.W.alike (.tuple _) (.tuple _) = true
      simp only [PySem.W.alike]
      exact PySem.W.alike_ints _ _
  · refine .inl fun d hd => ?_
    obtain ⟨b, hb, rfl⟩ := List.mem_map.mp hd
    cases z : b.2 with
    | nil => exact absurd z (h0 _ (hb2 b hb))
    | cons x r => exact ⟨.int x, r.map PyData.int, rfl⟩
  · have := tI_depth b.2
    show X.A.units + 2 + (tI b.2).depth < cLine
    omega
  · obtain ⟨v1, n1⟩ := eachIs_vals oe
    obtain ⟨k, hk⟩ := PyProof.Rows.sortedAll_at s.heap its (List.toArray out)
    have pm := List.mergeSort_perm (xs.zip rs) (PySem.W.dataLe false fun b : V × List Int => tI b.2)
    have I1 := I.laid (t' := s.toks) (h' := PyProof.Rows.sortedAll s.heap its (List.toArray out)) (a := s.heap.objs.size + 1) (o := .lst (((xs.zip rs).mergeSort (PySem.W.dataLe false fun b => tI b.2)).map (·.1))) (fun b o e => PyProof.Rows.sortedAll_old e) (Nat.le_succ _) ⟨by rw [List.length_map, pm.length_eq, lb]; exact hz, out, k, v1, hk⟩
    refine ⟨.ref (s.heap.objs.size + 1), _, I1, rfl, q _ _ _ n1 ?_ ?_ (I.hok.fresh (Nat.le_succ _))⟩
    · refine (pm.map (·.2)).trans ?_
      rw [List.map_snd_zip (by omega)]
    · rw [List.pairwise_map]
      have := PySem.W.sort_pairwise (PySem.W.sortLe_total (PyProof.Rows.listOrd PyProof.Rows.itemOrd) false fun b : V × List Int => PySem.W.keyToks (tI b.2)) (xs.zip rs)
      refine this.imp fun {a b} z => ?_
      have z : PySem.W.dataLe false (fun b : V × List Int => tI b.2) a b = true := z
      rw [dataLe_tI (fun b : V × List Int => b.2)] at z
      exact of_decide_eq_true z
variable [XCtx]
def fSortR (ds : List PyData) (P : List PyData → Prop) : Prop := on1 ds fun d => onL d fun xs => ∃ rs : List (List Int), xs = rs.map tI ∧ (∀ r ∈ rs, r ≠ []) ∧ ∀ qs : List (List Int), qs.Perm rs → qs.Pairwise (fun a b => a ≤ b) → P (qs.map tI)
theorem rf_sortR {K : PySem.W.Frag} : RF (rSortR K) fSortR := by
  intro W Z O env σ H0 H vs ds P Q R hv hf k
  obtain ⟨d, rfl, hf⟩ := on1_iff hf
  obtain ⟨v, rfl, hw⟩ := hv.one
  obtain ⟨xs, rfl, rs, rfl, h0, hp⟩ := onL_iff hf
  obtain ⟨p, ys, rfl, hpp, r⟩ := hw.list
  exact ⟨p, ys, rs, _, rfl, SqL.of hpp, r, h0, fun zs qs q n h1 h2 hq => k _ q _ _ (hp qs h1 h2) (.new hq) hq upd_same (n.own hq)⟩
section
variable {X : Cx} {e a : Expr} {t : TA} {M : ML} {ta : TE} {A : ME} {pos p px py pt pt2 xp : Pos} {x y : Str} {kt k2 : Nat}
theorem jf_sortR (hu : X.A.units + 64 < cLine) (hm : X.mg "sorted" = none) (ha : JAb X [e] t M) (hg : Gl X "sorted" := by rfl) (he : starEach [e] X.env = (false, eval e X.env) :: starEach [] X.env := by rfl) : JF X (.Call (.Name "sorted" p) [e] [] pos) (tCB (rSortR X.K) t) (mBlF fSortR M) := jf_B (cr_sortR hu) rf_sortR hm (by decide +kernel) ha hg (by decide) (by decide) he rfl
def mParT (i j : Nat) (A : ME) : MS := fun M env => A env fun d => M.nx ((env.set i (.val d)).set j (.hob (dctO [])))
theorem js_parT (i j : Nat) (hN : X.N.Nodup) (ha : JE X a ta A) (hx : X.env.scope.names.lookup x = some .local) (hy : X.env.scope.names.lookup y = some .local) (hi : X.N[i]? = some x := by rfl) (hj : X.N[j]? = some y := by rfl) (hij : i ≠ j := by decide)
    (hs1 : starEach [a, .Dict [] [] xp] X.env = (false, eval a X.env) :: starEach [.Dict [] [] xp] X.env := by rfl) (hs2 : starEach [.Dict [] [] xp] X.env = (false, eval (.Dict [] [] xp) X.env) :: starEach [] X.env := by rfl)
    (hw : swappedStores [.Tuple [.Name x px, .Name y py] kt pt] (.Tuple [a, .Dict [] [] xp] k2 pt2) X.env = pure (some [x, y]) := by rfl) (hs : swapsWithSole [.Tuple [.Name x px, .Name y py] kt pt] (.Tuple [a, .Dict [] [] xp] k2 pt2) pos.line X.env = pure false := by rfl) (hc : X.calm = true := by rfl) :
    JS X (.Assign [.Tuple [.Name x px, .Name y py] kt pt] (.Tuple [a, .Dict [] [] xp] k2 pt2) pos) (tPar i j (tCons ta (tCons tDNewT tNil))) (mParT i j A) := ⟨ps_par hc hN hi hj hij hx hy (pa_cons ha.pe (pa_cons pe_dnewT pa_nil hs2) hs1) hw hs, fun W Z O env σ H0 H M D R S hm => by
  refine ha.es W Z O env σ H0 H _ _ R hm fun d v H1 p1 g1 n1 => ?_
  have R1 := R.tr g1
  intro p hp
  have g2 : Ge W H1 (upd H1 p (dctO [])) := .new hp
  refine ⟨v, .ref p, rfl, ?_⟩
  have n1' : Dn (upd H1 p (dctO [])) (ZO Z fun a => O a ∨ a = p) v d := n1.own hp
  have R2 := (R1.takeO g2 hp upd_same).set n1' i
  refine (S.tr R g1).nx _ _ _ _ (R2.setHob (.inr rfl) (fun k ds e => ?_) upd_same j) (.take g2 R1.wl R.mz hp) p1
  rcases getElem?_set_cases e with ⟨_, q⟩ | ⟨n2, e⟩
  · cases ds <;> cases q
  · rw [List.getElem?_set_ne n2]
    exact R1.takeNo hp k ds e⟩
/-- .. names that hold cells -/
theorem js_parTT {K : PySem.W.Frag} (hK : X.K = K) (i j : Nat) (hN : X.N.Nodup) (ha : JE X a ta A)
    (hi : X.N[i]? = some x := by rfl) (hj : X.N[j]? = some y := by rfl)
    (hx : Loc X.env.scope x := by first | exact .inl rfl | exact .inr rfl) (hy : Loc X.env.scope y := by first | exact .inl rfl | exact .inr rfl)
    (fx : X.fn x = true ∨ X.env.scope.names.lookup x = some .local := by first | exact .inl rfl | exact .inr rfl) (fy : X.fn y = true ∨ X.env.scope.names.lookup y = some .local := by first | exact .inl rfl | exact .inr rfl)
    (hs1 : starEach [a, .Dict [] [] xp] X.env = (false, eval a X.env) :: starEach [.Dict [] [] xp] X.env := by rfl) (hs2 : starEach [.Dict [] [] xp] X.env = (false, eval (.Dict [] [] xp) X.env) :: starEach [] X.env := by rfl)
    (hn : (assignEach [.Name x px, .Name y py] X.env).length = 2 := by rfl) (hst : (assignEach [.Name x px, .Name y py] X.env).findIdx? (·.1) = none := by rfl)
    (g1 : (assignEach [.Name x px, .Name y py] X.env).map (·.2) = assign (.Name x px) X.env :: (assignEach [.Name y py] X.env).map (·.2) := by rfl) (g2 : (assignEach [.Name y py] X.env).map (·.2) = assign (.Name y py) X.env :: (assignEach [] X.env).map (·.2) := by rfl)
    (hs : swapsWithSole [.Tuple [.Name x px, .Name y py] kt pt] (.Tuple [a, .Dict [] [] xp] k2 pt2) pos.line X.env = pure false := by rfl) (hw : swappedStores [.Tuple [.Name x px, .Name y py] kt pt] (.Tuple [a, .Dict [] [] xp] k2 pt2) X.env = pure none := by rfl)
    (h1 : (assignEach [.Tuple [.Name x px, .Name y py] kt pt] X.env).map (·.2) = [assign (.Tuple [.Name x px, .Name y py] kt pt) X.env] := by rfl) (hc : X.calm = true := by rfl) :
    JS X (.Assign [.Tuple [.Name x px, .Name y py] kt pt] (.Tuple [a, .Dict [] [] xp] k2 pt2) pos) (tAsg (tTup (tCons ta (tCons tDNewT tNil))) (gTup K 2 (gCons (gName i) (gCons (gName j) gNil)))) (mParT i j A) := by
  subst hK
  refine ⟨ps_asg (pe_tup (pa_cons ha.pe (pa_cons pe_dnewT pa_nil hs2) hs1)) (pg_tup hc (pgs_cons (pg_name hN hi hx fx) (pgs_cons (pg_name hN hj hy fy) pgs_nil g2) g1) hn hst) hs hw h1, fun W Z O env σ H0 H M D R S hm => ?_⟩
  refine ha.es W Z O env σ H0 H _ _ R hm fun d1 v1 H1 p1 g1 n1 => ?_
  have R1 := R.tr g1
  intro p hp
  have g2 : Ge W H1 (upd H1 p (dctO [])) := .new hp
  have R2 := R1.takeO g2 hp upd_same
  refine ⟨by show 2 ≤ sizeLine; decide, fun t to ht htc htd => ⟨t, _, rfl, SqT.of (TupAt.up htc htd), rfl, _, _, rfl, _, _, rfl, rfl, ?_⟩⟩
  have g3 : Ge W (upd H1 p (dctO [])) (upd (upd H1 p (dctO [])) t (.frz to (.tup [v1, .ref p]))) := .new ht
  have R3 := R2.tr g3
  have h3 := g3.keep _ _ (R2.om p (.inr rfl)) upd_same
  have n1' : Dn (upd (upd H1 p (dctO [])) t (.frz to (.tup [v1, .ref p]))) (ZO Z fun a => O a ∨ a = p) v1 d1 := Dn.ge (n1.own hp) g3 R.mz
  have R4 := R3.set n1' i
  refine (S.tr R g1).nx _ _ _ _ (R4.setHob (.inr rfl) (fun k ds e => ?_) h3 j) (.take (g2.trans g3) R1.wl R.mz hp) p1
  rcases getElem?_set_cases e with ⟨_, q⟩ | ⟨n2, e⟩
  · cases ds <;> cases q
  · rw [List.getElem?_set_ne n2]
    exact R1.takeNo hp k ds e
end
end Dw

set_option maxRecDepth 100000
set_option maxHeartbeats 4000000
/-! Dw32: tuples whose objects are known (they come of tuple(..) of a list in a def's only row): f(..).index(e); sorted of any alike data. -/
namespace Dw
open PySem PySem.Spec PyProof.Rows L2
section
variable {X : Cx}
def rTupK (K : PySem.W.Frag) : List V → Hp → VK → Prop := fun xs H Q => ∃ p ys, xs = [.ref p] ∧ SqL K H p ys ∧ ∀ (l : Addr) (o : Obj), H l = none → o.cls = .type "tuple" → o.dict = none → Q (.ref l) (upd H l (.frz o (.tup ys)))
theorem call_tuple_K : CallR X (.type "tuple") (rTupK X.K) := by
  intro pins s σ H xs us Q I r h
  obtain ⟨p, ys, rfl, hq, q⟩ := h
  obtain ⟨u, rfl, rx⟩ := vals1 r
  cases rx
  obtain ⟨its, r', pl, hz⟩ := I.list hq
  have hlen := r'.length
  refine call_tuple_list pl.isList (fun h' kp => ?_) (by simp only [List.size_toArray] <;> omega)
  have I1 : Inv X pins σ H { s with heap := h' } := I.kept (t' := s.toks) kp
  have I2 : Inv X pins σ (upd H h'.objs.size (.frz { cls := .type "tuple", data := .seq its.toArray } (.tup ys))) { s with heap := h'.push { cls := .type "tuple", data := .seq its.toArray } } :=
    I1.laid (t' := s.toks) (fun b o e => Heap.get?_push_of_some _ e) (Nat.le_refl _) (show ObjOk X.prog X.w _ _ _ (.frz _ (.tup ys)) from ⟨Heap.get?_push_size _ rfl, hz, its, r', IsTup.new _ _⟩)
  exact ⟨.ref h'.objs.size, _, I2, rfl, q _ _ (I1.hok.fresh (Nat.le_refl _)) rfl rfl⟩
theorem mt_tidx : MtR X "tuple.index" (fun x xs H Q => ∃ (p : Addr) (ns : List Int) (k : Int), x = .ref p ∧ xs = [.int k] ∧ SqT X.K H p (ns.map V.int) ∧ k ∈ ns ∧ Q (.int (ns.idxOf k : Nat)) H) := by
  intro pins s σ H x xs v us Q I rx rs h
  obtain ⟨p, ns, k, rfl, rfl, hq, hk, q⟩ := h
  cases rx
  obtain ⟨u, rfl, t, rfl⟩ := vals1 rs
  obtain ⟨its, r, pl, hz⟩ := I.tuple hq
  exact PySem.SeqAt.tuple_index_ints pl r.ints hk ⟨.int (ns.idxOf k : Nat), H, I.tok _, ⟨_, rfl⟩, q⟩
/-- o.index(e), o a tuple whose object is known -/
def tTIdx (K : PySem.W.Frag) (to : TE) (t : TA) : TE := fun σ H Q => to σ H fun x H1 => ∃ (a : Addr) (ob : Obj) (ys : List V), x = .ref a ∧ H1 a = some (.frz ob (.tup ys)) ∧ ob.cls = .type "tuple" ∧ ob.dict = none ∧ t σ H1 fun xs H2 => ∃ (p : Addr) (ns : List Int) (k : Int), x = .ref p ∧ xs = [.int k] ∧ SqT K H2 p (ns.map V.int) ∧ k ∈ ns ∧ Q (.int (ns.idxOf k : Nat)) H2
theorem pe_tidx {o e : Expr} {to : TE} {t : TA} {apos cpos : Pos} (ho : PE X o to) (ha : PA X [e] t)
    (hbase : attributeBase o "index" X.env (eval o X.env) = eval o X.env := by rfl)
    (hfew : ((backTo cpos (starEach [e] X.env)).all (fun x => !x.1) && (backToKw cpos (keywordEach [] X.env)).all (fun x => x.1.isSome)
      && decide (([e] : List Expr).length + ([] : List Keyword).length + (if ([] : List Keyword).isEmpty then 0 else 1) < 30)) = true := by rfl)
    (hline : (apos.endLine == cpos.line) = true := by rfl) (hs : starEach [e] X.env = (false, eval e X.env) :: starEach [] X.env := by rfl) (hplain : (backTo cpos (starEach [] X.env)).any (·.1) = false := by rfl) :
    PE X (.Call (.Attribute o "index" apos) [e] [] cpos) (tTIdx X.K to t) := by
  refine ⟨fun pins s σ H Q I h => ?_⟩
  refine wpAny_Call_method_late hbase hfew hline rfl (thn (ho.run pins s σ H _ I h) fun v s1 ⟨x, H1, I1, r1, q1⟩ => ?_)
  obtain ⟨a, ob, ys, rfl, hx, hc, hd, q1⟩ := q1
  cases r1
  obtain ⟨ha1, _⟩ := I1.hok a _ hx
  refine ⟨"tuple", "tuple.index", PySem.F.plainAttrs_tuple, PySem.F.slot_tuple_index, PySem.F.type_tuple_index, ⟨ob, ha1, hc⟩, fun b e => ?_, ?_⟩
  · cases e
    exact ⟨ob, ha1, hd⟩
  · have hA := ha.run cpos pins s1 σ H1 _ I1 q1
    rw [hs] at hA ⊢
    refine Calls.callWith_builtin (by show (false || (backTo cpos (starEach [] X.env)).any (·.1)) = false; rw [hplain] <;> rfl) (Calls.evalArgs_plain ?_)
    exact thn hA fun us s2 ⟨vs, H2, I2, r2, q2⟩ => mt_tidx pins s2 σ H2 (.ref a) vs _ us Q I2 rfl r2 q2
end
/-- a tuple whose object is known: it has no dict of its own -/
def Kt (H : Hp) (Z : Addr → Prop) (v : V) (ds : List PyData) : Prop := ∃ (a : Addr) (o : Obj) (xs : List V), v = .ref a ∧ H a = some (.frz o (.tup xs)) ∧ o.cls = .type "tuple" ∧ o.dict = none ∧ DnAll H Z xs ds
/-- .. and stands where nothing must be touched -/
def SpKt (n : Nat) (pre : Pre) : Sp := fun vs H Q _ => vs.length = n ∧ ∃ (W : Wl) (Z : Addr → Prop) (cs : List Cell) (P : PyData → Prop), WOk W H ∧ (∀ a, Mu W a → Z a) ∧ (∀ a, Z a → NT (H a)) ∧ ArgAll W H Z vs cs ∧ pre cs P ∧
  ∀ ds v H', P (.tuple ds) → Ge W H H' → Kt H' Z v ds → Q v H'
structure CalK (P : Program) (w : World) (K : PySem.W.Frag) (mg : Str → Option Value) (bs : Heap) (k : Nat) (x : Str) (st : Stmt) (ps : List Str) (n : Nat) (pre : Pre) : Prop where
  ex : ∃ f fd, FnG P w K mg bs CX0 k f fd ps (SpKt n pre) ∧ Fun K x x st f fd ∧ mg x = some (.ref f) ∧ Binds K fd ps []
section
variable [XCtx]
def KS (t : TE) (F : ML) : Prop := ∀ (W : Wl) (Z O : Addr → Prop) (env : Cells) (σ : L2.St) (H0 H : Hp) (P : List PyData → Prop) (Q : VK), Rel W Z O env σ H0 H → F env P → (∀ ds v H', P ds → Ge W H H' → Kt H' (ZO Z O) v ds → Q v H') → t σ H Q
/-- a def of one row: return tuple([..]) -/
structure JKs (X : Cx) (b : List Stmt) (F : ML) : Prop where
  ex : ∃ t, PSs X b (tRet t) ∧ KS t F
theorem jk_tuple {X : Cx} {e : Expr} {te : TE} {F : ML} {p pos rpos : Pos} (hm : X.mg "tuple" = none) (ha : JF X e te F) (hg : Gl X "tuple" := by rfl) (he : starEach [e] X.env = (false, eval e X.env) :: starEach [] X.env := by rfl) : JKs X [.Return (some (.Call (.Name "tuple" p) [e] [] pos)) rpos] F := by
  refine ⟨_, pss_one (ps_ret (pe_callTy call_tuple_K hg hm (by decide +kernel) (pa_cons ha.pe pa_nil he) (by decide) (by decide) he rfl)), ?_⟩
  intro W Z O env σ H0 H P Q R hm k
  refine ha.es W Z O env σ H0 H _ _ R hm fun ds p xs H1 p1 g1 hp h1 n1 => ?_
  refine ⟨p, xs, rfl, SqL.of h1, fun l o hl hc hd => ?_⟩
  have g2 : Ge W H1 (upd H1 l (.frz o (.tup xs))) := .new hl
  refine k ds _ _ p1 (g1.trans g2) ⟨l, o, xs, rfl, upd_same, hc, hd, ?_⟩
  exact n1.unown.new hl
end
section
variable {P : Program} {w : World} {K : PySem.W.Frag} {mg : Str → Option Value} {bs : Heap} {k n : Nat} {x : Str} {st : Stmt} {ps N : List Str} {F : ML}
theorem calK_body (a : At K mg x st ps) (S : FnScope N ps (defScope st)) (hn : ps.length = n)
    (hb : ∀ (f : Addr) (cdv : Value) (A : Around) (out : List PySem.Env) (s : Shared) (H : Hp) (E : XK), Room k (A.deeper (envOfC x (defScope st) s.heap.objs.size f cdv)) → A.guards = some [] → JKs (cxOf CX0 P w K mg bs N x (defScope st) f cdv A out s H E).nox (defBody st) F) :
    CalK P w K mg bs (k + 1) x st ps n (preOf N.length (mRet (mBl fTuple (mCons (mList F) mNil)))) := by
  obtain ⟨f, fd, Fu, q, b⟩ := a.ex
  refine ⟨f, fd, ?_, Fu, q, b⟩
  obtain ⟨oc, od, kV, doc, pm, an, cdv, ct, osl, rfl, lk, hcd⟩ := Fu.ex
  refine fng_of lk hcd S (fun vs H Q E h => by rw [hn]; exact h.1) fun A out s H vs Q E hr hg hsp => ?_
  obtain ⟨t, pe, es⟩ := (hb f cdv A out s H E hr hg).ex
  obtain ⟨hl, W, Z, cs, P', wo, mz, za, a, hp, hk⟩ := hsp
  refine ⟨_, pe.nox, ?_⟩
  refine es W Z _ _ _ H H _ _ (a.rel N wo mz za xr0) hp fun ds v H' h g nn => ?_
  obtain ⟨b, o, xs, e, hb, hc, hd, n1⟩ := nn
  exact hk ds v H' h g ⟨b, o, xs, e, hb, hc, hd, DnAll.tr (fun a u z q => ⟨q, fun y => z (.inl y)⟩) _ _ n1⟩
end
section
variable [XCtx] {X : Cx} {k n : Nat} {x : Str} {st : Stmt} {ps : List Str} {pre : Pre} {e e2 : Expr} {es : List Expr} {tr : TA} {M : MC} {te : TE} {A : ME} {p pos apos cpos : Pos}
/-- f(..).index(e) of whole numbers -/
def mTIdx (pre : Pre) (M : MC) (A : ME) : ME := fun env P => M env fun cs => pre cs fun d => onU d fun ds => A env fun z => onI z fun k => ∃ ns : List Int, ds = ns.map PyData.int ∧ k ∈ ns ∧ P (.int (ns.idxOf k : Nat))
theorem j_tidx (c : CalK X.prog X.w X.K X.mg X.base k x st ps n pre) (hr : Room k X.A) (hG : X.A.guards = some []) (ha : JC X n (e :: es) tr M) (hb : JE X e2 te A) (hg : Gl X x := by rfl) (hdb : (x == ("__debug__" : Str)) = false := by decide) (he : starEach (e :: es) X.env = (false, eval e X.env) :: starEach es X.env := by rfl)
    (hpl : (backTo pos (starEach es X.env)).any (·.1) = false := by rfl)
    (hbase : attributeBase (.Call (.Name x p) (e :: es) [] pos) "index" X.env (eval (.Call (.Name x p) (e :: es) [] pos) X.env) = eval (.Call (.Name x p) (e :: es) [] pos) X.env := by rfl)
    (hfew : ((backTo cpos (starEach [e2] X.env)).all (fun x => !x.1) && (backToKw cpos (keywordEach [] X.env)).all (fun x => x.1.isSome)
      && decide (([e2] : List Expr).length + ([] : List Keyword).length + (if ([] : List Keyword).isEmpty then 0 else 1) < 30)) = true := by rfl)
    (hline : (apos.endLine == cpos.line) = true := by rfl) (hs : starEach [e2] X.env = (false, eval e2 X.env) :: starEach [] X.env := by rfl) (hplain : (backTo cpos (starEach [] X.env)).any (·.1) = false := by rfl) :
    JE X (.Call (.Attribute (.Call (.Name x p) (e :: es) [] pos) "index" apos) [e2] [] cpos) (tTIdx X.K (tCall (SpKt n pre) [] E0 tr) (tCons te tNil)) (mTIdx pre M A) := by
  obtain ⟨f, fd, Fu, fn, q, b⟩ := c.ex
  refine ⟨pe_tidx (pe_callG Fu hr hG hg q fn.kp b pass0 ha.pe hdb he hpl) (pa_cons hb.pe pa_nil hs) hbase hfew hline hs hplain, ?_⟩
  intro W Z O env σ H0 H P Q R hm k
  refine ha.es W Z O env σ H0 H _ _ R hm fun cs vs H1 p1 l1 g1 a1 => ?_
  have R1 := R.tr g1
  show SpKt n pre (vs ++ []) H1 _ E0
  rw [List.append_nil]
  refine ⟨by rw [a1.length, l1], W, ZO Z O, cs, _, R1.wl, fun a m => .inl (R.mz a m), R1.zh, a1, p1, fun ds v H2 p2 g2 n2 => ?_⟩
  obtain ⟨a, ob, ys, rfl, hx, hc, hd, nn⟩ := n2
  refine ⟨a, ob, ys, rfl, hx, hc, hd, ?_⟩
  have R2 := R1.tr g2
  refine hb.es W Z O env σ H0 H2 _ _ R2 p2 fun z u H3 p3 g3 n3 => ?_
  obtain ⟨i, rfl, ns, rfl, hk, p3⟩ := onI_iff p3
  cases n3
  have hm : ¬ Mu W a := fun m => by
    have := (R2.wl.nt m)
    rcases W with _ | ⟨w, c⟩
    · exact m
    · obtain ⟨_, _, _, _, h1, h2, _⟩ := R2.wl
      rcases m with rfl | rfl
      · rw [h1] at hx; cases hx
      · rw [h2] at hx; cases hx
  refine ⟨a, ns, i, rfl, rfl, .inl (.inr ⟨ob, ?_⟩), hk, k _ _ H3 p3 ((g1.trans g2).trans g3) (.int _)⟩
  rw [g3.keep _ _ hm hx, nn.ints]
end
end Dw

set_option maxRecDepth 100000
set_option maxHeartbeats 4000000
/-! Dw33: xs.index(e), a list of whole numbers. -/
namespace Dw
open PySem PySem.Spec PyProof.Rows L2
section
variable {X : Cx}
def rLIdx (K : PySem.W.Frag) : V → List V → Hp → VK → Prop := fun x xs H Q => ∃ (p : Addr) (ns : List Int) (k : Int), x = .ref p ∧ xs = [.int k] ∧ SqL K H p (ns.map V.int) ∧ k ∈ ns ∧ Q (.int (ns.idxOf k : Nat)) H
theorem mt_lidx : MtR X "list.index" (rLIdx X.K) := by
  intro pins s σ H x xs v us Q I rx rs h
  obtain ⟨p, ns, k, rfl, rfl, hq, hk, q⟩ := h
  cases rx
  obtain ⟨u, rfl, t, rfl⟩ := vals1 rs
  obtain ⟨its, r, pl, hz⟩ := I.list hq
  exact PySem.SeqAt.list_index_ints pl.isList r.ints (by rw [List.length_map] at hz; exact hz) hk ⟨.int (ns.idxOf k : Nat), H, I.tok _, ⟨_, rfl⟩, q⟩
end
section
variable [XCtx] {X : Cx} {o e : Expr} {to te : TE} {B A : ME} {apos cpos : Pos}
/-- xs.index(e) -/
def mLIdx (B A : ME) : ME := fun env P => B env fun d => onL d fun ds => A env fun z => onI z fun k => ∃ ns : List Int, ds = ns.map PyData.int ∧ k ∈ ns ∧ P (.int (ns.idxOf k : Nat))
theorem je_lidx (ho : JB X o to B) (ha : JE X e te A)
    (hbase : attributeBase o "index" X.env (eval o X.env) = eval o X.env := by rfl)
    (hfew : ((backTo cpos (starEach [e] X.env)).all (fun x => !x.1) && (backToKw cpos (keywordEach [] X.env)).all (fun x => x.1.isSome)
      && decide (([e] : List Expr).length + ([] : List Keyword).length + (if ([] : List Keyword).isEmpty then 0 else 1) < 30)) = true := by rfl)
    (hline : (apos.endLine == cpos.line) = true := by rfl) (hs : starEach [e] X.env = (false, eval e X.env) :: starEach [] X.env := by rfl) (hplain : (backTo cpos (starEach [] X.env)).any (·.1) = false := by rfl) :
    JE X (.Call (.Attribute o "index" apos) [e] [] cpos) (tBM X.K "list" (rLIdx X.K) to (tCons te tNil)) (mLIdx B A) := by
  refine ⟨pe_bm PySem.F.plainAttrs_list PySem.F.slot_list_index PySem.F.type_list_index mt_lidx ho.pe (pa_cons ha.pe pa_nil hs) hbase hfew hline hs hplain, ?_⟩
  intro W Z O env σ H0 H P Q R hm k
  refine ho.es W Z O env σ H0 H _ _ R hm fun d v H1 p1 g1 n1 => ?_
  obtain ⟨ds, rfl, p1⟩ := onL_iff p1
  have R1 := R.tr g1
  obtain ⟨p, xs, rfl, hp, n⟩ := n1.list
  refine ⟨.inl ⟨rfl, xs, SqL.of hp⟩, ?_⟩
  refine ha.es W Z O env σ H0 H1 _ _ R1 p1 fun z u H2 p2 g2 n2 => ?_
  obtain ⟨i, rfl, ns, rfl, hk, p2⟩ := onI_iff p2
  cases n2
  obtain ⟨q, ys, e2, hq, nn⟩ := (n1.ge g2 R.mz).list
  cases e2
  refine ⟨p, ns, i, rfl, rfl, ?_, hk, k _ _ H2 p2 (g1.trans g2) (.int _)⟩
  rw [← nn.ints]
  exact SqL.of hq
end
section
variable [XCtx] {X : Cx} {pos : Pos} {js : List Nat}
/-- a, b = xs, a list -/
def mgLst (n : Nat) (ms : MGs) : MG := fun d env K => onL d fun ds => ds.length = n ∧ ms ds env K
theorem jg_lst {n k : Nat} {es : List Expr} {u : TGs} {ms : MGs} (h : JGs X js es n u ms) (hc : X.calm = true := by rfl) (hn : (assignEach es X.env).length = n := by rfl) (hst : (assignEach es X.env).findIdx? (·.1) = none := by rfl) : JG X js (.Tuple es k pos) (gLst X.K n u) (mgLst n ms) := ⟨pg_lst hc h.pe hn hst, fun W Z O env σ H0 H v d K Q R nn hm kk => by
  obtain ⟨ds, rfl, hl, hm⟩ := onL_iff hm
  cases nn with
  | lst h1 nz r => exact ⟨_, _, rfl, SqL.of h1, r.length.trans hl, h.es W Z O env σ H0 H _ _ _ _ R r hm kk⟩⟩
theorem jg_lstK {n k : Nat} {es : List Expr} {u : TGs} {ms : MGs} (h : JGs X js es n u ms) (hc : X.calm = true := by rfl) (hn : (assignEach es X.env).length = n := by rfl) (hst : (assignEach es X.env).findIdx? (·.1) = none := by rfl) {K : PySem.W.Frag} (hK : X.K = K := by rfl) : JG X js (.Tuple es k pos) (gLst K n u) (mgLst n ms) := hK ▸ jg_lst h hc hn hst
end
end Dw

set_option maxRecDepth 100000
set_option maxHeartbeats 4000000
/-! Dw34: sorted of a list of ((a, b), k). -/
namespace Dw
open PySem PySem.Spec PyProof.Rows L2
abbrev Qr := (Int × Int) × Int
def qD (t : Qr) : PyData := .tuple [.tuple [.int t.1.1, .int t.1.2], .int t.2]
def ltP (p q : Int × Int) : Prop := p.1 < q.1 ∨ (p.1 = q.1 ∧ p.2 < q.2)
def lexQ (p q : Qr) : Prop := ltP p.1 q.1 ∨ (p.1 = q.1 ∧ p.2 ≤ q.2)
instance (p q : Int × Int) : Decidable (ltP p q) := by unfold ltP; infer_instance
instance (p q : Qr) : Decidable (lexQ p q) := by unfold lexQ; infer_instance
theorem qD_noDict (t : Qr) : (qD t).hasDict = false := by
  simp [qD, PyData.hasDict, PyData.hasDictAll]
theorem qD_depth (t : Qr) : (qD t).depth ≤ 2 := by
  simp [qD, PyData.depth, PyData.depthAll]
theorem qD_lt (p q : Qr) : PySem.W.dataLt (qD p) (qD q) = true ↔ ltP p.1 q.1 ∨ (p.1 = q.1 ∧ p.2 < q.2) := by
  unfold qD
  rw [PySem.W.dataLt_pair (by simp [PySem.W.alike, PySem.W.alikeAll]) (by simp [PySem.W.alike]), PySem.W.dataLt_ii]
  obtain ⟨⟨a, b⟩, k⟩ := p
  obtain ⟨⟨c, d⟩, l⟩ := q
  have e1 : PyData.eqv (.tuple [.int a, .int b]) (.tuple [.int c, .int d]) = decide (a = c ∧ b = d) := by
    rw [Bool.eq_iff_iff]
    simp [PyData.eqv, PyData.eqvAll]
  have e2 : PyData.eqv (.int k) (.int l) = decide (k = l) := by rw [Bool.eq_iff_iff]; simp [PyData.eqv]
  have e3 : PySem.W.dataLt (.int k) (.int l) = decide (k < l) := by
    have := congrFun (congrFun (PySem.W.dataLe_int (fun x : Int => x)) l) k
    rw [PySem.W.dataLe_eq] at this
    have : (!PySem.W.dataLt (.int k) (.int l)) = decide (l ≤ k) := this
    have := congrArg (!·) this
    simp only [Bool.not_not] at this
    rw [this, Bool.eq_iff_iff]
    simp
  show (if PyData.eqv (.tuple [.int a, .int b]) (.tuple [.int c, .int d]) = true then (if PyData.eqv (.int k) (.int l) = true then false else PySem.W.dataLt (.int k) (.int l)) else decide (a < c ∨ (a = c ∧ b < d))) = true ↔ (a < c ∨ (a = c ∧ b < d)) ∨ ((a, b) = (c, d) ∧ k < l)
  rw [e1, e2, e3, Prod.mk.injEq]
  by_cases h : a = c ∧ b = d
  · rw [decide_eq_true h]
    show (if decide (k = l) = true then false else decide (k < l)) = true ↔ _
    by_cases h2 : k = l
    · rw [decide_eq_true h2]
      show false = true ↔ _
      constructor
      · intro z; cases z
      · omega
    · rw [decide_eq_false h2]
      show decide (k < l) = true ↔ _
      rw [decide_eq_true_eq]
      omega
  · rw [decide_eq_false h]
    show decide (a < c ∨ (a = c ∧ b < d)) = true ↔ _
    rw [decide_eq_true_eq]
    omega
theorem dataLe_qD {β : Type} (x : β → Qr) : PySem.W.dataLe false (fun b => qD (x b)) = fun p q => decide (lexQ (x p) (x q)) := by
  rw [PySem.W.dataLe_eq]
  funext p q
  show (!PySem.W.dataLt (qD (x q)) (qD (x p))) = _
  have h := qD_lt (x q) (x p)
  generalize x p = p at h ⊢
  generalize x q = q at h ⊢
  have : (!PySem.W.dataLt (qD q) (qD p)) = true ↔ lexQ p q := by
    rw [Bool.not_eq_true', ← Bool.not_eq_true, h]
    obtain ⟨⟨a, b⟩, k⟩ := p
    obtain ⟨⟨c, d⟩, l⟩ := q
    unfold lexQ ltP
    simp only [Prod.mk.injEq]
    omega
  rw [Bool.eq_iff_iff, this, decide_eq_true_eq]
theorem eachIsQ_of {Z : Addr → Prop} {H : Hp} : ∀ {xs : List V} {us : List Value} {rs : List Qr}, Vals xs us → DnAll H Z xs (rs.map qD) → PySem.W.EachIs (fun (v : Value) (b : V × Qr) => RelV b.1 v ∧ Dn H Z b.1 (qD b.2)) us (xs.zip rs)
  | _, _, [], .nil, .nil => .nil
  | _, _, r :: rs, .cons q t, .cons n m => .cons ⟨q, n⟩ (eachIsQ_of t m)
theorem eachIsQ_vals {Z : Addr → Prop} {H : Hp} : ∀ {us : List Value} {bs : List (V × Qr)}, PySem.W.EachIs (fun (v : Value) (b : V × Qr) => RelV b.1 v ∧ Dn H Z b.1 (qD b.2)) us bs → Vals (bs.map (·.1)) us ∧ DnAll H Z (bs.map (·.1)) ((bs.map (·.2)).map qD)
  | _, _, .nil => ⟨.nil, .nil⟩
  | _, _, .cons q t => ⟨.cons q.1 (eachIsQ_vals t).1, .cons q.2 (eachIsQ_vals t).2⟩
/-- sorted(xs), xs a list of ((a, b), k) -/
def rSortQ (K : PySem.W.Frag) : List V → Hp → VK → Prop := fun vs H Q => ∃ (a : Addr) (xs : List V) (rs : List Qr) (Z : Addr → Prop), vs = [V.ref a] ∧ SqL K H a xs ∧ DnAll H Z xs (rs.map qD) ∧
  ∀ (ys : List V) (qs : List Qr) (p : Addr), DnAll H Z ys (qs.map qD) → qs.Perm rs → qs.Pairwise lexQ → H p = none → Q (.ref p) (upd H p (.lst ys))
theorem cr_sortQ {X : Cx} (hu : X.A.units + 64 < cLine) : CallR X (.builtin "sorted") (rSortQ X.K) := by
  intro pins s σ H vs us Q I r h
  obtain ⟨a, xs, rs, Z, rfl, hs, hn, q⟩ := h
  obtain ⟨its, rv, hl, hz⟩ := I.list hs
  obtain ⟨u, rfl, ru⟩ := vals1 r
  obtain rfl : u = Value.ref a := ru
  have lr : xs.length = rs.length := by have := hn.length; rw [List.length_map] at this; exact this
  have e := eachIsQ_of rv hn
  have hb2 : ∀ b ∈ xs.zip rs, b.2 ∈ rs := fun b hb => (List.of_mem_zip hb).2
  have lb : (xs.zip rs).length = xs.length := by rw [List.length_zip, lr, Nat.min_self]
  refine PySem.W.sorted_data (R := fun (v : Value) (b : V × Qr) => RelV b.1 v ∧ Dn H Z b.1 (qD b.2)) (enc := fun b => qD b.2) hl.isList e ?_ ?_ ?_ (by rw [lb]; exact hz) (fun b _ => ?_) fun out ol oe => ?_
  · exact e.mono fun v b ⟨q1, q2⟩ => Dp.reads I _ _ _ (Dn.dp _ _ q2 (qD_noDict _)) q1
  · exact PySem.W.AllAlike.of fun b b' => by
      show PySem.W.alike (.tuple [.tuple [.int _, .int _], .int _]) (.tuple [.tuple [.int _, .int _], .int _]) = true
      simp only [PySem.W.alike, PySem.W.alikeAll, Bool.and_self, Bool.and_true]
  · refine .inl fun d hd => ?_
    obtain ⟨b, hb, rfl⟩ := List.mem_map.mp hd
    exact ⟨_, _, rfl⟩
  · have := qD_depth b.2
    show X.A.units + 2 + (qD b.2).depth < cLine
    omega
  · obtain ⟨v1, n1⟩ := eachIsQ_vals oe
    obtain ⟨k, hk⟩ := PyProof.Rows.sortedAll_at s.heap its (List.toArray out)
    have pm := List.mergeSort_perm (xs.zip rs) (PySem.W.dataLe false fun b : V × Qr => qD b.2)
    have I1 := I.laid (t' := s.toks) (h' := PyProof.Rows.sortedAll s.heap its (List.toArray out)) (a := s.heap.objs.size + 1) (o := .lst (((xs.zip rs).mergeSort (PySem.W.dataLe false fun b => qD b.2)).map (·.1))) (fun b o e => PyProof.Rows.sortedAll_old e) (Nat.le_succ _) ⟨by rw [List.length_map, pm.length_eq, lb]; exact hz, out, k, v1, hk⟩
    refine ⟨.ref (s.heap.objs.size + 1), _, I1, rfl, q _ _ _ n1 ?_ ?_ (I.hok.fresh (Nat.le_succ _))⟩
    · refine (pm.map (·.2)).trans ?_
      rw [List.map_snd_zip (by omega)]
    · rw [List.pairwise_map]
      have := PySem.W.sort_pairwise (PySem.W.sortLe_total (PyProof.Rows.listOrd PyProof.Rows.itemOrd) false fun b : V × Qr => PySem.W.keyToks (qD b.2)) (xs.zip rs)
      refine this.imp fun {a b} z => ?_
      have z : PySem.W.dataLe false (fun b : V × Qr => qD b.2) a b = true := z
      rw [dataLe_qD (fun b : V × Qr => b.2)] at z
      exact of_decide_eq_true z
variable [XCtx]
def fSortQ (ds : List PyData) (P : List PyData → Prop) : Prop := on1 ds fun d => onL d fun xs => ∃ rs : List Qr, xs = rs.map qD ∧ ∀ qs : List Qr, qs.Perm rs → qs.Pairwise lexQ → P (qs.map qD)
theorem rf_sortQ {K : PySem.W.Frag} : RF (rSortQ K) fSortQ := by
  intro W Z O env σ H0 H vs ds P Q R hv hf k
  obtain ⟨d, rfl, hf⟩ := on1_iff hf
  obtain ⟨v, rfl, hw⟩ := hv.one
  obtain ⟨xs, rfl, rs, rfl, hp⟩ := onL_iff hf
  obtain ⟨p, ys, rfl, hpp, r⟩ := hw.list
  exact ⟨p, ys, rs, _, rfl, SqL.of hpp, r, fun zs qs q n h1 h2 hq => k _ q _ _ (hp qs h1 h2) (.new hq) hq upd_same (n.own hq)⟩
section
variable {X : Cx} {e a : Expr} {t : TA} {M : ML} {ta : TE} {A : ME} {pos p px py pt pt2 xp : Pos} {x y : Str} {kt k2 : Nat}
theorem jf_sortQ (hu : X.A.units + 64 < cLine) (hm : X.mg "sorted" = none) (ha : JAb X [e] t M) (hg : Gl X "sorted" := by rfl) (he : starEach [e] X.env = (false, eval e X.env) :: starEach [] X.env := by rfl) : JF X (.Call (.Name "sorted" p) [e] [] pos) (tCB (rSortQ X.K) t) (mBlF fSortQ M) := jf_B (cr_sortQ hu) rf_sortQ hm (by decide +kernel) ha hg (by decide) (by decide) he rfl
end
end Dw

set_option maxRecDepth 100000
set_option maxHeartbeats 4000000
/-! Dw35: tuple(range(n)). -/
namespace Dw
open PySem PySem.Spec PyProof.Rows L2
variable [XCtx]
section
variable {X : Cx} {a : Expr} {ta : TE} {A : ME} {pos : Pos}
def mTRng (A : ML) : ME := fun env P => A env fun ds => match ds with
  | [.int n] => RgOk 0 n ∧ P (.tuple (rangeD 0 n))
  | _ => False
theorem je_tupRg [OldT] {p p1 q : Pos} (hl : X.mg "tuple" = none) (hm : X.mg "range" = none) (ha : JB X a ta A) (hg : Gl X "tuple" := by rfl) (hg2 : Gl X "range" := by rfl) (hc : X.calm = true := by rfl) (na : starEach [a] X.env = (false, eval a X.env) :: starEach [] X.env := by rfl)
    (na2 : starEach [.Call (.Name "range" p1) [a] [] q] X.env = (false, eval (.Call (.Name "range" p1) [a] [] q) X.env) :: starEach [] X.env := by rfl) : JE X (.Call (.Name "tuple" p) [.Call (.Name "range" p1) [a] [] q] [] pos) (tTupRg (tRg1 ta)) (mTRng (mCons A mNil)) := ⟨pe_tupRg hc hg hl (prg_1 hg2 hm ha.pe na) na2, by
  intro W Z O env σ H0 H P Q R hm k
  refine ha.es W Z O env σ H0 H _ _ R hm fun d v H1 p1 g1 n1 => ?_
  cases d with
  | int n => exact ⟨n, n1.int, p1.1, fun l hl => k _ (.ref l) _ p1.2 (g1.new' hl) (.tup (OldT.out upd_same) ((R.tr g1).new hl) dn_range)⟩
  | _ => exact p1.elim⟩
end
end Dw

set_option maxRecDepth 100000
set_option maxHeartbeats 4000000
/-! Dw36: a, b, c = e, f, g where the three names are the def's own. -/
namespace Dw
open PySem PySem.Spec PyProof.Rows L2
variable [XCtx]
section
variable {X : Cx} {a b c : Expr} {ta tb tc : TE} {A B C : ME} {pos px py pz pt pt2 : Pos} {kt k2 : Nat}
def mPar3 (i j l : Nat) (A B C : ME) : MS := fun M env => A env fun x => B env fun y => C env fun z => M.nx (((env.set i (.val x)).set j (.val y)).set l (.val z))
theorem js_par3 (i j l : Nat) {x y z : Str} (hN : X.N.Nodup) (ha : JE X a ta A) (hb : JE X b tb B) (hc' : JE X c tc C) (hx : X.env.scope.names.lookup x = some .local) (hy : X.env.scope.names.lookup y = some .local) (hz : X.env.scope.names.lookup z = some .local)
    (hi : X.N[i]? = some x := by rfl) (hj : X.N[j]? = some y := by rfl) (hl : X.N[l]? = some z := by rfl) (hij : i ≠ j := by decide) (hil : i ≠ l := by decide) (hjl : j ≠ l := by decide)
    (hs1 : starEach [a, b, c] X.env = (false, eval a X.env) :: starEach [b, c] X.env := by rfl) (hs2 : starEach [b, c] X.env = (false, eval b X.env) :: starEach [c] X.env := by rfl) (hs3 : starEach [c] X.env = (false, eval c X.env) :: starEach [] X.env := by rfl)
    (hw : swappedStores [.Tuple [.Name x px, .Name y py, .Name z pz] kt pt] (.Tuple [a, b, c] k2 pt2) X.env = pure (some [x, y, z]) := by rfl) (hs : swapsWithSole [.Tuple [.Name x px, .Name y py, .Name z pz] kt pt] (.Tuple [a, b, c] k2 pt2) pos.line X.env = pure false := by rfl) (hc : X.calm = true := by rfl) :
    JS X (.Assign [.Tuple [.Name x px, .Name y py, .Name z pz] kt pt] (.Tuple [a, b, c] k2 pt2) pos) (tPar3 i j l (tCons ta (tCons tb (tCons tc tNil)))) (mPar3 i j l A B C) := ⟨ps_par3 hc hN hi hj hl hij hil hjl hx hy hz (pa_cons ha.pe (pa_cons hb.pe (pa_cons hc'.pe pa_nil hs3) hs2) hs1) hw hs, fun W Z O env σ H0 H M D R S hm => by
  refine ha.es W Z O env σ H0 H _ _ R hm fun d1 v1 H1 p1 g1 n1 => ?_
  have R1 := R.tr g1
  refine hb.es W Z O env σ H0 H1 _ _ R1 p1 fun d2 v2 H2 p2 g2 n2 => ?_
  have R2 := R1.tr g2
  refine hc'.es W Z O env σ H0 H2 _ _ R2 p2 fun d3 v3 H3 p3 g3 n3 => ?_
  have R3 := R2.tr g3
  refine ⟨v1, v2, v3, rfl, ?_⟩
  have R4 := ((R3.set ((n1.ge g2 R1.mz).ge g3 R2.mz) i).set (n2.ge g3 R2.mz) j).set n3 l
  exact (((S.tr R g1).tr R1 g2).tr R2 g3).next R4 p3⟩
end
end Dw

set_option maxRecDepth 100000
set_option maxHeartbeats 4000000
/-! Dw37: x is True, x is not True, where x is a bool. -/
namespace Dw
open PySem PySem.Spec PyProof.Rows L2
section
variable {X : Cx} {a : Expr} {ta : TE} {d : Bool}
def tIsB (d : Bool) (ta : TE) : TE := fun σ H Q => ta σ H fun x H1 => ∃ c, x = .bl c ∧ Q (.bl (c == d)) H1
def tNotIsB (d : Bool) (ta : TE) : TE := fun σ H Q => ta σ H fun x H1 => ∃ c, x = .bl c ∧ Q (.bl (c != d)) H1
theorem pc_isB {j pos'} (ha : PE X a ta) : PC X .Is a (.Constant (.bool d) j pos') (tIsB d ta) := by
  refine ⟨fun pins s σ H Q I h => ?_⟩
  refine thn (ha.run pins s σ H _ I h) fun v s1 ⟨x, H1, I1, r1, c, e, q1⟩ => ?_
  subst e
  cases r1
  exact Constant_bool (PyProof.Rows.is_bool ⟨.bl _, H1, I1, rfl, q1⟩)
theorem pc_notIsB {j pos'} (ha : PE X a ta) : PC X .IsNot a (.Constant (.bool d) j pos') (tNotIsB d ta) := by
  refine ⟨fun pins s σ H Q I h => ?_⟩
  refine thn (ha.run pins s σ H _ I h) fun v s1 ⟨x, H1, I1, r1, c, e, q1⟩ => ?_
  subst e
  cases r1
  exact Constant_bool (PyProof.Rows.isnot_bool ⟨.bl _, H1, I1, rfl, q1⟩)
end
def fIsB (d : Bool) (x : PyData) (P : PyData → Prop) : Prop := onB x fun c => P (.bool (c == d))
def fNotB (d : Bool) (x : PyData) (P : PyData → Prop) : Prop := onB x fun c => P (.bool (c != d))
variable [XCtx]
section
variable {X : Cx} {a : Expr} {ta : TE} {A : ME} {pos : Pos} {d : Bool}
theorem jt_isB {j pos'} (ha : JE X a ta A) : JT X (.Compare a [.Is] [.Constant (.bool d) j pos'] pos) (tB (tIsB d ta)) (mB (m1 (fIsB d) A)) := ⟨pt_cmp (pc_isB ha.pe) rfl, by
  intro W Z O env σ H0 H P Q R hm k
  refine ha.es W Z O env σ H0 H _ _ R hm fun z v H1 p1 g1 n1 => ?_
  obtain ⟨b, rfl, p1⟩ := onB_iff p1
  cases n1
  exact ⟨b, rfl, _, rfl, k _ H1 p1 g1⟩⟩
theorem jt_notB {j pos'} (ha : JE X a ta A) : JT X (.Compare a [.IsNot] [.Constant (.bool d) j pos'] pos) (tB (tNotIsB d ta)) (mB (m1 (fNotB d) A)) := ⟨pt_cmp (pc_notIsB ha.pe) rfl, by
  intro W Z O env σ H0 H P Q R hm k
  refine ha.es W Z O env σ H0 H _ _ R hm fun z v H1 p1 g1 n1 => ?_
  obtain ⟨b, rfl, p1⟩ := onB_iff p1
  cases n1
  exact ⟨b, rfl, _, rfl, k _ H1 p1 g1⟩⟩
theorem je_isB {j pos'} (ha : JE X a ta A) : JE X (.Compare a [.Is] [.Constant (.bool d) j pos'] pos) (tIsB d ta) (m1 (fIsB d) A) := ⟨pe_cmp (pc_isB ha.pe) rfl, by
  intro W Z O env σ H0 H P Q R hm k
  refine ha.es W Z O env σ H0 H _ _ R hm fun z v H1 p1 g1 n1 => ?_
  obtain ⟨b, rfl, p1⟩ := onB_iff p1
  cases n1
  exact ⟨b, rfl, k _ _ H1 p1 g1 (.bl _)⟩⟩
end
end Dw

set_option maxRecDepth 100000
set_option maxHeartbeats 4000000
/-! Dw38: a list of lists of one's own that grow: x = [[] for ..]; for ..: x[a].append(b). -/
namespace Dw
open PySem PySem.Spec PyProof.Rows L2
variable [XCtx]

section
variable {W : Wl} {Z O : Addr → Prop} {env : Cells} {σ : L2.St} {H0 H H1 : Hp}
/-- new objects become one's own -/
theorem Rel.grow (R : Rel W Z O env σ H0 H) (g : Ge W H H1) (S : Addr → Prop) (hS : ∀ a, S a → H a = none) (nt : ∀ a, S a → NT (H1 a)) : Rel W Z (fun a => O a ∨ S a) env σ H0 H1 := by
  have R1 := R.tr g
  have nin : ∀ a u, ¬ ZO Z O a → H a = some u → H1 a = some u ∧ ¬ ZO Z (fun a => O a ∨ S a) a := fun a u z e => ⟨g.keep a u (fun m => z (.inl (R.mz a m))) e, by
    rintro (q | q | q)
    · exact z (.inl q)
    · exact z (.inr q)
    · exact ne_of_none e (hS a q) rfl⟩
  refine ⟨⟨R1.ge, R1.wl, R1.mz, R1.za, fun a q => ?_, fun a q => ?_, R1.len, fun i c e => ?_, R1.uniq⟩, R.xr.step ⟨fun a o z e => g.keep a o (fun m => z (.inl (R.mz a m))) e, fun a q => q.imp id fun e => hS a e, fun a h => g.fresh R.wl h⟩⟩
  · rcases q with q | q
    · exact R.oz a q
    · cases e : H0 a with
      | none => rfl
      | some u => exact absurd (hS a q) (R.ge.there R.wl e)
  · rcases q with q | q
    · exact R1.oh a q
    · exact nt a q
  · have k := R.cell i c e
    cases c with
    | non => trivial
    | val d =>
      obtain ⟨v, e1, n⟩ := k
      exact ⟨v, e1, Dn.tr nin _ _ n⟩
    | own ds =>
      obtain ⟨q, ys, e1, oq, hq, n⟩ := k
      exact ⟨q, ys, e1, .inl oq, g.keep _ _ (R.om q oq) hq, DnAll.tr nin _ _ n⟩
    | dic kvs =>
      obtain ⟨q, e1, oq, hq⟩ := k
      exact ⟨q, e1, .inl oq, g.keep _ _ (R.om q oq) hq⟩
    | hob ho =>
      obtain ⟨q, e1, oq, hq⟩ := k
      exact ⟨q, e1, .inl oq, g.keep _ _ (R.om q oq) hq⟩
    | well => exact k
    | raw _ => exact k
/-- objects that no slot holds are one's own no more -/
theorem Rel.shrink (R : Rel W Z O env σ H0 H) (S : Addr → Prop) (no : ∀ (k : Nat) (x : Hold) (q : Addr), S q → env[k]? = some (Cell.of x) → σ[k]? ≠ some (some (.ref q))) : Rel W Z (fun a => O a ∧ ¬ S a) env σ H0 H := by
  have wk : ∀ a u, ¬ ZO Z O a → H a = some u → H a = some u ∧ ¬ ZO Z (fun a => O a ∧ ¬ S a) a := fun a u z e => ⟨e, fun y => z (y.imp id (·.1))⟩
  refine ⟨⟨R.ge, R.wl, R.mz, R.za, fun a y => R.oz a y.1, fun a y => R.oh a y.1, R.len, fun j c y => ?_, R.uniq⟩, R.xr.step ⟨fun _ _ _ e => e, fun a q => .inl q.1, fun _ q => q⟩⟩
  have k := R.cell j c y
  cases c with
  | non => trivial
  | val d =>
    obtain ⟨v, e2, m⟩ := k
    exact ⟨v, e2, Dn.tr wk _ _ m⟩
  | own es =>
    obtain ⟨q2, ys, e2, o2, hq, m⟩ := k
    exact ⟨q2, ys, e2, ⟨o2, fun z => no j (.inl es) q2 z y e2⟩, hq, DnAll.tr wk _ _ m⟩
  | dic kvs =>
    obtain ⟨q2, e2, o2, hq⟩ := k
    exact ⟨q2, e2, ⟨o2, fun z => no j (.inr kvs) q2 z y e2⟩, hq⟩
  | hob ho =>
    obtain ⟨q2, e2, o2, hq⟩ := k
    exact ⟨q2, e2, ⟨o2, fun z => no j (.hob ho) q2 z y e2⟩, hq⟩
  | well => exact k
  | raw _ => exact k
/-- a slot of which nothing is told any more -/
theorem Rel.setNon (R : Rel W Z O env σ H0 H) (i : Nat) (s : Option V) : Rel W Z O (env.set i .non) (σ.set i s) H0 H where
  ge := R.ge
  wl := R.wl
  mz := R.mz
  za := R.za
  oz := R.oz
  oh := R.oh
  len := by rw [List.length_set, List.length_set]; exact R.len
  cell := fun j c e => by
    rcases getElem?_set_cases e with ⟨rfl, rfl⟩ | ⟨ne, e⟩
    · trivial
    · rw [List.getElem?_set_ne ne]
      exact R.cell j c e
  uniq := fun j k ds es p e1 e2 s1 s2 => by
    rcases getElem?_set_cases e1 with ⟨rfl, q⟩ | ⟨n1, e1⟩
    · cases ds <;> cases q
    rcases getElem?_set_cases e2 with ⟨rfl, q⟩ | ⟨n2, e2⟩
    · cases es <;> cases q
    rw [List.getElem?_set_ne n1] at s1
    rw [List.getElem?_set_ne n2] at s2
    exact R.uniq j k ds es p e1 e2 s1 s2
  xr := R.xr
end

/-! ### targets that hold nothing of one's own -/
structure Tame (js : List Nat) (m : MG) : Prop where
  mono : ∀ d env (K K' : Cells → Prop), m d env K → (∀ e, K e → K' e) → m d env K'
  hold : ∀ d env K, m d env K → m d env fun e => K e ∧ ∀ (k : Nat) (x : Hold), e[k]? = some (Cell.of x) → env[k]? = some (Cell.of x) ∧ k ∉ js
structure Tames (js : List Nat) (m : MGs) : Prop where
  mono : ∀ d env (K K' : Cells → Prop), m d env K → (∀ e, K e → K' e) → m d env K'
  hold : ∀ d env K, m d env K → m d env fun e => K e ∧ ∀ (k : Nat) (x : Hold), e[k]? = some (Cell.of x) → env[k]? = some (Cell.of x) ∧ k ∉ js
theorem tame_name {i : Nat} : Tame [i] (mgName i) := ⟨fun d env K K' h k => k _ h, fun d env K h => ⟨h, fun k x e => by
  rcases getElem?_set_cases e with ⟨_, q⟩ | ⟨ne, q⟩
  · cases x <;> cases q
  · exact ⟨q, fun z => ne (List.mem_singleton.mp z).symm⟩⟩⟩
theorem tames_nil : Tames [] mgNil := ⟨fun d env K K' h k => ⟨h.1, k _ h.2⟩, fun d env K h => ⟨h.1, h.2, fun k x e => ⟨e, fun z => nomatch z⟩⟩⟩
theorem tames_cons {a b : List Nat} {m : MG} {ms : MGs} (h : Tame a m) (hs : Tames b ms) : Tames (a ++ b) (mgCons m ms) := ⟨fun d env K K' q k => by
  cases d with
  | nil => exact q
  | cons d r => exact h.mono _ _ _ _ q fun e q => hs.mono _ _ _ _ q k, fun d env K q => by
  cases d with
  | nil => exact q
  | cons d r =>
    refine h.mono _ _ _ _ (h.hold _ _ _ q) fun e1 q1 => hs.mono _ _ _ _ (hs.hold _ _ _ q1.1) fun e2 q2 => ⟨q2.1, fun k x e => ?_⟩
    have z2 := q2.2 k x e
    have z1 := q1.2 k x z2.1
    exact ⟨z1.1, fun z => (List.mem_append.mp z).elim z1.2 z2.2⟩⟩
theorem tame_tup {a : List Nat} {n : Nat} {ms : MGs} (h : Tames a ms) : Tame a (mgTup n ms) := ⟨fun d env K K' q k => by
  obtain ⟨ds, rfl, l, q⟩ := onU_iff q
  exact ⟨l, h.mono _ _ _ _ q k⟩, fun d env K q => by
  obtain ⟨ds, rfl, l, q⟩ := onU_iff q
  exact ⟨l, h.hold _ _ _ q⟩⟩

/-! ### the list of lists -/
structure Nst (W : Wl) (Z O : Addr → Prop) (env : Cells) (σ : L2.St) (H0 H : Hp) (F : Addr) (ps : List Addr) (rows : List (List PyData)) : Prop where
  rel : Rel W Z O env σ H0 H
  oF : O F
  hF : H F = some (.lst (ps.map V.ref))
  len : ps.length = rows.length
  row : ∀ (j : Nat) (p : Addr), ps[j]? = some p → O p ∧ p ≠ F ∧ ∃ xs row, rows[j]? = some row ∧ H p = some (.lst xs) ∧ DnAll H (ZO Z O) xs row
  nd : ps.Nodup
  no : ∀ (k : Nat) (x : Hold) (q : Addr), (q = F ∨ q ∈ ps) → env[k]? = some (Cell.of x) → σ[k]? ≠ some (some (.ref q))
section
variable {W : Wl} {Z O : Addr → Prop} {env : Cells} {σ : L2.St} {H0 H H' : Hp} {F : Addr} {ps : List Addr} {rows : List (List PyData)}
theorem Nst.tr (N : Nst W Z O env σ H0 H F ps rows) (g : Ge W H H') : Nst W Z O env σ H0 H' F ps rows where
  rel := N.rel.tr g
  oF := N.oF
  hF := g.keep _ _ (N.rel.om F N.oF) N.hF
  len := N.len
  row := fun j p e => by
    obtain ⟨o, ne, xs, row, er, hp, n⟩ := N.row j p e
    exact ⟨o, ne, xs, row, er, g.keep _ _ (N.rel.om p o) hp, n.ge g N.rel.mz⟩
  nd := N.nd
  no := N.no
theorem Nst.app {j : Nat} {p : Addr} {xs : List V} {row : List PyData} {v : V} {d : PyData} (N : Nst W Z O env σ H0 H F ps rows) (hj : ps[j]? = some p) (hr : rows[j]? = some row) (hp : H p = some (.lst xs)) (n : DnAll H (ZO Z O) xs row) (nv : Dn H (ZO Z O) v d) : Nst W Z O env σ H0 (upd H p (.lst (xs ++ [v]))) F ps (rows.set j (row ++ [d])) := by
  obtain ⟨o, ne, _⟩ := N.row j p hj
  have hjl : j < ps.length := (List.getElem?_eq_some_iff.mp hj).1
  refine ⟨N.rel.put o fun i ds e s => N.no i ds p (.inr (List.mem_of_getElem? hj)) e s, N.oF, by rw [upd_ne (Ne.symm ne)]; exact N.hF, by rw [List.length_set]; exact N.len, fun k q hq => ?_, N.nd, N.no⟩
  by_cases e : j = k
  · subst e
    rw [hj] at hq
    cases hq
    exact ⟨o, ne, xs ++ [v], row ++ [d], List.getElem?_set_self (by rw [← N.len]; exact hjl), upd_same, (n.put o).app (.cons (nv.put o) .nil)⟩
  · obtain ⟨o2, ne2, ys, row2, er2, hq2, n2⟩ := N.row k q hq
    have npq : q ≠ p := fun z => e ((List.getElem?_inj hjl N.nd).mp (by rw [hj, hq, z]))
    exact ⟨o2, ne2, ys, row2, by rw [List.getElem?_set_ne e]; exact er2, by rw [upd_ne npq]; exact hq2, n2.put o⟩
theorem dnall_rows {Z : Addr → Prop} : ∀ (ps : List Addr) (rows : List (List PyData)), ps.length = rows.length → (∀ (j : Nat) (p : Addr), ps[j]? = some p → ∃ row, rows[j]? = some row ∧ Dn H Z (.ref p) (.list row)) → DnAll H Z (ps.map V.ref) (rows.map PyData.list)
  | [], [], _, _ => .nil
  | [], _ :: _, h, _ => nomatch h
  | _ :: _, [], h, _ => nomatch h
  | p :: ps, r :: rows, h, k => by
    obtain ⟨row, e, n⟩ := k 0 p rfl
    cases e
    exact .cons n (dnall_rows ps rows (Nat.succ.inj h) fun j q hq => k (j + 1) q hq)
theorem Nst.done (N : Nst W Z O env σ H0 H F ps rows) (i : Nat) (at_ : σ[i]? = some (some (.ref F))) : ∃ O', (∀ a, O' a → O a) ∧ Rel W Z O' (env.set i (.val (.list (rows.map PyData.list)))) σ H0 H := by
  have nz : ∀ a, O a → ¬ Z a := fun a o z => (N.rel.za a z).1 (N.rel.oz a o)
  refine ⟨fun a => O a ∧ ¬ (a = F ∨ a ∈ ps), fun a o => o.1, ?_⟩
  have R1 := N.rel.shrink (fun a => a = F ∨ a ∈ ps) N.no
  have wk : ∀ a u, ¬ ZO Z O a → H a = some u → H a = some u ∧ ¬ ZO Z (fun a => O a ∧ ¬ (a = F ∨ a ∈ ps)) a := fun a u z e => ⟨e, fun y => z (y.imp id (·.1))⟩
  have R2 := R1.set (v := .ref F) (d := .list (rows.map PyData.list)) (.lst N.hF (by
    rintro (y | y)
    · exact nz F N.oF y
    · exact y.2 (.inl rfl)) (dnall_rows ps rows N.len fun j p hp => by
    obtain ⟨o, ne, xs, row, er, h, n⟩ := N.row j p hp
    refine ⟨row, er, .lst h ?_ (DnAll.tr wk _ _ n)⟩
    rintro (y | y)
    · exact nz p o y
    · exact y.2 (.inr (List.mem_of_getElem? hp)))) i
  have hi : i < σ.length := (List.getElem?_eq_some_iff.mp at_).1
  have e2 : σ.set i (some (.ref F)) = σ := by
    apply List.ext_getElem?
    intro j
    by_cases q : i = j
    · subst q
      rw [List.getElem?_set_self hi, at_]
    · rw [List.getElem?_set_ne q]
  rw [e2] at R2
  exact R2
theorem nst_tgt {js : List Nat} {g : TG} {mg : MG} (hg : GS js g mg) (T : Tame js mg) (N : Nst W Z O env σ H0 H F ps rows) {v : V} {d : PyData} {K : Cells → Prop} {Q : L2.St → Hp → Prop} (nd : Dn H (ZO Z O) v d) (m : mg d env K)
    (k : ∀ env' σ', K env' → Nst W Z O env' σ' H0 H F ps rows → (∀ j, j ∉ js → σ'[j]? = σ[j]?) → Q σ' H) : g v σ H Q :=
  hg W Z O env σ H0 H v d _ Q N.rel nd (T.hold d env K m) fun env' σ' kk R fr hl => k env' σ' kk.1 ⟨R, N.oF, N.hF, N.len, N.row, N.nd, fun j x q hq e s => N.no j x q hq (kk.2 j x e).1 (by rw [← fr j (kk.2 j x e).2]; exact s)⟩ fr
end
/-- what a body of appends does -/
abbrev MN := List (List PyData) → Cells → (List (List PyData) → Prop) → Prop
def NBS (i : Nat) (tb : TS) (m : MN) : Prop := ∀ (W : Wl) (Z O : Addr → Prop) (env : Cells) (σ : L2.St) (H0 H : Hp) (F : Addr) (ps : List Addr) (rows : List (List PyData)) (k : List (List PyData) → Prop) (D : Ends), Nst W Z O env σ H0 H F ps rows → σ[i]? = some (some (.ref F)) → m rows env k →
  (∀ rows' H', Nst W Z O env σ H0 H' F ps rows' → Stp Z O O H H' → k rows' → D.nx σ H') → tb D σ H
def mApN (A B : ME) : MN := fun rows env k => A env fun x => onI x fun z => ∃ j row, ixN rows.length z = some j ∧ rows[j]? = some row ∧ row.length < 100000 ∧ B env fun d => k (rows.set j (row ++ [d]))
def mSqN (a b : MN) : MN := fun rows env k => a rows env fun rows' => b rows' env k
structure JNB (X : Cx) (st : List Stmt) (i : Nat) (t : TS) (m : MN) : Prop where
  pe : PSs X st t
  es : NBS i t m
theorem apN_sound {K : PySem.W.Frag} {i : Nat} {ta te : TE} {A B : ME} (ha : ES ta A) (he : ES te B) : NBS i (tDrop (tBM K "list" rAppend (tOp (rIxL K) (tVar i) ta) (tCons te tNil))) (mApN A B) := by
  intro W Z O env σ H0 H F ps rows k D N at_ hm hk
  refine ⟨_, at_, ha W Z O env σ H0 H _ _ N.rel hm fun zd zv H1 p1 g1 n1 => ?_⟩
  obtain ⟨z, rfl, j, row, hj, hr, hl, p1⟩ := onI_iff p1
  cases n1
  have N1 := N.tr g1
  have hjl : j < ps.length := by rw [N.len]; exact (List.getElem?_eq_some_iff.mp hr).1
  obtain ⟨p, hp⟩ : ∃ p, ps[j]? = some p := ⟨_, List.getElem?_eq_getElem hjl⟩
  obtain ⟨o, ne, xs, row', er, hx, nn⟩ := N1.row j p hp
  rw [hr] at er
  cases er
  have hat : atI (ps.map V.ref) z = some (.ref p) := by
    unfold atI
    rw [List.length_map, N.len, hj]
    show (ps.map V.ref)[j]? = _
    rw [List.getElem?_map, hp]
    rfl
  refine ⟨F, ps.map V.ref, z, .ref p, rfl, rfl, SqL.of N1.hF, hat, .inl ⟨rfl, xs, SqL.of hx⟩, ?_⟩
  refine he W Z O env σ H0 H1 _ _ N1.rel p1 fun d v H2 p2 g2 n2 => ?_
  have hx2 := g2.keep _ _ (N1.rel.om p o) hx
  refine ⟨p, xs, v, rfl, rfl, hx2, Nat.lt_of_lt_of_le (by rw [nn.length]; exact hl) (small_line (Nat.le_refl _)), ?_⟩
  exact hk _ _ ((N1.tr g2).app hp hr hx2 (nn.ge g2 N1.rel.mz) n2) ((Stp.ge (g1.trans g2) N.rel.wl N.rel.mz).trans (.put o (by rw [hx2]; exact Option.some_ne_none _))) p2
theorem sqN_sound {i : Nat} {t u : TS} {a b : MN} (ha : NBS i t a) (hb : NBS i u b) : NBS i (tSeq t u) (mSqN a b) := by
  intro W Z O env σ H0 H F ps rows k D N at_ hm hk
  refine ha W Z O env σ H0 H F ps rows _ _ N at_ hm fun rows' H' N' s' hm' => ?_
  exact hb W Z O env σ H0 H' F ps rows' k D N' at_ hm' fun rows2 H2 N2 s2 k2 => hk rows2 H2 N2 (s'.trans s2) k2
def nestGo (mg : MG) (mb : MN) (k : List (List PyData) → Cells → Prop) : List PyData → List (List PyData) → Cells → Prop
  | [], rows, env => k rows env
  | d :: ds, rows, env => mg d env fun env' => mb rows env' fun rows' => nestGo mg mb k ds rows' env'
def mNest (i : Nat) (I : ML) (mg0 : MG) (vs : List Nat) (I2 : ML) (mg : MG) (mb : MN) : MS := fun M env => i < env.length ∧ I env fun ds0 => ds0.length ≤ 100000 ∧ (∀ d ∈ ds0, mg0 d (wipeE env vs) fun _ => True) ∧
  I2 (env.set i .non) fun ds => nestGo mg mb (fun rows e => M.nx (e.set i (.val (.list (rows.map PyData.list))))) ds (List.replicate ds0.length []) (env.set i .non)
theorem nest_lc {wi : TI} {g : TG} {vs js : List Nat} {I : ML} {mg : MG} (hi : IS wi I) (hg : GS js g mg) (hj : ∀ j ∈ js, j ∈ vs) {W : Wl} {Z O : Addr → Prop} {env : Cells} {σ : L2.St} {H0 H : Hp} {Q : VK} {P : List PyData → Prop} (R : Rel W Z O env σ H0 H)
    (hm : I env fun ds => ds.length ≤ 100000 ∧ (∀ d ∈ ds, mg d (wipeE env vs) fun _ => True) ∧ P ds)
    (k : ∀ ds F ps H1 O1, P ds → Nst W Z O1 env σ H0 H1 F ps (List.replicate ds.length []) → Stp Z O O1 H H1 → Q (.ref F) H1) : tLc wi g tYes (tLst tNil) vs σ H Q := by
  refine hi W Z O env σ H0 H _ _ R hm fun ds J H1 p1 g1 it => ?_
  obtain ⟨hz, ht, p1⟩ := p1
  intro D hD
  have R1 := (R.tr g1).wipe vs
  have hDm : ¬ Mu W D := (R.tr g1).zmu ((R.tr g1).new hD)
  have hDH : H D = none := g1.fresh R.wl hD
  refine ⟨fun i m H2 => m = ds.length - i ∧ i ≤ ds.length ∧ Ge W H1 H2 ∧ ∃ ps : List Addr, H2 D = some (.lst (ps.map V.ref)) ∧ ps.length = i ∧ D ∉ ps ∧ ps.Nodup ∧ ∀ p ∈ ps, H1 p = none ∧ H2 p = some (.lst []) ∧ ¬ Mu W p,
    ⟨ds.length, by simp, Nat.zero_le _, .new hD, [], upd_same, rfl, (fun h => nomatch h), .nil, (fun p h => nomatch h)⟩, ?_⟩
  rintro i m H2 ⟨rfl, hle, g2, ps, hxs, hl, nD, nn, hp⟩
  have R2 := R1.tr g2
  have kp : Kp Z O H1 H2 := fun a o z e => g2.keep a o (fun mm => z (.inl (R.mz a mm))) e
  by_cases hlt : i < ds.length
  · refine .inr ⟨it.goes i H2 hlt kp, fun H3 => Ge W H1 H3 ∧ ∃ ps : List Addr, H3 D = some (.lst (ps.map V.ref)) ∧ ps.length = i + 1 ∧ D ∉ ps ∧ ps.Nodup ∧ ∀ p ∈ ps, H1 p = none ∧ H3 p = some (.lst []) ∧ ¬ Mu W p, fun H3 h3 => ⟨ds.length - (i + 1), by omega, rfl, hlt, h3⟩, fun x H3 y => ?_⟩
    obtain ⟨d, hd, g3, nd⟩ := yield_dn it R2 kp (fun a q => .inl q) hlt y
    refine hg W Z O _ _ H0 H3 x d _ _ (R2.tr g3) nd (ht d (List.mem_of_getElem? hd)) fun env' σ' _ R4 fr hl' => ⟨wipe_eq (by rw [hl', wipe_length]) fun j hj' => fr j fun z => hj' (hj j z), ?_⟩
    refine yes_then ?_
    refine ⟨Nat.zero_le _, fun p hpn => ?_⟩
    have hD3 := g3.keep _ _ hDm hxs
    have g13 := g2.trans g3
    have npD : p ≠ D := fun e => by
      rw [e, hD3] at hpn
      cases hpn
    have hp1 : H1 p = none := g13.fresh R1.wl hpn
    have npm : ¬ Mu W p := (R.tr g1).zmu ((R.tr g1).new hp1)
    have npps : p ∉ ps := fun z => by
      have := g3.keep _ _ (hp p z).2.2 (hp p z).2.1
      rw [hpn] at this
      cases this
    refine ⟨ps.map V.ref, by rw [upd_ne npD.symm]; exact hD3, by rw [List.length_map, hl]; exact Nat.lt_of_lt_of_le hlt (Nat.le_trans hz (Nat.le_of_lt (by rw [sizeLine_eq]; decide))), ⟨fun a o mm e => ?_, fun wo => (((g13.wl wo).upd (.inl hpn)).upd (.inr hDm))⟩, ps ++ [p], by rw [upd_same, List.map_append]; rfl, by rw [List.length_append, hl]; rfl, ?_, ?_, ?_⟩
    · have ne : a ≠ D := fun q => by
        rw [q, hD] at e
        cases e
      have ne2 : a ≠ p := fun q => by
        rw [q, hp1] at e
        cases e
      rw [upd_ne ne, upd_ne ne2]
      exact g13.keep a o mm e
    · intro z
      rcases List.mem_append.mp z with z | z
      · exact nD z
      · exact npD (List.mem_singleton.mp z).symm
    · refine List.nodup_append.mpr ⟨nn, (List.nodup_cons.mpr ⟨(fun h => nomatch h), .nil⟩), fun a ha b hb => ?_⟩
      rw [List.mem_singleton.mp hb]
      exact fun e => npps (e ▸ ha)
    · intro q hq
      rcases List.mem_append.mp hq with hq | hq
      · have nqD : q ≠ D := fun e => nD (e ▸ hq)
        have nqp : q ≠ p := fun e => npps (e ▸ hq)
        exact ⟨(hp q hq).1, by rw [upd_ne nqD, upd_ne nqp]; exact g3.keep _ _ (hp q hq).2.2 (hp q hq).2.1, (hp q hq).2.2⟩
      · rw [List.mem_singleton.mp hq]
        exact ⟨hp1, by rw [upd_ne npD, upd_same], npm⟩
  · have e : i = ds.length := by omega
    subst e
    refine .inl ⟨it.stops H2 kp, ?_⟩
    have g := g1.trans g2
    have hS : ∀ a, (a = D ∨ a ∈ ps) → H a = none := fun a q => by
      rcases q with rfl | q
      · exact hDH
      · exact g1.fresh R.wl (hp a q).1
    refine k ds D ps H2 (fun a => O a ∨ (a = D ∨ a ∈ ps)) p1 ⟨R.grow g (fun a => a = D ∨ a ∈ ps) hS fun a q => ?_, .inr (.inl rfl), hxs, by rw [List.length_replicate]; exact hl, fun j p e => ?_, nn, fun kk x q hq e s => ?_⟩ ⟨fun a o z e => g.keep a o (fun mm => z (.inl (R.mz a mm))) e, fun a q => q.imp id (hS a), fun a h => g.fresh R.wl h⟩
    · rcases q with rfl | q
      · rw [hxs]
        exact nt_lst
      · rw [(hp a q).2.1]
        exact nt_lst
    · have hm := List.mem_of_getElem? e
      refine ⟨.inr (.inr hm), fun z => nD (z ▸ hm), [], [], ?_, (hp p hm).2.1, .nil⟩
      have := (List.getElem?_eq_some_iff.mp e).1
      rw [List.getElem?_replicate, if_pos (by omega)]
    · obtain ⟨q', e1, oq⟩ := R.holds e
      rw [s] at e1
      cases e1
      exact (R.oh _ oq).1 (hS _ hq)
theorem nest_sound {wi wi2 : TI} {g g2 : TG} {vs js js2 : List Nat} {I I2 : ML} {mg mg2 : MG} {i : Nat} {tb : TS} {mb : MN} (hi : IS wi I) (hg : GS js g mg) (hj : ∀ j ∈ js, j ∈ vs) (hi2 : IS wi2 I2) (hg2 : GS js2 g2 mg2) (T : Tame js2 mg2) (hb : NBS i tb mb) (hn : i ∉ js2) :
    SS (tSeq (tAsg (tLc wi g tYes (tLst tNil) vs) (gName i)) (tFor wi2 g2 tb)) (mNest i I mg vs I2 mg2 mb) := by
  intro W Z O env σ H0 H M D R S hm
  obtain ⟨hlen, hm⟩ := hm
  rw [R.len] at hlen
  show tLc wi g tYes (tLst tNil) vs σ H fun x H1 => gName i x σ H1 (tFor wi2 g2 tb D)
  refine nest_lc hi hg hj R hm fun ds0 F ps H1 O1 p1 N1 s1 => ?_
  show tFor wi2 g2 tb D (σ.set i (some (.ref F))) H1
  have N : Nst W Z O1 (env.set i .non) (σ.set i (some (.ref F))) H0 H1 F ps (List.replicate ds0.length []) := ⟨N1.rel.setNon i _, N1.oF, N1.hF, N1.len, N1.row, N1.nd, fun k x q hq e s => by
    rcases getElem?_set_cases e with ⟨_, z⟩ | ⟨ne, z⟩
    · cases x <;> cases z
    · rw [List.getElem?_set_ne ne] at s
      exact N1.no k x q hq z s⟩
  have at0 : (σ.set i (some (V.ref F)))[i]? = some (some (.ref F)) := List.getElem?_set_self hlen
  refine hi2 W Z O1 _ _ H0 H1 _ _ N.rel p1 fun ds J H2 p2 gg it => ?_
  refine ⟨fun n m σ' H3 => m = ds.length - n ∧ n ≤ ds.length ∧ σ'[i]? = some (some (.ref F)) ∧ ∃ env' rows, Nst W Z O1 env' σ' H0 H3 F ps rows ∧ Stp Z O1 O1 H2 H3 ∧ nestGo mg2 mb (fun rows e => M.nx (e.set i (.val (.list (rows.map PyData.list))))) (ds.drop n) rows env',
    ⟨ds.length, by simp, Nat.zero_le _, at0, _, _, N.tr gg, .refl, p2⟩, ?_⟩
  rintro n m σ' H3 ⟨rfl, hle, at1, env', rows, N3, st, go⟩
  by_cases hlt : n < ds.length
  · refine .inr ⟨it.goes n H3 hlt st.kp, fun σ4 H4 => σ4[i]? = some (some (.ref F)) ∧ ∃ env' rows, Nst W Z O1 env' σ4 H0 H4 F ps rows ∧ Stp Z O1 O1 H2 H4 ∧ nestGo mg2 mb (fun rows e => M.nx (e.set i (.val (.list (rows.map PyData.list))))) (ds.drop (n + 1)) rows env', fun σ4 H4 h4 => ⟨ds.length - (n + 1), by omega, rfl, hlt, h4⟩, fun x H4 y => ?_⟩
    obtain ⟨d, hd, g3, nd⟩ := yield_dn it N3.rel st.kp st.on hlt y
    have ed : ds.drop n = d :: ds.drop (n + 1) := by
      rw [List.drop_eq_getElem_cons hlt]
      rw [List.getElem?_eq_getElem hlt] at hd
      rw [Option.some.inj hd]
    rw [ed] at go
    have st3 : Stp Z O1 O1 H2 H4 := st.trans (.ge g3 N3.rel.wl N3.rel.mz)
    refine nst_tgt hg2 T (N3.tr g3) nd go fun env2 σ2 go2 N4 fr => ?_
    have at2 : σ2[i]? = some (some (.ref F)) := by rw [fr i hn]; exact at1
    exact hb W Z O1 env2 σ2 H0 H4 F ps rows _ _ N4 at2 go2 fun rows' H5 N5 s5 go5 => ⟨at2, env2, rows', N5, st3.trans s5, go5⟩
  · have e : n = ds.length := by omega
    subst e
    rw [List.drop_length] at go
    obtain ⟨O', ho, R'⟩ := N3.done i at1
    refine .inl ⟨it.stops H3 st.kp, ?_⟩
    refine S.nx O' _ σ' H3 R' ((s1.trans ((Stp.ge gg N.rel.wl N.rel.mz).trans st)).trans ⟨fun _ _ _ e => e, fun a q => .inl (ho a q), fun _ q => q⟩) go
theorem jnb_app {X : Cx} {K : PySem.W.Frag} (hK : X.K = K) (i : Nat) {x : Str} {p bp apos cpos spos : Pos} {a e : Expr} {ta te : TE} {A B : ME} (ha : JE X a ta A) (he : JE X e te B) (hN : X.N[i]? = some x) (hv : Vis X.env.scope x) (hd : (x == ("__debug__" : Str)) = false)
    (hcd : (x == ("__classdict__" : Str)) = false) (hs : PlainIx a)
    (h1 : attributeBase (.Subscript (.Name x p) a bp) "append" X.env (eval (.Subscript (.Name x p) a bp) X.env) = eval (.Subscript (.Name x p) a bp) X.env)
    (h2 : ((((backTo cpos (starEach [e] X.env)).all fun x => !x.fst) && (backToKw cpos (keywordEach [] X.env)).all fun x => x.fst.isSome) && decide ((([e] : List Expr).length + 0 + if true = true then 0 else 1) < 30)) = true)
    (h3 : (apos.endLine == cpos.line) = true)
    (h4 : starEach [e] X.env = (false, eval e X.env) :: starEach [] X.env)
    (h5 : ((backTo cpos (starEach [] X.env)).any fun x => x.fst) = false)
    (h6 : swapsWith (.Call (.Attribute (.Subscript (.Name x p) a bp) "append" apos) [e] [] cpos) none spos.line X.env = pure false) :
    JNB X [.Expr (.Call (.Attribute (.Subscript (.Name x p) a bp) "append" apos) [e] [] cpos) spos] i (tDrop (tBM K "list" rAppend (tOp (rIxL K) (tVar i) ta) (tCons te tNil))) (mApN A B) := by
  subst hK
  exact ⟨pss_one (ps_expr (pe_bm PySem.F.plainAttrs_list PySem.F.slot_list_append PySem.F.type_list_append mt_append (pe_ix ix_list (pe_var hN hv hd hcd) ha.pe hs) (pa_cons he.pe pa_nil h4) h1 h2 h3 h4 h5) h6), apN_sound ha.es he.es⟩
theorem jnb_cons {X : Cx} {i : Nat} {st : Stmt} {rest : List Stmt} {t u : TS} {a b : MN} (h1 : JNB X [st] i t a) (p1 : PS X st t) (h2 : JNB X rest i u b) : JNB X (st :: rest) i (tSeq t u) (mSqN a b) := ⟨pss_cons p1 h2.pe, sqN_sound h1.es h2.es⟩
theorem jnb_two {X : Cx} {K : PySem.W.Frag} (hK : X.K = K) (i : Nat) {x : Str} {p bp apos cpos spos p' bp' apos' cpos' spos' : Pos} {a e a' e' : Expr} {ta te ta' te' : TE} {A B A' B' : ME} (ha : JE X a ta A) (he : JE X e te B) (ha' : JE X a' ta' A') (he' : JE X e' te' B') (hN : X.N[i]? = some x) (hv : Vis X.env.scope x) (hd : (x == ("__debug__" : Str)) = false)
    (hcd : (x == ("__classdict__" : Str)) = false) (hs : PlainIx a) (hs' : PlainIx a')
    (h1 : attributeBase (.Subscript (.Name x p) a bp) "append" X.env (eval (.Subscript (.Name x p) a bp) X.env) = eval (.Subscript (.Name x p) a bp) X.env)
    (h2 : ((((backTo cpos (starEach [e] X.env)).all fun x => !x.fst) && (backToKw cpos (keywordEach [] X.env)).all fun x => x.fst.isSome) && decide ((([e] : List Expr).length + 0 + if true = true then 0 else 1) < 30)) = true)
    (h3 : (apos.endLine == cpos.line) = true)
    (h4 : starEach [e] X.env = (false, eval e X.env) :: starEach [] X.env)
    (h5 : ((backTo cpos (starEach [] X.env)).any fun x => x.fst) = false)
    (h6 : swapsWith (.Call (.Attribute (.Subscript (.Name x p) a bp) "append" apos) [e] [] cpos) none spos.line X.env = pure false)
    (h1' : attributeBase (.Subscript (.Name x p') a' bp') "append" X.env (eval (.Subscript (.Name x p') a' bp') X.env) = eval (.Subscript (.Name x p') a' bp') X.env)
    (h2' : ((((backTo cpos' (starEach [e'] X.env)).all fun x => !x.fst) && (backToKw cpos' (keywordEach [] X.env)).all fun x => x.fst.isSome) && decide ((([e'] : List Expr).length + 0 + if true = true then 0 else 1) < 30)) = true)
    (h3' : (apos'.endLine == cpos'.line) = true)
    (h4' : starEach [e'] X.env = (false, eval e' X.env) :: starEach [] X.env)
    (h5' : ((backTo cpos' (starEach [] X.env)).any fun x => x.fst) = false)
    (h6' : swapsWith (.Call (.Attribute (.Subscript (.Name x p') a' bp') "append" apos') [e'] [] cpos') none spos'.line X.env = pure false) :
    JNB X [.Expr (.Call (.Attribute (.Subscript (.Name x p) a bp) "append" apos) [e] [] cpos) spos, .Expr (.Call (.Attribute (.Subscript (.Name x p') a' bp') "append" apos') [e'] [] cpos') spos'] i
      (tSeq (tDrop (tBM K "list" rAppend (tOp (rIxL K) (tVar i) ta) (tCons te tNil))) (tDrop (tBM K "list" rAppend (tOp (rIxL K) (tVar i) ta') (tCons te' tNil)))) (mSqN (mApN A B) (mApN A' B')) := by
  subst hK
  have q2 := jnb_app (K := X.K) rfl i ha' he' hN hv hd hcd hs' h1' h2' h3' h4' h5' h6'
  exact ⟨pss_cons (ps_expr (pe_bm PySem.F.plainAttrs_list PySem.F.slot_list_append PySem.F.type_list_append mt_append (pe_ix ix_list (pe_var hN hv hd hcd) ha.pe hs) (pa_cons he.pe pa_nil h4) h1 h2 h3 h4 h5) h6) q2.pe, sqN_sound (apN_sound ha.es he.es) q2.es⟩
section
variable {X : Cx} {tg iter tg2 iter2 : Expr} {wi wi2 : TI} {I I2 : ML} {mg mg2 : MG} {js js2 : List Nat} {g : Shared → Hp → Addr → List (Str × Addr) → List Addr → TG} {g2 : TG} {scope : Scope} {body rest : List Stmt} {tb u : TS} {mb : MN} {m' : MS}
/-- x = [[] for ..]; for ..: x[a].append(e) .. -/
theorem jss_nest (i : Nat) {y : Str} {py spos lpos ep fpos : Pos} (own : List (Str × Nat)) (hN : X.N.Nodup) (hyl : X.env.scope.names.lookup y = some .local)
    (hsw : swapsWith (.ListComp (.List [] ep) [⟨tg, iter, [], 0⟩] scope lpos) (some (.Name y py)) spos.line X.env = pure true) (hi : JI X tg iter wi I) (ok : BlkOk X.N X.env.scope scope own)
    (hg : ∀ (s : Shared) (H : Hp) (C : Addr) (cl : List (Str × Addr)) (fp : List Addr), JG (X.blk s H scope (compEnvC scope cl C X.env) fp) js tg (g s H C cl fp) mg)
    (hp : PassesOwn (model X.prog X.w) X.A X.env X.xe) (hi2 : JI X tg2 iter2 wi2 I2) (hg2 : JG X js2 tg2 g2 mg2) (T : Tame js2 mg2) (hb : JNB X body i tb mb) (h : JSs X rest u m')
    (hy : X.N[i]? = some y := by rfl) (hj : ∀ j ∈ js, j ∈ own.map (·.2) := by decide) (hn : i ∉ js2 := by decide) (hc : X.calm = true := by rfl) (hs : ∀ x, foldedSetIterable iter X.env x = pure x := by intro _; rfl) (hs2 : ∀ x, foldedSetIterable iter2 X.env x = pure x := by intro _; rfl)
    (eg : ∀ (s : Shared) (H : Hp) (C : Addr) (cl : List (Str × Addr)) (fp : List Addr), g s H C cl fp = g X.s_0 X.H_0 0 [] [] := by intro _ _ _ _ _; rfl) :
    JSs X (.Assign [.Name y py] (.ListComp (.List [] ep) [⟨tg, iter, [], 0⟩] scope lpos) spos :: .For tg2 iter2 body [] fpos :: rest)
      (tSeq (tAsg (tLc wi (g X.s_0 X.H_0 0 [] []) tYes (tLst tNil) (own.map (·.2))) (gName i)) (tSeq (tFor wi2 g2 tb) u)) (mSq (mNest i I mg (own.map (·.2)) I2 mg2 mb) m') := by
  have h1 := js_setLcF (spos := spos) (py := py) (lpos := lpos) i own hN hyl hsw hi ok hg (fun _ _ _ _ _ => jts_nil) (fun _ _ _ _ _ => JF.je (jf_lst (pos := ep) ja_nil)) hy hj hc hs eg
  refine ⟨pss_cons h1.pe (pss_cons (ps_for hp hc hi2.pe hg2.pe hb.pe hs2) h.pe), ?_⟩
  intro W Z O env σ H0 H M D R S hm
  refine nest_sound hi.es (hg X.s_0 X.H_0 0 [] []).es hj hi2.es hg2.es T hb.es hn W Z O env σ H0 H { M with nx := fun e => m' M e } { D with nx := u D } R ⟨fun O' env' σ' H' R' s' h' => ?_, S.bk, S.ct, S.rt⟩ hm
  exact h.es W Z O' env' σ' H0 H' M D R' (S.step s') h'
end
theorem nestGo_inv {mg : MG} {mb : MN} {ds : List PyData} {k : List (List PyData) → Cells → Prop} (Inv : Nat → List (List PyData) → Cells → Prop) (step : ∀ (i : Nat) (hi : i < ds.length) (rows : List (List PyData)) (env : Cells) (N : List (List PyData) → Cells → Prop), Inv i rows env → (∀ r e, Inv (i + 1) r e → N r e) → mg ds[i] env fun env' => mb rows env' fun rows' => N rows' env')
    (hend : ∀ r e, Inv ds.length r e → k r e) {rows : List (List PyData)} {env : Cells} (h0 : Inv 0 rows env) : nestGo mg mb k ds rows env := by
  have key : ∀ (j i : Nat), i + j = ds.length → ∀ rows env, Inv i rows env → nestGo mg mb k (ds.drop i) rows env := by
    intro j
    induction j with
    | zero =>
      intro i hi rows env h
      have : i = ds.length := by omega
      subst this
      rw [List.drop_length]
      exact hend _ _ h
    | succ j ih =>
      intro i hi rows env h
      have hlt : i < ds.length := by omega
      rw [List.drop_eq_getElem_cons hlt]
      exact step i hlt rows env (fun r e => nestGo mg mb k (ds.drop (i + 1)) r e) h fun r e h' => ih (i + 1) (by omega) r e h'
  have := key ds.length 0 (by omega) rows env h0
  rw [List.drop_zero] at this
  exact this
theorem nrows_put {n a : Nat} {f : Nat → List PyData} (v : List PyData) : ((List.range n).map f).set a v = (List.range n).map fun x => if x = a then v else f x := by
  apply List.ext_getElem?
  intro j
  rw [List.getElem?_set]
  by_cases e : a = j
  · subst e
    rw [if_pos rfl, List.length_map, List.length_range, List.getElem?_map]
    by_cases h : a < n
    · rw [if_pos h, List.getElem?_range h]
      show _ = some (if a = a then v else f a)
      rw [if_pos rfl]
    · rw [if_neg h, List.getElem?_eq_none (by rw [List.length_range]; omega)]
      rfl
  · rw [if_neg e, List.getElem?_map, List.getElem?_map]
    by_cases h : j < n
    · rw [List.getElem?_range h]
      show _ = some (if j = a then v else f j)
      rw [if_neg (fun z => e z.symm)]
      rfl
    · rw [List.getElem?_eq_none (by rw [List.length_range]; omega)]
      rfl
theorem nrows_at {n a : Nat} {f : Nat → List PyData} (h : a < n) : ((List.range n).map f)[a]? = some (f a) := by
  rw [List.getElem?_map, List.getElem?_range h]
  rfl
end Dw

set_option maxRecDepth 100000
set_option maxHeartbeats 4000000
/-! Dw39: xs[i], y = (a, b), xs a list of one's own -/
namespace Dw
open PySem PySem.Spec PyProof.Rows L2
variable [XCtx]
def mPutN (i j : Nat) (B1 A : ME) : MS := fun M env => i ≠ j ∧ A env fun d => onU d fun es => match es with
  | [a, b] => onOwn env i fun ds => B1 env fun k => onI k fun k => ∃ q, ixN ds.length k = some q ∧ M.nx ((env.set i (.own (ds.set q a))).set j (.val b))
  | _ => False
section
variable {X : Cx} {e : Expr} {te t1 : TE} {A B1 : ME} {pos : Pos}
theorem putN_sound {K : PySem.W.Frag} {i jj : Nat} (h : ES te A) (h1 : BS t1 B1) : SS (tAsg te (gTup K 2 (gCons (gSub (tVar i) t1 rSetL) (gCons (gName jj) gNil)))) (mPutN i jj B1 A) := by
  intro W Z O env σ H0 H M D R S hm
  obtain ⟨nij, hm⟩ := hm
  refine h W Z O env σ H0 H _ _ R hm fun d v H1 p1 g1 n1 => ?_
  have R1 := R.tr g1
  have main : ∀ (va vb : V) (a b : PyData), Dn H1 (ZO Z O) va a → Dn H1 (ZO Z O) vb b → (onOwn env i fun ds => B1 env fun k => onI k fun k => ∃ q, ixN ds.length k = some q ∧ M.nx ((env.set i (.own (ds.set q a))).set jj (.val b))) →
      gCons (gSub (tVar i) t1 rSetL) (gCons (gName jj) gNil) [va, vb] σ H1 D.nx := by
    intro va vb a b na nb p1
    obtain ⟨ds, q, p1⟩ := onOwn_iff p1
    obtain ⟨p, xs, e1, o, hp, n⟩ := R1.cell i _ q
    refine ⟨_, _, rfl, ?_⟩
    refine ⟨_, e1, h1 W Z O env σ H0 H1 _ _ R1 p1 fun kd kv H2 p2 g2 nk => ?_⟩
    obtain ⟨k, rfl, j, hj, p2⟩ := onI_iff p2
    have R2 := R1.tr g2
    have hp2 := g2.keep _ _ (R1.om p o) hp
    have nn := n.ge g2 R1.mz
    have na2 := na.ge g2 R1.mz
    have ne2 : H2 p ≠ none := by rw [hp2]; exact Option.some_ne_none _
    have R3 := R2.upOwn q e1 o (DnAll.set na2 j nn)
    refine ⟨p, xs, k, j, rfl, nk.int, hp2, by rw [nn.length]; exact hj, ?_⟩
    have kp : Kp Z O H2 (upd H2 p (.lst (xs.set j va))) := (Stp.put o ne2).kp
    have nb3 : Dn (upd H2 p (.lst (xs.set j va))) (ZO Z O) vb b := Dn.tr (fun a o' z e => ⟨kp a o' z e, z⟩) _ _ (nb.ge g2 R1.mz)
    refine ⟨_, _, rfl, rfl, ?_⟩
    exact ((S.tr R g1).tr R1 g2).nx O _ _ _ (R3.set nb3 jj) (.put o ne2) p2
  obtain ⟨es, rfl, p1⟩ := onU_iff p1
  cases n1 with
  | tup ht nz r =>
    cases r with
    | nil => exact p1.elim
    | cons na r2 =>
      cases r2 with
      | nil => exact p1.elim
      | cons nb r3 =>
        cases r3 with
        | cons _ _ => exact p1.elim
        | nil => exact ⟨_, _, rfl, SqT.of ht, rfl, main _ _ _ _ na nb p1⟩
theorem js_putN {K : PySem.W.Frag} (hK : X.K = K) (i j : Nat) {x y : Str} {xp1 yp tp1 tp : Pos} {kt : Nat} {i1 : Expr} (hnd : X.N.Nodup) (h : JE X e te A) (b1 : JB X i1 t1 B1) (hN : X.N[i]? = some x) (hv : Vis X.env.scope x) (hd : (x == ("__debug__" : Str)) = false)
    (hcd : (x == ("__classdict__" : Str)) = false) (hj : X.N[j]? = some y) (hy : Loc X.env.scope y) (hf : X.fn y = true ∨ X.env.scope.names.lookup y = some .local) (hc : X.calm = true)
    (ha1 : ∀ v, assign (.Subscript (.Name x xp1) i1 tp1) X.env v = (do
      let ov ← holding [v] (eval (.Name x xp1) X.env)
      let iv ← holding [v, ov] (eval i1 X.env)
      standAt tp1
      holding [v, ov, iv] (setItem ov iv v)
      release [v, ov, iv] []))
    (q1 : (assignEach [.Subscript (.Name x xp1) i1 tp1, .Name y yp] X.env).map (·.2) = assign (.Subscript (.Name x xp1) i1 tp1) X.env :: (assignEach [.Name y yp] X.env).map (·.2))
    (q2 : (assignEach [.Name y yp] X.env).map (·.2) = assign (.Name y yp) X.env :: (assignEach [] X.env).map (·.2))
    (hn : (assignEach [.Subscript (.Name x xp1) i1 tp1, .Name y yp] X.env).length = 2) (hst : (assignEach [.Subscript (.Name x xp1) i1 tp1, .Name y yp] X.env).findIdx? (·.1) = none)
    (hs : swapsWithSole [.Tuple [.Subscript (.Name x xp1) i1 tp1, .Name y yp] kt tp] e pos.line X.env = pure false) (hw : swappedStores [.Tuple [.Subscript (.Name x xp1) i1 tp1, .Name y yp] kt tp] e X.env = pure none)
    (h1 : (assignEach [.Tuple [.Subscript (.Name x xp1) i1 tp1, .Name y yp] kt tp] X.env).map (·.2) = [assign (.Tuple [.Subscript (.Name x xp1) i1 tp1, .Name y yp] kt tp) X.env]) :
    JS X (.Assign [.Tuple [.Subscript (.Name x xp1) i1 tp1, .Name y yp] kt tp] e pos) (tAsg te (gTup K 2 (gCons (gSub (tVar i) t1 rSetL) (gCons (gName j) gNil)))) (mPutN i j B1 A) := by
  subst hK
  exact ⟨ps_asg h.pe (pg_tup hc (pgs_cons (pg_sub (pe_var hN hv hd hcd) b1.pe set_list ha1) (pgs_cons (pg_name hnd hj hy hf) pgs_nil q2) q1) hn hst) hs hw h1, putN_sound h.es b1.es⟩
end
/-- a, b = a new list, data -/
def mParO (i j : Nat) (A : ML) (B : ME) : MS := fun M env => A env fun xs => B env fun y => M.nx ((env.set i (.own xs)).set j (.val y))
section
variable {X : Cx} {i j : Nat} {x y : Str} {a b : Expr} {ta tb' : TE} {px py pt pos : Pos} {kt k2 : Nat} {pt2 : Pos} {A' : ML} {B : ME}
theorem js_parO (i j : Nat) {x y : Str} (hN : X.N.Nodup) (ha : JF X a ta A') (hb : JE X b tb' B) (hx : X.env.scope.names.lookup x = some .local) (hy : X.env.scope.names.lookup y = some .local) (hi : X.N[i]? = some x := by rfl) (hj : X.N[j]? = some y := by rfl) (hij : i ≠ j := by decide)
    (hs1 : starEach [a, b] X.env = (false, eval a X.env) :: starEach [b] X.env := by rfl) (hs2 : starEach [b] X.env = (false, eval b X.env) :: starEach [] X.env := by rfl)
    (hw : swappedStores [.Tuple [.Name x px, .Name y py] kt pt] (.Tuple [a, b] k2 pt2) X.env = pure (some [x, y]) := by rfl) (hs : swapsWithSole [.Tuple [.Name x px, .Name y py] kt pt] (.Tuple [a, b] k2 pt2) pos.line X.env = pure false := by rfl) (hc : X.calm = true := by rfl) :
    JS X (.Assign [.Tuple [.Name x px, .Name y py] kt pt] (.Tuple [a, b] k2 pt2) pos) (tPar i j (tCons ta (tCons tb' tNil))) (mParO i j A' B) := ⟨ps_par hc hN hi hj hij hx hy (pa_cons ha.pe (pa_cons hb.pe pa_nil hs2) hs1) hw hs, fun W Z O env σ H0 H M D R S hm => by
  refine ha.es W Z O env σ H0 H _ _ R hm fun d1 p1 xs1 H1 q1 g1 hp1 h1 n1 => ?_
  have R1 := R.take g1 hp1 h1
  refine hb.es W Z _ env σ H0 H1 _ _ R1 q1 fun y v H2 q2 g2 n2 => ?_
  refine ⟨.ref p1, v, rfl, ?_⟩
  have R2 := R1.tr g2
  have h12 : H2 p1 = some (.lst xs1) := g2.keep _ _ (R1.om p1 (.inr rfl)) h1
  have n12 : DnAll H2 (ZO Z fun a => O a ∨ a = p1) xs1 d1 := n1.ge g2 R1.mz
  have R3 := R2.setOwn (p := p1) (.inr rfl) (fun k ds e => R.takeNo hp1 k ds e) h12 n12 i
  exact ((S.step (.take g1 R.wl R.mz hp1)).tr R1 g2).next (R3.set n2 j) q2⟩
end
end Dw

set_option maxRecDepth 100000
set_option maxHeartbeats 4000000
/-! Dw40: a call that tells a list of whole numbers, handed only what holds no list: the list is new -/
namespace Dw
open PySem PySem.Spec PyProof.Rows L2
variable [XCtx]
mutual
def noL : PyData → Bool
  | .none => true
  | .bool _ => true
  | .int _ => true
  | .str _ => true
  | .tuple ds => noLs ds
  | _ => false
def noLs : List PyData → Bool
  | [] => true
  | d :: ds => noL d && noLs ds
end
section
variable {H : Hp} {Z : Addr → Prop}
mutual
theorem dn_noL : ∀ (v : V) (d : PyData), Dn H Z v d → noL d = true → Dn H (fun a => NT (H a)) v d
  | _, _, .non, _ => .non
  | _, _, .bl b, _ => .bl b
  | _, _, .int i, _ => .int i
  | _, _, .str x, _ => .str x
  | _, _, .lst h n r, e => by simp [noL] at e
  | _, _, .tup h n r, e => .tup h (fun z => let ⟨_, q, _⟩ := h; (z.2 _).2 _ q) (dn_noLs _ _ r (by simpa only [noL] using e))
  | _, _, .dic h n, e => by simp [noL] at e
  | _, _, .dic1 h n r, e => by simp [noL] at e
  | _, _, .dicN h n, e => by simp [noL] at e
theorem dn_noLs : ∀ (vs : List V) (ds : List PyData), DnAll H Z vs ds → noLs ds = true → DnAll H (fun a => NT (H a)) vs ds
  | _, _, .nil, _ => .nil
  | _, _, .cons a b, e => by
    simp only [noLs, Bool.and_eq_true] at e
    exact .cons (dn_noL _ _ a e.1) (dn_noLs _ _ b e.2)
end
end
def noLC : Cell → Prop
  | .val d => noL d = true
  | .well => True
  | _ => False
theorem args_noL {W : Wl} {H : Hp} {Z : Addr → Prop} : ∀ {vs : List V} {cs : List Cell}, ArgAll W H Z vs cs → (∀ c ∈ cs, noLC c) → ArgAll W H (fun a => NT (H a)) vs cs
  | _, _, .nil, _ => .nil
  | _, _, .cons (d := c) a r, h => by
    refine .cons ?_ (args_noL r fun x hx => h x (List.mem_cons_of_mem _ hx))
    have hc := h c List.mem_cons_self
    cases c with
    | val d => exact dn_noL _ _ a hc
    | well => exact a
    | _ => exact a.elim
def mCallF (pre : Pre) (M : MC) : ML := fun env P => M env fun cs => (∀ c ∈ cs, noLC c) ∧ pre cs fun r => ∃ ns : List Int, r = .list (ns.map PyData.int) ∧ P (ns.map PyData.int)
section
variable {X : Cx} {n : Nat} {tr : TA} {M : MC} {e : Expr} {es : List Expr} {pos : Pos}
theorem callF_sound {pre : Pre} {E : XK} (h : CS n tr M) : FS (tCall (SpD n pre) [] E tr) (mCallF pre M) := by
  intro W Z O env σ H0 H P Q R hm k
  refine h W Z O env σ H0 H _ _ R hm fun cs vs H1 p1 l1 g1 a1 => ?_
  obtain ⟨nl, p1⟩ := p1
  have R1 := R.tr g1
  show SpD n pre (vs ++ []) H1 Q E
  rw [List.append_nil]
  refine ⟨by rw [a1.length, l1], W, fun a => NT (H1 a), cs, _, R1.wl, fun a m => R1.wl.nt m, fun a h => h, args_noL a1 nl, p1, fun d v H2 p2 g2 n2 => ?_⟩
  obtain ⟨ns, rfl, p2⟩ := p2
  cases n2 with
  | lst hp nz nn =>
    rename_i p xs
    have h1 : H1 p = none := nt_none hp (fun o e => g2.keep p o (fun m => nz (R1.wl.nt m)) e) nz
    have ex := nn.ints
    subst ex
    exact k _ p _ H2 p2 (g1.trans g2) (g1.fresh R.wl h1) hp (DnAll.of_ints ns)
theorem j_callF {k : Nat} {x : Str} {st : Stmt} {ps : List Str} {pre : Pre} {p : Pos} (c : Cal X.prog X.w X.K X.mg X.base k x st ps n pre) (hr : Room k X.A) (hG : X.A.guards = some []) (ha : JC X n (e :: es) tr M) (hg : Gl X x := by rfl) (hdb : (x == ("__debug__" : Str)) = false := by decide) (he : starEach (e :: es) X.env = (false, eval e X.env) :: starEach es X.env := by rfl)
    (hpl : (backTo pos (starEach es X.env)).any (·.1) = false := by rfl) : JF X (.Call (.Name x p) (e :: es) [] pos) (tCall (SpD n pre) [] E0 tr) (mCallF pre M) := by
  obtain ⟨f, fd, F, fn, q, b⟩ := c.ex
  exact ⟨(je_call F hr hG q fn.kp b pass0 ha hg hdb he hpl).pe, callF_sound ha.es⟩
end
end Dw

set_option maxRecDepth 100000
set_option maxHeartbeats 4000000
/-! Dw41: len(set(t)), t a tuple of whole numbers; x in t as a value, over deep tuples. -/
namespace Dw
open PySem PySem.Spec PyProof.Rows L2
variable [XCtx]
/-- how many unlike whole numbers a tuple has -/
def mLenSetU (A : ME) : ME := fun env P => A env fun d => onU d fun xs => ∃ ns : List Int, xs = ns.map PyData.int ∧ ns.length ≤ 4000 ∧ ∀ L : List Int, L.Nodup → (∀ k, k ∈ L ↔ k ∈ ns) → P (.int (L.length : Nat))
def tLenSetU (K : PySem.W.Frag) (ta : TE) : TE := fun σ H Q => ta σ H fun x H1 => ∃ (l : Addr) (ns : List Int), x = .ref l ∧ SqT K H1 l (ns.map V.int) ∧ ns.length ≤ 4000 ∧ ∀ L : List Int, L.Nodup → (∀ k, k ∈ L ↔ k ∈ ns) → Q (.int (L.length : Nat)) H1
section
variable {X : Cx} {a : Expr} {ta : TE} {A : ME} {pos : Pos}
theorem pe_lenSetU {p p2 q : Pos} (hg : Gl X "len") (hm : X.mg "len" = none) (hg2 : Gl X "set") (hm2 : X.mg "set" = none) (ha : PE X a ta) (hc : X.calm = true := by rfl)
    (na : starEach [a] X.env = (false, eval a X.env) :: starEach [] X.env := by rfl) : PE X (.Call (.Name "len" p) [.Call (.Name "set" p2) [a] [] q] [] pos) (tLenSetU X.K ta) := by
  constructor
  intro pins s σ H Q I h
  refine Call_ (ld_blt I hg hm boot_len (PyProof.Rows.callWith_builtin1 (PyProof.Rows.args_cons (Call_ (ld_blt I hg2 hm2 boot_set ?_)) rfl) rfl rfl))
  refine PyProof.Rows.callWith_type1 (PyProof.Rows.args_cons (thn (ha.run pins s σ H _ I h) ?_) na) na rfl
  rintro v s1 ⟨x, H1, I1, r1, l, ns, rfl, hq, hl, q1⟩
  cases r1
  refine PyProof.Rows.args_nil ?_
  obtain ⟨its, r, pl, hz⟩ := I1.tuple hq
  refine call_set_tupI ns (I1.ok.hd hc) pl (by simpa using r.ints) (by unfold scanBound; omega) fun h' tk c hS hle hk => PyProof.Rows.args_nil ?_
  obtain ⟨o, es, ep, t, ho, hex, hd, _, nd, mem, _, hf, hn, _⟩ := hS
  have e1 : es.size = (es.toList.map keyOf).length := by rw [List.length_map, Array.length_toList]
  exact call_len_set ho hex hd hf (by rw [hn]; omega) ⟨.int ((es.toList.map keyOf).length : Nat), H1, (I1.kept (h' := h') (t' := tk) fun b o e => hk b o e).tok _, ⟨_, by rw [e1]⟩, q1 _ nd fun k => by
    rw [← mem k, decide_eq_true_eq]⟩
theorem je_lenSetU {p p2 q : Pos} (hm : X.mg "len" = none) (hm2 : X.mg "set" = none) (ha : JB X a ta A) (hg : Gl X "len" := by rfl) (hg2 : Gl X "set" := by rfl) (hc : X.calm = true := by rfl)
    (na : starEach [a] X.env = (false, eval a X.env) :: starEach [] X.env := by rfl) : JE X (.Call (.Name "len" p) [.Call (.Name "set" p2) [a] [] q] [] pos) (tLenSetU X.K ta) (mLenSetU A) := ⟨pe_lenSetU hg hm hg2 hm2 ha.pe hc na, by
  intro W Z O env σ H0 H P Q R hm k
  refine ha.es W Z O env σ H0 H _ _ R hm fun d v H1 p1 g1 n1 => ?_
  obtain ⟨xs, rfl, ns, rfl, hl, p1⟩ := onU_iff p1
  obtain ⟨l, ys, rfl, h1, _, n⟩ := n1.tuple
  obtain rfl := n.ints
  exact ⟨l, ns, rfl, SqT.of h1, hl, fun L h2 h3 => k _ _ H1 (p1 L h2 h3) g1 (.int _)⟩⟩
end
section
variable {X : Cx} {a b : Expr} {ta tb : TE} {A B : ME} {pos : Pos}
theorem je_inT (hu : X.A.units + 65 < cLine) (ha : JB X a ta A) (hb : JB X b tb B) (hm : behindInMarks .In b = false := by rfl) : JE X (.Compare a [.In] [b] pos) (tOp (rInT X.K false) ta tb) (m2 (fInT false) A B) := je_cmp (op_inT hu) s_inT ha hb hm
end
/-! t == (), t a tuple of anything -/
def rEqN (K : PySem.W.Frag) : R2 := fun x y H Q => ∃ (a b : Addr) (vs : List V), x = .ref a ∧ y = .ref b ∧ SqT K H a vs ∧ SqT K H b [] ∧ Q (.bl (decide (vs.length = 0))) H
section
variable {X : Cx}
theorem op_eqN (hu : X.A.units + 64 < cLine) : OpR X (compareOp .Eq) (rEqN X.K) := by
  intro pins s σ H x y v u Q I rx ry h
  obtain ⟨a, b, vs, rfl, rfl, h1, h2, q⟩ := h
  cases rx
  cases ry
  obtain ⟨its, r, tp, hz⟩ := I.tuple h1
  obtain ⟨its2, r2, tp2, hz2⟩ := I.tuple h2
  have e2 : its2.toArray.size = 0 := by rw [List.size_toArray, ← r2.length]; rfl
  have e1 : its.toArray.size = vs.length := by rw [List.size_toArray, ← r.length]
  refine PySem.SeqAt.eq_tupleAt (e := fun _ => true) tp tp2 (by omega) (fun j j1 j2 => absurd j2 (by rw [e2]; exact Nat.not_lt_zero _)) ?_
  refine ⟨.bl (decide (vs.length = 0)), H, I, ?_, q⟩
  rw [e1, e2, Nat.min_zero]
  show PySem.Value.bool (true && (vs.length == 0)) = .bool (decide (vs.length = 0))
  rw [Bool.true_and]
  congr 1
end
def fEqN (x y : PyData) (P : PyData → Prop) : Prop := onU x fun ds => onU y fun es => es = [] ∧ P (.bool (decide (ds.length = 0)))
theorem s_eqN {K : PySem.W.Frag} : R2S (rEqN K) fEqN := by
  intro W Z O env σ H0 H x y d d' P Q R hx hy hf k
  obtain ⟨ds, rfl, h1⟩ := onU_iff hf
  obtain ⟨es, rfl, rfl, h2⟩ := onU_iff h1
  obtain ⟨p, ys, rfl, hp, _, n⟩ := hx.tuple
  obtain ⟨p2, ys2, rfl, hp2, _, n2⟩ := hy.tuple
  cases n2
  refine ⟨p, p2, ys, rfl, rfl, SqT.of hp, SqT.of hp2, ?_⟩
  rw [n.length]
  exact k _ _ H h2 .refl (.bl _)
section
variable {X : Cx} {a b : Expr} {ta tb : TE} {A B : ME} {pos : Pos}
theorem jt_eqN (hu : X.A.units + 64 < cLine) (ha : JB X a ta A) (hb : JB X b tb B) : JT X (.Compare a [.Eq] [b] pos) (tTest (tOp (rEqN X.K) ta tb)) (mB (m2 fEqN A B)) := jt_cmp (op_eqN hu) s_eqN ha hb (nomark _)
end
/-! x == s, s a text, x anything but a dict -/
def rEqS (K : PySem.W.Frag) : R2 := fun x y H Q => ∃ z, y = .str z ∧ ((scal x y = true ∧ Q (.bl (decide (x = y))) H) ∨ ∃ (a : Addr) (vs : List V), x = .ref a ∧ (SqT K H a vs ∨ SqL K H a vs) ∧ Q (.bl false) H)
section
variable {X : Cx}
theorem op_eqS (hu : X.A.units + 64 < cLine) : OpR X (compareOp .Eq) (rEqS X.K) := by
  intro pins s σ H x y v u Q I rx ry h
  obtain ⟨z, rfl, h | ⟨a, vs, rfl, h1, q⟩⟩ := h
  · exact op_eq pins s σ H x (.str z) v u Q I rx ry h
  · cases rx
    obtain ⟨t, rfl⟩ := ry
    rcases h1 with h1 | h1
    · obtain ⟨its, r, tp, hz⟩ := I.tuple h1
      exact PySem.SeqAt.RcAt.tuple_str z t tp (by omega) _ _ _ _ ⟨.bl false, H, I, rfl, q⟩
    · obtain ⟨its, r, tp, hz⟩ := I.list h1
      exact PySem.SeqAt.RcAt.list_str z t tp.isList (by omega) _ _ _ _ ⟨.bl false, H, I, rfl, q⟩
end
def noDc : PyData → Bool
  | .dict _ => false
  | _ => true
def fEqS (x y : PyData) (P : PyData → Prop) : Prop := onS y fun z => noDc x = true ∧ P (.bool (PyData.eqv x (.str z)))
theorem s_eqS {K : PySem.W.Frag} : R2S (rEqS K) fEqS := by
  intro W Z O env σ H0 H x y d d' P Q R hx hy hf k
  obtain ⟨z, rfl, nd, hf⟩ := onS_is hf
  refine ⟨z, hy.str, ?_⟩
  cases d with
  | none => rw [hx.none, hy.str]; exact .inl ⟨rfl, k _ _ H hf .refl (.bl _)⟩
  | bool b => rw [hx.bool, hy.str]; exact .inl ⟨rfl, k _ _ H hf .refl (.bl _)⟩
  | int b => rw [hx.int, hy.str]; exact .inl ⟨rfl, k _ _ H hf .refl (.bl _)⟩
  | str b =>
    rw [hx.str, hy.str]
    refine .inl ⟨rfl, k _ _ H hf .refl ?_⟩
    rw [show decide (V.str b = V.str z) = PyData.eqv (.str b) (.str z) from by rw [Bool.eq_iff_iff]; simp [PyData.eqv]]
    exact .bl _
  | list xs =>
    obtain ⟨p, ys, rfl, hp, n⟩ := hx.list
    exact .inr ⟨p, ys, rfl, .inr (SqL.of hp), k _ _ H hf .refl (.bl _)⟩
  | tuple xs =>
    obtain ⟨p, ys, rfl, hp, _, n⟩ := hx.tuple
    exact .inr ⟨p, ys, rfl, .inl (SqT.of hp), k _ _ H hf .refl (.bl _)⟩
  | dict _ => cases nd
section
variable {X : Cx} {a b : Expr} {ta tb : TE} {A B : ME} {pos : Pos}
theorem jt_eqS (hu : X.A.units + 64 < cLine) (ha : JB X a ta A) (hb : JB X b tb B) : JT X (.Compare a [.Eq] [b] pos) (tTest (tOp (rEqS X.K) ta tb)) (mB (m2 fEqS A B)) := jt_cmp (op_eqS hu) s_eqS ha hb (nomark _)
end
/-! sorted(t), t a tuple of whole numbers -/
def rSortU : List V → Hp → VK → Prop := fun vs H Q => ∃ (a : Addr) (ns : List Int), vs = [V.ref a] ∧ TupAt H a (ns.map V.int) ∧ ∀ (ns' : List Int) (p : Addr), ns'.Perm ns → ns'.Pairwise (· ≤ ·) → H p = none → Q (.ref p) (upd H p (.lst (ns'.map V.int)))
section
variable {X : Cx}
theorem cr_sortU : CallR X (.builtin "sorted") rSortU := by
  intro pins s σ H vs us Q I r h
  obtain ⟨a, ns, rfl, hs, q⟩ := h
  obtain ⟨its, rv, ⟨o, ho, hc, n0, hd0⟩, zs⟩ := I.tuple (SqT.of hs)
  obtain ⟨u, rfl, ru⟩ := vals1 r
  obtain rfl : u = Value.ref a := ru
  have hi := rv.ints
  have len := rv.length
  refine sorted_walked SrtO.swo_int (fun vs => vs = its) (fun R hR => wpAny_collect_seq a (.inr rfl) ho hc hd0 (fun h' kp => ?_) (by rw [List.size_toArray, ← len]; exact zs)) (fun vs hv h2 h1 tk a' ha kk => by subst hv; exact SrtO.ints_sortable hi h2) fun h' hf tk d vs out hw h1 h2 hz kp old hd hn => ?_
  · have := hR h' s.toks its rfl (by rw [← len]; exact zs) kp
    simpa using this
  · rw [hw] at h2
    obtain ⟨k1, k2, k3⟩ := SrtO.ints_out hi h1 h2
    obtain ⟨n, hn⟩ := hn
    have I1 : Inv X pins σ H { s with heap := h', toks := tk } := I.kept kp
    have hlen : ((out.map SrtO.iv).map V.int).length ≤ sizeLine := by
      rw [List.length_map, k2.length_eq]
      rw [List.length_map] at zs
      exact zs
    exact ⟨.ref d, upd H d (.lst ((out.map SrtO.iv).map V.int)), I1.laid (t' := tk) old hd ⟨hlen, out, n, vals_of_ints k1, hn⟩, rfl, q _ d k2 k3 (I1.hok.fresh hd)⟩
end
def fSortU (ds : List PyData) (P : List PyData → Prop) : Prop := on1 ds fun d => onU d fun xs => ∃ ns : List Int, xs = ns.map PyData.int ∧ ∀ ns' : List Int, ns'.Perm ns → ns'.Pairwise (· ≤ ·) → P (ns'.map PyData.int)
theorem rf_sortU : RF rSortU fSortU := by
  intro W Z O env σ H0 H vs ds P Q R hv hf k
  obtain ⟨d, rfl, hf⟩ := on1_iff hf
  obtain ⟨v, rfl, hw⟩ := hv.one
  obtain ⟨xs, rfl, ns, rfl, hp⟩ := onU_iff hf
  obtain ⟨p, ys, rfl, h1, _, n⟩ := hw.tuple
  obtain rfl := n.ints
  exact ⟨p, ns, rfl, h1, fun ns' q h2 h3 hq => k _ q _ _ (hp ns' h2 h3) (.new hq) hq upd_same (DnAll.of_ints ns')⟩
section
variable {X : Cx} {e : Expr} {t : TA} {M : ML} {pos p : Pos}
theorem jf_sortU (hm : X.mg "sorted" = none) (ha : JAb X [e] t M) (hg : Gl X "sorted" := by rfl) (he : starEach [e] X.env = (false, eval e X.env) :: starEach [] X.env := by rfl) : JF X (.Call (.Name "sorted" p) [e] [] pos) (tCB rSortU t) (mBlF fSortU M) := jf_B cr_sortU rf_sortU hm (by decide +kernel) ha hg (by decide) (by decide) he rfl
end
end Dw

set_option maxRecDepth 100000
set_option maxHeartbeats 4000000
/-! Dw42: min of four, min of a list of tuples of whole numbers, dicts of whole numbers told to the caller, x = xs.pop(e). -/
namespace PySem
open Sem (wp)
section
variable {prog : Program} {w : World} {A : Around} {E : Value → Shared → Prop} {s : Shared}
theorem dw_args_min4 (a b c d : Value) : argsOk "min" ⟨[a, b, c, d], []⟩ := by unfold argsOk; kernel_rfl
theorem dw_min_four {a b c d : Value} {Q : Value → Shared → Prop}
    (h : wpAny (model prog w) A.in1 (pyIter (.ref s.heap.objs.size)) (fun it s₂ => ∃ I fp wr n P St bt, it = .ref I ∧ Walks prog w A.in1 I fp wr n P St ∧ St 0 s₂.heap ∧ (∀ b ∈ fp, b < s₂.heap.objs.size) ∧ 0 < n ∧ CmpOf prog w A.in1 .Lt P bt ∧
      ∀ v h' tk, P (argBest bt (n - 1)) v → (∀ b o, b ∉ wr → s₂.heap.get? b = some o → h'.get? b = some o) → Q v { s₂ with heap := h', toks := tk }) E
      { s with heap := s.heap.push { cls := .type "tuple", data := .seq #[a, b, c, d] } }) :
    wpAny (model prog w) A (call (.builtin "min") [a, b, c, d]) Q E s := by
  have hname : (toString "min" ++ toString ".loop" : String) = "min.loop" := by decide
  refine call_function_tree F.kind_min F.plain_min F.entry_min (dw_args_min4 _ _ _ _) ?_
  show wpAny _ A.in1 (Builtin.Builtins.bindParams "min" ["key", "default"] 0 ⟨[], []⟩ >>= _) _ _ s
  refine wpAny_bind (wpAny_of_eq (show Builtin.Builtins.bindParams "min" ["key", "default"] 0 ⟨[], []⟩ = pure [none, none] from rfl) ?_)
  show wpAny _ A.in1 (newTuple [a, b, c, d] >>= _) _ _ s
  refine wpAny_bind (wpAny_newObj_type ?_)
  refine wpAny_bind (wpAny_mono h (fun it s₂ h₂ => ?_) fun _ _ e => e)
  obtain ⟨I, fp, wr, n, P, St, bt, rfl, W, hst, hfp, hn, hcmp, hQ⟩ := h₂
  refine wpAny_bind (wpAny_newObj_type ?_)
  have hSf : s₂.heap.objs.size ∉ fp := fun hm => Nat.lt_irrefl _ (hfp _ hm)
  rw [hname]
  refine wpAny_pure ⟨plainId_quiet F.plain_min_loop _, codeAny_min_loop_first W bt hcmp s₂.heap.objs.size hSf hn (W.frame _ _ _ hst fun b _ o e => Heap.get?_push_of_some _ e) (Heap.get?_push_size _ rfl) fun v h' tk hP hk => ?_⟩
  exact hQ v h' tk hP fun b o hbw e => hk b o hbw (Nat.ne_of_lt (Heap.lt_size e)) (Heap.get?_push_of_some _ e)
end
end PySem
namespace Dw
open PySem PySem.Spec PyProof.Rows L2
def rMin4 : List V → Hp → VK → Prop := fun vs H Q => ∃ a b c d : Int, vs = [.int a, .int b, .int c, .int d] ∧ ∀ m : Int, m ∈ [a, b, c, d] → (∀ y ∈ [a, b, c, d], m ≤ y) → Q (.int m) H
theorem cr_min4 {X : Cx} (hc : X.calm = true) : CallR X (.builtin "min") rMin4 := by
  intro pins s σ H vs us Q I r h
  obtain ⟨a, b, c, d, rfl, q⟩ := h
  obtain ⟨⟩ | ⟨⟨t1, rfl⟩, ⟨⟩ | ⟨⟨t2, rfl⟩, ⟨⟩ | ⟨⟨t3, rfl⟩, ⟨⟩ | ⟨⟨t4, rfl⟩, ⟨⟩⟩⟩⟩⟩ := r
  have hT : (s.heap.push { cls := .type "tuple", data := .seq #[.int a t1, .int b t2, .int c t3, .int d t4] }).IsTuple s.heap.objs.size (intItems #[(a, t1), (b, t2), (c, t3), (d, t4)]) := ⟨_, Heap.get?_push_size _ rfl, rfl, 0, by simp [intItems]⟩
  refine dw_min_four (wpAny_pyIter_tuple hT ?_)
  have hsz : (s.heap.push { cls := .type "tuple", data := .seq #[.int a t1, .int b t2, .int c t3, .int d t4] }).objs.size = s.heap.objs.size + 1 := Heap.size_push ..
  refine ⟨_, [_, s.heap.objs.size], [_], _, _, _, _, rfl, Walks.tuple (A := X.A.in1) (I.ok.hd hc) _ s.heap.objs.size (by rw [hsz]; exact Nat.ne_of_lt (Nat.lt_succ_self _)) (intItems #[(a, t1), (b, t2), (c, t3), (d, t4)]),
    ⟨⟨_, Heap.get?_push_size _ rfl, rfl, rfl⟩, hT.push _⟩, fun e he => ?_, by simp [intItems], CmpOf.ints_lt (numAt #[(a, t1), (b, t2), (c, t3), (d, t4)]) (fun _ _ => intItems_at), fun v h' tk hP hk => ?_⟩
  · show e < ((s.heap.push _).push _).objs.size
    rw [Heap.size_push, hsz]
    rcases List.mem_cons.mp he with rfl | he
    · rw [hsz]; exact Nat.lt_succ_self _
    · rcases List.mem_cons.mp he with rfl | he
      · exact Nat.lt_succ_of_lt (Nat.lt_succ_self _)
      · cases he
  · obtain ⟨h1, h2⟩ := argBest_lt (numAt #[(a, t1), (b, t2), (c, t3), (d, t4)]) 3
    have hn : (intItems #[(a, t1), (b, t2), (c, t3), (d, t4)]).size - 1 = 3 := by simp [intItems]
    rw [hn] at hP
    obtain ⟨t, rfl⟩ := intItems_at hP
    have hold : ∀ d o, s.heap.get? d = some o → h'.get? d = some o := fun d o e => by
      refine hk d o (fun hm => ?_) (Heap.get?_push_of_some _ (Heap.get?_push_of_some _ e))
      rcases List.mem_cons.mp hm with e1 | hm
      · have := Heap.lt_size e; rw [e1, hsz] at this; exact Nat.lt_irrefl _ (Nat.lt_of_succ_lt this)
      · cases hm
    have hv : ∀ i, i ≤ 3 → numAt #[(a, t1), (b, t2), (c, t3), (d, t4)] i ∈ [a, b, c, d] := fun i hi => by
      rcases i with _ | _ | _ | _ | i
      · simp [numAt]
      · simp [numAt]
      · simp [numAt]
      · simp [numAt]
      · omega
    refine ⟨.int _, H, I.kept (t' := tk) hold, ⟨t, rfl⟩, q _ (hv _ h1) fun y hy => ?_⟩
    have g0 := h2 0 (by omega)
    have g1 := h2 1 (by omega)
    have g2 := h2 2 (by omega)
    have g3 := h2 3 (by omega)
    simp only [List.mem_cons, List.not_mem_nil, or_false] at hy
    rcases hy with rfl | rfl | rfl | rfl
    · exact g0
    · exact g1
    · exact g2
    · exact g3
theorem dataLt_tI (q r : List Int) : PySem.W.dataLt (tI q) (tI r) = decide (q < r) := by
  show PySem.W.dataLt (.tuple (q.map PyData.int)) (.tuple (r.map PyData.int)) = _
  rw [PySem.W.dataLt_tuple, ← PySem.W.dataLt_ints]
  rfl
theorem argBest_row (g : Nat → List Int) : ∀ k, argBest (fun i j => decide (g i < g j)) k ≤ k ∧ ∀ j, j ≤ k → g (argBest (fun i j => decide (g i < g j)) k) ≤ g j
  | 0 => ⟨Nat.le_refl _, fun j hj => by
    obtain rfl : j = 0 := by omega
    exact List.le_refl _⟩
  | k + 1 => by
    obtain ⟨h1, h2⟩ := argBest_row g k
    by_cases c : g (k + 1) < g (argBest (fun i j => decide (g i < g j)) k)
    · have e : argBest (fun i j => decide (g i < g j)) (k + 1) = k + 1 := by
        show (if decide (g (k + 1) < g (argBest (fun i j => decide (g i < g j)) k)) = true then k + 1 else _) = _
        rw [if_pos (decide_eq_true c)]
      rw [e]
      refine ⟨Nat.le_refl _, fun j hj => ?_⟩
      rcases Nat.lt_or_ge j (k + 1) with z | z
      · exact List.le_trans (List.le_of_lt c) (h2 j (by omega))
      · obtain rfl : j = k + 1 := by omega
        exact List.le_refl _
    · have e : argBest (fun i j => decide (g i < g j)) (k + 1) = argBest (fun i j => decide (g i < g j)) k := by
        show (if decide (g (k + 1) < g (argBest (fun i j => decide (g i < g j)) k)) = true then k + 1 else _) = _
        rw [if_neg (fun z => c (of_decide_eq_true z))]
      rw [e]
      refine ⟨by omega, fun j hj => ?_⟩
      rcases Nat.lt_or_ge j (k + 1) with z | z
      · exact h2 j (by omega)
      · obtain rfl : j = k + 1 := by omega
        exact List.not_lt.mp c
theorem argBest_le' (f : Nat → Nat → Bool) : ∀ k, argBest f k ≤ k
  | 0 => Nat.le_refl _
  | k + 1 => by
    have := argBest_le' f k
    show (if f (k + 1) (argBest f k) = true then k + 1 else argBest f k) ≤ k + 1
    split <;> omega
theorem argBest_same {f g : Nat → Nat → Bool} : ∀ k, (∀ i j, i ≤ k → j ≤ k → f i j = g i j) → argBest f k = argBest g k
  | 0, _ => rfl
  | k + 1, h => by
    have ih := argBest_same k fun i j hi hj => h i j (by omega) (by omega)
    have := argBest_le' g k
    show (if f (k + 1) (argBest f k) = true then k + 1 else argBest f k) = (if g (k + 1) (argBest g k) = true then k + 1 else argBest g k)
    rw [ih, h (k + 1) _ (Nat.le_refl _) (by omega)]
def rMinR (K : PySem.W.Frag) : List V → Hp → VK → Prop := fun vs H Q => ∃ (a : Addr) (xs : List V) (rs : List (List Int)) (Z : Addr → Prop), vs = [V.ref a] ∧ SqL K H a xs ∧ DnAll H Z xs (rs.map tI) ∧ 0 < rs.length ∧
  ∀ (i : Nat) (v : V) (r : List Int), xs[i]? = some v → rs[i]? = some r → (∀ q ∈ rs, r ≤ q) → Q v H
theorem cr_minR {X : Cx} (hu : X.A.units + 64 < cLine) (hc : X.calm = true) : CallR X (.builtin "min") (rMinR X.K) := by
  intro pins s σ H vs us Q I r h
  obtain ⟨a, xs, rs, Z, rfl, hs, hn, h0, q⟩ := h
  obtain ⟨its, rv, hl, hz⟩ := I.list hs
  obtain ⟨u, rfl, ru⟩ := vals1 r
  obtain rfl : u = Value.ref a := ru
  have lr : xs.length = rs.length := by have := hn.length; rw [List.length_map] at this; exact this
  have li : its.length = rs.length := by rw [← rv.length, lr]
  have hdn : PyData.hasDictAll (rs.map tI) = false := by
    clear hn q h0 lr li
    induction rs with
    | nil => simp [PyData.hasDictAll]
    | cons r rs ih => simp only [List.map_cons, PyData.hasDictAll, tI_noDict, ih, Bool.or_self]
  have hdp : PyData.depthAll (rs.map tI) ≤ 1 := by
    clear hn q h0 lr li hdn
    induction rs with
    | nil => simp [PyData.depthAll]
    | cons r rs ih =>
      have := tI_depth r
      simp only [List.map_cons, PyData.depthAll]
      omega
  obtain ⟨as, hr⟩ := Dp.readsAll I _ _ _ (DnAll.dp (K := X.K) _ _ hn hdn) rv
  have hr : ReadsAll s.heap its.toArray.toList (rs.map tI) as := hr
  have ha : PySem.W.AlikeAll (rs.map tI) := ⟨fun x hx y hy => by
    obtain ⟨x, _, rfl⟩ := List.mem_map.mp hx
    obtain ⟨y, _, rfl⟩ := List.mem_map.mp hy
    show PySem.W.alike (.tuple _) (.tuple _) = true
    simp only [PySem.W.alike]
    exact PySem.W.alike_ints _ _, fun x hx => by
    obtain ⟨x, _, rfl⟩ := List.mem_map.mp hx
    exact fun e => nomatch e⟩
  have hll : s.heap.IsList a its.toArray := hl.isList
  refine call_min_walkH (PySem.W.iter_listW (A := X.A.in1) (I.ok.hd hc) hll fun s₂ e W st hfp hw hk => ?_)
  refine ⟨_, _, _, _, _, _, _, s.heap, _, rfl, W, st, hfp, by rw [List.size_toArray]; omega, hw, hk, PySem.W.cmpIn_lt (A := X.A.in1) hr ha (by show X.A.units + 1 + _ < _; omega), fun v s' hP m => ?_⟩
  obtain ⟨h', tk, rfl, hk'⟩ := PySem.W.moved_old e rfl m
  have eg : ∀ i, i < rs.length → (rs.map tI).getD i .none = tI (rs.getD i []) := fun i hi => by
    rw [List.getD_eq_getElem?_getD, List.getElem?_map, List.getD_eq_getElem?_getD, List.getElem?_eq_getElem hi]
    rfl
  have hP : its.toArray[argBest (fun i j => PySem.W.dataLt ((rs.map tI).getD i .none) ((rs.map tI).getD j .none)) (its.toArray.size - 1)]? = some v := hP
  rw [List.size_toArray, li, argBest_same (g := fun i j => decide (rs.getD i [] < rs.getD j [])) (rs.length - 1) fun i j hi hj => by rw [eg i (by omega), eg j (by omega), dataLt_tI]] at hP
  obtain ⟨h1, h2⟩ := argBest_row (fun i => rs.getD i []) (rs.length - 1)
  generalize argBest (fun i j => decide (rs.getD i [] < rs.getD j [])) (rs.length - 1) = b at hP h1 h2
  have hb : b < rs.length := by omega
  have hx : b < xs.length := by omega
  have hv : its[b]? = some v := by rw [List.getElem?_toArray] at hP; exact hP
  refine ⟨xs[b], H, I.kept (t' := tk) hk', ?_, q b xs[b] (rs.getD b []) (List.getElem?_eq_getElem hx) (by rw [List.getD_eq_getElem?_getD, List.getElem?_eq_getElem hb]; rfl) fun y hy => ?_⟩
  · obtain ⟨u, hu, ru⟩ := rv.get (List.getElem?_eq_getElem hx)
    rw [hv] at hu
    exact Option.some.inj hu ▸ ru
  · obtain ⟨j, hj, rfl⟩ := List.getElem_of_mem hy
    have := h2 j (by omega)
    rw [List.getD_eq_getElem?_getD (l := rs) (i := j), List.getElem?_eq_getElem hj] at this
    exact this
variable [XCtx]
def fMinR (ds : List PyData) (P : PyData → Prop) : Prop := on1 ds fun d => onL d fun xs => ∃ rs : List (List Int), xs = rs.map tI ∧ 0 < rs.length ∧ ∀ r ∈ rs, (∀ q ∈ rs, r ≤ q) → P (tI r)
theorem rs_minR {K : PySem.W.Frag} : RS (rMinR K) fMinR := by
  intro W Z O env σ H0 H vs ds P Q R hv hf k
  obtain ⟨d, rfl, hf⟩ := on1_iff hf
  obtain ⟨v, rfl, hw⟩ := hv.one
  obtain ⟨xs, rfl, rs, rfl, h0, hp⟩ := onL_iff hf
  obtain ⟨p, ys, rfl, hpp, r⟩ := hw.list
  refine ⟨p, ys, rs, _, rfl, SqL.of hpp, r, h0, fun i v q h1 h2 h3 => ?_⟩
  obtain ⟨d, e, n⟩ := r.getV h1
  rw [List.getElem?_map, h2] at e
  obtain rfl := Option.some.inj e
  exact k _ _ H (hp q (List.mem_of_getElem? h2) h3) .refl n
def fMin4 (ds : List PyData) (P : PyData → Prop) : Prop := ∃ a b c d : Int, ds = [.int a, .int b, .int c, .int d] ∧ ∀ m : Int, m ∈ [a, b, c, d] → (∀ y ∈ [a, b, c, d], m ≤ y) → P (.int m)
theorem rs_min4 : RS rMin4 fMin4 := by
  intro W Z O env σ H0 H vs ds P Q R hv hf k
  obtain ⟨a, b, c, d, rfl, hp⟩ := hf
  obtain ⟨⟩ | ⟨n1, ⟨⟩ | ⟨n2, ⟨⟩ | ⟨n3, ⟨⟩ | ⟨n4, ⟨⟩⟩⟩⟩⟩ := hv
  exact ⟨a, b, c, d, by rw [n1.int, n2.int, n3.int, n4.int], fun m h1 h2 => k _ _ H (hp m h1 h2) .refl (.int _)⟩
section
variable {X : Cx} {e e2 e3 e4 b ie : Expr} {t : TA} {tb te : TE} {M : ML} {A B : ME} {pos p xp bpos dpos spos px : Pos} {x y : Str}
theorem je_minR (hu : X.A.units + 64 < cLine) (hm : X.mg "min" = none) (ha : JAb X [e] t M) (hg : Gl X "min" := by rfl) (he : starEach [e] X.env = (false, eval e X.env) :: starEach [] X.env := by rfl) (hc : X.calm = true := by rfl) : JE X (.Call (.Name "min" p) [e] [] pos) (tCB (rMinR X.K) t) (mBl fMinR M) := je_B (cr_minR hu hc) rs_minR hm (by decide +kernel) ha hg (by decide) (by decide) he rfl
theorem je_min4 (hm : X.mg "min" = none) (ha : JAb X [e, e2, e3, e4] t M) (hg : Gl X "min" := by rfl) (he : starEach [e, e2, e3, e4] X.env = (false, eval e X.env) :: starEach [e2, e3, e4] X.env := by rfl) (hpl : (backTo pos (starEach [e2, e3, e4] X.env)).any (·.1) = false := by rfl) (hc : X.calm = true := by rfl) : JE X (.Call (.Name "min" p) [e, e2, e3, e4] [] pos) (tCB rMin4 t) (mBl fMin4 M) := je_B (cr_min4 hc) rs_min4 hm (by decide +kernel) ha hg (by decide) (by decide) he hpl
omit [XCtx] in
theorem kv_inj : ∀ {kvs kvs' : List (Int × Int)}, (kvs.map fun q => (PyData.int q.1, PyData.int q.2)) = (kvs'.map fun q => (PyData.int q.1, PyData.int q.2)) → kvs = kvs'
  | [], [], _ => rfl
  | [], _ :: _, e => nomatch e
  | _ :: _, [], e => nomatch e
  | (a, b) :: r, (a', b') :: r', e => by
    rw [List.map_cons, List.map_cons] at e
    have e1 := (List.cons.inj e).1
    cases e1
    rw [kv_inj (List.cons.inj e).2]
/-- d[k], d a dict of whole numbers that is data -/
def mDIx (B A : ME) : ME := fun env P => B env fun d => ∃ kvs, d = dictD kvs ∧ A env fun z => onI z fun k => onSm (getI kvs k) fun v => P (.int v)
theorem je_dIx (hu : X.A.units + 1 < cLine) (hb : JE X b tb B) (ha : JB X ie te A) (hs : NoSl ie) : JE X (.Subscript b ie pos) (tDGet tb te) (mDIx B A) := ⟨pe_dget hu hb.pe ha.pe hs, by
  intro W Z O env σ H0 H P Q R hm k
  refine hb.es W Z O env σ H0 H _ _ R hm fun d o H1 p1 g1 n1 => ?_
  obtain ⟨kvs, rfl, p1⟩ := p1
  have R1 := R.tr g1
  refine ha.es W Z O env σ H0 H1 _ _ R1 p1 fun z v H2 p2 g2 n2 => ?_
  obtain ⟨j, rfl, p2⟩ := onI_iff p2
  obtain ⟨u, eu, p2⟩ := onSm_iff p2
  have n1 := n1.ge g2 R.mz
  obtain ⟨p, rfl, hp⟩ : ∃ p, o = .ref p ∧ H2 p = some (dicO kvs) := by
    generalize e : dictD kvs = d at n1
    cases n1 with
    | dicN hp hz =>
      refine ⟨_, rfl, ?_⟩
      rename_i a kvs'
      have : kvs = kvs' := kv_inj (List.cons.inj (PyData.dict.inj e)).2
      rw [this]
      exact hp
    | dic1 _ _ _ => exact nomatch (Prod.mk.inj (List.cons.inj (PyData.dict.inj e)).1).1
    | dic _ _ => exact nomatch PyData.dict.inj e
    | _ => exact nomatch e
  have := valV_dicO hp j
  rw [eu] at this
  exact ⟨p, .int u, rfl, n2.int ▸ this, k _ _ H2 p2 (g1.trans g2) (.int _)⟩⟩
/-- return d, a dict of one's own -/
def mRetD (i : Nat) : MS := fun M env => onDic env i fun kvs => M.rt (dictD kvs)
theorem js_retD (i : Nat) (hN : X.N[i]? = some x := by rfl) (hv : Vis X.env.scope x := by first | exact Or.inl rfl | exact Or.inr (Or.inl rfl) | exact Or.inr (Or.inr rfl)) (hd : (x == ("__debug__" : Str)) = false := by decide)
    (hcd : (x == ("__classdict__" : Str)) = false := by decide) : JS X (.Return (some (.Name x xp)) pos) (tRet (tVar i)) (mRetD i) := ⟨ps_ret (pe_var hN hv hd hcd), by
  intro W Z O env σ H0 H M D R S hm
  obtain ⟨kvs, q, hm⟩ := onDic_iff hm
  obtain ⟨p, e1, o, hp⟩ := R.cell i _ q
  exact ⟨.ref p, e1, S.rt _ _ H hm R.ge (.dicN hp fun z => (R.za p z).1 (R.oz p o))⟩⟩
/-- x = xs.pop(e) -/
def mPopAt (i j : Nat) (A : ME) : MS := fun M env => onOwn env j fun ls => A env fun d => onI d fun k => 0 ≤ k ∧ k < ls.length ∧ k < 2 ^ 63 ∧ ∃ y, ls[k.toNat]? = some y ∧ M.nx ((env.set j (.own (ls.eraseIdx k.toNat))).set i (.val y))
theorem popAt_sound {K : PySem.W.Frag} {i j : Nat} (h : ES te A) : SS (tAsg (tBM K "list" rPopAt (tVar j) (tCons te tNil)) (gName i)) (mPopAt i j A) := by
  intro W Z O env σ H0 H M D R S hm
  obtain ⟨ls, q2, hm⟩ := onOwn_iff hm
  obtain ⟨r, ys, e2, o2, hr, n2⟩ := R.cell j _ q2
  refine ⟨.ref r, e2, .inl ⟨rfl, ys, SqL.of hr⟩, ?_⟩
  refine h W Z O env σ H0 H _ _ R hm fun d v H1 p1 g1 m1 => ?_
  obtain ⟨k, rfl, k0, k1, k2, y, hy, p1⟩ := onI_iff p1
  cases m1
  have R1 := R.tr g1
  have hr1 := g1.keep _ _ (R.om r o2) hr
  have n2' := n2.ge g1 R.mz
  obtain ⟨vy, hv, ny⟩ := n2'.get hy
  obtain ⟨c, rfl⟩ := Int.eq_ofNat_of_zero_le k0
  have hc : c < ls.length := by omega
  refine ⟨r, ys, _, c, vy, rfl, rfl, hr1, by omega, k2, by rw [n2'.length]; exact seqIx hc, hv, ?_⟩
  have R2 := R1.upOwn q2 e2 o2 (DnAll.erase c n2')
  have S2 := (S.tr R g1).step (.put (H := H1) (o := .lst (ys.eraseIdx c)) o2 (by rw [hr1]; exact Option.some_ne_none _))
  exact S2.next (R2.set (ny.put o2) i) p1
theorem js_popAt {K : PySem.W.Frag} (hK : X.K = K) (i j : Nat) (hN : X.N.Nodup) (h : JE X e te A) (hi : X.N[i]? = some y) (hx : Loc X.env.scope y) (hf : X.fn y = true ∨ X.env.scope.names.lookup y = some .local) (hN2 : X.N[j]? = some x) (hv2 : Vis X.env.scope x) (hd2 : (x == ("__debug__" : Str)) = false) (hcd2 : (x == ("__classdict__" : Str)) = false)
    (b1 : attributeBase (.Name x xp) "pop" X.env (eval (.Name x xp) X.env) = eval (.Name x xp) X.env)
    (b2 : ((((backTo dpos (starEach [e] X.env)).all fun x => !x.fst) && (backToKw dpos (keywordEach [] X.env)).all fun x => x.fst.isSome) && decide ((([e] : List Expr).length + 0 + if true = true then 0 else 1) < 30)) = true)
    (b3 : (bpos.endLine == dpos.line) = true) (b4 : starEach [e] X.env = (false, eval e X.env) :: starEach [] X.env) (b5 : ((backTo dpos (starEach [] X.env)).any fun x => x.fst) = false)
    (hs : swapsWith (.Call (.Attribute (.Name x xp) "pop" bpos) [e] [] dpos) (some (.Name y px)) spos.line X.env = pure false) :
    JS X (.Assign [.Name y px] (.Call (.Attribute (.Name x xp) "pop" bpos) [e] [] dpos) spos) (tAsg (tBM K "list" rPopAt (tVar j) (tCons te tNil)) (gName i)) (mPopAt i j A) := by
  subst hK
  exact ⟨ps_set hN hi hx (pe_bm PySem.F.plainAttrs_list PySem.F.slot_list_pop PySem.F.type_list_pop mt_popAt (pe_var hN2 hv2 hd2 hcd2) (pa_cons h.pe pa_nil b4) b1 b2 b3 b4 b5) hs hf, popAt_sound h.es⟩
/-- a, b = {k: v}, [..] -/
def mParDF (i j : Nat) (A : MD) (B : ML) : MS := fun M env => A env fun kvs => B env fun ds => M.nx ((env.set i (.dic kvs)).set j (.own ds))
theorem js_parDF {a c : Expr} {ta tc : TE} {A' : MD} {B' : ML} {py pt pt2 : Pos} {kt k2 : Nat} (i j : Nat) (hN : X.N.Nodup) (ha : JD X a ta A') (hb : JF X c tc B') (hx : X.env.scope.names.lookup x = some .local) (hy : X.env.scope.names.lookup y = some .local) (hi : X.N[i]? = some x := by rfl) (hj : X.N[j]? = some y := by rfl) (hij : i ≠ j := by decide)
    (hs1 : starEach [a, c] X.env = (false, eval a X.env) :: starEach [c] X.env := by rfl) (hs2 : starEach [c] X.env = (false, eval c X.env) :: starEach [] X.env := by rfl)
    (hw : swappedStores [.Tuple [.Name x px, .Name y py] kt pt] (.Tuple [a, c] k2 pt2) X.env = pure (some [x, y]) := by rfl) (hs : swapsWithSole [.Tuple [.Name x px, .Name y py] kt pt] (.Tuple [a, c] k2 pt2) pos.line X.env = pure false := by rfl) (hc : X.calm = true := by rfl) :
    JS X (.Assign [.Tuple [.Name x px, .Name y py] kt pt] (.Tuple [a, c] k2 pt2) pos) (tPar i j (tCons ta (tCons tc tNil))) (mParDF i j A' B') := ⟨ps_par hc hN hi hj hij hx hy (pa_cons ha.pe (pa_cons hb.pe pa_nil hs2) hs1) hw hs, fun W Z O env σ H0 H M D R S hm => by
  refine ha.es W Z O env σ H0 H _ _ R hm fun kvs p1 H1 q1 g1 hp1 h1 => ?_
  have R1 := R.takeO g1 hp1 h1
  refine hb.es W Z _ env σ H0 H1 _ _ R1 q1 fun d2 p2 xs2 H2 q2 g2 hp2 h2 n2 => ?_
  refine ⟨.ref p1, .ref p2, rfl, ?_⟩
  have R2 := R1.take g2 hp2 h2
  have ne : p1 ≠ p2 := fun e => by rw [← e, h1] at hp2; cases hp2
  have h12 : H2 p1 = some (dicO kvs) := g2.keep _ _ (R1.om p1 (.inr rfl)) h1
  have R3 := R2.setDic (p := p1) (.inl (.inr rfl)) (fun k ds e => R.takeNo hp1 k ds e) h12 i
  refine ((S.step (.take g1 R.wl R.mz hp1)).step (.take g2 R1.wl R1.mz hp2)).next (R3.setOwn (p := p2) (.inr rfl) (fun k ds e => ?_) h2 n2 j) q2
  rcases getElem?_set_cases e with ⟨ek, q⟩ | ⟨nk, q⟩
  · subst ek
    intro s
    rcases getElem?_set_cases s with ⟨_, q9⟩ | ⟨nk, _⟩
    · cases q9
      exact ne rfl
    · exact nk rfl
  · rw [List.getElem?_set_ne nk]
    exact R1.takeNo hp2 k ds q⟩
end
end Dw

set_option maxRecDepth 100000
set_option maxHeartbeats 4000000
/-! Dw43: comprehensions with two fors where lists of one's own are about. -/
namespace Dw
open PySem PySem.Spec PyProof.Rows L2
variable [XCtx]
theorem wipeE_of {env : Cells} {j : Nat} {x : Hold} : ∀ {vs : List Nat}, (wipeE env vs)[j]? = some (Cell.of x) → env[j]? = some (Cell.of x)
  | [], h => h
  | v :: vs, h => by
    rcases getElem?_set_cases h with ⟨_, q⟩ | ⟨_, q⟩
    · cases x <;> cases q
    · exact wipeE_of q
def lc2n (g : MG) (tt : MT) (I1 : ML) (g1 : MG) (tt1 : MT) (te : ME) (vs1 : List Nat) (env : Cells) : List PyData → (List PyData → Prop) → Prop
  | [], P => P []
  | d :: ds, P => g d env fun e1 => tt e1 fun b => if b = true then I1 e1 fun ds1 => ds1.length ≤ 1000 ∧ lcGo g1 tt1 te (wipeE e1 vs1) ds1 fun ys => lc2n g tt I1 g1 tt1 te vs1 env ds fun zs => P (ys ++ zs) else lc2n g tt I1 g1 tt1 te vs1 env ds P
def mLc2n (I : ML) (g : MG) (tt : MT) (I1 : ML) (g1 : MG) (tt1 : MT) (te : ME) (vs vs1 : List Nat) : ML := fun env P => I env fun ds => ds.length ≤ 1000 ∧ lc2n g tt I1 g1 tt1 te vs1 (wipeE env vs) ds P
section
variable {wi wi1 : TI} {g g1 : TG} {tt tt1 : TT} {te : TE} {I I1 : ML} {mg mg1 : MG} {mt mt1 : MT} {me : ME} {js js1 vs vs1 : List Nat}
theorem lc2n_sound (hi : IS wi I) (hg : GS js g mg) (ht : QS tt mt) (hi1 : IS wi1 I1) (hg1 : GS js1 g1 mg1) (ht1 : QS tt1 mt1) (he : ES te me) (hj : ∀ j ∈ js, j ∈ vs) (hj1 : ∀ j ∈ js1, j ∈ vs1) (T : Tame js mg) : FS (tLc2 wi g tt wi1 g1 tt1 te vs vs1) (mLc2n I mg mt I1 mg1 mt1 me vs vs1) := by
  intro W Z O env σ H0 H P Q R hm k
  refine hi W Z O env σ H0 H _ _ R hm fun ds J H1 p1 g1' it => ?_
  obtain ⟨hz, p1⟩ := p1
  intro D hD
  have R1 := (R.tr g1').wipe vs
  have on : ∀ a, (O a ∨ a = D) → O a ∨ H1 a = none := fun a q => q.imp id fun e => by rw [e]; exact hD
  have hDm : ¬ Mu W D := (R.tr g1').zmu ((R.tr g1').new hD)
  have noD0 : ∀ (j : Nat) (es : Hold), (wipeE env vs)[j]? = some (Cell.of es) → (L2.wipe σ vs)[j]? ≠ some (some (.ref D)) := fun j es ej sj => by
    obtain ⟨q, e1, oq⟩ := R1.holds ej
    rw [sj] at e1
    cases e1
    exact ((R.tr g1').oh D oq).1 hD
  refine ⟨fun i m H2 => m = ds.length - i ∧ i ≤ ds.length ∧ Rel W Z (fun a => O a ∨ a = D) (wipeE env vs) (L2.wipe σ vs) H0 H2 ∧ Kp Z O H1 H2 ∧ Ge W H1 H2 ∧ ∃ xs acc, H2 D = some (.lst xs) ∧ DnAll H2 (ZO Z fun a => O a ∨ a = D) xs acc ∧ xs.length ≤ 1000 * i ∧
    lc2n mg mt I1 mg1 mt1 me vs1 (wipeE env vs) (ds.drop i) fun ys => P (acc ++ ys), ⟨ds.length, by simp, Nat.zero_le _, R1.own hD, fun a o z e => by rw [upd_ne (ne_of_none e hD)]; exact e, .new hD, [], [], upd_same, .nil, Nat.le_refl _, p1⟩, ?_⟩
  rintro i m H2 ⟨rfl, hle, R2, kp, g2, xs, acc, hxs, nn, hxl, go⟩
  by_cases hlt : i < ds.length
  · refine .inr ⟨it.goes i H2 hlt kp, fun H3 => Rel W Z (fun a => O a ∨ a = D) (wipeE env vs) (L2.wipe σ vs) H0 H3 ∧ Kp Z O H1 H3 ∧ Ge W H1 H3 ∧ ∃ xs acc, H3 D = some (.lst xs) ∧ DnAll H3 (ZO Z fun a => O a ∨ a = D) xs acc ∧ xs.length ≤ 1000 * (i + 1) ∧
      lc2n mg mt I1 mg1 mt1 me vs1 (wipeE env vs) (ds.drop (i + 1)) fun ys => P (acc ++ ys), fun H3 h3 => ⟨ds.length - (i + 1), by omega, rfl, hlt, h3⟩, fun x H3 y => ?_⟩
    obtain ⟨d, hd, g3, nd⟩ := yield_dn it R2 kp on hlt y
    have ed : ds.drop i = d :: ds.drop (i + 1) := by
      rw [List.drop_eq_getElem_cons hlt]
      rw [List.getElem?_eq_getElem hlt] at hd
      rw [Option.some.inj hd]
    rw [ed] at go
    have R3 := R2.tr g3
    refine hg W Z _ _ _ H0 H3 x d _ _ R3 nd (T.hold _ _ _ go) fun env' σ' gk R4 fr hl => ⟨wipe_eq (by rw [hl, wipe_length]) fun j hj' => fr j fun z => hj' (hj j z), ?_⟩
    obtain ⟨go', hold⟩ := gk
    refine ht W Z _ env' σ' H0 H3 _ _ R4 go' fun b H4 pb g4 => ?_
    have kp4 : ∀ H5, Ge W H2 H5 → Kp Z O H1 H5 := fun H5 g5 a o z e => g5.keep a o (fun mm => z (.inl (R.mz a mm))) (kp a o z e)
    cases b with
    | false =>
      have g24 := g3.trans g4
      exact ⟨R2.tr g24, kp4 _ g24, g2.trans g24, xs, acc, g24.keep _ _ hDm hxs, nn.ge g24 R.mz, by omega, pb⟩
    | true =>
      -- the inner walk
      refine hi1 W Z _ env' σ' H0 H4 _ _ (R4.tr g4) pb fun ds1 J1 H5 p5 g5 it1 => ?_
      obtain ⟨hz1, p5⟩ := p5
      have g25 := (g3.trans g4).trans g5
      have R5 := ((R4.tr g4).tr g5)
      have R5w := R5.wipe vs1
      have hx5 := g25.keep _ _ hDm hxs
      have n5 := nn.ge g25 R.mz
      have kpD : ∀ {H6 : Hp}, Kp Z (fun a => O a ∨ a = D) H5 H6 → True := fun _ => trivial
      -- no slot of the inner walk holds D as its own
      have noD : ∀ (j : Nat) (es : Hold), (wipeE env' vs1)[j]? = some (Cell.of es) → (L2.wipe σ' vs1)[j]? ≠ some (some (.ref D)) := fun j es ej sj => by
        obtain ⟨h1, h2⟩ := hold j es (wipeE_of ej)
        obtain ⟨s1, _⟩ := wipe_some sj
        rw [fr j h2] at s1
        exact noD0 j es h1 s1
      refine ⟨fun j kk H6 => kk = ds1.length - j ∧ j ≤ ds1.length ∧ Rel W Z (fun a => O a ∨ a = D) (wipeE env' vs1) (L2.wipe σ' vs1) H0 H6 ∧ Rel W Z (fun a => O a ∨ a = D) (wipeE env vs) (L2.wipe σ vs) H0 H6 ∧ Kp Z (fun a => O a ∨ a = D) H5 H6 ∧ Kp Z O H1 H6 ∧ Ge W H1 H6 ∧ ∃ xs ys, H6 D = some (.lst xs) ∧ DnAll H6 (ZO Z fun a => O a ∨ a = D) xs (acc ++ ys) ∧ xs.length ≤ 1000 * i + j ∧
        lcGo mg1 mt1 me (wipeE env' vs1) (ds1.drop j) fun zs => lc2n mg mt I1 mg1 mt1 me vs1 (wipeE env vs) (ds.drop (i + 1)) fun ys' => P (acc ++ ((ys ++ zs) ++ ys')), ⟨ds1.length, by simp, Nat.zero_le _, R5w, R2.tr g25, fun a o z e => e, kp4 _ g25, g2.trans g25, xs, [], hx5, by rw [List.append_nil]; exact n5, by omega, p5⟩, ?_⟩
      rintro j kk H6 ⟨rfl, hle1, R6, R6o, kp6, kp16, g6, xs, ys, hxs, nn, hxl, go⟩
      by_cases hlt1 : j < ds1.length
      · refine .inr ⟨it1.goes j H6 hlt1 kp6, fun H7 => Rel W Z (fun a => O a ∨ a = D) (wipeE env' vs1) (L2.wipe σ' vs1) H0 H7 ∧ Rel W Z (fun a => O a ∨ a = D) (wipeE env vs) (L2.wipe σ vs) H0 H7 ∧ Kp Z (fun a => O a ∨ a = D) H5 H7 ∧ Kp Z O H1 H7 ∧ Ge W H1 H7 ∧ ∃ xs ys, H7 D = some (.lst xs) ∧ DnAll H7 (ZO Z fun a => O a ∨ a = D) xs (acc ++ ys) ∧ xs.length ≤ 1000 * i + (j + 1) ∧
          lcGo mg1 mt1 me (wipeE env' vs1) (ds1.drop (j + 1)) fun zs => lc2n mg mt I1 mg1 mt1 me vs1 (wipeE env vs) (ds.drop (i + 1)) fun ys' => P (acc ++ ((ys ++ zs) ++ ys')), fun H7 h7 => ⟨ds1.length - (j + 1), by omega, rfl, hlt1, h7⟩, fun x H7 y => ?_⟩
        obtain ⟨d1, hd1, g7, nd1⟩ := yield_dn it1 R6 kp6 (fun a q => .inl q) hlt1 y
        have ed1 : ds1.drop j = d1 :: ds1.drop (j + 1) := by
          rw [List.drop_eq_getElem_cons hlt1]
          rw [List.getElem?_eq_getElem hlt1] at hd1
          rw [Option.some.inj hd1]
        rw [ed1] at go
        have R7 := R6.tr g7
        refine hg1 W Z _ _ _ H0 H7 x d1 _ _ R7 nd1 go fun env'' σ'' go' R8 fr1 hl1 => ⟨wipe_eq (by rw [hl1, wipe_length]) fun j' hj' => fr1 j' fun z => hj' (hj1 j' z), ?_⟩
        refine ht1 W Z _ env'' σ'' H0 H7 _ _ R8 go' fun b1 H8 pb1 g8 => ?_
        have kq : ∀ H9, Ge W H6 H9 → Kp Z (fun a => O a ∨ a = D) H5 H9 ∧ Kp Z O H1 H9 := fun H9 g9 => ⟨fun a o z e => g9.keep a o (fun mm => z (.inl (R.mz a mm))) (kp6 a o z e), fun a o z e => g9.keep a o (fun mm => z (.inl (R.mz a mm))) (kp16 a o z e)⟩
        cases b1 with
        | false =>
          have g68 := g7.trans g8
          exact ⟨R6.tr g68, R6o.tr g68, (kq _ g68).1, (kq _ g68).2, g6.trans g68, xs, ys, g68.keep _ _ hDm hxs, nn.ge g68 R.mz, by omega, pb1⟩
        | true =>
          refine he W Z _ env'' σ'' H0 H8 _ _ (R8.tr g8) pb1 fun yd yv H9 py g9 ny => ?_
          have g69 := (g7.trans g8).trans g9
          have hx9 := g69.keep _ _ hDm hxs
          refine ⟨xs, hx9, by rw [sizeLine_eq]; omega, (R6.tr g69).put (.inr rfl) noD, (R6o.tr g69).put (.inr rfl) noD0, fun a o z e => ?_, fun a o z e => ?_, ?_, xs ++ [yv], ys ++ [yd], upd_same, ?_, by rw [List.length_append]; show xs.length + 1 ≤ _; omega, ?_⟩
          · rw [upd_ne (fun q => z (.inr (.inr q)))]
            exact (kq _ g69).1 a o z e
          · have ne : a ≠ D := fun q => by
              rw [q, hD] at e
              cases e
            rw [upd_ne ne]
            exact (kq _ g69).2 a o z e
          · refine ⟨fun a o mm e => ?_, fun wo => ((g6.trans g69).wl wo).upd (.inr hDm)⟩
            have ne : a ≠ D := fun q => by
              rw [q, hD] at e
              cases e
            rw [upd_ne ne]
            exact (g6.trans g69).keep a o mm e
          · rw [← List.append_assoc]
            exact ((nn.ge g69 R.mz).put (.inr rfl)).app (.cons (ny.put (.inr rfl)) .nil)
          · have : (fun zs => lc2n mg mt I1 mg1 mt1 me vs1 (wipeE env vs) (ds.drop (i + 1)) fun ys' => P (acc ++ ((ys ++ (yd :: zs)) ++ ys'))) = fun zs => lc2n mg mt I1 mg1 mt1 me vs1 (wipeE env vs) (ds.drop (i + 1)) fun ys' => P (acc ++ (((ys ++ [yd]) ++ zs) ++ ys')) := funext fun zs => by rw [List.append_assoc ys [yd] zs]; rfl
            rw [← this]
            exact py
      · have e : j = ds1.length := by omega
        subst e
        refine .inl ⟨it1.stops H6 kp6, R6o, kp16, g6, xs, acc ++ ys, hxs, nn, by omega, ?_⟩
        rw [List.drop_length] at go
        have : (fun ys' => P (acc ++ ((ys ++ []) ++ ys'))) = fun ys' => P ((acc ++ ys) ++ ys') := funext fun ys' => by rw [List.append_nil, List.append_assoc]
        rw [← this]
        exact go
  · have e : i = ds.length := by omega
    subst e
    refine .inl ⟨it.stops H2 kp, ?_⟩
    rw [List.drop_length] at go
    refine k _ D xs H2 go (g1'.trans g2) (g1'.fresh R.wl hD) hxs ?_
    rw [List.append_nil]
    exact nn
end
section
variable {X : Cx} {elt tg iter tg1 iter1 : Expr} {ifs ifs1 : List Expr} {scope : Scope} {pos : Pos} {wi : TI} {wi1 : Shared → Hp → Addr → List (Str × Addr) → List Addr → TI} {g g1 : Shared → Hp → Addr → List (Str × Addr) → List Addr → TG} {tt tt1 : Shared → Hp → Addr → List (Str × Addr) → List Addr → TT} {te : Shared → Hp → Addr → List (Str × Addr) → List Addr → TE} {I I1 : ML} {mg mg1 : MG} {mt mt1 : MT} {me : ME} {js js1 : List Nat}
/-- [e for .. in .. if .. for .. in .. if ..] -/
theorem jf_lc2N (own : List (Str × Nat)) (vs1 : List Nat) (hN : X.N.Nodup) (hi : JI X tg iter wi I) (ok : BlkOk X.N X.env.scope scope own) (hg : ∀ (s : Shared) (H : Hp) (C : Addr) (cl : List (Str × Addr)) (fp : List Addr), JG (X.blk s H scope (compEnvC scope cl C X.env) fp) js tg (g s H C cl fp) mg)
    (ht : ∀ (s : Shared) (H : Hp) (C : Addr) (cl : List (Str × Addr)) (fp : List Addr), JTs (X.blk s H scope (compEnvC scope cl C X.env) fp) ifs (tt s H C cl fp) mt) (hi1 : ∀ (s : Shared) (H : Hp) (C : Addr) (cl : List (Str × Addr)) (fp : List Addr), JI (X.blk s H scope (compEnvC scope cl C X.env) fp) tg1 iter1 (wi1 s H C cl fp) I1)
    (hg1 : ∀ (s : Shared) (H : Hp) (C : Addr) (cl : List (Str × Addr)) (fp : List Addr), JG (X.blk s H scope (compEnvC scope cl C X.env) fp) js1 tg1 (g1 s H C cl fp) mg1) (ht1 : ∀ (s : Shared) (H : Hp) (C : Addr) (cl : List (Str × Addr)) (fp : List Addr), JTs (X.blk s H scope (compEnvC scope cl C X.env) fp) ifs1 (tt1 s H C cl fp) mt1)
    (he : ∀ (s : Shared) (H : Hp) (C : Addr) (cl : List (Str × Addr)) (fp : List Addr), JE (X.blk s H scope (compEnvC scope cl C X.env) fp) elt (te s H C cl fp) me)
    (T : Tame js mg) (hv : ∀ i ∈ vs1, i ∈ own.map (·.2) := by decide) (hj : ∀ j ∈ js, j ∈ own.map (·.2) := by decide) (hj1 : ∀ j ∈ js1, j ∈ vs1 := by decide) (hc : X.calm = true := by rfl) (hs : ∀ x, foldedSetIterable iter X.env x = pure x := by intro _; rfl) (hs1 : ∀ env x, foldedSetIterable iter1 env x = pure x := by intro _ _; rfl)
    (eg : ∀ (s : Shared) (H : Hp) (C : Addr) (cl : List (Str × Addr)) (fp : List Addr), g s H C cl fp = g X.s_0 X.H_0 0 [] [] := by intro _ _ _ _ _; rfl) (ett : ∀ (s : Shared) (H : Hp) (C : Addr) (cl : List (Str × Addr)) (fp : List Addr), tt s H C cl fp = tt X.s_0 X.H_0 0 [] [] := by intro _ _ _ _ _; rfl)
    (ewi1 : ∀ (s : Shared) (H : Hp) (C : Addr) (cl : List (Str × Addr)) (fp : List Addr), wi1 s H C cl fp = wi1 X.s_0 X.H_0 0 [] [] := by intro _ _ _ _ _; rfl) (eg1 : ∀ (s : Shared) (H : Hp) (C : Addr) (cl : List (Str × Addr)) (fp : List Addr), g1 s H C cl fp = g1 X.s_0 X.H_0 0 [] [] := by intro _ _ _ _ _; rfl) (ett1 : ∀ (s : Shared) (H : Hp) (C : Addr) (cl : List (Str × Addr)) (fp : List Addr), tt1 s H C cl fp = tt1 X.s_0 X.H_0 0 [] [] := by intro _ _ _ _ _; rfl) (ete : ∀ (s : Shared) (H : Hp) (C : Addr) (cl : List (Str × Addr)) (fp : List Addr), te s H C cl fp = te X.s_0 X.H_0 0 [] [] := by intro _ _ _ _ _; rfl) :
    JF X (.ListComp elt [⟨tg, iter, ifs, 0⟩, ⟨tg1, iter1, ifs1, 0⟩] scope pos) (tLc2 wi (g X.s_0 X.H_0 0 [] []) (tt X.s_0 X.H_0 0 [] []) (wi1 X.s_0 X.H_0 0 [] []) (g1 X.s_0 X.H_0 0 [] []) (tt1 X.s_0 X.H_0 0 [] []) (te X.s_0 X.H_0 0 [] []) (own.map (·.2)) vs1) (mLc2n I mg mt I1 mg1 mt1 me (own.map (·.2)) vs1) :=
  ⟨pe_lc2 hc hN hi.pe ok hv (fun s H C cl fp => eg s H C cl fp ▸ (hg s H C cl fp).pe) (fun s H C cl fp => ett s H C cl fp ▸ (ht s H C cl fp).pe) (fun s H C cl fp => ewi1 s H C cl fp ▸ (hi1 s H C cl fp).pe) (fun s H C cl fp => eg1 s H C cl fp ▸ (hg1 s H C cl fp).pe) (fun s H C cl fp => ett1 s H C cl fp ▸ (ht1 s H C cl fp).pe) (fun s H C cl fp => ete s H C cl fp ▸ (he s H C cl fp).pe) hs hs1,
   lc2n_sound hi.es (hg X.s_0 X.H_0 0 [] []).es (ht X.s_0 X.H_0 0 [] []).es (hi1 X.s_0 X.H_0 0 [] []).es (hg1 X.s_0 X.H_0 0 [] []).es (ht1 X.s_0 X.H_0 0 [] []).es (he X.s_0 X.H_0 0 [] []).es hj hj1 T⟩
end
section
variable {X : Cx} {e : Expr} {t : TE} {m : ME}
/-- a list as a test -/
def mTruL (A : ME) : MT := fun env P => A env fun d => onL d fun ds => P (!ds.isEmpty)
theorem jt_truL (h : JB X e t m) (he : ∀ whole, isTrue e X.env whole = (do let v ← whole; standAt e.pos; holding [v] (truthy v)) := by intro _; rfl) : JT X e (fun σ H Q => t σ H fun x H' => ∃ k, TruV X.K x H' k ∧ Q k H') (mTruL m) := ⟨pt_truth h.pe he, by
  intro W Z O env σ H0 H P Q R hm k
  refine h.es W Z O env σ H0 H _ _ R hm fun d v H1 p1 g1 n1 => ?_
  obtain ⟨ds, rfl, p1⟩ := onL_iff p1
  obtain ⟨p, xs, rfl, hp, n⟩ := n1.list
  have el : xs.isEmpty = ds.isEmpty := by
    have := n.length
    cases xs <;> cases ds <;> first | rfl | cases this
  exact ⟨_, (show TruV X.K (.ref p) H1 (!xs.isEmpty) from .inl ⟨xs, SqL.of hp, rfl⟩), by rw [el]; exact k _ H1 p1 g1⟩⟩
end
end Dw

set_option maxRecDepth 100000
set_option maxHeartbeats 4000000
/-! Dw44 (layer of known tuples only): o.index(e), o a tuple of whole numbers. -/
namespace Dw
open PySem PySem.Spec PyProof.Rows L2
section
variable [XCtx] {X : Cx} {o e2 : Expr} {to te : TE} {A B : ME} {apos cpos : Pos}
def mTIx (A B : ME) : ME := fun env P => A env fun d => onU d fun ds => B env fun z => onI z fun k => ∃ ns : List Int, ds = ns.map PyData.int ∧ k ∈ ns ∧ P (.int (ns.idxOf k : Nat))
theorem je_tix (ha : JE X o to A) (hb : JE X e2 te B)
    (hbase : attributeBase o "index" X.env (eval o X.env) = eval o X.env := by rfl)
    (hfew : ((backTo cpos (starEach [e2] X.env)).all (fun x => !x.1) && (backToKw cpos (keywordEach [] X.env)).all (fun x => x.1.isSome)
      && decide (([e2] : List Expr).length + ([] : List Keyword).length + (if ([] : List Keyword).isEmpty then 0 else 1) < 30)) = true := by rfl)
    (hline : (apos.endLine == cpos.line) = true := by rfl) (hs : starEach [e2] X.env = (false, eval e2 X.env) :: starEach [] X.env := by rfl) (hplain : (backTo cpos (starEach [] X.env)).any (·.1) = false := by rfl) :
    JE X (.Call (.Attribute o "index" apos) [e2] [] cpos) (tTIdx X.K to (tCons te tNil)) (mTIx A B) := by
  refine ⟨pe_tidx ha.pe (pa_cons hb.pe pa_nil hs) hbase hfew hline hs hplain, ?_⟩
  intro W Z O env σ H0 H P Q R hm k
  refine ha.es W Z O env σ H0 H _ _ R hm fun d v H1 p1 g1 n1 => ?_
  have R1 := R.tr g1
  obtain ⟨ds, rfl, p1⟩ := onU_iff p1
  cases n1 with
  | @tup a xs _ h nz r =>
    obtain ⟨ob, hx, hc, hd⟩ := id h
    refine ⟨a, ob, xs, rfl, hx, hc, hd, ?_⟩
    refine hb.es W Z O env σ H0 H1 _ _ R1 p1 fun z u H2 p2 g2 n2 => ?_
    obtain ⟨i, rfl, ns, rfl, hk, p2⟩ := onI_iff p2
    cases n2
    have hm : ¬ Mu W a := fun m => nz (.inl (R.mz a m))
    exact ⟨a, ns, i, rfl, rfl, .inl (.inr ⟨ob, by rw [g2.keep _ _ hm hx, r.ints]⟩), hk, k _ _ H2 p2 (g1.trans g2) (.int _)⟩
/-- xs[::-1] of a list -/
def mRevL (A : ME) : ME := fun env P => A env fun x => onL x fun xs => P (.list xs.reverse)
theorem je_revL {X : Cx} {e : Expr} {te : TE} {A : ME} {k : Nat} {p1 p2 p3 pos : Pos} (h : JB X e te A) : JE X (.Subscript e (.Slice none none (some (.UnaryOp .USub (.Constant (.int 1) k p1) p2)) p3) pos) (tRevL X.K te) (mRevL A) := ⟨pe_revL h.pe, fun W Z O env σ H0 H P Q R hm k => by
  refine h.es W Z O env σ H0 H _ _ R hm fun d v H1 p1 g1 n1 => ?_
  obtain ⟨xs, rfl, p1⟩ := onL_iff p1
  obtain ⟨p, ys, rfl, hpp, r⟩ := n1.list
  exact ⟨p, ys, rfl, SqL.of hpp, fun l hl => k _ _ _ p1 (g1.new' hl) (.lst upd_same ((R.tr g1).new hl) (DnAll.rev (r.new hl)))⟩⟩
end
end Dw

set_option maxRecDepth 100000
set_option maxHeartbeats 4000000
/-! Dw45 (layer of known tuples only): o.index(e) of rows of whole numbers, o.count(e); xs.index(e) of rows (a list that is data). -/
namespace Dw
open PySem PySem.Spec PyProof.Rows L2
/-! o.index(e) of rows of whole numbers (pairs, triples ..), o.count(e) of any data without dicts: o a tuple -/
theorem eqv_tI : ∀ (a b : List Int), PyData.eqv (tI a) (tI b) = decide (a = b) := by
  have all : ∀ (a b : List Int), PyData.eqvAll (a.map PyData.int) (b.map PyData.int) = decide (a = b) := by
    intro a
    induction a with
    | nil => intro b; cases b <;> simp [PyData.eqvAll]
    | cons x a ih =>
      intro b
      cases b with
      | nil => simp [PyData.eqvAll]
      | cons y b =>
        simp only [List.map_cons, PyData.eqvAll, ih, PyData.eqv]
        rw [Bool.eq_iff_iff]
        simp
  intro a b
  show PyData.eqv (.tuple _) (.tuple _) = _
  simp only [PyData.eqv]
  exact all a b
theorem tI_lay (a : List Int) : (tI a).canLay0 = true := by
  have all : ∀ a : List Int, PyData.canLayAll0 (a.map PyData.int) = true := by
    intro a
    induction a with
    | nil => simp [PyData.canLayAll0]
    | cons x a ih => simp [PyData.canLayAll0, PyData.canLay0, ih]
  show PyData.canLay0 (.tuple _) = true
  simp only [PyData.canLay0]
  exact all a
section
variable {X : Cx}
def rTIxR (K : PySem.W.Frag) : V → List V → Hp → VK → Prop := fun x xs H Q => ∃ (p : Addr) (vs : List V) (ks : List (List Int)) (u : V) (k : List Int) (Z : Addr → Prop), x = .ref p ∧ xs = [u] ∧ SqT K H p vs ∧ DnAll H Z vs (ks.map tI) ∧ Dn H Z u (tI k) ∧ k ∈ ks ∧ Q (.int (@List.idxOf (List Int) instBEqOfDecidableEq k ks : Nat)) H
theorem mt_tixR (hu : X.A.units + 64 < cLine) : MtR X "tuple.index" (rTIxR X.K) := by
  intro pins s σ H x xs v us Q I rx rs h
  obtain ⟨p, vs, ks, u, k, Z, rfl, rfl, hq, hn, hk, hm, q⟩ := h
  cases rx
  obtain ⟨w, rfl, rw'⟩ := vals1 rs
  obtain ⟨its, r, pl, hz⟩ := I.tuple hq
  have l1 := r.length
  have l2 := hn.length
  rw [List.length_map] at l2
  refine PySem.SeqAt.call_tuple_index (vs := its) (ks := ks) (k := k) pl ⟨by omega, fun j h1 h2 => ?_⟩ hm ⟨.int (@List.idxOf (List Int) instBEqOfDecidableEq k ks : Nat), H, I.tok _, ⟨_, rfl⟩, q⟩
  obtain ⟨y, hy, ny⟩ := hn.get (i := j) (d := tI ks[j]) (by rw [List.getElem?_map, List.getElem?_eq_getElem h2]; rfl)
  obtain ⟨z, hz2, rz⟩ := r.get hy
  have ez : z = its[j] := Option.some.inj (hz2.symm.trans (List.getElem?_eq_getElem h1))
  rw [← ez]
  obtain ⟨as, r1⟩ := Dp.reads I _ _ _ (Dn.dp _ _ ny (tI_noDict _)) rz
  obtain ⟨bs, r2⟩ := Dp.reads I _ _ _ (Dn.dp _ _ hk (tI_noDict _)) rw'
  have e := PySem.SeqAt.eqAt_reads (tI ks[j]) (tI k) X.A.in1 s z w as bs r1 r2 (tI_lay _) (tI_lay _) (by
    have d1 := tI_depth k
    show X.A.units + 1 + min _ _ < cLine
    omega)
  rw [eqv_tI] at e
  exact e
def rTCnt (K : PySem.W.Frag) : V → List V → Hp → VK → Prop := fun x xs H Q => ∃ (p : Addr) (vs : List V) (ds : List PyData) (u : V) (d : PyData) (Z : Addr → Prop), x = .ref p ∧ xs = [u] ∧ SqT K H p vs ∧ DnAll H Z vs ds ∧ Dn H Z u d ∧ PyData.hasDictAll ds = false ∧ d.hasDict = false ∧ PyData.plainAll ds = true ∧ d.plain = true ∧ d.depth ≤ 40 ∧ Q (.int (ds.countP fun y => PyData.eqv y d : Nat)) H
theorem mt_tcnt (hu : X.A.units + 64 < cLine) : MtR X "tuple.count" (rTCnt X.K) := by
  intro pins s σ H x xs v us Q I rx rs h
  obtain ⟨p, vs, ds, u, d, Z, rfl, rfl, hq, hn, hk, h1, h2, h3, h4, h5, q⟩ := h
  cases rx
  obtain ⟨w, rfl, rw'⟩ := vals1 rs
  obtain ⟨its, r, pl, hz⟩ := I.tuple hq
  obtain ⟨as, r1⟩ := Dp.readsAll I _ _ _ (DnAll.dp _ _ hn h1) r
  obtain ⟨bs, r2⟩ := Dp.reads I _ _ _ (Dn.dp _ _ hk h2) rw'
  exact PySem.SeqAt.count_tuple_data (vs := its.toArray) pl r1 r2 h3 h4 (by omega) ⟨.int (ds.countP fun y => PyData.eqv y d : Nat), H, I.tok _, ⟨_, rfl⟩, q⟩
/-- o.m(e), o a tuple whose object is known -/
def tTM (r : V → List V → Hp → VK → Prop) (to : TE) (t : TA) : TE := fun σ H Q => to σ H fun x H1 => ∃ (a : Addr) (ob : Obj) (ys : List V), x = .ref a ∧ H1 a = some (.frz ob (.tup ys)) ∧ ob.cls = .type "tuple" ∧ ob.dict = none ∧ t σ H1 fun xs H2 => r x xs H2 Q
theorem pe_tm {m : Str} {id : String} {r : V → List V → Hp → VK → Prop} {o e : Expr} {to : TE} {t : TA} {apos cpos : Pos} (hsl : Slot "tuple" m id) (hty : typeOf (.builtin id) = pure (.type "method_descriptor")) (hr : MtR X id r) (ho : PE X o to) (ha : PA X [e] t)
    (hbase : attributeBase o m X.env (eval o X.env) = eval o X.env := by rfl)
    (hfew : ((backTo cpos (starEach [e] X.env)).all (fun x => !x.1) && (backToKw cpos (keywordEach [] X.env)).all (fun x => x.1.isSome)
      && decide (([e] : List Expr).length + ([] : List Keyword).length + (if ([] : List Keyword).isEmpty then 0 else 1) < 30)) = true := by rfl)
    (hline : (apos.endLine == cpos.line) = true := by rfl) (hs : starEach [e] X.env = (false, eval e X.env) :: starEach [] X.env := by rfl) (hplain : (backTo cpos (starEach [] X.env)).any (·.1) = false := by rfl) :
    PE X (.Call (.Attribute o m apos) [e] [] cpos) (tTM r to t) := by
  refine ⟨fun pins s σ H Q I h => ?_⟩
  refine wpAny_Call_method_late hbase hfew hline rfl (thn (ho.run pins s σ H _ I h) fun v s1 ⟨x, H1, I1, r1, q1⟩ => ?_)
  obtain ⟨a, ob, ys, rfl, hx, hc, hd, q1⟩ := q1
  cases r1
  obtain ⟨ha1, _⟩ := I1.hok a _ hx
  refine ⟨"tuple", id, PySem.F.plainAttrs_tuple, hsl, hty, ⟨ob, ha1, hc⟩, fun b e => ?_, ?_⟩
  · cases e
    exact ⟨ob, ha1, hd⟩
  · have hA := ha.run cpos pins s1 σ H1 _ I1 q1
    rw [hs] at hA ⊢
    refine Calls.callWith_builtin (by show (false || (backTo cpos (starEach [] X.env)).any (·.1)) = false; rw [hplain] <;> rfl) (Calls.evalArgs_plain ?_)
    exact thn hA fun us s2 ⟨vs, H2, I2, r2, q2⟩ => hr pins s2 σ H2 (.ref a) vs _ us Q I2 rfl r2 q2
end
section
variable [XCtx] {X : Cx} {o e2 : Expr} {to te : TE} {A B : ME} {apos cpos : Pos}
def mTIxR (A B : ME) : ME := fun env P => A env fun d => onU d fun ds => B env fun z => ∃ (ks : List (List Int)) (k : List Int), ds = ks.map tI ∧ z = tI k ∧ k ∈ ks ∧ P (.int (@List.idxOf (List Int) instBEqOfDecidableEq k ks : Nat))
theorem je_tixR (hu : X.A.units + 64 < cLine) (ha : JE X o to A) (hb : JE X e2 te B)
    (hbase : attributeBase o "index" X.env (eval o X.env) = eval o X.env := by rfl)
    (hfew : ((backTo cpos (starEach [e2] X.env)).all (fun x => !x.1) && (backToKw cpos (keywordEach [] X.env)).all (fun x => x.1.isSome)
      && decide (([e2] : List Expr).length + ([] : List Keyword).length + (if ([] : List Keyword).isEmpty then 0 else 1) < 30)) = true := by rfl)
    (hline : (apos.endLine == cpos.line) = true := by rfl) (hs : starEach [e2] X.env = (false, eval e2 X.env) :: starEach [] X.env := by rfl) (hplain : (backTo cpos (starEach [] X.env)).any (·.1) = false := by rfl) :
    JE X (.Call (.Attribute o "index" apos) [e2] [] cpos) (tTM (rTIxR X.K) to (tCons te tNil)) (mTIxR A B) := by
  refine ⟨pe_tm PySem.F.slot_tuple_index PySem.F.type_tuple_index (mt_tixR hu) ha.pe (pa_cons hb.pe pa_nil hs) hbase hfew hline hs hplain, ?_⟩
  intro W Z O env σ H0 H P Q R hm k
  refine ha.es W Z O env σ H0 H _ _ R hm fun d v H1 p1 g1 n1 => ?_
  have R1 := R.tr g1
  obtain ⟨ds, rfl, p1⟩ := onU_iff p1
  cases n1 with
  | @tup a xs _ h nz r =>
    obtain ⟨ob, hx, hc, hd⟩ := id h
    refine ⟨a, ob, xs, rfl, hx, hc, hd, ?_⟩
    refine hb.es W Z O env σ H0 H1 _ _ R1 p1 fun z u H2 p2 g2 n2 => ?_
    obtain ⟨ks, i, rfl, rfl, hk, p2⟩ := p2
    have hm : ¬ Mu W a := fun m => nz (.inl (R.mz a m))
    exact ⟨a, xs, ks, u, i, _, rfl, rfl, .inl (.inr ⟨ob, g2.keep _ _ hm hx⟩), r.ge g2 R.mz, n2, hk, k _ _ H2 p2 (g1.trans g2) (.int _)⟩
def mTCnt (A B : ME) : ME := fun env P => A env fun d => onU d fun ds => B env fun z => PyData.hasDictAll ds = false ∧ z.hasDict = false ∧ PyData.plainAll ds = true ∧ z.plain = true ∧ z.depth ≤ 40 ∧ P (.int (ds.countP fun y => PyData.eqv y z : Nat))
theorem je_tcnt (hu : X.A.units + 64 < cLine) (ha : JE X o to A) (hb : JE X e2 te B)
    (hbase : attributeBase o "count" X.env (eval o X.env) = eval o X.env := by rfl)
    (hfew : ((backTo cpos (starEach [e2] X.env)).all (fun x => !x.1) && (backToKw cpos (keywordEach [] X.env)).all (fun x => x.1.isSome)
      && decide (([e2] : List Expr).length + ([] : List Keyword).length + (if ([] : List Keyword).isEmpty then 0 else 1) < 30)) = true := by rfl)
    (hline : (apos.endLine == cpos.line) = true := by rfl) (hs : starEach [e2] X.env = (false, eval e2 X.env) :: starEach [] X.env := by rfl) (hplain : (backTo cpos (starEach [] X.env)).any (·.1) = false := by rfl) :
    JE X (.Call (.Attribute o "count" apos) [e2] [] cpos) (tTM (rTCnt X.K) to (tCons te tNil)) (mTCnt A B) := by
  refine ⟨pe_tm PySem.F.slot_tuple_count PySem.F.type_tuple_count (mt_tcnt hu) ha.pe (pa_cons hb.pe pa_nil hs) hbase hfew hline hs hplain, ?_⟩
  intro W Z O env σ H0 H P Q R hm k
  refine ha.es W Z O env σ H0 H _ _ R hm fun d v H1 p1 g1 n1 => ?_
  have R1 := R.tr g1
  obtain ⟨ds, rfl, p1⟩ := onU_iff p1
  cases n1 with
  | @tup a xs _ h nz r =>
    obtain ⟨ob, hx, hc, hd⟩ := id h
    refine ⟨a, ob, xs, rfl, hx, hc, hd, ?_⟩
    refine hb.es W Z O env σ H0 H1 _ _ R1 p1 fun z u H2 p2 g2 n2 => ?_
    obtain ⟨h1, h2, h3, h4, h5, p2⟩ := p2
    have hm : ¬ Mu W a := fun m => nz (.inl (R.mz a m))
    exact ⟨a, xs, ds, u, z, _, rfl, rfl, .inl (.inr ⟨ob, g2.keep _ _ hm hx⟩), r.ge g2 R.mz, n2, h1, h2, h3, h4, h5, k _ _ H2 p2 (g1.trans g2) (.int _)⟩
end
section
variable {X : Cx}
def rLIxR (K : PySem.W.Frag) : V → List V → Hp → VK → Prop := fun x xs H Q => ∃ (p : Addr) (vs : List V) (ks : List (List Int)) (u : V) (k : List Int) (Z : Addr → Prop), x = .ref p ∧ xs = [u] ∧ SqL K H p vs ∧ DnAll H Z vs (ks.map tI) ∧ Dn H Z u (tI k) ∧ k ∈ ks ∧ Q (.int (@List.idxOf (List Int) instBEqOfDecidableEq k ks : Nat)) H
theorem mt_lixR (hu : X.A.units + 64 < cLine) : MtR X "list.index" (rLIxR X.K) := by
  intro pins s σ H x xs v us Q I rx rs h
  obtain ⟨p, vs, ks, u, k, Z, rfl, rfl, hq, hn, hk, hm, q⟩ := h
  cases rx
  obtain ⟨w, rfl, rw'⟩ := vals1 rs
  obtain ⟨its, r, pl, hz⟩ := I.list hq
  have l1 := r.length
  have l2 := hn.length
  rw [List.length_map] at l2
  refine PySem.SeqAt.call_list_index (vs := its) (ks := ks) (k := k) pl.isList ⟨by omega, fun j h1 h2 => ?_⟩ (by omega) hm ⟨.int (@List.idxOf (List Int) instBEqOfDecidableEq k ks : Nat), H, I.tok _, ⟨_, rfl⟩, q⟩
  obtain ⟨y, hy, ny⟩ := hn.get (i := j) (d := tI ks[j]) (by rw [List.getElem?_map, List.getElem?_eq_getElem h2]; rfl)
  obtain ⟨z, hz2, rz⟩ := r.get hy
  have ez : z = its[j] := Option.some.inj (hz2.symm.trans (List.getElem?_eq_getElem h1))
  rw [← ez]
  obtain ⟨as, r1⟩ := Dp.reads I _ _ _ (Dn.dp _ _ ny (tI_noDict _)) rz
  obtain ⟨bs, r2⟩ := Dp.reads I _ _ _ (Dn.dp _ _ hk (tI_noDict _)) rw'
  have e := PySem.SeqAt.eqAt_reads (tI ks[j]) (tI k) X.A.in1 s z w as bs r1 r2 (tI_lay _) (tI_lay _) (by
    have d1 := tI_depth k
    show X.A.units + 1 + min _ _ < cLine
    omega)
  rw [eqv_tI] at e
  exact e
end
section
variable [XCtx] {X : Cx} {o e : Expr} {to te : TE} {B A : ME} {apos cpos : Pos}
/-- xs.index(e), rows of whole numbers; e is data -/
def mLIxR (B A : ME) : ME := fun env P => B env fun d => onL d fun ds => A env fun z => ∃ (ks : List (List Int)) (k : List Int), ds = ks.map tI ∧ z = tI k ∧ k ∈ ks ∧ P (.int (@List.idxOf (List Int) instBEqOfDecidableEq k ks : Nat))
theorem je_lixR (hu : X.A.units + 64 < cLine) (ho : JE X o to B) (ha : JE X e te A)
    (hbase : attributeBase o "index" X.env (eval o X.env) = eval o X.env := by rfl)
    (hfew : ((backTo cpos (starEach [e] X.env)).all (fun x => !x.1) && (backToKw cpos (keywordEach [] X.env)).all (fun x => x.1.isSome)
      && decide (([e] : List Expr).length + ([] : List Keyword).length + (if ([] : List Keyword).isEmpty then 0 else 1) < 30)) = true := by rfl)
    (hline : (apos.endLine == cpos.line) = true := by rfl) (hs : starEach [e] X.env = (false, eval e X.env) :: starEach [] X.env := by rfl) (hplain : (backTo cpos (starEach [] X.env)).any (·.1) = false := by rfl) :
    JE X (.Call (.Attribute o "index" apos) [e] [] cpos) (tBM X.K "list" (rLIxR X.K) to (tCons te tNil)) (mLIxR B A) := by
  refine ⟨pe_bm PySem.F.plainAttrs_list PySem.F.slot_list_index PySem.F.type_list_index (mt_lixR hu) ho.pe (pa_cons ha.pe pa_nil hs) hbase hfew hline hs hplain, ?_⟩
  intro W Z O env σ H0 H P Q R hm k
  refine ho.es W Z O env σ H0 H _ _ R hm fun d v H1 p1 g1 n1 => ?_
  obtain ⟨ds, rfl, p1⟩ := onL_iff p1
  have R1 := R.tr g1
  cases n1 with
  | @lst p xs _ hp nz r =>
    refine ⟨.inl ⟨rfl, xs, SqL.of hp⟩, ?_⟩
    refine ha.es W Z O env σ H0 H1 _ _ R1 p1 fun z u H2 p2 g2 n2 => ?_
    obtain ⟨ks, i, rfl, rfl, hk, p2⟩ := p2
    have hm : ¬ Mu W p := fun m => nz (.inl (R.mz p m))
    exact ⟨p, xs, ks, u, i, _, rfl, rfl, SqL.of (g2.keep _ _ hm hp), r.ge g2 R.mz, n2, hk, k _ _ H2 p2 (g1.trans g2) (.int _)⟩
end
end Dw

set_option maxRecDepth 100000
set_option maxHeartbeats 4000000
/-! Dw46 (known tuples): sets of whole numbers made by a comprehension, put in order at once. -/
namespace Dw
open PySem PySem.Spec PyProof.Rows L2
/-- a set of whole numbers: its members S, how many -/
def sIo (w : World) (a : Addr) (S : Int → Bool) (n : Nat) : HO :=
  .ext fun h => SetR w h a S n
theorem sIo_ok {w : World} {P : Program} {H : Hp} {h : Heap} {a : Addr} {S : Int → Bool} {n : Nat}
    (r : SetR w h a S n) : ObjOk P w H h a (sIo w a S n) :=
  ⟨r, r.elim fun o q => q.elim fun _ q => q.elim fun _ q => q.elim fun _ q => ⟨o, q.1⟩, fun _ _ p k => p.at k⟩
/-- the set with one member more -/
abbrev sMore (S : Int → Bool) (c : Int) : Int → Bool := fun j => S j || decide (j = c)
abbrev nMore (S : Int → Bool) (c : Int) (n : Nat) : Nat := if S c = true then n else n + 1
section
variable {X : Cx}
theorem sIo_add {pins : List (Addr × Obj)} {σ : L2.St} {H : Hp} {s : Shared} {E : Value → Shared → Prop}
    {D : Addr} {S : Int → Bool} {n : Nat} {c : Int} {tk : Tok} {Q : Value → Shared → Prop}
    (inv : Inv X pins σ H s) (at' : H D = some (sIo X.w D S n)) (few : n + 1 < scanBound)
    (go : ∀ s', Inv X pins σ (upd H D (sIo X.w D (sMore S c) (nMore S c n))) s' → Q .none s') :
    wpAny (model X.prog X.w) X.A (call (.builtin "set.add") [.ref D, .int c tk]) Q E s := by
  have r0 : SetR X.w s.heap D S n := (inv.hok D _ at').1
  refine setR_add r0 few fun hp same r1 => go _ ?_
  have there : ∃ u, hp.get? D = some u := r1.elim fun o q => q.elim fun _ q => q.elim fun _ q => q.elim fun _ q => ⟨o, q.1⟩
  exact inv.write (e := D) (t' := s.toks + 1) (by rw [at']; trivial) (.inl rfl)
    (fun b u ne hu => (same.2 b ne).trans hu) there (sIo_ok r1)
/-- {elt for tg in iter ..} of whole numbers: an invariant W over the turns -/
def tSI (w : World) (wi : TI) (g : TG) (tt : TT) (te : TE) (vs : List Nat) : TE := fun σ H Q => wi σ H fun J H1 =>
  ∀ D, H1 D = none → ∃ W : Nat → Nat → Hp → Prop, (∃ m, W 0 m (upd H1 D (sIo w D (fun _ => false) 0))) ∧
    ∀ i m H2, W i m H2 → (J.stop i H2 ∧ Q (.ref D) H2) ∨
      (J.go i H2 ∧ ∃ Nx : Hp → Prop, (∀ H3, Nx H3 → ∃ m', m' < m ∧ W (i + 1) m' H3) ∧
        ∀ x H3, J.yld i H2 x H3 → g x (L2.wipe σ vs) H3 fun σ2 H4 => L2.wipe σ2 vs = L2.wipe σ vs ∧ tt σ2 H4 fun b H5 =>
          if b = true then te σ2 H5 fun y H6 => ∃ (c : Int) (S : Int → Bool) (n : Nat), y = .int c ∧
            H6 D = some (sIo w D S n) ∧ n + 1 < scanBound ∧ Nx (upd H6 D (sIo w D (sMore S c) (nMore S c n)))
          else Nx H5)
theorem pe_setI {elt tg iter : Expr} {ifs : List Expr} {scope : Scope} {own : List (Str × Nat)} {pos : Pos}
    {wi : TI} {g : TG} {tt : TT} {te : TE} (calm : X.calm = true) (names : X.N.Nodup) (over : PI X tg iter wi)
    (blk : BlkOk X.N X.env.scope scope own)
    (pg : ∀ (s : Shared) (H : Hp) (C : Addr) (cl : List (Str × Addr)) (fp : List Addr),
      PG (X.blk s H scope (compEnvC scope cl C X.env) fp) tg g)
    (pt : ∀ (s : Shared) (H : Hp) (C : Addr) (cl : List (Str × Addr)) (fp : List Addr),
      PTs (X.blk s H scope (compEnvC scope cl C X.env) fp) ifs tt)
    (pe : ∀ (s : Shared) (H : Hp) (C : Addr) (cl : List (Str × Addr)) (fp : List Addr),
      PE (X.blk s H scope (compEnvC scope cl C X.env) fp) elt te)
    (plain : ∀ x, foldedSetIterable iter X.env x = pure x := by intro _; rfl) :
    PE X (.SetComp elt [⟨tg, iter, ifs, 0⟩] scope pos) (tSI X.w wi g tt te (own.map (·.2))) := by
  refine ⟨fun pins s σ H Q inv pre => ?_⟩
  rw [PpSet.eval_SetComp]
  have caught : ∀ y ∈ scope.names, y.2 = .free → ∃ c, X.env.cells.lookup y.1 = some c :=
    fun y hy fr => (blk.free y hy fr).elim (fun k => inv.ok.has _ (.inl k)) fun k => inv.ok.has _ (.inr k)
  refine wpAny_comprehension_free rfl plain (closure_ok caught) blk.kind
    (fun y hy fr => by rw [blk.uniq y hy, fr]) (thn (over.run pins s σ H _ inv pre) fun _ sa got => ?_)
  refine thn got fun _ sb met => ?_
  obtain ⟨it, fp, tn, J, Hb, rfl, invb, walk, stb, fpb, more⟩ := met
  refine PpSet.newSet_ok (newEnv_comp ?_)
  generalize eD : sb.heap.objs.size = D
  have fresh : Hb D = none := invb.hok.fresh (Nat.le_of_eq eD)
  obtain ⟨W, ⟨m0, begin0⟩, turns⟩ := more D fresh
  generalize eO : ({ cls := .type "set", dict := none, data := .set #[] 0 (.fresh 0 0 (!X.w.params.followText "set-order")) } : Obj) = O0
  generalize ec : ({ sb with heap := sb.heap.push O0 } : Shared) = sc
  have hc : sc.heap = sb.heap.push O0 := by rw [← ec]
  generalize eHc : upd Hb D (sIo X.w D (fun _ => false) 0) = Hc at begin0
  have invc : Inv X pins σ Hc sc := by
    rw [← ec, ← eHc]
    refine invb.laid (t' := sb.toks) (fun b o e => Heap.get?_push_of_some _ e) (Nat.le_of_eq eD) ?_
    rw [← eD, ← eO]
    exact sIo_ok (setR_fresh X.w)
  have low : ∀ b ∈ fp, b < sb.heap.objs.size := fun b hb =>
    (walk.obj _ _ stb b hb).elim fun _ q => Heap.lt_size q.1
  have fpc : ∀ b ∈ fp, FpOk X pins Hc b ∧ b < sc.heap.objs.size := by
    intro b hb
    have lt := low b hb
    have ne : b ≠ D := by rw [← eD]; exact Nat.ne_of_lt lt
    refine ⟨⟨by rw [← eHc, upd_ne ne]; exact (fpb b hb).1, (fpb b hb).2⟩, ?_⟩
    rw [hc, Heap.size_push]
    exact Nat.lt_succ_of_lt lt
  have stc : tn 0 sc.heap := walk.keep _ _ _ stb fun b _ o e => by rw [hc]; exact Heap.get?_push_of_some _ e
  have invd := block_start invc blk names fpc
  have PGb := pg sc Hc sc.heap.objs.size (cellsFrom (sc.heap.objs.size + 1) scope.names (cloFrom X.env.cells scope.names [])) fp
  have PTb := pt sc Hc sc.heap.objs.size (cellsFrom (sc.heap.objs.size + 1) scope.names (cloFrom X.env.cells scope.names [])) fp
  have PEb := pe sc Hc sc.heap.objs.size (cellsFrom (sc.heap.objs.size + 1) scope.names (cloFrom X.env.cells scope.names [])) fp
  have outside : ∀ b ∈ fp, Hc b = none := fun b hb => (fpc b hb).1.1
  let cells0 := cellsFrom (sc.heap.objs.size + 1) scope.names (cloFrom X.env.cells scope.names [])
  show codeAny _ _ (.compStart (.SetComp elt [⟨tg, iter, ifs, 0⟩] scope pos) 0 (.ref it) (.ref D)
      (compEnvC scope cells0 sc.heap.objs.size X.env))
    (compPost (model X.prog X.w) X.A X.xe none (EP X pins σ Q) (.ref D) sc.heap.objs.size)
    { sc with heap := pushCells (sc.heap.push { cls := .type "dict", data := .dict #[] }) scope.names }
  have ce_is : ∃ ce, ce = compEnvC scope cells0 sc.heap.objs.size X.env := ⟨_, rfl⟩
  obtain ⟨ce, ece⟩ := ce_is
  change L2.Inv (X.blk sc Hc scope (compEnvC scope cells0 sc.heap.objs.size X.env) fp) [] _ _ _ at invd
  change PG (X.blk sc Hc scope (compEnvC scope cells0 sc.heap.objs.size X.env) fp) tg g at PGb
  change PTs (X.blk sc Hc scope (compEnvC scope cells0 sc.heap.objs.size X.env) fp) ifs tt at PTb
  change PE (X.blk sc Hc scope (compEnvC scope cells0 sc.heap.objs.size X.env) fp) elt te at PEb
  rw [← ece] at invd PGb PTb PEb ⊢
  have home : ce.locals = sc.heap.objs.size := by rw [ece]; rfl
  clear ece
  obtain ⟨sd, esd⟩ : ∃ sd : Shared, sd = { sc with heap := pushCells (sc.heap.push { cls := .type "dict", data := .dict #[] }) scope.names } := ⟨_, rfl⟩
  change L2.Inv (X.blk sc Hc scope ce fp) [] _ _ { sc with heap := pushCells (sc.heap.push { cls := .type "dict", data := .dict #[] }) scope.names } at invd
  rw [← esd] at invd ⊢
  have std : tn 0 sd.heap := walk.keep _ _ _ stc fun b _ o e => by
    rw [esd]
    exact pushCells_keeps _ _ _ _ (Heap.get?_push_of_some _ e)
  clear esd
  have still : ∀ {τ : L2.St} {Hx : Hp} {sx : Shared}, L2.Inv (X.blk sc Hc scope ce fp) [] τ Hx sx →
      (∀ b ∈ fp, Hx b = none) → ∀ b ∈ fp, FpOk (X.blk sc Hc scope ce fp) [] Hx b := fun {τ Hx sx} iv no b hb =>
    ⟨no b hb, (iv.ok.exf b hb).1, iv.ok.exfs b hb, .inl hb, fun x c e => (iv.ok.exf b hb).2 x c e,
      fun p hp => absurd (show p ∈ ([] : List (Addr × Obj)) ++ [] from hp) (by simp)⟩
  have rounds : codeAny (model X.prog X.w) X.A (.compLoop (.SetComp elt [⟨tg, iter, ifs, 0⟩] scope pos) 0 (.ref it) (.ref D) ce)
      (compPost (model X.prog X.w) X.A X.xe none (EP X pins σ Q) (.ref D) sc.heap.objs.size) sd := by
    refine PpSet.compLoopS_any (fun k sx => ∃ i Hx, L2.Inv (X.blk sc Hc scope ce fp) [] (L2.wipe σ (own.map (·.2))) Hx sx ∧
      tn i sx.heap ∧ (∀ b ∈ fp, Hx b = none) ∧ W i k Hx) ?_ m0 ⟨0, Hc, invd, std, outside, begin0⟩
    rintro k se ⟨i, He, inve, ste, noe, now⟩
    rcases turns i k He now with ⟨over', told⟩ | ⟨on, Nx, next, each⟩
    · -- no turn more: back in the def
      have last := walk.done (X.blk sc Hc scope ce fp) rfl rfl rfl calm i [] se _ He (fun _ _ => False) inve (still inve noe) ste over'
      refine thnF last fun r sf ⟨er, invf⟩ => ?_
      subst er
      have invg : L2.Inv X pins σ He sf := invc.call' (ch := fp) invf.os invf.base invf.hok invf.bare
        fun b hb => let q := (fpc b hb).1.2; ⟨q.2.2.1, q.1, q.2.2.2.1, q.2.2.2.2⟩
      have none_home : He sc.heap.objs.size = none := by
        have z : He ce.locals = none := invf.free
        rw [home] at z
        exact z
      obtain ⟨ns, hns, _⟩ := invf.loc
      have hns : sf.heap.Ns ce.locals ns := hns
      rw [home] at hns
      obtain ⟨f0, f1, _, f3, f4, f5⟩ := invc.fpOk (Nat.le_refl _) none_home
      refine ⟨ns, hns, fun h'' sb' => ⟨.ref D, He, ?_, rfl, told⟩⟩
      exact invg.turned (t' := sf.toks) (fun b o hb e => (sb'.2 b hb).trans e) f0 f1 f3 f4 f5
    · have turn := walk.item (X.blk sc Hc scope ce fp) rfl rfl rfl calm i [] se _ He (fun _ _ => False) inve (still inve noe) ste on
      refine thnF turn fun r sf ⟨u, er, afterU⟩ => ?_
      subst er
      refine thnF afterU fun _ sg ⟨x, Hg, invg, relx, yl, stg, nog⟩ => ?_
      have pinned := invg.pinned (still invg nog) (walk.obj _ _ stg)
      refine thnF (PGb.run _ sg _ Hg x u _ pinned relx (each x Hg yl)) fun _ sh ⟨τ, Hh, invh, wiped, afterG⟩ => ?_
      refine thnF (PTb.run _ sh τ Hh _ invh afterG) fun b si ⟨Hi, invi, afterT⟩ => ?_
      have close : ∀ {sx : Shared} {Hx : Hp}, L2.Inv (X.blk sc Hc scope ce fp) ([] ++ pinsAt fp sg.heap) τ Hx sx → Nx Hx →
          ∃ m, m < k ∧ ∃ i Hx, L2.Inv (X.blk sc Hc scope ce fp) [] (L2.wipe σ (own.map (·.2))) Hx sx ∧ tn i sx.heap ∧
            (∀ b ∈ fp, Hx b = none) ∧ W i m Hx := fun {sx Hx} iv nx => by
        obtain ⟨m', lt, w'⟩ := next Hx nx
        have kept : ∀ b ∈ fp, ∀ o, sg.heap.get? b = some o → sx.heap.get? b = some o ∧ Hx b = none := fun b hb o e => by
          have z := iv.pin (b, o) (List.mem_append_right _ (List.mem_append_right _ (mem_pinsAt hb e)))
          exact ⟨z.1, z.2.1⟩
        have len : (L2.wipe σ (own.map (·.2))).length = τ.length := by rw [← wiped, wipe_length]
        refine ⟨m', lt, i + 1, Hx, (iv.unpinned (pins := [])).weak len (fun j v e => ?_), ?_, fun b hb => ?_, w'⟩
        · rw [← wiped] at e
          exact (wipe_some e).1
        · exact walk.keep _ _ _ stg fun b hb o e => (kept b hb o e).1
        · exact (walk.obj _ _ stg b hb).elim fun o q => (kept b hb o q.1).2
      cases b with
      | false => exact close invi afterT
      | true =>
        refine thnF (PEb.run _ si τ Hi _ invi afterT) fun z sj ⟨y, Hj, invj, relz, c, S, n, ey, atD, few, nx⟩ => ?_
        subst ey
        obtain ⟨tk, rfl⟩ := relz
        exact sIo_add (X := X.blk sc Hc scope ce fp) invj atD few fun sk invk => close invk nx
  exact PpSet.codeAny_compStart_set rounds (walk.self X.A 0 _ _ _ std rounds)
/-- sorted(a set of whole numbers, fewer than 64) -/
def rSortSI (w : World) : List V → Hp → VK → Prop := fun vs H Q => ∃ (a : Addr) (S : Int → Bool) (n : Nat), vs = [.ref a] ∧ H a = some (sIo w a S n) ∧ n < 64 ∧
  ∀ (ns : List Int) (p : Addr), ns.Pairwise (· < ·) → (∀ k, k ∈ ns ↔ S k = true) → H p = none → Q (.ref p) (upd H p (.lst (ns.map V.int)))
theorem cr_sortSI (calm : X.calm = true) : CallR X (.builtin "sorted") (rSortSI X.w) := by
  intro pins s σ H vs us Q inv r h
  obtain ⟨a, S, n, rfl, ha, n64, q⟩ := h
  obtain ⟨u, rfl, ru⟩ := vals1 r
  obtain rfl : u = Value.ref a := ru
  have r0 : SetR X.w s.heap a S n := (inv.hok a _ ha).1
  refine sorted_set r0 (inv.ok.hd calm) n64 fun s' p out c ns keep gs os sz at' whole lt mem len => ?_
  have hz : (ns.map V.int).length ≤ sizeLine := by rw [List.length_map, len, sizeLine_eq]; omega
  have i1 : L2.Inv X pins σ (upd H p (.lst (ns.map V.int))) { s with heap := s'.heap, toks := s.toks } :=
    inv.laid (t' := s.toks) keep sz ⟨hz, out.toList, c, vals_of_ints whole, at'⟩
  have i2 : L2.Inv X pins σ (upd H p (.lst (ns.map V.int))) s' :=
    i1.call' (ch := []) os (Un.kept fun _ _ e => e) i1.hok (by rw [gs]; exact inv.bare) fun _ z => nomatch z
  exact ⟨.ref p, _, i2, rfl, q ns p lt mem (inv.hok.fresh sz)⟩
end
theorem nt_ext {f : Heap → Prop} : NT (some (.ext f)) := ⟨(fun h => nomatch h), fun _ => ⟨(fun h => nomatch h), fun _ h => nomatch h⟩⟩
/-- the whole numbers that a comprehension tells, one behind another -/
def scGo (g : MG) (tt : MT) (te : ME) (env : Cells) : List PyData → List Int → (List Int → Prop) → Prop
  | [], acc, P => P acc
  | d :: ds, acc, P => g d env fun env' => tt env' fun b => if b = true then te env' fun y => onI y fun c => scGo g tt te env ds (acc ++ [c]) P else scGo g tt te env ds acc P
def mSortSc (I : ML) (g : MG) (tt : MT) (te : ME) (vs : List Nat) : ML := fun env P => I env fun ds => ds.length ≤ 60 ∧ scGo g tt te (wipeE env vs) ds [] fun ns =>
  ∀ ms : List Int, ms.Pairwise (· < ·) → (∀ k, k ∈ ms ↔ k ∈ ns) → P (ms.map PyData.int)
section
variable [XCtx] {w : World} {wi : TI} {g : TG} {tt : TT} {te : TE} {I : ML} {mg : MG} {mt : MT} {me : ME} {vs js : List Nat}
theorem scs_sound (hi : IS wi I) (hg : GS js g mg) (ht : QS tt mt) (he : ES te me) (hj : ∀ j ∈ js, j ∈ vs) : FS (tCB (rSortSI w) (tCons (tSI w wi g tt te vs) tNil)) (mSortSc I mg mt me vs) := by
  intro W Z O env σ H0 H P Q R hm k
  refine hi W Z O env σ H0 H _ _ R hm fun ds J H1 p1 g1 it => ?_
  obtain ⟨hz, p1⟩ := p1
  intro D hD
  have R1 := (R.tr g1).wipe vs
  have nD : ∀ a, ¬ ZO Z O a → ∀ u, H1 a = some u → ¬ ZO Z (fun a => O a ∨ a = D) a := by
    rintro a z u e (q | q | q)
    · exact z (.inl q)
    · exact z (.inr q)
    · rw [q, hD] at e
      cases e
  have on : ∀ a, (O a ∨ a = D) → O a ∨ H1 a = none := fun a q => q.imp id fun e => by rw [e]; exact hD
  have hDm : ¬ Mu W D := (R.tr g1).zmu ((R.tr g1).new hD)
  refine ⟨fun i m H2 => m = ds.length - i ∧ i ≤ ds.length ∧ Rel W Z (fun a => O a ∨ a = D) (wipeE env vs) (L2.wipe σ vs) H0 H2 ∧ Kp Z O H1 H2 ∧ Ge W H1 H2 ∧ ∃ (S : Int → Bool) (n : Nat) (acc : List Int), H2 D = some (sIo w D S n) ∧ (∀ c, S c = true ↔ c ∈ acc) ∧ n ≤ i ∧
    scGo mg mt me (wipeE env vs) (ds.drop i) acc fun ns => ∀ ms : List Int, ms.Pairwise (· < ·) → (∀ k, k ∈ ms ↔ k ∈ ns) → P (ms.map PyData.int), ⟨ds.length, by simp, Nat.zero_le _, R1.own hD nt_ext, fun a o z e => by rw [upd_ne (ne_of_none e hD)]; exact e, .new hD, fun _ => false, 0, [], upd_same, fun c => by simp, Nat.le_refl _, p1⟩, ?_⟩
  rintro i m H2 ⟨rfl, hle, R2, kp, g2, S, n, acc, hS, hm2, hn, go⟩
  by_cases hlt : i < ds.length
  · refine .inr ⟨it.goes i H2 hlt kp, fun H3 => Rel W Z (fun a => O a ∨ a = D) (wipeE env vs) (L2.wipe σ vs) H0 H3 ∧ Kp Z O H1 H3 ∧ Ge W H1 H3 ∧ ∃ (S : Int → Bool) (n : Nat) (acc : List Int), H3 D = some (sIo w D S n) ∧ (∀ c, S c = true ↔ c ∈ acc) ∧ n ≤ i + 1 ∧
      scGo mg mt me (wipeE env vs) (ds.drop (i + 1)) acc fun ns => ∀ ms : List Int, ms.Pairwise (· < ·) → (∀ k, k ∈ ms ↔ k ∈ ns) → P (ms.map PyData.int), fun H3 h3 => ⟨ds.length - (i + 1), by omega, rfl, hlt, h3⟩, fun x H3 y => ?_⟩
    obtain ⟨d, hd, g3, nd⟩ := yield_dn it R2 kp on hlt y
    have ed : ds.drop i = d :: ds.drop (i + 1) := by
      rw [List.drop_eq_getElem_cons hlt]
      rw [List.getElem?_eq_getElem hlt] at hd
      rw [Option.some.inj hd]
    rw [ed] at go
    have R3 := R2.tr g3
    refine hg W Z _ _ _ H0 H3 x d _ _ R3 nd go fun env' σ' go' R4 fr hl => ⟨wipe_eq (by rw [hl, wipe_length]) fun j hj' => fr j fun z => hj' (hj j z), ?_⟩
    refine ht W Z _ env' σ' H0 H3 _ _ R4 go' fun b H4 pb g4 => ?_
    have kp4 : ∀ H5, Ge W H2 H5 → Kp Z O H1 H5 := fun H5 g5 a o z e => g5.keep a o (fun mm => z (.inl (R.mz a mm))) (kp a o z e)
    cases b with
    | false =>
      have g24 := g3.trans g4
      exact ⟨R2.tr g24, kp4 _ g24, g2.trans g24, S, n, acc, g24.keep _ _ hDm hS, hm2, Nat.le_succ_of_le hn, pb⟩
    | true =>
      refine he W Z _ env' σ' H0 H4 _ _ (R4.tr g4) pb fun yd yv H5 py g5 ny => ?_
      obtain ⟨c, rfl, py⟩ := onI_iff py
      have ev : yv = .int c := by cases ny; rfl
      have g25 := (g3.trans g4).trans g5
      have R5 := R2.tr g25
      have hS5 := g25.keep _ _ hDm hS
      have noD : ∀ (j : Nat) (es : Hold), (wipeE env vs)[j]? = some (Cell.of es) → (L2.wipe σ vs)[j]? ≠ some (some (.ref D)) := fun j es ej sj => by
        obtain ⟨q, e1, oq⟩ := R1.holds ej
        rw [sj] at e1
        cases e1
        exact ((R.tr g1).oh D oq).1 hD
      refine ⟨c, S, n, ev, hS5, ?_, R5.put (.inr rfl) noD nt_ext, fun a o z e => ?_, ?_, sMore S c, nMore S c n, acc ++ [c], upd_same, fun j => ?_, ?_, py⟩
      · have : n + 1 ≤ 61 := by omega
        exact Nat.lt_of_le_of_lt this (by decide)
      · have ne : a ≠ D := fun q => by
          rw [q, hD] at e
          cases e
        rw [upd_ne ne]
        exact kp4 _ g25 a o z e
      · refine ⟨fun a o mm e => ?_, fun wo => ((g2.trans g25).wl wo).upd (.inr hDm)⟩
        have ne : a ≠ D := fun q => by
          rw [q, hD] at e
          cases e
        rw [upd_ne ne]
        exact (g2.trans g25).keep a o mm e
      · show (S j || decide (j = c)) = true ↔ j ∈ acc ++ [c]
        rw [Bool.or_eq_true, decide_eq_true_eq, hm2, List.mem_append, List.mem_singleton]
      · show (if S c = true then n else n + 1) ≤ i + 1
        split <;> omega
  · have e : i = ds.length := by omega
    subst e
    refine .inl ⟨it.stops H2 kp, ?_⟩
    rw [List.drop_length] at go
    refine ⟨D, S, n, rfl, hS, by omega, fun ns p lt mem hp => ?_⟩
    have g3 : Ge W H (upd H2 p (.lst (ns.map V.int))) := (g1.trans g2).new' hp
    exact k _ p _ _ (go ns lt fun j => (mem j).trans (hm2 j)) g3 ((g1.trans g2).fresh R.wl hp) upd_same (DnAll.of_ints ns)
end
section
variable [XCtx] {X : Cx} {elt tg iter : Expr} {ifs : List Expr} {scope : Scope} {own : List (Str × Nat)} {pos pos' p : Pos} {wi : TI} {g : TG} {tt : TT} {te : TE} {I : ML} {mg : MG} {mt : MT} {me : ME} {js : List Nat}
/-- sorted({elt for tg in iter ..}), whole numbers -/
theorem jf_sortSc (own : List (Str × Nat)) (hm : X.mg "sorted" = none) (hN : X.N.Nodup) (hi : JI X tg iter wi I) (ok : BlkOk X.N X.env.scope scope own) (hg : ∀ (s : Shared) (H : Hp) (C : Addr) (cl : List (Str × Addr)) (fp : List Addr), JG (X.blk s H scope (compEnvC scope cl C X.env) fp) js tg g mg)
    (ht : ∀ (s : Shared) (H : Hp) (C : Addr) (cl : List (Str × Addr)) (fp : List Addr), JTs (X.blk s H scope (compEnvC scope cl C X.env) fp) ifs tt mt) (he : ∀ (s : Shared) (H : Hp) (C : Addr) (cl : List (Str × Addr)) (fp : List Addr), JE (X.blk s H scope (compEnvC scope cl C X.env) fp) elt te me)
    (hj : ∀ j ∈ js, j ∈ own.map (·.2) := by decide) (hc : X.calm = true := by rfl) (hs : ∀ x, foldedSetIterable iter X.env x = pure x := by intro _; rfl) (hgl : Gl X "sorted" := by rfl)
    (hst : starEach [.SetComp elt [⟨tg, iter, ifs, 0⟩] scope pos] X.env = (false, eval (.SetComp elt [⟨tg, iter, ifs, 0⟩] scope pos) X.env) :: starEach [] X.env := by rfl) :
    JF X (.Call (.Name "sorted" p) [.SetComp elt [⟨tg, iter, ifs, 0⟩] scope pos] [] pos') (tCB (rSortSI X.w) (tCons (tSI X.w wi g tt te (own.map (·.2))) tNil)) (mSortSc I mg mt me (own.map (·.2))) :=
  ⟨pe_callB (cr_sortSI hc) hgl hm (by decide +kernel) (pa_cons (pe_setI hc hN hi.pe ok (fun s H C cl fp => (hg s H C cl fp).pe) (fun s H C cl fp => (ht s H C cl fp).pe) (fun s H C cl fp => (he s H C cl fp).pe) hs) pa_nil hst) (by decide) (by decide) hst rfl,
   scs_sound hi.es (hg X.s_0 X.H_0 0 [] []).es (ht X.s_0 X.H_0 0 [] []).es (he X.s_0 X.H_0 0 [] []).es hj⟩
end
section
variable [XCtx] {X : Cx} {elt tg iter : Expr} {ifs : List Expr} {scope : Scope} {pos pos' p : Pos} {wi : TI} {g : Shared → Hp → Addr → List (Str × Addr) → List Addr → TG} {tt : Shared → Hp → Addr → List (Str × Addr) → List Addr → TT} {te : Shared → Hp → Addr → List (Str × Addr) → List Addr → TE} {I : ML} {mg : MG} {mt : MT} {me : ME} {js : List Nat}
theorem jf_sortScF (own : List (Str × Nat)) (hm : X.mg "sorted" = none) (hN : X.N.Nodup) (hi : JI X tg iter wi I) (ok : BlkOk X.N X.env.scope scope own) (hg : ∀ (s : Shared) (H : Hp) (C : Addr) (cl : List (Str × Addr)) (fp : List Addr), JG (X.blk s H scope (compEnvC scope cl C X.env) fp) js tg (g s H C cl fp) mg)
    (ht : ∀ (s : Shared) (H : Hp) (C : Addr) (cl : List (Str × Addr)) (fp : List Addr), JTs (X.blk s H scope (compEnvC scope cl C X.env) fp) ifs (tt s H C cl fp) mt) (he : ∀ (s : Shared) (H : Hp) (C : Addr) (cl : List (Str × Addr)) (fp : List Addr), JE (X.blk s H scope (compEnvC scope cl C X.env) fp) elt (te s H C cl fp) me)
    (hj : ∀ j ∈ js, j ∈ own.map (·.2) := by decide) (hc : X.calm = true := by rfl) (hs : ∀ x, foldedSetIterable iter X.env x = pure x := by intro _; rfl) (hgl : Gl X "sorted" := by rfl)
    (hst : starEach [.SetComp elt [⟨tg, iter, ifs, 0⟩] scope pos] X.env = (false, eval (.SetComp elt [⟨tg, iter, ifs, 0⟩] scope pos) X.env) :: starEach [] X.env := by rfl)
    (eg : ∀ (s : Shared) (H : Hp) (C : Addr) (cl : List (Str × Addr)) (fp : List Addr), g s H C cl fp = g X.s_0 X.H_0 0 [] [] := by intro _ _ _ _ _; rfl) (ett : ∀ (s : Shared) (H : Hp) (C : Addr) (cl : List (Str × Addr)) (fp : List Addr), tt s H C cl fp = tt X.s_0 X.H_0 0 [] [] := by intro _ _ _ _ _; rfl) (ete : ∀ (s : Shared) (H : Hp) (C : Addr) (cl : List (Str × Addr)) (fp : List Addr), te s H C cl fp = te X.s_0 X.H_0 0 [] [] := by intro _ _ _ _ _; rfl) :
    JF X (.Call (.Name "sorted" p) [.SetComp elt [⟨tg, iter, ifs, 0⟩] scope pos] [] pos') (tCB (rSortSI X.w) (tCons (tSI X.w wi (g X.s_0 X.H_0 0 [] []) (tt X.s_0 X.H_0 0 [] []) (te X.s_0 X.H_0 0 [] []) (own.map (·.2))) tNil)) (mSortSc I mg mt me (own.map (·.2))) :=
  jf_sortSc own hm hN hi ok (fun s H C cl fp => eg s H C cl fp ▸ hg s H C cl fp) (fun s H C cl fp => ett s H C cl fp ▸ ht s H C cl fp) (fun s H C cl fp => ete s H C cl fp ▸ he s H C cl fp) hj hc hs hgl hst
end
end Dw

set_option maxRecDepth 100000
set_option maxHeartbeats 4000000
/-! Dw47 (known tuples): zip of two tuples, whose pairs are known tuples. -/
namespace Dw
open PySem PySem.Spec PyProof.Rows L2
/-- the items of two tuples by pairs, each pair a known object -/
def ItzK (K : PySem.W.Frag) (a b : Addr) : It where
  go := (RZ.ItzT K a b).go
  stop := (RZ.ItzT K a b).stop
  yld := fun i H v H' => ∃ T x y, v = .ref T ∧ H T = none ∧
    (∃ o : Obj, o.cls = .type "tuple" ∧ o.dict = none ∧ H' = upd H T (.frz o (.tup [x, y]))) ∧
    (∀ xs, SqT K H a xs → xs[i]? = some x) ∧ ∀ ys, SqT K H b ys → ys[i]? = some y
theorem turn_zipK {P : Program} {w : World} {K : PySem.W.Frag} {elts : List Expr} {kk : Nat} {tpos : Pos}
    {a b z p r j k : Addr} (apart : ZipApart z p r j k a b) :
    Turn P w K (.Tuple elts kk tpos) (ItzK K a b) [z, p, r, j, k] z
      (fun i h => IsZip h z p r .none ∧ IsPair h p (.ref j) (.ref k) ∧ (∃ x y, IsPair h r x y) ∧
        h.IsTupleIter j a i ∧ h.IsTupleIter k b i) where
  mem := (RZ.turn_zipT (P := P) (w := w) (K := K) (elts := elts) (kk := kk) (tpos := tpos) apart).mem
  obj := (RZ.turn_zipT (P := P) (w := w) (K := K) (elts := elts) (kk := kk) (tpos := tpos) apart).obj
  keep := (RZ.turn_zipT (P := P) (w := w) (K := K) (elts := elts) (kk := kk) (tpos := tpos) apart).keep
  done := (RZ.turn_zipT (P := P) (w := w) (K := K) (elts := elts) (kk := kk) (tpos := tpos) apart).done
  self := (RZ.turn_zipT (P := P) (w := w) (K := K) (elts := elts) (kk := kk) (tpos := tpos) apart).self
  item := by
    intro X eP ew eK calm i pins s σ H E inv foot st more
    subst eP ew eK
    obtain ⟨isz, isp, ⟨r1, r2, isr⟩, itj, itk⟩ := st
    obtain ⟨xs, ys, x, y, qx, qy, gx, gy⟩ := more
    obtain ⟨us, vx, tx, _⟩ := inv.tuple qx
    obtain ⟨ws, vy, ty, _⟩ := inv.tuple qy
    obtain ⟨u, gu, ru⟩ := vx.get gx
    obtain ⟨v, gv, rv⟩ := vy.get gy
    have zlow : z < s.heap.objs.size := Heap.lt_size isz
    have plow : p < s.heap.objs.size := Heap.lt_size isp
    have rlow : r < s.heap.objs.size := Heap.lt_size isr
    have jlow : j < s.heap.objs.size := itj.elim fun _ q => Heap.lt_size q.1
    have klow : k < s.heap.objs.size := itk.elim fun _ q => Heap.lt_size q.1
    refine RZ.pyNext_zipT_item apart isz isp isr itj itk tx ty (x := u) (y := v) (by simpa using gu) (by simpa using gv)
      fun h1 isz1 isr1 itj1 itk1 made grown kept => ?_
    refine ⟨_, rfl, wpAny_letOwnedTupleGo_zip (s := { s with heap := h1 }) isz1 fun h2 isz2 same => ?_⟩
    let O : Obj := { cls := .type "tuple", data := .seq #[u, v] }
    have made2 : h2.get? s.heap.objs.size = some O := (same.2 _ (Nat.ne_of_gt zlow)).trans made
    have fine : ObjOk X.prog X.w (upd H s.heap.objs.size (.frz O (.tup [x, y]))) h2 s.heap.objs.size (.frz O (.tup [x, y])) :=
      ⟨made2, by show 2 ≤ sizeLine; decide, [u, v], .cons ru (.cons rv .nil), ⟨_, made2, rfl, _, rfl⟩⟩
    have away : ∀ c o, c ∉ [z, p, r, j, k] → s.heap.get? c = some o → h2.get? c = some o := fun c o no q => by
      have n1 : c ≠ z := fun e => no (by simp [e])
      have n2 : c ≠ p := fun e => no (by simp [e])
      have n3 : c ≠ r := fun e => no (by simp [e])
      have n4 : c ≠ j := fun e => no (by simp [e])
      have n5 : c ≠ k := fun e => no (by simp [e])
      exact (same.2 c n1).trans (kept c o n1 n3 n4 n5 q)
    have inv2 : L2.Inv X pins σ (upd H s.heap.objs.size (.frz O (.tup [x, y]))) { s with heap := h2 } :=
      inv.turnedNew (t' := s.toks) (ch := [z, p, r, j, k]) away foot (Nat.le_refl _) fine
    refine ⟨.ref s.heap.objs.size, _, inv2, rfl, ⟨_, x, y, rfl, inv.hok.fresh (Nat.le_refl _), ⟨O, rfl, rfl, rfl⟩,
      fun l hl => by rw [inv.tuple_inj hl qx]; exact gx, fun l hl => by rw [inv.tuple_inj hl qy]; exact gy⟩, ?_, fun c hc => ?_⟩
    · refine ⟨isz2, ?_, ⟨u, v, (same.2 _ apart.TOz).trans isr1⟩, itj1.at fun o q => (same.2 _ apart.i1z).trans q, itk1.at fun o q => (same.2 _ apart.i2z).trans q⟩
      exact (same.2 _ apart.TIz).trans (kept _ _ apart.TIz apart.TITO apart.TIi1 apart.TIi2 isp)
    · have low : c < s.heap.objs.size := by
        simp only [List.mem_cons, List.not_mem_nil, or_false] at hc
        rcases hc with e | e | e | e | e <;> rw [e] <;> assumption
      rw [upd_ne (Nat.ne_of_lt low)]
      exact (foot c hc).1
def iZipK (K : PySem.W.Frag) (ta : TA) : TI := fun σ H R => ta σ H fun vs H1 => ∃ a b xs ys, vs = [.ref a, .ref b] ∧ SqT K H1 a xs ∧ SqT K H1 b ys ∧ R (ItzK K a b) H1
theorem pi_zipK {X : Cx} {e e2 : Expr} {ta : TA} {p pos tpos : Pos} {elts : List Expr} {kk : Nat} (here : Gl X "zip") (bare : X.mg "zip" = none) (args : PA X [e, e2] ta)
    (st : starEach [e, e2] X.env = (false, eval e X.env) :: starEach [e2] X.env := by rfl) (no : (backTo pos (starEach [e2] X.env)).any (·.1) = false := by rfl) :
    PI X (.Tuple elts kk tpos) (.Call (.Name "zip" p) [e, e2] [] pos) (iZipK X.K ta) := by
  refine ⟨fun pins s σ H R inv want => Call_ (ld_blt inv here bare PyProof.Rows.boot_zip (PyProof.Rows.callWith_type1 (thn (args.run pos pins s σ H _ inv want) fun us sa ⟨vs, Ha, inva, ra, told⟩ => ?_) st no))⟩
  obtain ⟨a, b, xs, ys, rfl, qx, qy, told⟩ := told
  obtain ⟨u1, u2, rfl, r1, r2⟩ := vals2 ra
  obtain rfl : u1 = Value.ref a := r1
  obtain rfl : u2 = Value.ref b := r2
  have foot : ∀ c, c ∈ [sa.heap.objs.size + 4, sa.heap.objs.size + 2, sa.heap.objs.size + 3, sa.heap.objs.size, sa.heap.objs.size + 1] → FpOk X pins Ha c := fun c hc => by
    have high : sa.heap.objs.size ≤ c := by
      simp only [List.mem_cons, List.not_mem_nil, or_false] at hc
      rcases hc with e | e | e | e | e <;> rw [e]
      · exact Nat.le_add_right _ _
      · exact Nat.le_add_right _ _
      · exact Nat.le_add_right _ _
      · exact Nat.le_refl _
      · exact Nat.le_add_right _ _
    exact inva.fpOk high (inva.hok.fresh high)
  obtain ⟨its, v1, t1, _⟩ := inva.tuple qx
  obtain ⟨jts, v2, t2, _⟩ := inva.tuple qy
  have alow : a < sa.heap.objs.size := t1.elim fun _ q => Heap.lt_size q.1
  have blow : b < sa.heap.objs.size := t2.elim fun _ q => Heap.lt_size q.1
  refine RZ.call_zipT (show sa.heap.IsTuple a its.toArray from t1) (show sa.heap.IsTuple b jts.toArray from t2) fun hb isz isp isr itj itk grown kept => wpAny_pyIter_zip isz ?_
  have invb : L2.Inv X pins σ Ha { sa with heap := hb } := inva.kept (t' := sa.toks) kept
  exact ⟨sa.heap.objs.size + 4, _, _, _, Ha, rfl, invb, turn_zipK (PySem.W.ktu_apart sa.heap.objs.size a b alow blow), ⟨isz, isp, ⟨_, _, isr⟩, itj, itk⟩, foot, told⟩
theorem iter_zipK {Z O : Addr → Prop} {K : PySem.W.Frag} {a b : Addr} {xs ys : List V} {ds es : List PyData} {H1 : Hp} (h : TupAt H1 a xs) (nz : ¬ ZO Z O a) (n : DnAll H1 (ZO Z O) xs ds) (h' : TupAt H1 b ys) (nz' : ¬ ZO Z O b) (n' : DnAll H1 (ZO Z O) ys es) :
    IterD Z O (ItzK K a b) (zipD ds es) H1 where
  goes := fun i H hi k => by
    rw [zipD_length] at hi
    obtain ⟨v, hv, _⟩ := n.get (List.getElem?_eq_getElem (show i < ds.length by omega))
    obtain ⟨u, hu, _⟩ := n'.get (List.getElem?_eq_getElem (show i < es.length by omega))
    exact ⟨xs, ys, v, u, SqT.of (h.tr fun o => k _ o nz), SqT.of (h'.tr fun o => k _ o nz'), hv, hu⟩
  stops := fun H k => by
    rw [zipD_length, ← n.length, ← n'.length]
    exact ⟨xs, ys, SqT.of (h.tr fun o => k _ o nz), SqT.of (h'.tr fun o => k _ o nz'), by omega⟩
  yields := fun i H x H' hi k y => by
    rw [zipD_length] at hi
    have i1 : i < ds.length := by omega
    have i2 : i < es.length := by omega
    obtain ⟨v, hv, nv⟩ := n.get (List.getElem?_eq_getElem i1)
    obtain ⟨u, hu, nu⟩ := n'.get (List.getElem?_eq_getElem i2)
    obtain ⟨T, v', u', rfl, hT, ⟨o, oc, od, rfl⟩, f1, f2⟩ := y
    have e1 := f1 _ (SqT.of (h.tr fun o => k _ o nz))
    have e2 := f2 _ (SqT.of (h'.tr fun o => k _ o nz'))
    rw [hv] at e1
    rw [hu] at e2
    cases e1
    cases e2
    exact ⟨_, zipD_get (List.getElem?_eq_getElem i1) (List.getElem?_eq_getElem i2), .inr ⟨T, _, _, _, _, _, rfl, hT, rfl, TupAt.up oc od, rfl, nv, nu⟩⟩
section
variable [XCtx] {X : Cx} {e e2 : Expr} {ta : TA} {M : ML} {n : Nat} {p pos tpos : Pos} {elts : List Expr} {kk : Nat}
/-- zip of two tuples (the form of mZip; lists can't be said here) -/
def mZipK (A : ML) : ML := fun env P => A env fun ds => on2 ds fun d e => False ∨ (onU d fun xs => onU e fun ys => P (zipD xs ys))
theorem ji_zipK (hm : X.mg "zip" = none) (ha : JA X n [e, e2] ta M) (hg : Gl X "zip" := by rfl) (hs : starEach [e, e2] X.env = (false, eval e X.env) :: starEach [e2] X.env := by rfl) (hpl : (backTo pos (starEach [e2] X.env)).any (·.1) = false := by rfl) :
    JI X (.Tuple elts kk tpos) (.Call (.Name "zip" p) [e, e2] [] pos) (iZipK X.K ta) (mZipK M) := ⟨pi_zipK hg hm ha.pe hs hpl, fun W Z O env σ H0 H P R0 R hm k => by
  refine ha.es W Z O env σ H0 H _ _ R hm fun ds vs H1 p1 l1 g1 n1 => ?_
  obtain ⟨d, d', rfl, p1⟩ := on2_iff p1
  cases n1 with
  | cons n1 n2 =>
    cases n2 with
    | cons n2 n3 =>
      cases n3
      rcases p1 with p1 | p1
      · exact p1.elim
      · obtain ⟨xs, rfl, p2⟩ := onU_iff p1
        obtain ⟨ys, rfl, p3⟩ := onU_iff p2
        cases n1 with
        | tup h1 z1 r1 =>
          cases n2 with
          | tup h2 z2 r2 => exact ⟨_, _, _, _, rfl, SqT.of h1, SqT.of h2, k _ _ H1 p3 g1 (iter_zipK h1 z1 r1 h2 z2 r2)⟩⟩
end
end Dw

set_option maxRecDepth 100000
set_option maxHeartbeats 4000000
/-! Dw48 (known tuples): sorted(set(a list of whole numbers)). -/
namespace Dw
open PySem PySem.Spec PyProof.Rows L2
/-- a new empty set's object -/
abbrev set0 (w : World) : Obj := { cls := .type "set", dict := none, data := .set #[] 0 (.fresh 0 0 (!w.params.followText "set-order")) }
section
variable {P : Program} {w : World} {A : Around} {E : Value → Shared → Prop} {s : Shared}
set_option maxHeartbeats 3200000 in
theorem setList_ok {l : Addr} {items : Array Value} (ns : List Int) {Q : Value → Shared → Prop} (calm : A.handled = none)
    (there : s.heap.IsList l items) (say : IntsAre items.toList ns) (few : ns.length + 1 < scanBound)
    (go : ∀ (hz : Heap) (tk c : Nat), SetR w hz s.heap.objs.size (fun j => decide (j ∈ ns)) c → c ≤ ns.length →
      (∀ b o, s.heap.get? b = some o → hz.get? b = some o) → Q (.ref s.heap.objs.size) { s with heap := hz, toks := tk }) :
    wpAny (model P w) A (call (.type "set") [.ref l]) Q E s := by
  have size : items.size = ns.length := by
    have := IntsAre.length say
    rwa [Array.length_toList] at this
  obtain ⟨c, tl, hmro⟩ := F.called_set.mro
  have hmade := F.called_set.made
  have hsub := F.called_set.sub
  refine wpAny_call (codeAny_of_tree ?_)
  show wpAny _ _ (callAny (.type "set") _) _ _ _
  refine wpAny_pure ⟨Code.quiet_builtin _ (by decide +kernel), codeAny_builtin F.entry_type_call ?_⟩
  rw [Around.under_plain (weight_type_call_type "set" [.ref l] []) rfl]
  have h1 := F.called_set.notType
  have h2 := F.called_set.canCreate
  have hct := F.typeCall_set_1 (.ref l)
  repeat (any_goals (first | assumption | wp_step))
  refine codeAny_mono (code_set_led1 (.ref l) (E := E)
    (Q₁ := fun made s1 => made = .ref s.heap.objs.size ∧ s1 = { s with heap := s.heap.push (set0 w) }) ⟨rfl, rfl⟩) fun r s1 out => ?_
  cases r with
  | error e => exact out
  | ok flow =>
    cases flow with
    | ret made =>
      obtain ⟨rfl, rfl⟩ := out
      have at1 : (s.heap.push (set0 w)).get? s.heap.objs.size = some (set0 w) := Heap.get?_push_size _ rfl
      have ty1 : Shared.TypeIs { s with heap := s.heap.push (set0 w) } (.ref s.heap.objs.size) "set" := ⟨_, at1, rfl⟩
      have hli := F.called_set.init.lookup
      have hbi := F.called_set.init.bind (.ref s.heap.objs.size)
      repeat (any_goals (first | assumption | wp_step))
      refine codeAny_mono (codeAny_call_builtin (R := wants (fun r s2 => r = .none ∧ ∃ hz tk c, s2 = { s with heap := hz, toks := tk } ∧
          SetR w hz s.heap.objs.size (fun j => decide (j ∈ ns)) c ∧ c ≤ ns.length ∧
          ∀ b o, s.heap.get? b = some o → hz.get? b = some o) E) F.called_set.init.plain F.entry_set_init (check_set_init_1 ty1 ?_)) fun r2 s2 out2 => ?_
      · obtain ⟨ol, hol, hcl, nl, hdl⟩ := there
        obtain ⟨ocls, odict, odata, oslots⟩ := ol
        simp only at hcl hdl
        subst hcl hdl
        have old : ∀ {b : Addr} {o : Obj}, s.heap.get? b = some o → (s.heap.push (set0 w)).get? b = some o := fun q => Heap.get?_push_of_some _ q
        have list1 : (s.heap.push (set0 w)).IsList l items := ⟨_, old hol, rfl, nl, rfl⟩
        have hol' := old hol
        have n1 := F.sub_list_set
        have n2 := F.sub_list_frozenset
        have n3 : (Value.type "list" == Value.type "dict") = false := by decide
        unfold Builtin.«set.__init__» noKeywords Builtin.Frozenset.updateFrom
        generalize hPI : pyIter = PI
        wp_walk
        subst hPI
        refine wpAny_pyIter_list list1 ?_
        refine wpAny_bind (wpAny_runValue ?_)
        have low : l < s.heap.objs.size := Heap.lt_size hol
        have top : (s.heap.push (set0 w)).objs.size = s.heap.objs.size + 1 := Heap.size_push ..
        have calm3 : A.in1.in1.in1.handled = none := by simp [calm]
        have apart : l ≠ (s.heap.push (set0 w)).objs.size := by rw [top]; exact Nat.ne_of_lt (Nat.lt_succ_of_lt low)
        have alone : s.heap.objs.size ∉ [(s.heap.push (set0 w)).objs.size, l] := by
          rw [top]
          intro z
          simp only [List.mem_cons, List.not_mem_nil, or_false] at z
          rcases z with e | e
          · exact absurd e (Nat.ne_of_lt (Nat.lt_succ_self _))
          · exact absurd e (Nat.ne_of_gt low)
        have told : ∀ (i : Nat) (v : Value), items[i]? = some v → ∃ k t, ns[i]? = some k ∧ v = .int k t := fun i v hv => by
          have hi : i < ns.length := by rw [← size]; exact (Array.getElem?_eq_some_iff.mp hv).1
          obtain ⟨t, e⟩ := PyProof.Rows.IntsAre.int_at say i v (by rw [Array.getElem?_toList]; exact hv)
          exact ⟨ns[i], t, List.getElem?_eq_getElem hi, by rw [e, List.getD_eq_getElem?_getD, List.getElem?_eq_getElem hi]; rfl⟩
        refine set_update_ints ((Walks.list calm3 _ l apart items).toS) s.heap.objs.size alone ns size few told
          (items.size - 0) 0 _ (by omega) (Nat.zero_le _) ⟨⟨_, Heap.get?_push_size _ rfl, rfl, rfl⟩, list1.push _⟩ ?first ?last
        case first => exact ⟨0, Nat.le_refl 0, setR_new_at (Heap.get?_push_of_some _ at1)⟩
        case last =>
          intro sz cz moved most now
          obtain ⟨hz, gz, dz, tz, oz⟩ := sz
          have eg : gz = s.gens := moved.gens
          have ed : dz = s.drawn := moved.drawn
          have eo : oz = s.os := moved.os
          subst eg ed eo
          show wpAny _ _ _ _ _ _
          refine wpAny_pure ?_
          show wpAny _ _ (ret Value.none) _ _ _
          rw [size] at most
          refine wpAny_pure ⟨rfl, hz, tz, cz, rfl, now, most, fun b o e => ?_⟩
          have lt := Heap.lt_size e
          refine moved.heap b o (fun z => ?_) (Heap.get?_push_of_some _ (old e))
          rw [top] at z
          simp only [List.mem_cons, List.not_mem_nil, or_false] at z
          rcases z with e | e
          · exact absurd e (Nat.ne_of_lt lt)
          · exact absurd e (Nat.ne_of_lt (Nat.lt_succ_of_lt lt))
      · cases r2 with
        | error e => exact out2
        | ok flow2 =>
          cases flow2 with
          | ret r =>
            obtain ⟨rfl, hz, tk, cz, rfl, now, most, keep⟩ := out2
            repeat (any_goals (first | assumption | wp_step))
            exact go _ _ _ now most keep
          | _ => exact out2.elim
    | _ => exact out.elim
end
end Dw

set_option maxRecDepth 100000
set_option maxHeartbeats 4000000
/-! Dw49 (known tuples): sorted(set(a list of whole numbers)), the rule. -/
namespace Dw
open PySem PySem.Spec PyProof.Rows L2
section
variable {X : Cx}
/-- set(a list of whole numbers) -/
def rSetL (K : PySem.W.Frag) (w : World) : List V → Hp → VK → Prop := fun vs H Q => ∃ (l : Addr) (ns : List Int), vs = [.ref l] ∧ SqL K H l (ns.map V.int) ∧ ns.length ≤ 60 ∧
  ∀ (D : Addr) (c : Nat), H D = none → c ≤ ns.length → Q (.ref D) (upd H D (sIo w D (fun j => decide (j ∈ ns)) c))
theorem cr_setL (calm : X.calm = true) : CallR X (.type "set") (rSetL X.K X.w) := by
  intro pins s σ H vs us Q inv r h
  obtain ⟨l, ns, rfl, hs, few, q⟩ := h
  obtain ⟨its, rv, hl, _⟩ := inv.list hs
  rw [Vals.ref1 r]
  have room : ns.length + 1 < scanBound := Nat.lt_of_le_of_lt (Nat.succ_le_succ few) (by decide)
  refine setList_ok ns (inv.ok.hd calm) hl.isList (by simpa using RZ.intsAre_vals rv) room fun hz tk c now most keep => ?_
  exact ⟨.ref _, _, inv.laid (t' := tk) keep (Nat.le_refl _) (sIo_ok now), rfl, q _ c (inv.hok.fresh (Nat.le_refl _)) most⟩
end
section
variable [XCtx]
def fSortSet (ds : List PyData) (P : List PyData → Prop) : Prop := on1 ds fun d => onL d fun xs => ∃ ns : List Int, xs = ns.map PyData.int ∧ ns.length ≤ 60 ∧ ∀ ms : List Int, ms.Pairwise (· < ·) → (∀ k, k ∈ ms ↔ k ∈ ns) → P (ms.map PyData.int)
theorem rf_sortSet {K : PySem.W.Frag} {w : World} : RF (fun vs H Q => rSetL K w vs H fun x H1 => rSortSI w [x] H1 Q) fSortSet := by
  intro W Z O env σ H0 H vs ds P Q R hv hf k
  obtain ⟨d, rfl, hf⟩ := on1_iff hf
  obtain ⟨v, rfl, hw⟩ := hv.one
  obtain ⟨xs, rfl, ns, rfl, few, hp⟩ := onL_iff hf
  obtain ⟨p, ys, rfl, h1, n⟩ := hw.list
  obtain rfl := n.ints
  refine ⟨p, ns, rfl, SqL.of h1, few, fun D c hD le => ⟨D, _, c, rfl, upd_same, by omega, fun ms q lt mem hq => ?_⟩⟩
  exact k _ q _ _ (hp ms lt fun j => (mem j).trans (by simp)) ((Ge.new hD).new' hq) ((Ge.new hD).fresh R.wl hq) upd_same (DnAll.of_ints ms)
variable {X : Cx} {e : Expr} {t : TA} {M : ML} {pos p p2 pos2 : Pos}
theorem jf_sortSet (hm : X.mg "sorted" = none) (hm2 : X.mg "set" = none) (ha : JAb X [e] t M) (hg : Gl X "sorted" := by rfl) (hg2 : Gl X "set" := by rfl) (hc : X.calm = true := by rfl) (he : starEach [e] X.env = (false, eval e X.env) :: starEach [] X.env := by rfl)
    (he2 : starEach [.Call (.Name "set" p2) [e] [] pos2] X.env = (false, eval (.Call (.Name "set" p2) [e] [] pos2) X.env) :: starEach [] X.env := by rfl) :
    JF X (.Call (.Name "sorted" p) [.Call (.Name "set" p2) [e] [] pos2] [] pos) (tCB (rSortSI X.w) (tCons (tCB (rSetL X.K X.w) t) tNil)) (mBlF fSortSet M) :=
  ⟨pe_callB (cr_sortSI hc) hg hm (by decide +kernel) (pa_cons (pe_callTy (cr_setL hc) hg2 hm2 (by decide +kernel) ha.pe (by decide) (by decide) he rfl) pa_nil he2) (by decide) (by decide) he2 rfl, by
    have k := cbF_sound (t := t) ha.es (rf_sortSet (K := X.K) (w := X.w))
    exact k⟩
end
end Dw

set_option maxRecDepth 100000
set_option maxHeartbeats 4000000
namespace Lk15
open PySem PySem.Spec PyProof.Rows L2 Dw
def topS (i : Nat) : Stmt := PySem.Challenge.pw_unevenroads_k15_whole_ways_turned_and_tr.main.body.getD i (.Pass ⟨0, 0, 0, 0⟩)
abbrev s_is_integer : Stmt := topS 4
theorem sc_is_integer : FnScope ["value"] ["value"] (defScope s_is_integer) := ⟨rfl, rfl, rfl, by decide +kernel, rfl, by decide +kernel, by decide +kernel⟩
abbrev s_is_tuple_of : Stmt := topS 5
theorem sc_is_tuple_of : FnScope ["value", "many"] ["value", "many"] (defScope s_is_tuple_of) := ⟨rfl, rfl, rfl, by decide +kernel, rfl, by decide +kernel, by decide +kernel⟩
abbrev s_sums_of : Stmt := topS 7
theorem sc_sums_of : FnScope ["web", "standing", "sums", "road", "a", "b"] ["web", "standing"] (defScope s_sums_of) := ⟨rfl, rfl, rfl, by decide +kernel, rfl, by decide +kernel, by decide +kernel⟩
abbrev s_deed_error : Stmt := topS 9
theorem sc_deed_error : FnScope ["web", "standing", "value", "road", "by", "sums", "a", "b"] ["web", "standing", "value"] (defScope s_deed_error) := ⟨rfl, rfl, rfl, by decide +kernel, rfl, by decide +kernel, by decide +kernel⟩
abbrev s_has_room : Stmt := topS 10
theorem sc_has_room : FnScope ["web", "standing", "road", "by"] ["web", "standing", "road", "by"] (defScope s_has_room) := ⟨rfl, rfl, rfl, by decide +kernel, rfl, by decide +kernel, by decide +kernel⟩
abbrev s_done : Stmt := topS 11
theorem sc_done : FnScope ["web", "standing", "deed", "road", "by"] ["web", "standing", "deed"] (defScope s_done) := ⟨rfl, rfl, rfl, by decide +kernel, rfl, by decide +kernel, by decide +kernel⟩
abbrev s_standings_along : Stmt := topS 13
theorem sc_standings_along : FnScope ["web", "standing", "way", "along", "deed"] ["web", "standing", "way"] (defScope s_standings_along) := ⟨rfl, rfl, rfl, by decide +kernel, rfl, by decide +kernel, by decide +kernel⟩
abbrev s_turned : Stmt := topS 14
theorem sc_turned : FnScope ["way", "road", "by"] ["way"] (defScope s_turned) := ⟨rfl, rfl, rfl, by decide +kernel, rfl, by decide +kernel, by decide +kernel⟩
abbrev s_trodden : Stmt := topS 15
theorem sc_trodden : FnScope ["way", "roads", "road", "_"] ["way"] (defScope s_trodden) := ⟨rfl, rfl, rfl, by decide +kernel, rfl, by decide +kernel, by decide +kernel⟩
abbrev s_law_well : Stmt := topS 17
theorem sc_law_well : FnScope ["script", "cell", "cells", "stirred"] ["script"] (defScope s_law_well) := ⟨rfl, rfl, rfl, by decide +kernel, rfl, by decide +kernel, by decide +kernel⟩
abbrev s_law_draw : Stmt := topS 18
theorem sc_law_draw : FnScope ["well", "many", "cell", "found"] ["well", "many"] (defScope s_law_draw) := ⟨rfl, rfl, rfl, by decide +kernel, rfl, by decide +kernel, by decide +kernel⟩
abbrev s_law_pick : Stmt := topS 19
theorem sc_law_pick : FnScope ["well", "items"] ["well", "items"] (defScope s_law_pick) := ⟨rfl, rfl, rfl, by decide +kernel, rfl, by decide +kernel, by decide +kernel⟩
abbrev s_law_mixed : Stmt := topS 20
theorem sc_law_mixed : FnScope ["well", "many", "left", "turn"] ["well", "many"] (defScope s_law_mixed) := ⟨rfl, rfl, rfl, by decide +kernel, rfl, by decide +kernel, by decide +kernel⟩
abbrev s_law_shape : Stmt := topS 21
theorem sc_law_shape : FnScope ["well", "size", "room", "kind", "n", "pairs", "base", "k", "b", "a", "rows", "turn", "place"] ["well", "size", "room"] (defScope s_law_shape) := ⟨rfl, rfl, rfl, by decide +kernel, rfl, by decide +kernel, by decide +kernel⟩
abbrev s_law_web : Stmt := topS 22
theorem sc_law_web : FnScope ["well", "size", "room", "load", "n", "pairs", "names", "roads", "way", "bounds", "a", "b", "pair"] ["well", "size", "room", "load"] (defScope s_law_web) := ⟨rfl, rfl, rfl, by decide +kernel, rfl, by decide +kernel, by decide +kernel⟩
abbrev s_law_standing : Stmt := topS 23
theorem sc_law_standing : FnScope ["well", "web", "way", "found", "turn", "road", "bound"] ["well", "web"] (defScope s_law_standing) := ⟨rfl, rfl, rfl, by decide +kernel, rfl, by decide +kernel, by decide +kernel⟩
abbrev s_law_sums : Stmt := topS 24
theorem sc_law_sums : FnScope ["web", "standing", "place", "pair", "load"] ["web", "standing"] (defScope s_law_sums) := ⟨rfl, rfl, rfl, by decide +kernel, rfl, by decide +kernel, by decide +kernel⟩
abbrev s_law_let : Stmt := topS 25
theorem sc_law_let : FnScope ["web", "standing", "sums", "found", "road", "a", "b", "by"] ["web", "standing"] (defScope s_law_let) := ⟨rfl, rfl, rfl, by decide +kernel, rfl, by decide +kernel, by decide +kernel⟩
abbrev s_law_behind : Stmt := topS 26
theorem sc_law_behind : FnScope ["standing", "deed"] ["standing", "deed"] (defScope s_law_behind) := ⟨rfl, rfl, rfl, by decide +kernel, rfl, by decide +kernel, by decide +kernel⟩
abbrev s_law_walk : Stmt := topS 27
theorem sc_law_walk : FnScope ["well", "web", "standing", "most", "way", "rows", "turn", "let", "deed"] ["well", "web", "standing", "most"] (defScope s_law_walk) := ⟨rfl, rfl, rfl, by decide +kernel, rfl, by decide +kernel, by decide +kernel⟩
abbrev s_law_counts : Stmt := topS 28
theorem sc_law_counts : FnScope ["way", "found", "road", "laid", "deed"] ["way"] (defScope s_law_counts) := ⟨rfl, rfl, rfl, by decide +kernel, rfl, by decide +kernel, by decide +kernel⟩
abbrev s_law : Stmt := topS 29
theorem sc_law : FnScope ["script", "well", "turn", "web", "standing", "way", "rows", "road", "kept", "back", "found", "laid", "taken", "loads", "by"] ["script"] (defScope s_law) := ⟨rfl, rfl, rfl, by decide +kernel, rfl, by decide +kernel, by decide +kernel⟩
theorem kb_trodden_0 {K : PySem.W.Frag} : ∀ f fd, Fun K "trodden" "trodden" s_trodden f fd → KBinds K fd ["way"] ["way"] (pmG 1 [0]) (pmV 1 [0]) := fun f fd F => kb_pm F (by simp) fun _ _ _ _ _ _ ws hl => match ws, hl with | [_], _ => rfl
theorem kb_turned_0 {K : PySem.W.Frag} : ∀ f fd, Fun K "turned" "turned" s_turned f fd → KBinds K fd ["way"] ["way"] (pmG 1 [0]) (pmV 1 [0]) := fun f fd F => kb_pm F (by simp) fun _ _ _ _ _ _ ws hl => match ws, hl with | [_], _ => rfl
structure Txt (mg : Str → Option Value) : Prop where
  abs : mg "abs" = none
  bool : mg "bool" = none
  enumerate : mg "enumerate" = none
  int : mg "int" = none
  isinstance : mg "isinstance" = none
  len : mg "len" = none
  list : mg "list" = none
  max : mg "max" = none
  min : mg "min" = none
  range : mg "range" = none
  repr : mg "repr" = none
  set : mg "set" = none
  sorted : mg "sorted" = none
  sum : mg "sum" = none
  tuple : mg "tuple" = none
  zip : mg "zip" = none
structure Exs (K : PySem.W.Frag) (mg : Str → Option Value) (c_Unfit : Addr) : Prop where
  x_Unfit : ExcF K mg "Unfit" c_Unfit
section
variable {P : Program} {w : World} {K : PySem.W.Frag} {mg : Str → Option Value} {bs : Heap} {c_Unfit : Addr}
theorem fn_law_well (T : Txt mg) {f : Addr} {fd : FuncData} (F : Fun K "_law_well" "_law_well" s_law_well f fd) : FnG P w K mg bs CX0 1 f fd ["script"] (spWell K) := by
  obtain ⟨oc, od, kV, doc, pm, an, cdv, ct, osl, rfl, lk, hcd⟩ := F.ex
  refine fng_of lk hcd sc_law_well (fun vs H Q E h => by obtain ⟨a, ns, rfl, _⟩ := h; rfl) fun A out s H vs Q E hr hg hsp => ?_
  have rest : ∃ t, JSs (cxOf CX0 P w K mg bs ["script", "cell", "cells", "stirred"] "_law_well" (defScope s_law_well) f cdv A out s H E).nox (defBody s_law_well).tail t mw_rest := ⟨_, pkJ
    (jss_cons (js_for PassesOwn.never (ji_seq (je_var 2)) (jg_name 1 sc_law_well.nd) (jss_one (js_set 3 sc_law_well.nd (je_mod (JE.jb (je_int1 T.int (jab_cons (JE.jb (je_addA (JE.jb (je_mulA (jb_var 3) (JE.jb je_int))) (jb_var 1))) jab_nil))) (JE.jb je_int)))))
    (jss_one (js_ret (JF.je (jf_lst (ja_cons (JF.je (jf_lcF [("cell", 1)] sc_law_well.nd (ji_seq (je_var 2)) (blkOk_by (own := [("cell", 1)]) (N := ["script", "cell", "cells", "stirred"]) (sc := defScope s_law_well) (by decide +kernel)) (fun _ _ _ _ _ => (jg_name 1 sc_law_well.nd)) (fun _ _ _ _ _ => (jts_one (jt_ge (jb_var 1) (JE.jb (je_pow (JE.jb je_int) (JE.jb je_int)))))) (fun _ _ _ _ _ => (je_var 1)))) (ja_cons (je_var 3) (ja_cons je_int ja_nil)))))))) rfl⟩
  obtain ⟨t, ht⟩ := rest
  refine ⟨_, (pss_cons (ps_par (i := 2) (j := 3) rfl sc_law_well.nd rfl rfl (by decide) rfl rfl (pa_cons (pe_lcF [("cell", 1)] sc_law_well.nd (pi_seq (pe_slice sl_list (pv 0) po_none (po_some pe_int))) (blkOk_by (own := [("cell", 1)]) (N := ["script", "cell", "cells", "stirred"]) (sc := defScope s_law_well) (by decide +kernel)) (fun _ _ _ _ _ => pg_name (i := 1) sc_law_well.nd rfl (.inl rfl)) (fun _ _ _ _ _ => pts_nil)
      (fun _ _ _ _ _ => pe_op op_add (pe_op op_mul pe_int (pe_abs1 T.abs (pa_cons (pv 1) pa_nil))) (pe_int1 T.int (pa_cons (pe_cmpR op_lt (pv 1) pe_int rfl) pa_nil)))) (pa_cons (pe_op op_add pe_int (pe_len1 T.len (pa_cons (pv 0) pa_nil))) pa_nil)) rfl) ht.pe).nox, ?_⟩
  obtain ⟨a, ns, rfl, hS, hl, q⟩ := hsp
  -- script[:60]
  refine ⟨_, rfl, 60, rfl, a, _, rfl, hS, fun p hp => ?_⟩
  obtain ⟨ms, ems, lms⟩ := cut60 ns
  rw [ems]
  refine ⟨p, rfl, .inl ⟨⟨_, SqL.of upd_same⟩, fun D hD => ?_⟩⟩
  have npD : p ≠ D := fun e => by rw [e, upd_same] at hD; cases hD
  have hDH : H D = none := by rw [upd_ne npD.symm] at hD; exact hD
  have k1 : Same H (upd (upd H p (.lst (ms.map V.int))) D (.lst [])) := fun b o e => by rw [upd_ne (ne_of_none e hDH), upd_ne (ne_of_none e hp)]; exact e
  refine ⟨fun i m H2 => m = ms.length - i ∧ i ≤ ms.length ∧ Same H H2 ∧ ∃ acc : List Int, H2 p = some (.lst (ms.map V.int)) ∧ H2 D = some (.lst (acc.map V.int)) ∧ acc.length = i ∧ ∀ y ∈ acc, 0 ≤ y,
    ⟨ms.length, by omega, Nat.zero_le _, k1, [], by rw [upd_ne npD, upd_same], by rw [upd_same]; rfl, rfl, List.forall_mem_nil _⟩, ?_⟩
  rintro i m H2 ⟨rfl, hle, s2, acc, hp2, hD2, la, pos⟩
  by_cases hlt : i < ms.length
  · refine .inr ⟨⟨_, _, SqL.of hp2, by rw [List.getElem?_map, List.getElem?_eq_getElem hlt]; rfl⟩, fun H3 => ∃ m', m' < ms.length - i ∧ m' = ms.length - (i + 1) ∧ i + 1 ≤ ms.length ∧ Same H H3 ∧ ∃ acc : List Int, H3 p = some (.lst (ms.map V.int)) ∧ H3 D = some (.lst (acc.map V.int)) ∧ acc.length = i + 1 ∧ ∀ y ∈ acc, 0 ≤ y, fun H3 h => h, ?_⟩
    rintro x H3 ⟨rfl, hx⟩
    have ex : x = .int ms[i] := by
      have := hx _ (SqL.of hp2)
      rw [List.getElem?_map, List.getElem?_eq_getElem hlt] at this
      exact (Option.some.inj this).symm
    subst ex
    refine ⟨rfl, yes_then ?_⟩
    refine ⟨_, rfl, ms[i], rfl, 2, _, rfl, rfl, .inl ⟨by decide, by decide⟩, _, rfl, ms[i], 0, rfl, rfl, .inr ⟨_, rfl, _, _, rfl, rfl, acc.map V.int, hD2, by rw [List.length_map, la, sizeLine_eq]; omega, ms.length - (i + 1), by omega, rfl, hlt, ?_, acc ++ [2 * (if ms[i] < 0 then -ms[i] else ms[i]) + (if decide (ms[i] < 0) = true then 1 else 0)], ?_, ?_, ?_, ?_⟩⟩
    · intro b o e; rw [upd_ne (ne_of_none e hDH)]; exact s2 b o e
    · rw [upd_ne npD]; exact hp2
    · rw [upd_same, List.map_append]; rfl
    · rw [List.length_append, la]; rfl
    · intro y hy
      rcases List.mem_append.mp hy with h | h
      · exact pos y h
      · rw [List.mem_singleton.mp h]; split <;> split <;> omega
  · have e : i = ms.length := by omega
    subst e
    refine .inl ⟨⟨_, SqL.of hp2, by rw [List.length_map]; exact Nat.le_refl _⟩, ?_⟩
    -- 52009 + len(script), the two names
    refine ⟨_, rfl, _, ns.length, rfl, .inl ⟨_, s2.seq hS, by rw [List.length_map]⟩, 52009, _, rfl, rfl, _, _, rfl, ?_⟩
    refine ht.es none (fun b => NT (H b)) (fun _ => False) [.non, .non, .val (.list (acc.map PyData.int)), .val (.int (52009 + ns.length))] _ H H2 { nx := fun _ => False, rt := fun d => ∃ (ys : List Int) (st : Int), d = .list [.list (ys.map PyData.int), .int st, .int 0] ∧ (∀ y ∈ ys, 0 ≤ y) ∧ ys.length ≤ 60 ∧ 0 ≤ st ∧ st < 4294967291 } _
      ⟨⟨.of_same s2, trivial, fun _ h => h.elim, fun _ h => h, fun _ h => h.elim, fun _ h => h.elim, rfl, ?_, ?_⟩, xr0⟩ ⟨fun O' env σ H2 R _ h => h.elim, fun O' env σ H2 R _ h => h.elim, fun O' env σ H2 R _ h => h.elim, ?_⟩ ?_
    · intro i cl e
      match i, e with
      | 0, e => cases e; trivial
      | 1, e => cases e; trivial
      | 2, e => cases e; exact ⟨_, rfl, .lst hD2 (fun z => z.elim (fun z => z.1 hDH) id) (dn_ints acc)⟩
      | 3, e => cases e; exact ⟨_, rfl, .int _⟩
      | i + 4, e => cases e
    · intro i j ds es p e1 _ _ _
      match i, e1 with
      | 0, e => cases ds <;> cases e
      | 1, e => cases ds <;> cases e
      | 2, e => cases ds <;> cases e
      | 3, e => cases ds <;> cases e
      | i + 4, e => cases e
    · rintro d v H4 ⟨ys, st, rfl, y0, yl, st0, st1⟩ g n
      cases n with
      | lst hw zw nn =>
        cases nn with
        | cons n1 nn =>
          cases n1 with
          | lst hc zc n1 =>
            obtain rfl := n1.ints
            cases nn with
            | cons n2 nn =>
              cases n2
              cases nn with
              | cons n3 nn =>
                cases n3
                cases nn
                refine q _ _ H4 (fun b o e => g.keep b o (fun z => z) e) (nt_none hw (fun o e => g.keep _ o (fun z => z) e) zw) (nt_none hc (fun o e => g.keep _ o (fun z => z) e) zc) ⟨fun e => ?_, ys, st, 0, hw, hc, y0, yl, st0, st1, Int.le_refl _⟩
                rw [e, hc] at hw
                cases ys with
                | nil => cases hw
                | cons y r => cases hw
    · exact well_mean _ acc _ pos (by rw [la]; exact lms) (by omega) (by omega) fun ys st a b c d => ⟨ys, st, rfl, a, b, c, d⟩

def m_is_integer : MS :=
    (mRet (mAndV (mIsi isI (mVarB 0)) (mNotV (mIsi isB (mVarB 0)))))
def pre_is_integer : Pre := preOf 1 m_is_integer
theorem cal_is_integer (T : Txt mg) (Y : Exs K mg c_Unfit) (a : At K mg "is_integer" s_is_integer ["value"])  : Cal P w K mg bs 1 "is_integer" s_is_integer ["value"] 1 pre_is_integer :=
  cal_body a sc_is_integer rfl fun f cdv A out s H E hr hG => ⟨_, pkJ
    (jss_one (js_ret (je_and (je_isi T.isinstance T.int kit_int (by decide +kernel) (jb_var 0)) (je_one (je_not (je_isi T.isinstance T.bool kit_bool (by decide +kernel) (jb_var 0))))))) rfl⟩
def m_is_tuple_of : MS :=
    (mRet (mAndV (mIsi isT (mVarB 0)) (m2 fEq (mBl fLen (mCons (mVarB 0) mNil)) (mVarB 1))))
def pre_is_tuple_of : Pre := preOf 2 m_is_tuple_of
theorem cal_is_tuple_of (T : Txt mg) (Y : Exs K mg c_Unfit) (a : At K mg "is_tuple_of" s_is_tuple_of ["value", "many"])  : Cal P w K mg bs 1 "is_tuple_of" s_is_tuple_of ["value", "many"] 2 pre_is_tuple_of :=
  cal_body a sc_is_tuple_of rfl fun f cdv A out s H E hr hG => ⟨_, pkJ
    (jss_one (js_ret (je_and (je_isi T.isinstance T.tuple kit_tuple (by decide +kernel) (jb_var 0)) (je_one (je_eq (un64 hr) (JE.jb (je_len T.len (jab_cons (jb_var 0) jab_nil))) (jb_var 1)))))) rfl⟩
def m_sums_of_1_0 : MS := mSq (mAugS (fun i j => i + j) 2 (mVarB 4) (m2 fIx (mVarB 1) (mVarB 3)))
    (mAugS (fun i j => i + j) 2 (mVarB 5) (m2 fIx (mVarB 1) (mVarB 3)))
def m_sums_of_2_1 : MS := mSq (mFor (mEnum (mCons (m2 fIx (mVarB 0) (mC (.int 1))) mNil)) (mgTup 2 (mgCons (mgName 3) (mgCons (mgTup 2 (mgCons (mgName 4) (mgCons (mgName 5) mgNil))) mgNil))) m_sums_of_1_0)
    (mRet (mBl fTuple (mCons (mVarB 2) mNil)))
def m_sums_of_2_0 : MS := mSq (mSetF 2 (m2F fRep (mList (mCons (mC (.int 0)) mNil)) (m2 fIx (mVarB 0) (mC (.int 0)))))
    m_sums_of_2_1
def m_sums_of : MS :=
    m_sums_of_2_0
def pre_sums_of : Pre := preOf 6 m_sums_of
theorem cal_sums_of (T : Txt mg) (Y : Exs K mg c_Unfit) (a : At K mg "sums_of" s_sums_of ["web", "standing"])  : Cal P w K mg bs 1 "sums_of" s_sums_of ["web", "standing"] 2 pre_sums_of :=
  cal_body a sc_sums_of rfl fun f cdv A out s H E hr hG => ⟨_, pkJ
    (jss_cons (js_setF 2 sc_sums_of.nd (jf_rep (JE.jb (JF.je (jf_lst (ja_cons je_int ja_nil)))) (JE.jb (je_ix (jb_var 0) (JE.jb je_int) (fun _ _ => rfl)))))
    (jss_cons (js_for PassesOwn.never (ji_enum T.enumerate (ja_cons (je_ix (jb_var 0) (JE.jb je_int) (fun _ _ => rfl)) ja_nil)) (jg_np 3 4 5 sc_sums_of.nd) (jss_cons (js_augS 2 ip_add (jb_var 4) (JE.jb (je_ix (jb_var 1) (jb_var 3) (fun _ _ => rfl))))
    (jss_one (js_augS 2 ip_add (jb_var 5) (JE.jb (je_ix (jb_var 1) (jb_var 3) (fun _ _ => rfl)))))))
    (jss_one (js_ret (je_tuple T.tuple (jab_cons (jb_var 2) jab_nil)))))) rfl⟩
def m_has_room : MS :=
    (mRet (mChain fLe fLe (mC (.int 0)) (m2 fAddA (m2 fIx (mVarB 1) (mVarB 2)) (mVarB 3)) (m2 fIx (m2 fIx (mVarB 0) (mC (.int 2))) (mVarB 2))))
def pre_has_room : Pre := preOf 4 m_has_room
theorem cal_has_room (T : Txt mg) (Y : Exs K mg c_Unfit) (a : At K mg "_has_room" s_has_room ["web", "standing", "road", "by"])  : Cal P w K mg bs 1 "_has_room" s_has_room ["web", "standing", "road", "by"] 4 pre_has_room :=
  cal_body a sc_has_room rfl fun f cdv A out s H E hr hG => ⟨_, pkJ
    (jss_one (js_ret (je_lele (JE.jb je_int) (JE.jb (je_addA (JE.jb (je_ix (jb_var 1) (jb_var 2) (fun _ _ => rfl))) (jb_var 3))) (JE.jb (je_ix (JE.jb (je_ix (jb_var 0) (JE.jb je_int) (fun _ _ => rfl))) (jb_var 2) (fun _ _ => rfl)))))) rfl⟩
def m_deed_error_1_8 : MS := mSq (mIf (mNot (mB (mCall pre_has_room (mcCons (mVar 0) (mcCons (mVar 1) (mcCons (mVar 3) (mcCons (mVar 4) mcNil))))))) (mRet (mC (.str "room"))) mNext)
    (mRet (mC .none))
def m_deed_error_1_7 : MS := mSq (mIf (mB (m2 fEq (m2 fIx (mVarB 5) (mVarB 6)) (m2 fIx (mVarB 5) (mVarB 7)))) (mRet (mC (.str "alike"))) mNext)
    m_deed_error_1_8
def m_deed_error_1_6 : MS := mSq (mAsg (m2 fIx (m2 fIx (mVarB 0) (mC (.int 1))) (mVarB 3)) (mgTup 2 (mgCons (mgName 6) (mgCons (mgName 7) mgNil))))
    m_deed_error_1_7
def m_deed_error_1_5 : MS := mSq (mSet 5 (mCall pre_sums_of (mcCons (mVar 0) (mcCons (mVar 1) mcNil))))
    m_deed_error_1_6
def m_deed_error_1_4 : MS := mSq (mIf (mB (m2 (fIn true) (mVarB 4) (mTup (mCons (mC (.int 1)) (mCons (m1 fNeg (mC (.int 1))) mNil))))) (mRet (mC (.str "by"))) mNext)
    m_deed_error_1_5
def m_deed_error_1_3 : MS := mSq (mIf (mNot (mB (mChain fLe fLt (mC (.int 0)) (mVarB 3) (mBl fLen (mCons (m2 fIx (mVarB 0) (mC (.int 1))) mNil))))) (mRet (mC (.str "road"))) mNext)
    m_deed_error_1_4
def m_deed_error_1_2 : MS := mSq (mIf (mOr (mNot (mB (mCall pre_is_integer (mcCons (mVar 3) mcNil)))) (mNot (mB (mCall pre_is_integer (mcCons (mVar 4) mcNil))))) (mRet (mC (.str "form"))) mNext)
    m_deed_error_1_3
def m_deed_error_1_1 : MS := mSq (mAsg (mVar 2) (mgTup 2 (mgCons (mgName 3) (mgCons (mgName 4) mgNil))))
    m_deed_error_1_2
def m_deed_error_1_0 : MS := mSq (mIf (mNot (mB (mCall pre_is_tuple_of (mcCons (mVar 2) (mcCons (mC (.int 2)) mcNil))))) (mRet (mC (.str "form"))) mNext)
    m_deed_error_1_1
def m_deed_error : MS :=
    m_deed_error_1_0
def pre_deed_error : Pre := preOf 8 m_deed_error
theorem cal_deed_error (T : Txt mg) (Y : Exs K mg c_Unfit) (a : At K mg "deed_error" s_deed_error ["web", "standing", "value"]) (C_has_room : Cal P w K mg bs 1 "_has_room" s_has_room ["web", "standing", "road", "by"] 4 pre_has_room) (C_is_integer : Cal P w K mg bs 1 "is_integer" s_is_integer ["value"] 1 pre_is_integer) (C_is_tuple_of : Cal P w K mg bs 1 "is_tuple_of" s_is_tuple_of ["value", "many"] 2 pre_is_tuple_of) (C_sums_of : Cal P w K mg bs 1 "sums_of" s_sums_of ["web", "standing"] 2 pre_sums_of) : Cal P w K mg bs 2 "deed_error" s_deed_error ["web", "standing", "value"] 3 pre_deed_error :=
  cal_body a sc_deed_error rfl fun f cdv A out s H E hr hG => ⟨_, pkJ
    (jss_cons (js_if (jt_not (jt_val (j_call C_is_tuple_of (rm hr) hG (jc_cons (je_var 2) (jc_cons je_int jc_nil))))) (jss_one (js_ret je_str)) jss_nil)
    (jss_cons (js_asg (je_var 2) (jg_tupK (js := [3, 4]) (jgs_cons (jg_name 3 sc_deed_error.nd) (jgs_cons (jg_name 4 sc_deed_error.nd) jgs_nil))))
    (jss_cons (js_if (JW.jt (jw_or (jt_not (jt_val (j_call C_is_integer (rm hr) hG (jc_cons (je_var 3) jc_nil)))) (jw_or1 (jt_not (jt_val (j_call C_is_integer (rm hr) hG (jc_cons (je_var 4) jc_nil))))))) (jss_one (js_ret je_str)) jss_nil)
    (jss_cons (js_if (jt_not (jt_lelt (JE.jb je_int) (jb_var 3) (JE.jb (je_len T.len (jab_cons (JE.jb (je_ix (jb_var 0) (JE.jb je_int) (fun _ _ => rfl))) jab_nil))))) (jss_one (js_ret je_str)) jss_nil)
    (jss_cons (js_if (jt_notIn (un65 hr) (jb_var 4) (JE.jb (je_tup (ja_cons je_int (ja_cons (je_neg (JE.jb je_int)) ja_nil))))) (jss_one (js_ret je_str)) jss_nil)
    (jss_cons (js_set 5 sc_deed_error.nd (j_call C_sums_of (rm hr) hG (jc_cons (je_var 0) (jc_cons (je_var 1) jc_nil))))
    (jss_cons (js_asg (je_ix (JE.jb (je_ix (jb_var 0) (JE.jb je_int) (fun _ _ => rfl))) (jb_var 3) (fun _ _ => rfl)) (jg_tupK (js := [6, 7]) (jgs_cons (jg_name 6 sc_deed_error.nd) (jgs_cons (jg_name 7 sc_deed_error.nd) jgs_nil))))
    (jss_cons (js_if (jt_eq (un64 hr) (JE.jb (je_ix (jb_var 5) (jb_var 6) (fun _ _ => rfl))) (JE.jb (je_ix (jb_var 5) (jb_var 7) (fun _ _ => rfl)))) (jss_one (js_ret je_str)) jss_nil)
    (jss_cons (js_if (jt_not (jt_val (j_call C_has_room (rm hr) hG (jc_cons (je_var 0) (jc_cons (je_var 1) (jc_cons (je_var 3) (jc_cons (je_var 4) jc_nil))))))) (jss_one (js_ret je_str)) jss_nil)
    (jss_one (js_ret je_non))))))))))) rfl⟩
def m_done_1_1 (q_deed_error : Pre) (D : DX) : MS := mSq (mAsg (mVar 2) (mgTup 2 (mgCons (mgName 3) (mgCons (mgName 4) mgNil))))
    (mRet (m2 fAddA (m2 fAddA (mSl (mVarB 1) moNone (moSome (mVarB 3))) (mTup (mCons (m2 fAddA (m2 fIx (mVarB 1) (mVarB 3)) (mVarB 4)) mNil))) (mSl (mVarB 1) (moSome (m2 fAddA (mVarB 3) (mC (.int 1)))) moNone)))
def m_done_1_0 (q_deed_error : Pre) (D : DX) : MS := mSq (mIf (mB (m1 fNotN (mCall q_deed_error (mcCons (mVar 0) (mcCons (mVar 1) (mcCons (mVar 2) mcNil)))))) (mRaise D "Unfit") mNext)
    ((m_done_1_1 q_deed_error) D)
def m_done (D : DX) : MS :=
    ((m_done_1_0 pre_deed_error) D)
def pre_done : PreX := preOfX 5 m_done
theorem cal_done (T : Txt mg) (Y : Exs K mg c_Unfit) (a : At K mg "done" s_done ["web", "standing", "deed"]) (C_deed_error : Cal P w K mg bs 2 "deed_error" s_deed_error ["web", "standing", "value"] 3 pre_deed_error) : CalX P w K mg bs 3 "done" s_done ["web", "standing", "deed"] 3 pre_done :=
  cal_bodyX a sc_done rfl fun f cdv A out s H E D hr hG tk => by letI : XCtx := xcDef mg E D; have hmg : (xcDef mg E D).mg = mg := rfl; exact ⟨_, pkJ
    (jss_cons (js_if (jt_notN (JE.jb (j_call C_deed_error (rm hr) hG (jc_cons (je_var 0) (jc_cons (je_var 1) (jc_cons (je_var 2) jc_nil)))))) (jss_one (js_raise Y.x_Unfit tk hmg)) jss_nil)
    (jss_cons (js_asg (je_var 2) (jg_tupK (js := [3, 4]) (jgs_cons (jg_name 3 sc_done.nd) (jgs_cons (jg_name 4 sc_done.nd) jgs_nil))))
    (jss_one (js_ret (je_addA (JE.jb (je_addA (JE.jb (je_sl (jb_var 1) jo_none (jo_some (jb_var 3)))) (JE.jb (je_tup (ja_cons (je_addA (JE.jb (je_ix (jb_var 1) (jb_var 3) (fun _ _ => rfl))) (jb_var 4)) ja_nil))))) (JE.jb (je_sl (jb_var 1) (jo_some (JE.jb (je_addA (jb_var 3) (JE.jb je_int)))) jo_none))))))) rfl⟩
def m_standings_along_1_2 (q_done : PreX) (D : DX) : MS := mSq (mFor (mSeq (mVar 2)) (mgName 4) (mApp 3 (mCallX D q_done (mcCons (mVar 0) (mcCons (m2 fIx (mVarB 3) (m1 fNeg (mC (.int 1)))) (mcCons (mVar 4) mcNil))))))
    (mRet (mBl fTuple (mCons (mVarB 3) mNil)))
def m_standings_along_1_1 (q_done : PreX) (D : DX) : MS := mSq (mSetF 3 (mCons (mVar 1) mNil))
    ((m_standings_along_1_2 q_done) D)
def m_standings_along_1_0 (q_done : PreX) (D : DX) : MS := mSq (mIf (mNot (mB (mIsi isT (mVarB 2)))) (mRaise D "Unfit") mNext)
    ((m_standings_along_1_1 q_done) D)
def m_standings_along (D : DX) : MS :=
    ((m_standings_along_1_0 pre_done) D)
def pre_standings_along : PreX := preOfX 5 m_standings_along
theorem cal_standings_along (T : Txt mg) (Y : Exs K mg c_Unfit) (a : At K mg "standings_along" s_standings_along ["web", "standing", "way"]) (C_done : CalX P w K mg bs 3 "done" s_done ["web", "standing", "deed"] 3 pre_done) : CalX P w K mg bs 4 "standings_along" s_standings_along ["web", "standing", "way"] 3 pre_standings_along :=
  cal_bodyX a sc_standings_along rfl fun f cdv A out s H E D hr hG tk => by letI : XCtx := xcDef mg E D; have hmg : (xcDef mg E D).mg = mg := rfl; exact ⟨_, pkJ
    (jss_cons (js_if (jt_not (jt_val (je_isi T.isinstance T.tuple kit_tuple (by decide +kernel) (jb_var 2)))) (jss_one (js_raise Y.x_Unfit tk hmg)) jss_nil)
    (jss_cons (js_setF 3 sc_standings_along.nd (jf_lst (ja_cons (je_var 1) ja_nil)))
    (jss_cons (js_for (passes_of rfl) (ji_seq (je_var 2)) (jg_name 4 sc_standings_along.nd) (jss_one (js_appendB (K := K) rfl 3 (j_callX C_done tk hmg (rm hr) hG (jc_cons (je_var 0) (jc_cons (je_ix (jb_var 3) (JE.jb (je_neg (JE.jb je_int))) (fun _ _ => rfl)) (jc_cons (je_var 4) jc_nil)))) (by rfl) (by first | exact Or.inl rfl | exact Or.inr (Or.inl rfl) | exact Or.inr (Or.inr rfl)) (by decide) (by decide) (by rfl) (by rfl) (by rfl) (by rfl) (by rfl) (by rfl))))
    (jss_one (js_ret (je_tuple T.tuple (jab_cons (jb_var 3) jab_nil))))))) rfl⟩
def m_turned : MS :=
    (mRet (mBl fTuple (mCons (mList (mLc (mSeq (mRev (mVarB 0))) (mgTup 2 (mgCons (mgName 1) (mgCons (mgName 2) mgNil))) mYes (mTup (mCons (mVar 1) (mCons (m1 fNeg (mVarB 2)) mNil))) [1, 2])) mNil)))
def pre_turned : Pre := preOf 3 m_turned
theorem cal_turned (T : Txt mg) (Y : Exs K mg c_Unfit) (a : At K mg "turned" s_turned ["way"])  : Cal P w K mg bs 1 "turned" s_turned ["way"] 1 pre_turned :=
  cal_body a sc_turned rfl fun f cdv A out s H E hr hG => ⟨_, pkJ
    (jss_one (js_ret (je_tuple T.tuple (jab_cons (JE.jb (JF.je (jf_lcF [("road", 1), ("by", 2)] sc_turned.nd (ji_seq (je_revT (jb_var 0))) (blkOk_by (own := [("road", 1), ("by", 2)]) (N := ["way", "road", "by"]) (sc := defScope s_turned) (by decide +kernel)) (fun _ _ _ _ _ => (jg_tupK (js := [1, 2]) (jgs_cons (jg_name 1 sc_turned.nd) (jgs_cons (jg_name 2 sc_turned.nd) jgs_nil)))) (fun _ _ _ _ _ => jts_nil) (fun _ _ _ _ _ => (je_tup (ja_cons (je_var 1) (ja_cons (je_neg (jb_var 2)) ja_nil))))))) jab_nil)))) rfl⟩
def m_trodden_1_0 : MS := mSq (mSetF 1 (mSortSc (mSeq (mVar 0)) (mgTup 2 (mgCons (mgName 2) (mgCons (mgName 3) mgNil))) mYes (mVar 2) [2, 3]))
    (mFrz [1] (mRet (mBl fTuple (mCons (mList (mLc (mSeq (mVar 1)) (mgName 2) mYes (mTup (mCons (mVar 2) (mCons (mTCnt (mVar 0) (mTup (mCons (mVar 2) (mCons (mC (.int 1)) mNil)))) (mCons (mTCnt (mVar 0) (mTup (mCons (mVar 2) (mCons (m1 fNeg (mC (.int 1))) mNil)))) mNil)))) [2])) mNil))))
def m_trodden : MS :=
    m_trodden_1_0
def pre_trodden : Pre := preOf 4 m_trodden
theorem cal_trodden (T : Txt mg) (Y : Exs K mg c_Unfit) (a : At K mg "trodden" s_trodden ["way"])  : Cal P w K mg bs 1 "trodden" s_trodden ["way"] 1 pre_trodden :=
  cal_body a sc_trodden rfl fun f cdv A out s H E hr hG => ⟨_, pkJ
    (jss_cons (js_setF 1 sc_trodden.nd (jf_sortScF [("road", 2), ("_", 3)] T.sorted sc_trodden.nd (ji_seq (je_var 0)) (blkOk_by (own := [("road", 2), ("_", 3)]) (N := ["way", "roads", "road", "_"]) (sc := defScope s_trodden) (by decide +kernel)) (fun _ _ _ _ _ => (jg_tupK (js := [2, 3]) (jgs_cons (jg_name 2 sc_trodden.nd) (jgs_cons (jg_name 3 sc_trodden.nd) jgs_nil)))) (fun _ _ _ _ _ => jts_nil) (fun _ _ _ _ _ => (je_var 2))))
    (jss_one (js_frz [1] (js_ret (je_tuple T.tuple (jab_cons (JE.jb (JF.je (jf_lcF [("road", 2)] sc_trodden.nd (ji_seq (je_var 1)) (blkOk_by (own := [("road", 2)]) (N := ["way", "roads", "road", "_"]) (sc := defScope s_trodden) (by decide +kernel)) (fun _ _ _ _ _ => (jg_name 2 sc_trodden.nd)) (fun _ _ _ _ _ => jts_nil) (fun _ _ _ _ _ => (je_tup (ja_cons (je_var 2) (ja_cons (je_tcnt (un64 hr) (je_var 0) (je_tup (ja_cons (je_var 2) (ja_cons je_int ja_nil)))) (ja_cons (je_tcnt (un64 hr) (je_var 0) (je_tup (ja_cons (je_var 2) (ja_cons (je_neg (JE.jb je_int)) ja_nil)))) ja_nil)))))))) jab_nil)))))) rfl⟩

abbrev pre_law_draw : Pre := preDraw
theorem cal_law_draw (T : Txt mg) (a : At K mg "_law_draw" s_law_draw ["well", "many"]) : Cal P w K mg bs 1 "_law_draw" s_law_draw ["well", "many"] 2 preDraw := by
  obtain ⟨f, fd, F, q, b⟩ := a.ex
  refine ⟨f, fd, ?_, F, q, b⟩
  obtain ⟨oc, od, kV, doc, pm, an, cdv, ct, osl, rfl, lk, hcd⟩ := F.ex
  refine fng_of lk hcd sc_law_draw (fun vs H Q E h => h.1) fun A out s H vs Q E hr hg hsp => ?_
  refine ⟨_, (pss_cons (ps_if (pt_cmpR (op_neD (un64 hr)) (pe_ix ix_list (pv 0) pe_int (fun _ _ => rfl)) (pe_lst pa_nil) rfl)
      (pss_cons (ps_set (i := 2) sc_law_draw.nd rfl (.inl rfl) (pe_ix ix_list (pe_ix ix_list (pv 0) pe_int (fun _ _ => rfl)) pe_int (fun _ _ => rfl)))
      (pss_cons (ps_asg (pe_op op_fdiv (pv 2) (pv 1)) (pg_sub (pe_ix ix_list (pv 0) pe_int (fun _ _ => rfl)) pe_int set_list))
      (pss_cons (ps_if (pt_cmpR op_lt (pv 2) (pv 1) rfl) (pss_one (ps_expr (pe_bm PySem.F.plainAttrs_list PySem.F.slot_list_pop PySem.F.type_list_pop mt_popAt (pe_ix ix_list (pv 0) pe_int (fun _ _ => rfl)) (pa_cons pe_int pa_nil)))) pss_nil)
      (pss_one (ps_ret (pe_op op_mod (pe_int1 T.int (pa_cons (pv 2) pa_nil)) (pv 1)))))))
      pss_nil)
    (pss_cons (ps_asg (pe_op op_add (pe_ix ix_list (pv 0) pe_int (fun _ _ => rfl)) pe_int) (pg_sub (pv 0) pe_int set_list))
    (pss_cons (ps_set (i := 3) sc_law_draw.nd rfl (.inl rfl) (pe_op op_mod (pe_int1 T.int (pa_cons (pe_op op_add (pe_ix ix_list (pv 0) pe_int (fun _ _ => rfl)) (pe_op op_mul pe_int (pe_ix ix_list (pv 0) pe_int (fun _ _ => rfl)))) pa_nil)) pe_int))
    (pss_cons (ps_set (i := 3) sc_law_draw.nd rfl (.inl rfl) (pe_op op_mod (pe_int1 T.int (pa_cons (pe_op op_add (pe_op op_add (pe_op op_mul (pv 3) (pv 3)) (pe_op op_mul pe_int (pe_ix ix_list (pv 0) pe_int (fun _ _ => rfl)))) pe_int) pa_nil)) pe_int))
    (pss_cons (ps_set (i := 3) sc_law_draw.nd rfl (.inl rfl) (pe_op op_mod (pe_int1 T.int (pa_cons (pe_op op_add (pe_op op_mul (pv 3) (pv 3)) (pe_ix ix_list (pv 0) pe_int (fun _ _ => rfl))) pa_nil)) pe_int))
    (pss_one (ps_ret (pe_op op_mod (pe_int1 T.int (pa_cons (pe_op op_fdiv (pv 3) pe_int) pa_nil)) (pv 1))))))))).nox, ?_⟩
  obtain ⟨hl, W, Z, cs, P', wo, mz, za, av, ⟨k, rfl, h0, h1, hP⟩, hk⟩ := hsp
  cases av with
  | cons x r =>
    cases r with
    | cons y r =>
      cases r
      obtain ⟨w, c, rfl, rfl⟩ := x
      cases y
      obtain ⟨ne, xs, st, tt, hw, hc, hxs, hxl, st0, st1, t0⟩ := id wo
      have nw : ∀ {p : Addr}, H p = none → w ≠ p := fun hp e => by rw [e, hp] at hw; cases hw
      have nc : ∀ {p : Addr}, H p = none → c ≠ p := fun hp e => by rw [e, hp] at hc; cases hc
      refine ⟨_, rfl, w, _, 0, .ref c, rfl, rfl, SqL.of hw, rfl, Nat.zero_le _, fun p hp => ?_⟩
      have hw1 : upd H p (.lst []) w = some (.lst [.ref c, .int st, .int tt]) := by rw [upd_ne (nw hp)]; exact hw
      have hc1 : upd H p (.lst []) c = some (.lst (xs.map V.int)) := by rw [upd_ne (nc hp)]; exact hc
      have k1 : ∀ b o, H b = some o → upd H p (.lst []) b = some o := fun b o e => by rw [upd_ne (ne_of_none e hp)]; exact e
      refine ⟨.list (xs.map PyData.int), .list [], .lst (SqL.of hc1) (dp_ints _ _ _), .lst (SqL.of upd_same) .nil, ints_shaped _, rfl, _, rfl, ?_⟩
      have fin : ∀ (r : Int) (H' : Hp), 0 ≤ r → r < k → (∀ b o, b ≠ w → b ≠ c → H b = some o → H' b = some o) → WellAt w c H' → Q (.int r) H' := fun r H' r0 r1 kp wa =>
        hk _ _ H' (hP r r0 r1) ⟨fun b o m e => kp b o (fun z => m (.inl z)) (fun z => m (.inr z)) e, fun _ => wa⟩ (.int r)
      cases xs with
      | cons x r =>
        have x0 : 0 ≤ x := hxs x List.mem_cons_self
        refine ite_b (b := true) (by simp [PyData.eqv, PyData.eqvAll]) (iteT ?_)
        refine ⟨_, rfl, w, _, 0, .ref c, rfl, rfl, SqL.of hw1, rfl, c, _, 0, .int x, rfl, rfl, SqL.of hc1, atI_nat (j := 0) rfl, ?_⟩
        refine ⟨_, rfl, _, rfl, x, k, rfl, rfl, ⟨h0, h1⟩, _, rfl, w, _, 0, .ref c, rfl, rfl, SqL.of hw1, rfl, c, _, 0, 0, rfl, rfl, hc1, ixN_0 (by simp), ?_⟩
        refine ⟨_, rfl, _, rfl, x, k, rfl, rfl, _, rfl, ?_⟩
        have hcw : upd (upd H p (.lst [])) c (.lst (((x :: r).map V.int).set 0 (.int (x / k)))) w = some (.lst [.ref c, .int st, .int tt]) := by rw [upd_ne ne]; exact hw1
        have keep2 : ∀ b o, b ≠ w → b ≠ c → H b = some o → upd (upd H p (.lst [])) c (.lst (((x :: r).map V.int).set 0 (.int (x / k)))) b = some o := fun b o _ nb e => by rw [upd_ne nb]; exact k1 b o e
        have hr0 : ∀ y ∈ r, 0 ≤ y := fun y hy => hxs y (List.mem_cons_of_mem _ hy)
        have hrl : r.length ≤ 60 := by simp only [List.length_cons] at hxl; omega
        by_cases hlt : x < k
        · refine ite_b (b := true) (decide_eq_true hlt) (iteT ?_)
          refine ⟨_, rfl, w, _, 0, .ref c, rfl, rfl, SqL.of hcw, rfl, .inl ⟨rfl, _, SqL.of upd_same⟩, ?_⟩
          refine ⟨c, _, 0, 0, .int (x / k), rfl, rfl, upd_same, by decide, by decide, by simp [seqIndex?], rfl, ?_⟩
          refine ⟨_, rfl, .inl ⟨x, rfl, _, rfl, x, k, rfl, rfl, h0, ?_⟩⟩
          refine fin _ _ (Int.emod_nonneg _ (by omega)) (Int.emod_lt_of_pos _ h0) (fun b o n1 n2 e => by rw [upd_ne n2]; exact keep2 b o n1 n2 e) ?_
          exact ⟨ne, r, st, tt, by rw [upd_ne ne]; exact hcw, by rw [upd_same]; rfl, hr0, hrl, st0, st1, t0⟩
        · refine ite_b (b := false) (decide_eq_false hlt) (iteF ?_)
          refine ⟨_, rfl, .inl ⟨x, rfl, _, rfl, x, k, rfl, rfl, h0, ?_⟩⟩
          refine fin _ _ (Int.emod_nonneg _ (by omega)) (Int.emod_lt_of_pos _ h0) keep2 ?_
          refine ⟨ne, x / k :: r, st, tt, hcw, by rw [upd_same]; rfl, fun y hy => ?_, hxl, st0, st1, t0⟩
          rcases List.mem_cons.mp hy with e | e
          · rw [e]; exact Int.ediv_nonneg x0 (Int.le_of_lt h0)
          · exact hr0 y e
      | nil =>
        refine ite_b (b := false) (by simp [PyData.eqv, PyData.eqvAll]) (iteF ?_)
        refine ⟨_, rfl, w, _, 2, .int tt, rfl, rfl, SqL.of hw1, rfl, tt, 1, rfl, rfl, _, rfl, w, _, 2, 2, rfl, rfl, hw1, rfl, ?_⟩
        have hw2 : upd (upd H p (.lst [])) w (.lst ([V.ref c, .int st, .int tt].set 2 (.int (tt + 1)))) w = some (.lst [.ref c, .int st, .int (tt + 1)]) := upd_same
        have wa : WellAt w c (upd (upd H p (.lst [])) w (.lst ([V.ref c, .int st, .int tt].set 2 (.int (tt + 1))))) := ⟨ne, [], st, tt + 1, hw2, by rw [upd_ne ne.symm]; exact hc1, List.forall_mem_nil _, by decide, st0, st1, by omega⟩
        refine ⟨_, rfl, w, _, 1, .int st, rfl, rfl, SqL.of hw2, rfl, _, rfl, w, _, 2, .int (tt + 1), rfl, rfl, SqL.of hw2, rfl, _, _, rfl, rfl, .inl ⟨by decide, by decide⟩, _, _, rfl, rfl, .inl ⟨_, rfl, _, _, rfl, rfl, (by decide : (0 : Int) < _), ?_⟩⟩
        show tSeq _ _ _ [some (V.ref w), some (V.int k), none, some (V.int ((st + 2246822519 * (tt + 1)) % 4294967291))] _
        generalize hf1 : (st + 2246822519 * (tt + 1)) % 4294967291 = f1
        have a1 : 0 ≤ f1 := by rw [← hf1]; exact Int.emod_nonneg _ (by decide)
        have b1 : f1 < 4294967291 := by rw [← hf1]; exact Int.emod_lt_of_pos _ (by decide)
        refine ⟨_, rfl, _, rfl, f1, f1, rfl, rfl, .inl ⟨by omega, by omega⟩, _, rfl, w, _, 2, .int (tt + 1), rfl, rfl, SqL.of hw2, rfl, _, _, rfl, rfl, .inl ⟨by decide, by decide⟩, _, _, rfl, rfl, _, _, rfl, rfl, .inl ⟨_, rfl, _, _, rfl, rfl, (by decide : (0 : Int) < _), ?_⟩⟩
        show tSeq _ _ _ [some (V.ref w), some (V.int k), none, some (V.int ((f1 * f1 + 30011 * (tt + 1) + 17) % 4294967279))] _
        generalize hf2 : (f1 * f1 + 30011 * (tt + 1) + 17) % 4294967279 = f2
        have a2 : 0 ≤ f2 := by rw [← hf2]; exact Int.emod_nonneg _ (by decide)
        have b2 : f2 < 4294967279 := by rw [← hf2]; exact Int.emod_lt_of_pos _ (by decide)
        refine ⟨_, rfl, _, rfl, f2, f2, rfl, rfl, .inl ⟨by omega, by omega⟩, _, rfl, w, _, 1, .int st, rfl, rfl, SqL.of hw2, rfl, _, _, rfl, rfl, .inl ⟨_, rfl, _, _, rfl, rfl, (by decide : (0 : Int) < _), ?_⟩⟩
        refine ⟨_, rfl, _, _, rfl, rfl, ⟨by decide, by decide⟩, .inl ⟨_, rfl, _, rfl, _, _, rfl, rfl, h0, ?_⟩⟩
        exact fin _ _ (Int.emod_nonneg _ (by omega)) (Int.emod_lt_of_pos _ h0) (fun b o n1 n2 e => by rw [upd_ne n1]; exact k1 b o e) wa

def m_law_pick : MS :=
    (mRet (m2 fIx (mVarB 1) (mCall pre_law_draw (mcWell 0 (mcCons (mBl fLen (mCons (mVarB 1) mNil)) mcNil)))))
def pre_law_pick : Pre := preOf 2 m_law_pick
theorem cal_law_pick (T : Txt mg) (Y : Exs K mg c_Unfit) (a : At K mg "_law_pick" s_law_pick ["well", "items"]) (C_law_draw : Cal P w K mg bs 1 "_law_draw" s_law_draw ["well", "many"] 2 pre_law_draw) : Cal P w K mg bs 2 "_law_pick" s_law_pick ["well", "items"] 2 pre_law_pick :=
  cal_body a sc_law_pick rfl fun f cdv A out s H E hr hG => ⟨_, pkJ
    (jss_one (js_ret (je_ix (jb_var 1) (JE.jb (j_call C_law_draw (rm hr) hG (jc_well 0 (jc_cons (je_len T.len (jab_cons (jb_var 1) jab_nil)) jc_nil)))) (fun _ _ => rfl)))) rfl⟩
abbrev pre_law_mixed : Pre := preMixed
theorem cal_law_mixed (T : Txt mg) (a : At K mg "_law_mixed" s_law_mixed ["well", "many"]) (C_law_draw : Cal P w K mg bs 1 "_law_draw" s_law_draw ["well", "many"] 2 pre_law_draw) : Cal P w K mg bs 2 "_law_mixed" s_law_mixed ["well", "many"] 2 preMixed := by
  obtain ⟨f2, fd2, fn2, F2, q2, b2⟩ := C_law_draw.ex
  obtain ⟨f, fd, F, q, b⟩ := a.ex
  refine ⟨f, fd, ?_, F, q, b⟩
  obtain ⟨oc, od, kV, doc, pm, an, cdv, ct, osl, rfl, lk, hcd⟩ := F.ex
  refine fng_of lk hcd sc_law_mixed (fun vs H Q E h => h.1) fun A out s H vs Q E hr hg hsp => ?_
  refine ⟨_, (pss_cons (ps_set (i := 2) sc_law_mixed.nd rfl (.inr rfl) (jf_listRg T.list T.range (jb_var 1)).pe)
    (pss_one (ps_ret (pe_lcF [("turn", 3)] sc_law_mixed.nd (pi_range1 (by rfl) T.range (pa_cons (pv 1) pa_nil)) (blkOk_by (own := [("turn", 3)]) (N := ["well", "many", "left", "turn"]) (sc := defScope s_law_mixed) (by decide +kernel)) (fun _ _ _ _ _ => pg_name (i := 3) sc_law_mixed.nd rfl (.inl rfl)) (fun _ _ _ _ _ => pts_nil)
      (fun _ _ _ _ _ => pe_bm PySem.F.plainAttrs_list PySem.F.slot_list_pop PySem.F.type_list_pop mt_popAt (pv 2) (pa_cons (pe_callG fn2 (rm hr) hg (by rfl) q2 F2.kp b2 pass0 (pa_cons (pv 0) (pa_cons (pe_len1 T.len (pa_cons (pv 2) pa_nil)) pa_nil))) pa_nil)))))).nox, ?_⟩
  obtain ⟨hl, W, Z, cs, P', wo, mz, za, av, ⟨k, rfl, h0, h1, hP⟩, hk⟩ := hsp
  cases av with
  | cons x r =>
    cases r with
    | cons y r =>
      cases r
      obtain ⟨w, c, rfl, rfl⟩ := x
      cases y
      obtain ⟨ne, xs, st, tt, hw, hc, hxs, hxl, st0, st1, t0⟩ := id wo
      have nw : ∀ {p : Addr}, H p = none → p ≠ w := fun hp e => by rw [e, hw] at hp; cases hp
      have nc : ∀ {p : Addr}, H p = none → p ≠ c := fun hp e => by rw [e, hc] at hp; cases hp
      refine ⟨_, rfl, k, rfl, ⟨by omega, by omega, by omega, by omega, by omega⟩, fun p hp => ?_⟩
      have nmp : ¬ Mu (some (w, c)) p := fun m => m.elim (nw hp) (nc hp)
      refine ⟨_, rfl, k, rfl, by omega, by omega, fun D hD => ?_⟩
      have npD : p ≠ D := fun e => by rw [e, upd_same] at hD; cases hD
      have hDH : H D = none := by rw [upd_ne npD.symm] at hD; exact hD
      have nmD : ¬ Mu (some (w, c)) D := fun m => m.elim (nw hDH) (nc hDH)
      have g1 : Ge (some (w, c)) H (upd (upd H p (.lst (rgV 0 k))) D (.lst [])) := (Ge.new hp).trans (Ge.new hD)
      refine ⟨fun i m H2 => m = k.toNat - i ∧ i ≤ k.toNat ∧ Ge (some (w, c)) H H2 ∧ ∃ acc left : List Int, H2 p = some (.lst (left.map V.int)) ∧ H2 D = some (.lst (acc.map V.int)) ∧ acc.length = i ∧ left.length = k.toNat - i ∧ (acc ++ left).Perm ((List.range k.toNat).map Int.ofNat),
        ⟨k.toNat, by omega, Nat.zero_le _, g1, [], (List.range k.toNat).map Int.ofNat, ?_, by rw [upd_same]; rfl, rfl, by rw [List.length_map, List.length_range]; rfl, List.Perm.refl _⟩, ?_⟩
      · rw [upd_ne npD, upd_same]
        unfold rgV
        rw [List.map_map, show (k - 0).toNat = k.toNat by omega]
        exact congrArg (fun z => some (HO.lst z)) (List.map_congr_left fun i _ => congrArg V.int (Int.zero_add _))
      · rintro i m H2 ⟨rfl, hle, g2, acc, left, hp2, hD2, la, ll, pm'⟩
        by_cases hlt : i < k.toNat
        · refine .inr ⟨hlt, fun H3 => ∃ m', m' < k.toNat - i ∧ m' = k.toNat - (i + 1) ∧ i + 1 ≤ k.toNat ∧ Ge (some (w, c)) H H3 ∧ ∃ acc left : List Int, H3 p = some (.lst (left.map V.int)) ∧ H3 D = some (.lst (acc.map V.int)) ∧ acc.length = i + 1 ∧ left.length = k.toNat - (i + 1) ∧ (acc ++ left).Perm ((List.range k.toNat).map Int.ofNat), fun H3 h => h, ?_⟩
          rintro x H3 ⟨rfl, rfl⟩
          refine ⟨rfl, ?_⟩
          refine yes_then ?_
          refine ⟨_, rfl, .inl ⟨rfl, _, SqL.of hp2⟩, ?_⟩
          refine ⟨_, rfl, _, rfl, _, left.length, rfl, .inl ⟨_, SqL.of hp2, by rw [List.length_map]⟩, ?_⟩
          refine ⟨rfl, some (w, c), Mu (some (w, c)), [.well, .val (.int left.length)], fun d => ∃ r : Int, d = .int r ∧ 0 ≤ r ∧ r < left.length, g2.wl wo, fun _ h => h, fun b hb => ?_, .cons ⟨w, c, rfl, rfl⟩ (.cons (.int _) .nil), ⟨left.length, rfl, by omega, by omega, fun r r0 r1 => ⟨r, rfl, r0, r1⟩⟩, ?_⟩
          · obtain ⟨_, _, _, _, q1, q2, _⟩ := g2.wl wo
            rcases hb with rfl | rfl
            · rw [q1]; exact nt_lst
            · rw [q2]; exact nt_lst
          · rintro d v H4 ⟨r, rfl, r0, r1⟩ g4 nv
            cases nv
            have hp4 := g4.keep p _ nmp hp2
            have hD4 := g4.keep D _ nmD hD2
            obtain ⟨j, rfl⟩ := Int.eq_ofNat_of_zero_le r0
            have hj : j < left.length := by omega
            refine ⟨p, _, (j : Int), j, .int left[j], rfl, rfl, hp4, by omega, by omega, seqIx (by rw [List.length_map]; exact hj), by rw [List.getElem?_map, List.getElem?_eq_getElem hj]; rfl, ?_⟩
            refine ⟨_, by rw [upd_ne npD.symm]; exact hD4, by rw [List.length_map, la, sizeLine_eq]; omega, k.toNat - (i + 1), by omega, rfl, by omega, ?_, acc ++ [left[j]], left.eraseIdx j, ?_, ?_, ?_, ?_, ?_⟩
            · exact (g2.trans g4).put2 nmp (fun _ => hp) |>.put2 nmD (fun _ => hDH)
            · rw [upd_ne npD, upd_same, eraseIdx_map]
            · rw [upd_same, List.map_append]; rfl
            · rw [List.length_append, la]; rfl
            · rw [List.length_eraseIdx_of_lt hj]; omega
            · refine List.Perm.trans ?_ pm'
              rw [List.append_assoc]
              exact List.Perm.append_left acc (perm_erase hj)
        · have e : i = k.toNat := by omega
          subst e
          have e0 : left = [] := List.eq_nil_of_length_eq_zero (by omega)
          subst e0
          rw [List.append_nil] at pm'
          refine .inl ⟨Nat.le_refl _, ?_⟩
          refine hk (.list (acc.map PyData.int)) _ _ (hP acc pm') g2 (.lst hD2 (fun z => (za D z).1 hDH) ?_)
          exact dn_ints acc

def m_law_shape_1_1 : MS := mSq (mSet 4 (m2 fAddA (m2 fMulB (mC (.int 2)) (mVarB 6)) (mC (.int 1))))
    (mFor (mRng1 (mCons (mVarB 6) mNil)) (mgName 7) (mSetF 5 (m2F fCat (mVarB 5) (mList (mCons (mTup (mCons (mCall pre_law_draw (mcWell 0 (mcCons (m2 fAddA (mVarB 7) (mC (.int 1))) mcNil))) (mCons (m2 fAddA (m2 fAddA (mVarB 6) (mC (.int 1))) (mVarB 7)) mNil))) (mCons (mTup (mCons (m2 fAddA (mVarB 7) (mC (.int 1))) (mCons (m2 fAddA (m2 fAddA (mVarB 6) (mC (.int 1))) (mVarB 7)) mNil))) mNil))))))
def m_law_shape_1_0 : MS := mSq (mParF 6 5 (m2 fAddA (mC (.int 1)) (mCall pre_law_draw (mcWell 0 (mcCons (m2 fDiv (m2 fSub (mVarB 1) (mC (.int 1))) (mC (.int 2))) mcNil)))) mNil)
    m_law_shape_1_1
def m_law_shape_2_1 : MS := mSq (mSetF 5 mNil)
    (mFor (mRng1 (mCons (mVarB 4) mNil)) (mgName 8) (mSetF 5 (m2F fCat (mVarB 5) (mList (mLc (mRng1 (mCons (mVarB 8) mNil)) (mgName 9) mYes (mTup (mCons (mVar 9) (mCons (mVar 8) mNil))) [9])))))
def m_law_shape_2_0 : MS := mSq (mSet 4 (m2 fAddA (mC (.int 2)) (mCall pre_law_draw (mcWell 0 (mcCons (m2 fSub (mBl fMin2 (mCons (mVarB 1) (mCons (mC (.int 6)) mNil))) (mC (.int 1))) mcNil)))))
    m_law_shape_2_1
def m_law_shape_3_2 : MS := mSq (mSetF 5 mNil)
    (mFor (mRng1 (mCons (mVarB 10) mNil)) (mgName 9) (mSetF 5 (m2F fCat (mVarB 5) (mList (mLc (mRng2 (mCons (mVarB 10) (mCons (mVarB 4) mNil))) (mgName 8) mYes (mTup (mCons (mVar 9) (mCons (mVar 8) mNil))) [8])))))
def m_law_shape_3_1 : MS := mSq (mSet 4 (m2 fAddA (m2 fAddA (mVarB 10) (mC (.int 1))) (mCall pre_law_draw (mcWell 0 (mcCons (mBl fMin2 (mCons (mC (.int 5)) (mCons (m2 fSub (mVarB 1) (mVarB 10)) mNil))) mcNil)))))
    m_law_shape_3_2
def m_law_shape_3_0 : MS := mSq (mSet 10 (m2 fAddA (mC (.int 1)) (mCall pre_law_draw (mcWell 0 (mcCons (mBl fMin2 (mCons (mC (.int 4)) (mCons (m2 fSub (mVarB 1) (mC (.int 1))) mNil))) mcNil)))))
    m_law_shape_3_1
def m_law_shape_4_0 : MS := mSq (mAsg (mTup (mCons (mCall pre_law_draw (mcWell 0 (mcCons (mVar 4) mcNil))) (mCons (mCall pre_law_draw (mcWell 0 (mcCons (mVar 4) mcNil))) mNil))) (mgTup 2 (mgCons (mgName 9) (mgCons (mgName 8) mgNil))))
    (mIf (mAnd (mB (m2 fLt (mVarB 9) (mVarB 8))) (mAnd (mB (m2 (fIn true) (mTup (mCons (mVar 9) (mCons (mVar 8) mNil))) (mVarB 5))) (mB (m2 fLt (mBl fLen (mCons (mVarB 5) mNil)) (mVarB 2))))) (mApp 5 (mTup (mCons (mVar 9) (mCons (mVar 8) mNil)))) mNext)
def m_law_shape_5_0 : MS := mSq (mSetF 5 (mLc (mRng2 (mCons (mC (.int 1)) (mCons (mVarB 4) mNil))) (mgName 12) mYes (mTup (mCons (mCall pre_law_draw (mcWell 0 (mcCons (mVar 12) mcNil))) (mCons (mVar 12) mNil))) [12]))
    (mFor (mRng1 (mCons (mCall pre_law_draw (mcWell 0 (mcCons (m2 fIx (mList (mCons (mC (.int 1)) (mCons (mC (.int 4)) (mCons (m2 fMulB (mC (.int 3)) (mVarB 4)) mNil)))) (m2 fSub (mVarB 3) (mC (.int 5)))) mcNil))) mNil)) (mgName 11) m_law_shape_4_0)
def m_law_shape_6_0 : MS := mSq (mSet 4 (mBl fMin2 (mCons (mVarB 4) (mCons (m2 fAddA (mVarB 2) (mC (.int 1))) mNil))))
    (mSetF 5 (mLc (mRng1 (mCons (m2 fSub (mVarB 4) (mC (.int 1))) mNil)) (mgName 12) mYes (mTup (mCons (mVar 12) (mCons (m2 fAddA (mVarB 12) (mC (.int 1))) mNil))) [12]))
def m_law_shape_7_7 : MS := mSq (mIf (mB (m2 fGt (mBl fLen (mCons (mVarB 5) mNil)) (mVarB 2))) m_law_shape_6_0 mNext)
    (mFrz [5] (mRet (mTup (mCons (mVar 4) (mCons (mVar 5) mNil)))))
def m_law_shape_7_6 : MS := mSq (mIf (mB (m2 fGt (mVarB 3) (mC (.int 4)))) m_law_shape_5_0 mNext)
    m_law_shape_7_7
def m_law_shape_7_5 : MS := mSq (mIf (mAnd (mB (m2 fEq (mVarB 3) (mC (.int 4)))) (mB (m2 fGt (mVarB 1) (mC (.int 2))))) m_law_shape_3_0 mNext)
    m_law_shape_7_6
def m_law_shape_7_4 : MS := mSq (mIf (mB (m2 fEq (mVarB 3) (mC (.int 3)))) m_law_shape_2_0 mNext)
    m_law_shape_7_5
def m_law_shape_7_3 : MS := mSq (mIf (mAnd (mB (m2 fEq (mVarB 3) (mC (.int 2)))) (mB (m2 fGt (mVarB 1) (mC (.int 2))))) m_law_shape_1_0 mNext)
    m_law_shape_7_4
def m_law_shape_7_2 : MS := mSq (mIf (mAnd (mB (m2 fEq (mVarB 3) (mC (.int 1)))) (mB (m2 fGt (mVarB 4) (mC (.int 2))))) (mApp 5 (mTup (mCons (mC (.int 0)) (mCons (m2 fSub (mVarB 4) (mC (.int 1))) mNil)))) mNext)
    m_law_shape_7_3
def m_law_shape_7_1 : MS := mSq (mSetF 5 (mLc (mRng1 (mCons (m2 fSub (mVarB 4) (mC (.int 1))) mNil)) (mgName 12) mYes (mTup (mCons (mVar 12) (mCons (m2 fAddA (mVarB 12) (mC (.int 1))) mNil))) [12]))
    m_law_shape_7_2
def m_law_shape_7_0 : MS := mSq (mPar 3 4 (mCall pre_law_draw (mcWell 0 (mcCons (mC (.int 8)) mcNil))) (m2 fAddA (mC (.int 2)) (mCall pre_law_draw (mcWell 0 (mcCons (m2 fSub (mVarB 1) (mC (.int 1))) mcNil)))))
    m_law_shape_7_1
def m_law_shape : MS :=
    m_law_shape_7_0
def pre_law_shape : Pre := preOf 13 m_law_shape
theorem cal_law_shape (T : Txt mg) (Y : Exs K mg c_Unfit) (a : At K mg "_law_shape" s_law_shape ["well", "size", "room"]) (C_law_draw : Cal P w K mg bs 1 "_law_draw" s_law_draw ["well", "many"] 2 pre_law_draw) : Cal P w K mg bs 2 "_law_shape" s_law_shape ["well", "size", "room"] 3 pre_law_shape :=
  cal_body a sc_law_shape rfl fun f cdv A out s H E hr hG => ⟨_, pkJ
    (jss_cons (js_par 3 4 sc_law_shape.nd (j_call C_law_draw (rm hr) hG (jc_well 0 (jc_cons je_int jc_nil))) (je_addA (JE.jb je_int) (JE.jb (j_call C_law_draw (rm hr) hG (jc_well 0 (jc_cons (je_sub (jb_var 1) (JE.jb je_int)) jc_nil))))) rfl rfl)
    (jss_cons (js_setLcF 5 [("place", 12)] sc_law_shape.nd rfl (sw_true rfl rfl rfl (by decide +kernel)) (ji_range1 T.range (jab_cons (JE.jb (je_sub (jb_var 4) (JE.jb je_int))) jab_nil)) (blkOk_by (own := [("place", 12)]) (N := ["well", "size", "room", "kind", "n", "pairs", "base", "k", "b", "a", "rows", "turn", "place"]) (sc := defScope s_law_shape) (by decide +kernel)) (fun _ _ _ _ _ => (jg_name 12 sc_law_shape.nd)) (fun _ _ _ _ _ => jts_nil) (fun _ _ _ _ _ => (je_tup (ja_cons (je_var 12) (ja_cons (je_addA (jb_var 12) (JE.jb je_int)) ja_nil)))))
    (jss_cons (js_if (JW.jt (jw_and (jt_eq (un64 hr) (jb_var 3) (JE.jb je_int)) (jw_and1 (jt_gt (jb_var 4) (JE.jb je_int))))) (jss_one (js_appendB (K := K) rfl 5 (je_tup (ja_cons je_int (ja_cons (je_sub (jb_var 4) (JE.jb je_int)) ja_nil))) (by rfl) (by first | exact Or.inl rfl | exact Or.inr (Or.inl rfl) | exact Or.inr (Or.inr rfl)) (by decide) (by decide) (by rfl) (by rfl) (by rfl) (by rfl) (by rfl) (by rfl))) jss_nil)
    (jss_cons (js_if (JW.jt (jw_and (jt_eq (un64 hr) (jb_var 3) (JE.jb je_int)) (jw_and1 (jt_gt (jb_var 1) (JE.jb je_int))))) (jss_cons (js_parF 6 5 sc_law_shape.nd (je_addA (JE.jb je_int) (JE.jb (j_call C_law_draw (rm hr) hG (jc_well 0 (jc_cons (je_div (JE.jb (je_sub (jb_var 1) (JE.jb je_int))) (JE.jb je_int)) jc_nil))))) (jf_lst ja_nil) rfl rfl)
    (jss_cons (js_set 4 sc_law_shape.nd (je_addA (JE.jb (je_mulB (JE.jb je_int) (jb_var 6))) (JE.jb je_int)))
    (jss_one (js_for PassesOwn.never (ji_range1 T.range (jab_cons (jb_var 6) jab_nil)) (jg_name 7 sc_law_shape.nd) (jss_one (js_setF 5 sc_law_shape.nd (jf_cat (jb_var 5) (JE.jb (JF.je (jf_lst (ja_cons (je_tup (ja_cons (j_call C_law_draw (rm hr) hG (jc_well 0 (jc_cons (je_addA (jb_var 7) (JE.jb je_int)) jc_nil))) (ja_cons (je_addA (JE.jb (je_addA (jb_var 6) (JE.jb je_int))) (jb_var 7)) ja_nil))) (ja_cons (je_tup (ja_cons (je_addA (jb_var 7) (JE.jb je_int)) (ja_cons (je_addA (JE.jb (je_addA (jb_var 6) (JE.jb je_int))) (jb_var 7)) ja_nil))) ja_nil)))))))))))) jss_nil)
    (jss_cons (js_if (jt_eq (un64 hr) (jb_var 3) (JE.jb je_int)) (jss_cons (js_set 4 sc_law_shape.nd (je_addA (JE.jb je_int) (JE.jb (j_call C_law_draw (rm hr) hG (jc_well 0 (jc_cons (je_sub (JE.jb (je_min2 T.min (jab_cons (jb_var 1) (jab_cons (JE.jb je_int) jab_nil)))) (JE.jb je_int)) jc_nil))))))
    (jss_cons (js_setF 5 sc_law_shape.nd (jf_lst ja_nil))
    (jss_one (js_for PassesOwn.never (ji_range1 T.range (jab_cons (jb_var 4) jab_nil)) (jg_name 8 sc_law_shape.nd) (jss_one (js_setF 5 sc_law_shape.nd (jf_cat (jb_var 5) (JE.jb (JF.je (jf_lcF [("a", 9)] sc_law_shape.nd (ji_range1 T.range (jab_cons (jb_var 8) jab_nil)) (blkOk_by (own := [("a", 9)]) (N := ["well", "size", "room", "kind", "n", "pairs", "base", "k", "b", "a", "rows", "turn", "place"]) (sc := defScope s_law_shape) (by decide +kernel)) (fun _ _ _ _ _ => (jg_name 9 sc_law_shape.nd)) (fun _ _ _ _ _ => jts_nil) (fun _ _ _ _ _ => (je_tup (ja_cons (je_var 9) (ja_cons (je_var 8) ja_nil)))))))))))))) jss_nil)
    (jss_cons (js_if (JW.jt (jw_and (jt_eq (un64 hr) (jb_var 3) (JE.jb je_int)) (jw_and1 (jt_gt (jb_var 1) (JE.jb je_int))))) (jss_cons (js_set 10 sc_law_shape.nd (je_addA (JE.jb je_int) (JE.jb (j_call C_law_draw (rm hr) hG (jc_well 0 (jc_cons (je_min2 T.min (jab_cons (JE.jb je_int) (jab_cons (JE.jb (je_sub (jb_var 1) (JE.jb je_int))) jab_nil))) jc_nil))))))
    (jss_cons (js_set 4 sc_law_shape.nd (je_addA (JE.jb (je_addA (jb_var 10) (JE.jb je_int))) (JE.jb (j_call C_law_draw (rm hr) hG (jc_well 0 (jc_cons (je_min2 T.min (jab_cons (JE.jb je_int) (jab_cons (JE.jb (je_sub (jb_var 1) (jb_var 10))) jab_nil))) jc_nil))))))
    (jss_cons (js_setF 5 sc_law_shape.nd (jf_lst ja_nil))
    (jss_one (js_for PassesOwn.never (ji_range1 T.range (jab_cons (jb_var 10) jab_nil)) (jg_name 9 sc_law_shape.nd) (jss_one (js_setF 5 sc_law_shape.nd (jf_cat (jb_var 5) (JE.jb (JF.je (jf_lcF [("b", 8)] sc_law_shape.nd (ji_range2 T.range (jab_cons (jb_var 10) (jab_cons (jb_var 4) jab_nil))) (blkOk_by (own := [("b", 8)]) (N := ["well", "size", "room", "kind", "n", "pairs", "base", "k", "b", "a", "rows", "turn", "place"]) (sc := defScope s_law_shape) (by decide +kernel)) (fun _ _ _ _ _ => (jg_name 8 sc_law_shape.nd)) (fun _ _ _ _ _ => jts_nil) (fun _ _ _ _ _ => (je_tup (ja_cons (je_var 9) (ja_cons (je_var 8) ja_nil))))))))))))))) jss_nil)
    (jss_cons (js_if (jt_gt (jb_var 3) (JE.jb je_int)) (jss_cons (js_setLcF 5 [("place", 12)] sc_law_shape.nd rfl (sw_true rfl rfl rfl (by decide +kernel)) (ji_range2 T.range (jab_cons (JE.jb je_int) (jab_cons (jb_var 4) jab_nil))) (blkOk_by (own := [("place", 12)]) (N := ["well", "size", "room", "kind", "n", "pairs", "base", "k", "b", "a", "rows", "turn", "place"]) (sc := defScope s_law_shape) (by decide +kernel)) (fun _ _ _ _ _ => (jg_name 12 sc_law_shape.nd)) (fun _ _ _ _ _ => jts_nil) (fun _ _ _ _ _ => (je_tup (ja_cons (j_call C_law_draw (rm hr) hG (jc_well 0 (jc_cons (je_var 12) jc_nil))) (ja_cons (je_var 12) ja_nil)))))
    (jss_one (js_for PassesOwn.never (ji_range1 T.range (jab_cons (JE.jb (j_call C_law_draw (rm hr) hG (jc_well 0 (jc_cons (je_ix (JE.jb (JF.je (jf_lst (ja_cons je_int (ja_cons je_int (ja_cons (je_mulB (JE.jb je_int) (jb_var 4)) ja_nil)))))) (JE.jb (je_sub (jb_var 3) (JE.jb je_int))) (fun _ _ => rfl)) jc_nil)))) jab_nil)) (jg_name 11 sc_law_shape.nd) (jss_cons (js_asg (je_tup (ja_cons (j_call C_law_draw (rm hr) hG (jc_well 0 (jc_cons (je_var 4) jc_nil))) (ja_cons (j_call C_law_draw (rm hr) hG (jc_well 0 (jc_cons (je_var 4) jc_nil))) ja_nil))) (jg_tupK (js := [9, 8]) (jgs_cons (jg_name 9 sc_law_shape.nd) (jgs_cons (jg_name 8 sc_law_shape.nd) jgs_nil))))
    (jss_one (js_if (JW.jt (jw_and (jt_lt (jb_var 9) (jb_var 8)) (jw_and (jt_notIn (un65 hr) (JE.jb (je_tup (ja_cons (je_var 9) (ja_cons (je_var 8) ja_nil)))) (jb_var 5)) (jw_and1 (jt_lt (JE.jb (je_len T.len (jab_cons (jb_var 5) jab_nil))) (jb_var 2)))))) (jss_one (js_appendB (K := K) rfl 5 (je_tup (ja_cons (je_var 9) (ja_cons (je_var 8) ja_nil))) (by rfl) (by first | exact Or.inl rfl | exact Or.inr (Or.inl rfl) | exact Or.inr (Or.inr rfl)) (by decide) (by decide) (by rfl) (by rfl) (by rfl) (by rfl) (by rfl) (by rfl))) jss_nil)))))) jss_nil)
    (jss_cons (js_if (jt_gt (JE.jb (je_len T.len (jab_cons (jb_var 5) jab_nil))) (jb_var 2)) (jss_cons (js_set 4 sc_law_shape.nd (je_min2 T.min (jab_cons (jb_var 4) (jab_cons (JE.jb (je_addA (jb_var 2) (JE.jb je_int))) jab_nil))))
    (jss_one (js_setLcF 5 [("place", 12)] sc_law_shape.nd rfl (sw_true rfl rfl rfl (by decide +kernel)) (ji_range1 T.range (jab_cons (JE.jb (je_sub (jb_var 4) (JE.jb je_int))) jab_nil)) (blkOk_by (own := [("place", 12)]) (N := ["well", "size", "room", "kind", "n", "pairs", "base", "k", "b", "a", "rows", "turn", "place"]) (sc := defScope s_law_shape) (by decide +kernel)) (fun _ _ _ _ _ => (jg_name 12 sc_law_shape.nd)) (fun _ _ _ _ _ => jts_nil) (fun _ _ _ _ _ => (je_tup (ja_cons (je_var 12) (ja_cons (je_addA (jb_var 12) (JE.jb je_int)) ja_nil))))))) jss_nil)
    (jss_one (js_frz [5] (js_ret (je_tup (ja_cons (je_var 4) (ja_cons (je_var 5) ja_nil)))))))))))))) rfl⟩
def m_law_web_1_5 : MS := mSq (mIf (mB (m2 fEq (mVarB 8) (mC (.int 3)))) (mFrz [7] (mSetF 9 (mLc (mSeq (mVar 7)) (mgName 12) mYes (m2 fAddA (mC (.int 1)) (mCall pre_law_draw (mcWell 0 (mcCons (mVar 3) mcNil)))) [12]))) mNext)
    (mRet (mTup (mCons (mVar 4) (mCons (mBl fTuple (mCons (mVarB 7) mNil)) (mCons (mBl fTuple (mCons (mVarB 9) mNil)) mNil)))))
def m_law_web_1_4 : MS := mSq (mIf (mB (m2 fEq (mVarB 8) (mC (.int 2)))) (mPut 9 (mCall pre_law_draw (mcWell 0 (mcCons (mBl fLen (mCons (mVarB 9) mNil)) mcNil))) (m2 fAddA (mC (.int 1)) (mCall pre_law_draw (mcWell 0 (mcCons (mVar 3) mcNil))))) mNext)
    m_law_web_1_5
def m_law_web_1_3 : MS := mSq (mFrz [7] (mParF 8 9 (mCall pre_law_draw (mcWell 0 (mcCons (mC (.int 4)) mcNil))) (mLc (mSeq (mVar 7)) (mgName 12) mYes (mC (.int 1)) [12])))
    m_law_web_1_4
def m_law_web_1_2 : MS := mSq (mSetF 7 (mBlF fSort (mCons (mList (mLc (mSeq (mVar 5)) (mgTup 2 (mgCons (mgName 10) (mgCons (mgName 11) mgNil))) mYes (mTup (mCons (mBl fMin2 (mCons (m2 fIx (mVarB 6) (mVarB 10)) (mCons (m2 fIx (mVarB 6) (mVarB 11)) mNil))) (mCons (mBl fMax2 (mCons (m2 fIx (mVarB 6) (mVarB 10)) (mCons (m2 fIx (mVarB 6) (mVarB 11)) mNil))) mNil))) [10, 11])) mNil)))
    m_law_web_1_3
def m_law_web_1_1 : MS := mSq (mSet 6 (mIfE (mB (m2 fGt (mCall pre_law_draw (mcWell 0 (mcCons (mC (.int 4)) mcNil))) (mC (.int 0)))) (mCall pre_law_mixed (mcWell 0 (mcCons (mVar 4) mcNil))) (mList (mLRng (mCons (mVarB 4) mNil)))))
    m_law_web_1_2
def m_law_web_1_0 : MS := mSq (mAsg (mCall pre_law_shape (mcWell 0 (mcCons (mVar 1) (mcCons (mVar 2) mcNil)))) (mgTup 2 (mgCons (mgName 4) (mgCons (mgName 5) mgNil))))
    m_law_web_1_1
def m_law_web : MS :=
    m_law_web_1_0
def pre_law_web : Pre := preOf 13 m_law_web
theorem cal_law_web (T : Txt mg) (Y : Exs K mg c_Unfit) (a : At K mg "_law_web" s_law_web ["well", "size", "room", "load"]) (C_law_draw : Cal P w K mg bs 1 "_law_draw" s_law_draw ["well", "many"] 2 pre_law_draw) (C_law_mixed : Cal P w K mg bs 2 "_law_mixed" s_law_mixed ["well", "many"] 2 pre_law_mixed) (C_law_shape : Cal P w K mg bs 2 "_law_shape" s_law_shape ["well", "size", "room"] 3 pre_law_shape) : Cal P w K mg bs 3 "_law_web" s_law_web ["well", "size", "room", "load"] 4 pre_law_web :=
  cal_body a sc_law_web rfl fun f cdv A out s H E hr hG => ⟨_, pkJ
    (jss_cons (js_asg (j_call C_law_shape (rm hr) hG (jc_well 0 (jc_cons (je_var 1) (jc_cons (je_var 2) jc_nil)))) (jg_tupK (js := [4, 5]) (jgs_cons (jg_name 4 sc_law_web.nd) (jgs_cons (jg_name 5 sc_law_web.nd) jgs_nil))))
    (jss_cons (js_set 6 sc_law_web.nd (je_if (jt_gt (JE.jb (j_call C_law_draw (rm hr) hG (jc_well 0 (jc_cons je_int jc_nil)))) (JE.jb je_int)) (j_call C_law_mixed (rm hr) hG (jc_well 0 (jc_cons (je_var 4) jc_nil))) (JF.je (jf_listRg T.list T.range (jb_var 4)))))
    (jss_cons (js_setF 7 sc_law_web.nd (jf_sorted T.sorted (jab_cons (JE.jb (JF.je (jf_lcF [("a", 10), ("b", 11)] sc_law_web.nd (ji_seq (je_var 5)) (blkOk_by (own := [("a", 10), ("b", 11)]) (N := ["well", "size", "room", "load", "n", "pairs", "names", "roads", "way", "bounds", "a", "b", "pair"]) (sc := defScope s_law_web) (by decide +kernel)) (fun _ _ _ _ _ => (jg_tupK (js := [10, 11]) (jgs_cons (jg_name 10 sc_law_web.nd) (jgs_cons (jg_name 11 sc_law_web.nd) jgs_nil)))) (fun _ _ _ _ _ => jts_nil) (fun _ _ _ _ _ => (je_tup (ja_cons (je_min2 T.min (jab_cons (JE.jb (je_ix (jb_var 6) (jb_var 10) (fun _ _ => rfl))) (jab_cons (JE.jb (je_ix (jb_var 6) (jb_var 11) (fun _ _ => rfl))) jab_nil))) (ja_cons (je_max2 T.max (jab_cons (JE.jb (je_ix (jb_var 6) (jb_var 10) (fun _ _ => rfl))) (jab_cons (JE.jb (je_ix (jb_var 6) (jb_var 11) (fun _ _ => rfl))) jab_nil))) ja_nil))))))) jab_nil)))
    (jss_cons (js_frz [7] (js_parF 8 9 sc_law_web.nd (j_call C_law_draw (rm hr) hG (jc_well 0 (jc_cons je_int jc_nil))) (jf_lcF [("pair", 12)] sc_law_web.nd (ji_seq (je_var 7)) (blkOk_by (own := [("pair", 12)]) (N := ["well", "size", "room", "load", "n", "pairs", "names", "roads", "way", "bounds", "a", "b", "pair"]) (sc := defScope s_law_web) (by decide +kernel)) (fun _ _ _ _ _ => (jg_name 12 sc_law_web.nd)) (fun _ _ _ _ _ => jts_nil) (fun _ _ _ _ _ => je_int)) rfl rfl))
    (jss_cons (js_if (jt_eq (un64 hr) (jb_var 8) (JE.jb je_int)) (jss_one (js_put 9 (je_addA (JE.jb je_int) (JE.jb (j_call C_law_draw (rm hr) hG (jc_well 0 (jc_cons (je_var 3) jc_nil))))) (JE.jb (j_call C_law_draw (rm hr) hG (jc_well 0 (jc_cons (je_len T.len (jab_cons (jb_var 9) jab_nil)) jc_nil)))))) jss_nil)
    (jss_cons (js_if (jt_eq (un64 hr) (jb_var 8) (JE.jb je_int)) (jss_one (js_frz [7] (js_setLcF 9 [("pair", 12)] sc_law_web.nd rfl (sw_true rfl rfl rfl (by decide +kernel)) (ji_seq (je_var 7)) (blkOk_by (own := [("pair", 12)]) (N := ["well", "size", "room", "load", "n", "pairs", "names", "roads", "way", "bounds", "a", "b", "pair"]) (sc := defScope s_law_web) (by decide +kernel)) (fun _ _ _ _ _ => (jg_name 12 sc_law_web.nd)) (fun _ _ _ _ _ => jts_nil) (fun _ _ _ _ _ => (je_addA (JE.jb je_int) (JE.jb (j_call C_law_draw (rm hr) hG (jc_well 0 (jc_cons (je_var 3) jc_nil))))))))) jss_nil)
    (jss_one (js_ret (je_tup (ja_cons (je_var 4) (ja_cons (je_tuple T.tuple (jab_cons (jb_var 7) jab_nil)) (ja_cons (je_tuple T.tuple (jab_cons (jb_var 9) jab_nil)) ja_nil)))))))))))) rfl⟩
def m_law_standing_1_0 : MS := mSq (mSet 5 (mCall pre_law_draw (mcWell 0 (mcCons (mBl fLen (mCons (mVarB 3) mNil)) mcNil))))
    (mPut 3 (mVarB 5) (mCall pre_law_draw (mcWell 0 (mcCons (m2 fAddA (m2 fIx (m2 fIx (mVarB 1) (mC (.int 2))) (mVarB 5)) (mC (.int 1))) mcNil))))
def m_law_standing_2_3 : MS := mSq (mFor (mRng1 (mCons (mCall pre_law_draw (mcWell 0 (mcCons (mC (.int 3)) mcNil))) mNil)) (mgName 4) m_law_standing_1_0)
    (mRet (mBl fTuple (mCons (mVarB 3) mNil)))
def m_law_standing_2_2 : MS := mSq (mSetF 3 (mLc (mSeq (m2 fIx (mVarB 1) (mC (.int 2)))) (mgName 6) mYes (mIfE (mB (m2 fEq (mVarB 2) (mC (.int 3)))) (mC (.int 0)) (mVar 6)) [6]))
    m_law_standing_2_3
def m_law_standing_2_1 : MS := mSq (mIf (mB (m2 fLt (mVarB 2) (mC (.int 3)))) (mRet (mBl fTuple (mCons (mList (mLc (mSeq (m2 fIx (mVarB 1) (mC (.int 2)))) (mgName 6) mYes (mCall pre_law_draw (mcWell 0 (mcCons (m2 fAddA (mVarB 6) (mC (.int 1))) mcNil))) [6])) mNil))) mNext)
    m_law_standing_2_2
def m_law_standing_2_0 : MS := mSq (mSet 2 (mCall pre_law_draw (mcWell 0 (mcCons (mC (.int 5)) mcNil))))
    m_law_standing_2_1
def m_law_standing : MS :=
    m_law_standing_2_0
def pre_law_standing : Pre := preOf 7 m_law_standing
theorem cal_law_standing (T : Txt mg) (Y : Exs K mg c_Unfit) (a : At K mg "_law_standing" s_law_standing ["well", "web"]) (C_law_draw : Cal P w K mg bs 1 "_law_draw" s_law_draw ["well", "many"] 2 pre_law_draw) : Cal P w K mg bs 2 "_law_standing" s_law_standing ["well", "web"] 2 pre_law_standing :=
  cal_body a sc_law_standing rfl fun f cdv A out s H E hr hG => ⟨_, pkJ
    (jss_cons (js_set 2 sc_law_standing.nd (j_call C_law_draw (rm hr) hG (jc_well 0 (jc_cons je_int jc_nil))))
    (jss_cons (js_if (jt_lt (jb_var 2) (JE.jb je_int)) (jss_one (js_ret (je_tuple T.tuple (jab_cons (JE.jb (JF.je (jf_lcF [("bound", 6)] sc_law_standing.nd (ji_seq (je_ix (jb_var 1) (JE.jb je_int) (fun _ _ => rfl))) (blkOk_by (own := [("bound", 6)]) (N := ["well", "web", "way", "found", "turn", "road", "bound"]) (sc := defScope s_law_standing) (by decide +kernel)) (fun _ _ _ _ _ => (jg_name 6 sc_law_standing.nd)) (fun _ _ _ _ _ => jts_nil) (fun _ _ _ _ _ => (j_call C_law_draw (rm hr) hG (jc_well 0 (jc_cons (je_addA (jb_var 6) (JE.jb je_int)) jc_nil))))))) jab_nil)))) jss_nil)
    (jss_cons (js_setLcF 3 [("bound", 6)] sc_law_standing.nd rfl (sw_true rfl rfl rfl (by decide +kernel)) (ji_seq (je_ix (jb_var 1) (JE.jb je_int) (fun _ _ => rfl))) (blkOk_by (own := [("bound", 6)]) (N := ["well", "web", "way", "found", "turn", "road", "bound"]) (sc := defScope s_law_standing) (by decide +kernel)) (fun _ _ _ _ _ => (jg_name 6 sc_law_standing.nd)) (fun _ _ _ _ _ => jts_nil) (fun _ _ _ _ _ => (je_if (jt_eq (un64 hr) (jb_var 2) (JE.jb je_int)) je_int (je_var 6))))
    (jss_cons (js_for PassesOwn.never (ji_range1 T.range (jab_cons (JE.jb (j_call C_law_draw (rm hr) hG (jc_well 0 (jc_cons je_int jc_nil)))) jab_nil)) (jg_name 4 sc_law_standing.nd) (jss_cons (js_set 5 sc_law_standing.nd (j_call C_law_draw (rm hr) hG (jc_well 0 (jc_cons (je_len T.len (jab_cons (jb_var 3) jab_nil)) jc_nil))))
    (jss_one (js_put 3 (j_call C_law_draw (rm hr) hG (jc_well 0 (jc_cons (je_addA (JE.jb (je_ix (JE.jb (je_ix (jb_var 1) (JE.jb je_int) (fun _ _ => rfl))) (jb_var 5) (fun _ _ => rfl))) (JE.jb je_int)) jc_nil))) (jb_var 5)))))
    (jss_one (js_ret (je_tuple T.tuple (jab_cons (jb_var 3) jab_nil)))))))) rfl⟩
def m_law_sums : MS :=
    (mRet (mList (mLc (mRng1 (mCons (m2 fIx (mVarB 0) (mC (.int 0))) mNil)) (mgName 2) mYes (mBl fSum (mCons (mList (mLc (mZipK (mCons (m2 fIx (mVarB 0) (mC (.int 1))) (mCons (mVar 1) mNil))) (mgTup 2 (mgCons (mgName 3) (mgCons (mgName 4) mgNil))) (mB (m2 (fIn false) (mVarB 2) (mVarB 3))) (mVar 4) [3, 4])) mNil)) [2])))
def pre_law_sums : Pre := preOf 5 m_law_sums
theorem cal_law_sums (T : Txt mg) (Y : Exs K mg c_Unfit) (a : At K mg "_law_sums" s_law_sums ["web", "standing"])  : Cal P w K mg bs 1 "_law_sums" s_law_sums ["web", "standing"] 2 pre_law_sums :=
  cal_body a sc_law_sums rfl fun f cdv A out s H E hr hG => ⟨_, pkJ
    (jss_one (js_ret (JF.je (jf_lcF [("place", 2)] sc_law_sums.nd (ji_range1 T.range (jab_cons (JE.jb (je_ix (jb_var 0) (JE.jb je_int) (fun _ _ => rfl))) jab_nil)) (blkOk_by (own := [("place", 2)]) (N := ["web", "standing", "place", "pair", "load"]) (sc := defScope s_law_sums) (by decide +kernel)) (fun _ _ _ _ _ => (jg_name 2 sc_law_sums.nd)) (fun _ _ _ _ _ => jts_nil) (fun _ _ _ _ _ => (je_sum T.sum (jab_cons (JE.jb (JF.je (jf_lcF [("pair", 3), ("load", 4)] sc_law_sums.nd (ji_zipK T.zip (ja_cons (je_ix (jb_var 0) (JE.jb je_int) (fun _ _ => rfl)) (ja_cons (je_var 1) ja_nil))) (blkOk_by (own := [("pair", 3), ("load", 4)]) (N := ["web", "standing", "place", "pair", "load"]) (by rfl)) (fun _ _ _ _ _ => (jg_tupK (js := [3, 4]) (jgs_cons (jg_name 3 sc_law_sums.nd) (jgs_cons (jg_name 4 sc_law_sums.nd) jgs_nil)))) (fun _ _ _ _ _ => (jts_one (jt_in (un65 hr) (jb_var 2) (jb_var 3)))) (fun _ _ _ _ _ => (je_var 4))))) jab_nil))))))) rfl⟩
def m_law_let_1_1 (q_law_sums : Pre) : MS := mSq (mFor (mEnum (mCons (m2 fIx (mVarB 0) (mC (.int 1))) mNil)) (mgTup 2 (mgCons (mgName 4) (mgCons (mgTup 2 (mgCons (mgName 5) (mgCons (mgName 6) mgNil))) mgNil))) (mFor (mSeq (mTup (mCons (m1 fNeg (mC (.int 1))) (mCons (mC (.int 1)) mNil)))) (mgName 7) (mIf (mAnd (mB (m2 fNe (m2 fIx (mVarB 2) (mVarB 5)) (m2 fIx (mVarB 2) (mVarB 6)))) (mB (mChain fLe fLe (mC (.int 0)) (m2 fAddA (m2 fIx (mVarB 1) (mVarB 4)) (mVarB 7)) (m2 fIx (m2 fIx (mVarB 0) (mC (.int 2))) (mVarB 4))))) (mApp 3 (mTup (mCons (mVar 4) (mCons (mVar 7) mNil)))) mNext)))
    (mFrz [3] (mRet (mVar 3)))
def m_law_let_1_0 (q_law_sums : Pre) : MS := mSq (mParF 2 3 (mCall q_law_sums (mcCons (mVar 0) (mcCons (mVar 1) mcNil))) mNil)
    (m_law_let_1_1 q_law_sums)
def m_law_let : MS :=
    (m_law_let_1_0 pre_law_sums)
def pre_law_let : Pre := preOf 8 m_law_let
theorem cal_law_let (T : Txt mg) (Y : Exs K mg c_Unfit) (a : At K mg "_law_let" s_law_let ["web", "standing"]) (C_law_sums : Cal P w K mg bs 1 "_law_sums" s_law_sums ["web", "standing"] 2 pre_law_sums) : Cal P w K mg bs 2 "_law_let" s_law_let ["web", "standing"] 2 pre_law_let :=
  cal_body a sc_law_let rfl fun f cdv A out s H E hr hG => ⟨_, pkJ
    (jss_cons (js_parF 2 3 sc_law_let.nd (j_call C_law_sums (rm hr) hG (jc_cons (je_var 0) (jc_cons (je_var 1) jc_nil))) (jf_lst ja_nil) rfl rfl)
    (jss_cons (js_for PassesOwn.never (ji_enum T.enumerate (ja_cons (je_ix (jb_var 0) (JE.jb je_int) (fun _ _ => rfl)) ja_nil)) (jg_np 4 5 6 sc_law_let.nd) (jss_one (js_for PassesOwn.never (ji_seq (je_tup (ja_cons (je_neg (JE.jb je_int)) (ja_cons je_int ja_nil)))) (jg_name 7 sc_law_let.nd) (jss_one (js_if (JW.jt (jw_and (jt_ne (un64 hr) (JE.jb (je_ix (jb_var 2) (jb_var 5) (fun _ _ => rfl))) (JE.jb (je_ix (jb_var 2) (jb_var 6) (fun _ _ => rfl)))) (jw_and1 (jt_lele (JE.jb je_int) (JE.jb (je_addA (JE.jb (je_ix (jb_var 1) (jb_var 4) (fun _ _ => rfl))) (jb_var 7))) (JE.jb (je_ix (JE.jb (je_ix (jb_var 0) (JE.jb je_int) (fun _ _ => rfl))) (jb_var 4) (fun _ _ => rfl))))))) (jss_one (js_appendB (K := K) rfl 3 (je_tup (ja_cons (je_var 4) (ja_cons (je_var 7) ja_nil))) (by rfl) (by first | exact Or.inl rfl | exact Or.inr (Or.inl rfl) | exact Or.inr (Or.inr rfl)) (by decide) (by decide) (by rfl) (by rfl) (by rfl) (by rfl) (by rfl) (by rfl))) jss_nil)))))
    (jss_one (js_frz [3] (js_ret (je_var 3)))))) rfl⟩
def m_law_behind : MS :=
    (mRet (m2 fAddA (m2 fAddA (mSl (mVarB 0) moNone (moSome (m2 fIx (mVarB 1) (mC (.int 0))))) (mTup (mCons (m2 fAddA (m2 fIx (mVarB 0) (m2 fIx (mVarB 1) (mC (.int 0)))) (m2 fIx (mVarB 1) (mC (.int 1)))) mNil))) (mSl (mVarB 0) (moSome (m2 fAddA (m2 fIx (mVarB 1) (mC (.int 0))) (mC (.int 1)))) moNone)))
def pre_law_behind : Pre := preOf 2 m_law_behind
theorem cal_law_behind (T : Txt mg) (Y : Exs K mg c_Unfit) (a : At K mg "_law_behind" s_law_behind ["standing", "deed"])  : Cal P w K mg bs 1 "_law_behind" s_law_behind ["standing", "deed"] 2 pre_law_behind :=
  cal_body a sc_law_behind rfl fun f cdv A out s H E hr hG => ⟨_, pkJ
    (jss_one (js_ret (je_addA (JE.jb (je_addA (JE.jb (je_sl (jb_var 0) jo_none (jo_some (JE.jb (je_ix (jb_var 1) (JE.jb je_int) (fun _ _ => rfl)))))) (JE.jb (je_tup (ja_cons (je_addA (JE.jb (je_ix (jb_var 0) (JE.jb (je_ix (jb_var 1) (JE.jb je_int) (fun _ _ => rfl))) (fun _ _ => rfl))) (JE.jb (je_ix (jb_var 1) (JE.jb je_int) (fun _ _ => rfl)))) ja_nil))))) (JE.jb (je_sl (jb_var 0) (jo_some (JE.jb (je_addA (JE.jb (je_ix (jb_var 1) (JE.jb je_int) (fun _ _ => rfl))) (JE.jb je_int)))) jo_none))))) rfl⟩
def m_law_walk_1_2 (q_law_behind : Pre) (q_law_draw : Pre) (q_law_let : Pre) (q_law_pick : Pre) : MS := mSq (mApp 4 (mVar 8))
    (mApp 5 (mCall q_law_behind (mcCons (m2 fIx (mVarB 5) (m1 fNeg (mC (.int 1)))) (mcCons (mVar 8) mcNil))))
def m_law_walk_1_1 (q_law_behind : Pre) (q_law_draw : Pre) (q_law_let : Pre) (q_law_pick : Pre) : MS := mSq (mIf (mAnd (mB (m2 fNe (mVarB 4) (mList mNil))) (mB (m2 fEq (mCall q_law_draw (mcWell 0 (mcCons (mC (.int 5)) mcNil))) (mC (.int 0))))) (mSet 8 (mTup (mCons (m2 fIx (m2 fIx (mVarB 4) (m1 fNeg (mC (.int 1)))) (mC (.int 0))) (mCons (m1 fNeg (m2 fIx (m2 fIx (mVarB 4) (m1 fNeg (mC (.int 1)))) (mC (.int 1)))) mNil)))) mNext)
    (m_law_walk_1_2 q_law_behind q_law_draw q_law_let q_law_pick)
def m_law_walk_1_0 (q_law_behind : Pre) (q_law_draw : Pre) (q_law_let : Pre) (q_law_pick : Pre) : MS := mSq (mSet 8 (mCall q_law_pick (mcWell 0 (mcCons (mVar 7) mcNil))))
    (m_law_walk_1_1 q_law_behind q_law_draw q_law_let q_law_pick)
def m_law_walk_2_0 (q_law_behind : Pre) (q_law_draw : Pre) (q_law_let : Pre) (q_law_pick : Pre) : MS := mSq (mSet 7 (mCall q_law_let (mcCons (mVar 1) (mcCons (m2 fIx (mVarB 5) (m1 fNeg (mC (.int 1)))) mcNil))))
    (mIf (mB (m2 fNe (mVarB 7) (mList mNil))) (m_law_walk_1_0 q_law_behind q_law_draw q_law_let q_law_pick) mNext)
def m_law_walk_3_1 (q_law_behind : Pre) (q_law_draw : Pre) (q_law_let : Pre) (q_law_pick : Pre) : MS := mSq (mFor (mRng1 (mCons (mCall q_law_draw (mcWell 0 (mcCons (m2 fAddA (mVarB 3) (mC (.int 1))) mcNil))) mNil)) (mgName 6) (m_law_walk_2_0 q_law_behind q_law_draw q_law_let q_law_pick))
    (mRet (mTup (mCons (mBl fTuple (mCons (mVarB 4) mNil)) (mCons (mBl fTuple (mCons (mVarB 5) mNil)) mNil))))
def m_law_walk_3_0 (q_law_behind : Pre) (q_law_draw : Pre) (q_law_let : Pre) (q_law_pick : Pre) : MS := mSq (mParG 4 5 mNil (mCons (mVar 2) mNil))
    (m_law_walk_3_1 q_law_behind q_law_draw q_law_let q_law_pick)
def m_law_walk : MS :=
    (m_law_walk_3_0 pre_law_behind pre_law_draw pre_law_let pre_law_pick)
def pre_law_walk : Pre := preOf 9 m_law_walk
theorem cal_law_walk (T : Txt mg) (Y : Exs K mg c_Unfit) (a : At K mg "_law_walk" s_law_walk ["well", "web", "standing", "most"]) (C_law_behind : Cal P w K mg bs 1 "_law_behind" s_law_behind ["standing", "deed"] 2 pre_law_behind) (C_law_draw : Cal P w K mg bs 1 "_law_draw" s_law_draw ["well", "many"] 2 pre_law_draw) (C_law_let : Cal P w K mg bs 2 "_law_let" s_law_let ["web", "standing"] 2 pre_law_let) (C_law_pick : Cal P w K mg bs 2 "_law_pick" s_law_pick ["well", "items"] 2 pre_law_pick) : Cal P w K mg bs 3 "_law_walk" s_law_walk ["well", "web", "standing", "most"] 4 pre_law_walk :=
  cal_body a sc_law_walk rfl fun f cdv A out s H E hr hG => ⟨_, pkJ
    (jss_cons (js_parG 4 5 sc_law_walk.nd (jf_lst ja_nil) (jf_lst (ja_cons (je_var 2) ja_nil)) rfl rfl)
    (jss_cons (js_for PassesOwn.never (ji_range1 T.range (jab_cons (JE.jb (j_call C_law_draw (rm hr) hG (jc_well 0 (jc_cons (je_addA (jb_var 3) (JE.jb je_int)) jc_nil)))) jab_nil)) (jg_name 6 sc_law_walk.nd) (jss_cons (js_set 7 sc_law_walk.nd (j_call C_law_let (rm hr) hG (jc_cons (je_var 1) (jc_cons (je_ix (jb_var 5) (JE.jb (je_neg (JE.jb je_int))) (fun _ _ => rfl)) jc_nil))))
    (jss_one (js_if (jt_ne (un64 hr) (jb_var 7) (JE.jb (JF.je (jf_lst ja_nil)))) (jss_cons (js_set 8 sc_law_walk.nd (j_call C_law_pick (rm hr) hG (jc_well 0 (jc_cons (je_var 7) jc_nil))))
    (jss_cons (js_if (JW.jt (jw_and (jt_ne (un64 hr) (jb_var 4) (JE.jb (JF.je (jf_lst ja_nil)))) (jw_and1 (jt_eq (un64 hr) (JE.jb (j_call C_law_draw (rm hr) hG (jc_well 0 (jc_cons je_int jc_nil)))) (JE.jb je_int))))) (jss_one (js_set 8 sc_law_walk.nd (je_tup (ja_cons (je_ix (JE.jb (je_ix (jb_var 4) (JE.jb (je_neg (JE.jb je_int))) (fun _ _ => rfl))) (JE.jb je_int) (fun _ _ => rfl)) (ja_cons (je_neg (JE.jb (je_ix (JE.jb (je_ix (jb_var 4) (JE.jb (je_neg (JE.jb je_int))) (fun _ _ => rfl))) (JE.jb je_int) (fun _ _ => rfl)))) ja_nil))))) jss_nil)
    (jss_cons (js_appendB (K := K) rfl 4 (je_var 8) (by rfl) (by first | exact Or.inl rfl | exact Or.inr (Or.inl rfl) | exact Or.inr (Or.inr rfl)) (by decide) (by decide) (by rfl) (by rfl) (by rfl) (by rfl) (by rfl) (by rfl))
    (jss_one (js_appendB (K := K) rfl 5 (j_call C_law_behind (rm hr) hG (jc_cons (je_ix (jb_var 5) (JE.jb (je_neg (JE.jb je_int))) (fun _ _ => rfl)) (jc_cons (je_var 8) jc_nil))) (by rfl) (by first | exact Or.inl rfl | exact Or.inr (Or.inl rfl) | exact Or.inr (Or.inr rfl)) (by decide) (by decide) (by rfl) (by rfl) (by rfl) (by rfl) (by rfl) (by rfl)))))) jss_nil))))
    (jss_one (js_ret (je_tup (ja_cons (je_tuple T.tuple (jab_cons (jb_var 4) jab_nil)) (ja_cons (je_tuple T.tuple (jab_cons (jb_var 5) jab_nil)) ja_nil))))))) rfl⟩
def m_law_counts_1_0 : MS := mSq (mSet 3 (mBl fLen (mCons (mList (mLc (mSeq (mVar 0)) (mgName 4) (mB (m2 fEq (mVarB 4) (mTup (mCons (mVar 2) (mCons (mC (.int 1)) mNil))))) (mC (.int 1)) [4])) mNil)))
    (mApp 1 (mTup (mCons (mVar 2) (mCons (mVar 3) (mCons (mBl fLen (mCons (mList (mLc (mSeq (mVar 0)) (mgName 4) (mB (m2 fEq (mVarB 4) (mTup (mCons (mVar 2) (mCons (m1 fNeg (mC (.int 1))) mNil))))) (mC (.int 1)) [4])) mNil)) mNil)))))
def m_law_counts_2_1 : MS := mSq (mFor (mSeq (mList (mBlF fSortSet (mCons (mList (mLc (mSeq (mVar 0)) (mgName 4) mYes (m2 fIx (mVarB 4) (mC (.int 0))) [4])) mNil)))) (mgName 2) m_law_counts_1_0)
    (mRet (mBl fTuple (mCons (mVarB 1) mNil)))
def m_law_counts_2_0 : MS := mSq (mSetF 1 mNil)
    m_law_counts_2_1
def m_law_counts : MS :=
    m_law_counts_2_0
def pre_law_counts : Pre := preOf 5 m_law_counts
theorem cal_law_counts (T : Txt mg) (Y : Exs K mg c_Unfit) (a : At K mg "_law_counts" s_law_counts ["way"])  : Cal P w K mg bs 1 "_law_counts" s_law_counts ["way"] 1 pre_law_counts :=
  cal_body a sc_law_counts rfl fun f cdv A out s H E hr hG => ⟨_, pkJ
    (jss_cons (js_setF 1 sc_law_counts.nd (jf_lst ja_nil))
    (jss_cons (js_for PassesOwn.never (ji_seq (JF.je (jf_sortSet T.sorted T.set (jab_cons (JE.jb (JF.je (jf_lcF [("deed", 4)] sc_law_counts.nd (ji_seq (je_var 0)) (blkOk_by (own := [("deed", 4)]) (N := ["way", "found", "road", "laid", "deed"]) (sc := defScope s_law_counts) (by decide +kernel)) (fun _ _ _ _ _ => (jg_name 4 sc_law_counts.nd)) (fun _ _ _ _ _ => jts_nil) (fun _ _ _ _ _ => (je_ix (jb_var 4) (JE.jb je_int) (fun _ _ => rfl)))))) jab_nil)))) (jg_name 2 sc_law_counts.nd) (jss_cons (js_set 3 sc_law_counts.nd (je_len T.len (jab_cons (JE.jb (JF.je (jf_lcF [("deed", 4)] sc_law_counts.nd (ji_seq (je_var 0)) (blkOk_by (own := [("deed", 4)]) (N := ["way", "found", "road", "laid", "deed"]) (sc := defScope s_law_counts) (by decide +kernel)) (fun _ _ _ _ _ => (jg_name 4 sc_law_counts.nd)) (fun _ _ _ _ _ => (jts_one (jt_eq (un64 hr) (jb_var 4) (JE.jb (je_tup (ja_cons (je_var 2) (ja_cons je_int ja_nil))))))) (fun _ _ _ _ _ => je_int)))) jab_nil)))
    (jss_one (js_appendB (K := K) rfl 1 (je_tup (ja_cons (je_var 2) (ja_cons (je_var 3) (ja_cons (je_len T.len (jab_cons (JE.jb (JF.je (jf_lcF [("deed", 4)] sc_law_counts.nd (ji_seq (je_var 0)) (blkOk_by (own := [("deed", 4)]) (N := ["way", "found", "road", "laid", "deed"]) (sc := defScope s_law_counts) (by decide +kernel)) (fun _ _ _ _ _ => (jg_name 4 sc_law_counts.nd)) (fun _ _ _ _ _ => (jts_one (jt_eq (un64 hr) (jb_var 4) (JE.jb (je_tup (ja_cons (je_var 2) (ja_cons (je_neg (JE.jb je_int)) ja_nil))))))) (fun _ _ _ _ _ => je_int)))) jab_nil)) ja_nil)))) (by rfl) (by first | exact Or.inl rfl | exact Or.inr (Or.inl rfl) | exact Or.inr (Or.inr rfl)) (by decide) (by decide) (by rfl) (by rfl) (by rfl) (by rfl) (by rfl) (by rfl)))))
    (jss_one (js_ret (je_tuple T.tuple (jab_cons (jb_var 1) jab_nil)))))) rfl⟩
end
def m_law_1_10 (q_law_counts : Pre) (q_law_standing : Pre) (q_law_walk : Pre) (q_law_web : Pre) (q_standings_along : PreX) (q_trodden : Pre) (q_turned : Pre) : MS := mSq (mFor (mSeq (mVar 10)) (mgTup 3 (mgCons (mgName 7) (mgCons (mgName 11) (mgCons (mgName 12) mgNil)))) (mPut 13 (mVarB 7) (m2 fSub (m2 fAddA (m2 fIx (mVarB 13) (mVarB 7)) (mVarB 11)) (mVarB 12))))
    (mIf (mOr (mB (m2 fNe (mBl fTuple (mCons (mVarB 13) mNil)) (m2 fIx (mVarB 6) (m1 fNeg (mC (.int 1)))))) (mB (m2 fNeT (mBl fReprA (mCons (mVarB 5) mNil)) (mVarB 8)))) (mRet (mC (.bool false))) mNext)
def m_law_1_9 (q_law_counts : Pre) (q_law_standing : Pre) (q_law_walk : Pre) (q_law_web : Pre) (q_standings_along : PreX) (q_trodden : Pre) (q_turned : Pre) : MS := mSq (mSetF 13 (mBlF fList (mCons (mVarB 4) mNil)))
    (m_law_1_10 q_law_counts q_law_standing q_law_walk q_law_web q_standings_along q_trodden q_turned)
def m_law_1_8 (q_law_counts : Pre) (q_law_standing : Pre) (q_law_walk : Pre) (q_law_web : Pre) (q_standings_along : PreX) (q_trodden : Pre) (q_turned : Pre) : MS := mSq (mIf (mB (m2 fNeT (mBl fReprA (mCons (mCall q_trodden (mcCons (mVar 9) mcNil)) mNil)) (mBl fReprA (mCons (mBl fTuple (mCons (mList (mLc (mSeq (mVar 10)) (mgTup 3 (mgCons (mgName 7) (mgCons (mgName 11) (mgCons (mgName 12) mgNil)))) mYes (mTup (mCons (mVar 7) (mCons (mVar 12) (mCons (mVar 11) mNil)))) [7, 11, 12])) mNil)) mNil)))) (mRet (mC (.bool false))) mNext)
    (m_law_1_9 q_law_counts q_law_standing q_law_walk q_law_web q_standings_along q_trodden q_turned)
def m_law_1_7 (q_law_counts : Pre) (q_law_standing : Pre) (q_law_walk : Pre) (q_law_web : Pre) (q_standings_along : PreX) (q_trodden : Pre) (q_turned : Pre) : MS := mSq (mIf (mB (m2 fNeT (mBl fReprA (mCons (mList (mCons (mVar 10) (mCons (mCallK q_trodden (pmC 1 [0]) mcNil (mcCons (mVar 5) mcNil)) mNil))) mNil)) (mBl fReprA (mCons (m2 fMulB (mList (mCons (mCall q_law_counts (mcCons (mVar 5) mcNil)) mNil)) (mC (.int 2))) mNil)))) (mRet (mC (.bool false))) mNext)
    (m_law_1_8 q_law_counts q_law_standing q_law_walk q_law_web q_standings_along q_trodden q_turned)
def m_law_1_6 (q_law_counts : Pre) (q_law_standing : Pre) (q_law_walk : Pre) (q_law_web : Pre) (q_standings_along : PreX) (q_trodden : Pre) (q_turned : Pre) : MS := mSq (mSet 10 (mCall q_trodden (mcCons (mVar 5) mcNil)))
    (m_law_1_7 q_law_counts q_law_standing q_law_walk q_law_web q_standings_along q_trodden q_turned)
def m_law_1_5 (q_law_counts : Pre) (q_law_standing : Pre) (q_law_walk : Pre) (q_law_web : Pre) (q_standings_along : PreX) (q_trodden : Pre) (q_turned : Pre) : MS := mSq (mIf (mB (m2 fNeT (mBl fReprA (mCons (mCall (calmP q_standings_along) (mcCons (mVar 3) (mcCons (m2 fIx (mVarB 6) (m1 fNeg (mC (.int 1)))) (mcCons (mCall q_turned (mcCons (mVar 5) mcNil)) mcNil)))) mNil)) (mBl fReprA (mCons (mRev (mVarB 6)) mNil)))) (mRet (mC (.bool false))) mNext)
    (m_law_1_6 q_law_counts q_law_standing q_law_walk q_law_web q_standings_along q_trodden q_turned)
def m_law_1_4 (q_law_counts : Pre) (q_law_standing : Pre) (q_law_walk : Pre) (q_law_web : Pre) (q_standings_along : PreX) (q_trodden : Pre) (q_turned : Pre) : MS := mSq (mIf (mB (m2 fNeT (mBl fReprA (mCons (mList (mCons (mCall q_turned (mcCons (mVar 5) mcNil)) (mCons (mCallK q_turned (pmC 1 [0]) mcNil (mcCons (mVar 5) mcNil)) (mCons (mCall q_turned (mcCons (mVar 9) mcNil)) mNil)))) mNil)) (mBl fReprA (mCons (mList (mCons (mVar 9) (mCons (mVar 9) (mCons (mVar 5) mNil)))) mNil)))) (mRet (mC (.bool false))) mNext)
    (m_law_1_5 q_law_counts q_law_standing q_law_walk q_law_web q_standings_along q_trodden q_turned)
def m_law_1_3 (q_law_counts : Pre) (q_law_standing : Pre) (q_law_walk : Pre) (q_law_web : Pre) (q_standings_along : PreX) (q_trodden : Pre) (q_turned : Pre) : MS := mSq (mPar 8 9 (mBl fReprA (mCons (mVarB 5) mNil)) (mBl fTuple (mCons (mList (mLc (mSeq (mRev (mVarB 5))) (mgTup 2 (mgCons (mgName 7) (mgCons (mgName 14) mgNil))) mYes (mTup (mCons (mVar 7) (mCons (m1 fNeg (mVarB 14)) mNil))) [7, 14])) mNil)))
    (m_law_1_4 q_law_counts q_law_standing q_law_walk q_law_web q_standings_along q_trodden q_turned)
def m_law_1_2 (q_law_counts : Pre) (q_law_standing : Pre) (q_law_walk : Pre) (q_law_web : Pre) (q_standings_along : PreX) (q_trodden : Pre) (q_turned : Pre) : MS := mSq (mAsg (mCall q_law_walk (mcWell 1 (mcCons (mVar 3) (mcCons (mVar 4) (mcCons (mIfE (mB (m2 fLt (mVarB 2) (mC (.int 4)))) (mC (.int 14)) (mC (.int 6))) mcNil))))) (mgTup 2 (mgCons (mgName 5) (mgCons (mgName 6) mgNil))))
    (m_law_1_3 q_law_counts q_law_standing q_law_walk q_law_web q_standings_along q_trodden q_turned)
def m_law_1_1 (q_law_counts : Pre) (q_law_standing : Pre) (q_law_walk : Pre) (q_law_web : Pre) (q_standings_along : PreX) (q_trodden : Pre) (q_turned : Pre) : MS := mSq (mSet 4 (mCall q_law_standing (mcWell 1 (mcCons (mVar 3) mcNil))))
    (m_law_1_2 q_law_counts q_law_standing q_law_walk q_law_web q_standings_along q_trodden q_turned)
def m_law_1_0 (q_law_counts : Pre) (q_law_standing : Pre) (q_law_walk : Pre) (q_law_web : Pre) (q_standings_along : PreX) (q_trodden : Pre) (q_turned : Pre) : MS := mSq (mSet 3 (mIfE (mB (m2 fEq (mVarB 2) (mC (.int 4)))) (mCall q_law_web (mcWell 1 (mcCons (mC (.int 24)) (mcCons (mC (.int 40)) (mcCons (mC (.int 9)) mcNil))))) (mCall q_law_web (mcWell 1 (mcCons (mC (.int 9)) (mcCons (mC (.int 14)) (mcCons (mC (.int 3)) mcNil)))))))
    (m_law_1_1 q_law_counts q_law_standing q_law_walk q_law_web q_standings_along q_trodden q_turned)
def m_law_2_0 (q_law_counts : Pre) (q_law_standing : Pre) (q_law_walk : Pre) (q_law_web : Pre) (q_standings_along : PreX) (q_trodden : Pre) (q_turned : Pre) : MS := mSq (mFor (mRng1 (mCons (mC (.int 5)) mNil)) (mgName 2) (m_law_1_0 q_law_counts q_law_standing q_law_walk q_law_web q_standings_along q_trodden q_turned))
    (mRet (mC (.bool true)))
def m_law : MS :=
    (m_law_2_0 pre_law_counts pre_law_standing pre_law_walk pre_law_web pre_standings_along pre_trodden pre_turned)
/-! ### lists gone through -/
theorem lcGo_at {g : MG} {te : ME} {env : Cells} : ∀ {ds rs : List PyData} {P : List PyData → Prop}, rs.length = ds.length → (∀ (i : Nat) (h1 : i < ds.length) (h2 : i < rs.length) (Y : PyData → Prop), Y rs[i] → g ds[i] env fun env' => te env' Y) → P rs → lcGo g mYes te env ds P
  | [], [], _, _, _, h => h
  | [], _ :: _, _, e, _, _ => by cases e
  | _ :: _, [], _, e, _, _ => by cases e
  | d :: ds, r :: rs, P, e, h, hP => by
    have h0 := h 0 (Nat.zero_lt_succ _) (Nat.zero_lt_succ _) (fun y => lcGo g mYes te env ds fun ys => P (y :: ys)) ?_
    · exact h0
    · exact lcGo_at (by simpa using e) (fun i h1 h2 Y hY => h (i + 1) (Nat.succ_lt_succ h1) (Nat.succ_lt_succ h2) Y hY) hP
theorem rangeD_at {lo hi : Int} {i : Nat} (h : i < (rangeD lo hi).length) : (rangeD lo hi)[i] = .int (lo + (i : Nat)) :=
  Option.some.inj ((List.getElem?_eq_getElem h).symm.trans (rangeD_get (by rw [rangeD_length] at h; exact h)))
def pathL (m : Int) : List (Int × Int) := (List.range m.toNat).map fun (i : Nat) => ((i : Int), (i : Int) + 1)
theorem pathL_len (m : Int) : (pathL m).length = m.toNat := by unfold pathL; rw [List.length_map, List.length_range]
theorem pathL_at {m : Int} {i : Nat} (h : i < (pathL m).length) : (pathL m)[i] = ((i : Int), (i : Int) + 1) := by
  have e : (pathL m)[i]? = some ((i : Int), (i : Int) + 1) := by
    rw [pathL_len] at h
    unfold pathL
    rw [List.getElem?_map, List.getElem?_range h]
    rfl
  exact Option.some.inj ((List.getElem?_eq_getElem h).symm.trans e)
theorem pathL_mem {m : Int} {p : Int × Int} : p ∈ pathL m ↔ ∃ i : Nat, (i : Int) < m ∧ p = ((i : Int), (i : Int) + 1) := by
  unfold pathL
  rw [List.mem_map]
  constructor
  · rintro ⟨i, h, rfl⟩
    rw [List.mem_range] at h
    exact ⟨i, by omega, rfl⟩
  · rintro ⟨i, h, rfl⟩
    exact ⟨i, by rw [List.mem_range]; omega, rfl⟩
structure Sh (n : Int) (es : List (Int × Int)) : Prop where
  lt : ∀ p ∈ es, 0 ≤ p.1 ∧ p.1 < p.2 ∧ p.2 < n
  conn : ∀ f : Int → Int, (∀ p ∈ es, f p.1 = f p.2) → ∀ x : Nat, (x : Int) < n → f x = f 0
theorem sh_path {n : Int} : Sh n (pathL (n - 1)) where
  lt := fun p h => by
    obtain ⟨i, hi, rfl⟩ := pathL_mem.mp h
    exact ⟨by omega, by omega, by show (i : Int) + 1 < n; omega⟩
  conn := fun f hf x => by
    induction x with
    | zero => intro _; rfl
    | succ x ih =>
      intro h
      have := hf _ (pathL_mem.mpr ⟨x, by omega, rfl⟩)
      rw [← ih (by omega)]
      exact this.symm
theorem Sh.more {n : Int} {es : List (Int × Int)} {p : Int × Int} (h : Sh n es) (h0 : 0 ≤ p.1) (h1 : p.1 < p.2) (h2 : p.2 < n) : Sh n (es ++ [p]) where
  lt := fun q hq => by
    rcases List.mem_append.mp hq with z | z
    · exact h.lt q z
    · rw [List.mem_singleton.mp z]; exact ⟨h0, h1, h2⟩
  conn := fun f hf => h.conn f fun q hq => hf q (List.mem_append_left _ hq)
theorem path_mean {s : Nat} {env : Cells} {P : List PyData → Prop} {n : Int} (hn : 0 ≤ n) (h1 : n ≤ 1000) (hs : ∀ k : Int, (env.set s (.val (.int k)))[s]? = some (.val (.int k))) (h : P ((pathL n).map Dw.prD)) : ((rangeD 0 n).length ≤ 100000 ∧ lcGo (mgName s) mYes (mTup (mCons (mVar s) (mCons (m2 fAddA (mVarB s) (mC (.int 1))) mNil))) env (rangeD 0 n) P) := by
  have hl : (rangeD 0 n).length = n.toNat := by rw [rangeD_length]; congr 1; omega
  refine ⟨by omega, lcGo_at (rs := (pathL n).map Dw.prD) (by rw [List.length_map, pathL_len, hl]) (fun i h1 h2 Y hY => ?_) h⟩
  rw [rangeD_at h1]
  show mTup _ (env.set s (.val (.int (0 + (i : Nat))))) Y
  unfold mTup mCons m2 mVar mVarB mNil mC
  simp only [hs]
  rw [List.getElem_map, pathL_at] at hY
  show Y (.tuple [.int (0 + (i : Nat)), .int (0 + (i : Nat) + 1)])
  rw [Int.zero_add]
  exact hY
theorem Sh.tree {m : Nat} {es : List (Int × Int)} {r : Int} (h : Sh (m : Int) es) (m1 : 1 ≤ m) (r0 : 0 ≤ r) (r1 : r < m) : Sh ((m + 1 : Nat) : Int) (es ++ [(r, (m : Int))]) where
  lt := fun q hq => by
    rcases List.mem_append.mp hq with z | z
    · have := h.lt q z
      omega
    · rw [List.mem_singleton.mp z]; exact ⟨r0, r1, by show (m : Int) < _; omega⟩
  conn := fun f hf x hx => by
    have c := h.conn f fun q hq => hf q (List.mem_append_left _ hq)
    by_cases e : x < m
    · exact c x (by omega)
    · have e' : x = m := by omega
      subst e'
      have h1 := hf (r, (x : Int)) (List.mem_append_right _ (List.mem_singleton.mpr rfl))
      have h2 := c r.toNat (by omega)
      rw [Int.toNat_of_nonneg r0] at h2
      exact h1.symm.trans h2
theorem sh_one : Sh ((1 : Nat) : Int) [] where
  lt := fun p h => by cases h
  conn := fun f _ x hx => by
    have e : x = 0 := by omega
    subst e
    rfl
theorem prD_lay2 (p : Int × Int) : (Dw.prD p).canLay0 = true := by simp [Dw.prD, PyData.canLay0, PyData.canLayAll0]
theorem prD_depth2 (p : Int × Int) : (Dw.prD p).depth ≤ 2 := by simp [Dw.prD, PyData.depth, PyData.depthAll]
theorem prs_lay : ∀ zs : List (Int × Int), PyData.canLayAll0 (zs.map Dw.prD) = true
  | [] => by simp [PyData.canLayAll0]
  | z :: zs => by simp [PyData.canLayAll0, prD_lay2 z, prs_lay zs]
theorem prs_depth : ∀ zs : List (Int × Int), PyData.depthAll (zs.map Dw.prD) ≤ 3
  | [] => by simp [PyData.depthAll]
  | z :: zs => by
    have h1 := prs_depth zs
    have h2 := prD_depth2 z
    simp only [List.map_cons, PyData.depthAll]
    omega
theorem pr_shaped (p : Int × Int) : SeqAt.shaped (Dw.prD p) = true := by
  have h := prD_depth2 p
  show ((Dw.prD p).canLay0 && decide ((Dw.prD p).depth ≤ 64)) = true
  rw [Bool.and_eq_true]
  exact ⟨prD_lay2 p, decide_eq_true (by omega)⟩
theorem prs_shaped (zs : List (Int × Int)) : SeqAt.shaped (.list (zs.map Dw.prD)) = true := by
  have h1 := prs_depth zs
  have h2 : PyData.depth (.list (zs.map Dw.prD)) ≤ 64 := by
    simp only [PyData.depth]
    omega
  show (PyData.canLay0 (.list (zs.map Dw.prD)) && decide (PyData.depth (.list (zs.map Dw.prD)) ≤ 64)) = true
  rw [Bool.and_eq_true]
  exact ⟨by simp only [PyData.canLay0]; exact prs_lay zs, decide_eq_true h2⟩
section
variable {P : PyData → Prop} {size room kind : Int} {M : MEnds}
/-- a web so far -/
structure JP (size n : Int) (es : List (Int × Int)) : Prop where
  n2 : 2 ≤ n
  ns : n ≤ size
  sh : Sh n es
  len : es.length ≤ 1000
abbrev eSh (size room kind n : Int) (es : List (Int × Int)) (c6 c7 c8 c9 c10 c11 c12 : Cell) : Cells := [.well, .val (.int size), .val (.int room), .val (.int kind), .val (.int n), .own (es.map Dw.prD), c6, c7, c8, c9, c10, c11, c12]
def ShDone (M : MEnds) (size room : Int) : Prop := ∀ n es, JP size n es → (es.length : Int) ≤ room → M.rt (.tuple [.int n, .list (es.map Dw.prD)])
theorem sh_7 (hM : ShDone M size room) (s1 : size ≤ 100) (r0 : 1 ≤ room) (r1 : room ≤ 100) {n : Int} {es : List (Int × Int)} {c6 c7 c8 c9 c10 c11 c12 : Cell} (h : JP size n es) : m_law_shape_7_7 M (eSh size room kind n es c6 c7 c8 c9 c10 c11 c12) := by
  show (if decide ((room : Int) < (((es.map Dw.prD).length : Nat) : Int)) = true then _ else _)
  rw [List.length_map]
  refine ite2 (fun hlt => ?_) fun hlt => ?_
  · have hlt := of_decide_eq_true hlt
    have h2 := h.n2
    have h3 := h.ns
    refine ⟨⟨by omega, by omega⟩, ?_⟩
    refine path_mean (by omega) (by omega) (fun _ => rfl) ?_
    exact hM _ _ ⟨by omega, by omega, sh_path, by rw [pathL_len]; omega⟩ (by rw [pathL_len]; omega)
  · exact hM n es h (by simpa using hlt)
theorem mem_row {a lo hi : Int} {p : Int × Int} : p ∈ (List.range (hi - lo).toNat).map (fun (j : Nat) => (a, lo + (j : Int))) ↔ ∃ b : Int, lo ≤ b ∧ b < hi ∧ p = (a, b) := by
  rw [List.mem_map]
  constructor
  · rintro ⟨j, hj, rfl⟩
    rw [List.mem_range] at hj
    exact ⟨lo + j, by omega, by omega, rfl⟩
  · rintro ⟨b, h1, h2, rfl⟩
    exact ⟨(b - lo).toNat, by rw [List.mem_range]; omega, by rw [Int.toNat_of_nonneg (by omega)]; congr 1; omega⟩
theorem mem_col {b : Int} {p : Int × Int} : p ∈ (List.range (b - 0).toNat).map (fun (j : Nat) => ((0 + (j : Int) : Int), b)) ↔ ∃ a : Int, 0 ≤ a ∧ a < b ∧ p = (a, b) := by
  rw [List.mem_map]
  constructor
  · rintro ⟨j, hj, rfl⟩
    rw [List.mem_range] at hj
    exact ⟨0 + j, by omega, by omega, rfl⟩
  · rintro ⟨a, h1, h2, rfl⟩
    exact ⟨a.toNat, by rw [List.mem_range]; omega, by rw [Int.toNat_of_nonneg h1]; congr 1; omega⟩
theorem sh_6 (hM : ShDone M size room) (s1 : size ≤ 100) (r0 : 1 ≤ room) (r1 : room ≤ 100) (k1 : kind < 8) {n : Int} {es : List (Int × Int)} {c6 c7 c8 c9 c10 c11 c12 : Cell} (h : JP size n es) : m_law_shape_7_6 M (eSh size room kind n es c6 c7 c8 c9 c10 c11 c12) := by
  have n2 := h.n2
  have ns := h.ns
  refine ite2 (fun hk => ?_) fun hk => sh_7 hM s1 r0 r1 h
  have hk := of_decide_eq_true hk
  -- a tree
  refine ⟨⟨by decide, by decide⟩, ⟨by omega, by omega⟩, by rw [rangeD_length]; omega, ?_⟩
  refine lcGo_inv (fun i acc => ∃ es' : List (Int × Int), acc = es'.map Dw.prD ∧ es'.length = i ∧ Sh ((i + 1 : Nat) : Int) es') ?_ ⟨[], rfl, rfl, sh_one⟩ ?_
  · rintro i hi acc Y S ⟨es', rfl, hl, hs⟩ hY hS
    rw [rangeD_at hi]
    rw [rangeD_length] at hi
    refine ⟨1 + (i : Nat), rfl, by omega, by omega, fun r a b => hY _ ⟨es' ++ [(r, ((i + 1 : Nat) : Int))], ?_, by rw [List.length_append, hl]; rfl, hs.tree (by omega) a (by omega)⟩⟩
    rw [List.map_append, show (1 + (i : Nat) : Int) = ((i + 1 : Nat) : Int) by omega]
    rfl
  · rintro acc ⟨es', rfl, hl, hs⟩
    rw [rangeD_length] at hl hs
    rw [show ((((n - 1).toNat + 1 : Nat)) : Int) = n by omega] at hs
    -- more roads
    have loop : ∀ k : Int, 0 < k → k ≤ 300 → (preDraw [.well, .val (.int k)] fun d => on1 [d] fun d => onI d fun m => small62 m ∧ forGo (mgName 11) m_law_shape_4_0 { M with nx := fun e => m_law_shape_7_7 M e } (rangeD 0 m) (eSh size room kind n es' c6 c7 c8 c9 c10 c11 c12)) := by
      intro k k0 k3
      refine ⟨k, rfl, k0, by omega, fun m m0 m1 => ⟨⟨by omega, by omega⟩, ?_⟩⟩
      refine forGo_inv (fun i e => ∃ (es : List (Int × Int)) (c8 c9 c11 : Cell), e = eSh size room kind n es c6 c7 c8 c9 c10 c11 c12 ∧ Sh n es ∧ es.length ≤ 100 + i) ?_ ?_ ⟨es', _, _, _, rfl, hs, by omega⟩
      · rintro i hi env N ⟨es, c8, c9, c11, rfl, hs, hl⟩ hN
        rw [rangeD_at hi]
        rw [rangeD_length] at hi
        refine ⟨n, rfl, by omega, by omega, fun a a0 a1 => ⟨n, rfl, by omega, by omega, fun b b0 b1 => ⟨rfl, rfl, ?_⟩⟩⟩
        have same : N (eSh size room kind n es c6 c7 (.val (.int b)) (.val (.int a)) c10 (.val (.int (0 + (i : Nat)))) c12) := hN _ ⟨es, _, _, _, rfl, hs, by omega⟩
        refine ite2 (fun h1 => ?_) fun h1 => iteF same
        have h1 := of_decide_eq_true h1
        refine ⟨pr_shaped (a, b), prs_shaped es, ite2 (fun h2 => ite2 (fun h3 => ⟨by rw [List.length_map]; omega, hN _ ⟨es ++ [(a, b)], .val (.int b), .val (.int a), .val (.int (0 + (i : Nat))), ?_, hs.more a0 h1 b1, by rw [List.length_append]; exact Nat.add_le_add_right hl 1⟩⟩) fun h3 => same) fun h2 => iteF same⟩
        unfold eSh
        rw [List.map_append]
        rfl
      · rintro e ⟨es, c8, c9, c11, rfl, hs, hl⟩
        rw [rangeD_length] at hl
        exact sh_7 hM s1 r0 r1 ⟨n2, ns, hs, by omega⟩
    have hk3 : kind = 5 ∨ kind = 6 ∨ kind = 7 := by omega
    rcases hk3 with e | e | e
    · subst e; exact ⟨.inl ⟨by decide, by decide⟩, loop 1 (by omega) (by omega)⟩
    · subst e; exact ⟨.inl ⟨by decide, by decide⟩, loop 4 (by omega) (by omega)⟩
    · subst e; exact ⟨.inl ⟨by decide, by decide⟩, loop (3 * n) (by omega) (by omega)⟩
theorem sh_5 (hM : ShDone M size room) (s1 : size ≤ 100) (r0 : 1 ≤ room) (r1 : room ≤ 100) (k1 : kind < 8) {n : Int} {es : List (Int × Int)} {c6 c7 c8 c9 c10 c11 c12 : Cell} (h : JP size n es) : m_law_shape_7_5 M (eSh size room kind n es c6 c7 c8 c9 c10 c11 c12) := by
  refine ⟨rfl, rfl, ite2 (fun hk => ?_) fun hk => iteF (sh_6 hM s1 r0 r1 k1 h)⟩
  refine ite2 (fun hs => ?_) fun hs => sh_6 hM s1 r0 r1 k1 h
  have hs := of_decide_eq_true hs
  have hm : ∀ x y : Int, (if y < x then y else x) ≤ x ∧ (if y < x then y else x) ≤ y ∧ ((if y < x then y else x) = x ∨ (if y < x then y else x) = y) := by intro x y; split <;> omega
  obtain ⟨a1, a2, a3⟩ := hm 4 (size - 1)
  refine ⟨_, rfl, by omega, by omega, fun r b0 b1 => ?_⟩
  obtain ⟨d1, d2, d3⟩ := hm 5 (size - (1 + r))
  refine ⟨_, rfl, by omega, by omega, fun t t0 t1 => ?_⟩
  generalize hrows : 1 + r = rows at *
  generalize hn' : rows + 1 + t = n' at *
  refine ⟨⟨by omega, by omega⟩, ?_⟩
  refine forGo_inv (fun i e => ∃ (es : List (Int × Int)) (c8 c9 : Cell), e = eSh size room kind n' es c6 c7 c8 c9 (.val (.int rows)) c11 c12 ∧ (∀ p, p ∈ es ↔ ∃ a b : Int, 0 ≤ a ∧ a < i ∧ rows ≤ b ∧ b < n' ∧ p = (a, b)) ∧ es.length ≤ 100 * i) ?_ ?_ ⟨[], c8, c9, by rw [← hn']; rfl, fun p => ⟨fun z => by (cases z), fun ⟨a, b, q1, q2, _⟩ => by omega⟩, Nat.zero_le _⟩
  · rintro i hi env N ⟨es, c8, c9, rfl, mem, hl⟩ hN
    rw [rangeD_at hi]
    rw [rangeD_length] at hi
    refine ⟨⟨by omega, by omega⟩, ⟨by omega, by omega⟩, by rw [rangeD_length]; omega, ?_⟩
    refine lcGo_at (rs := ((List.range (n' - rows).toNat).map (fun (j : Nat) => ((0 + (i : Nat) : Int), rows + (j : Int)))).map Dw.prD) (by rw [List.length_map, List.length_map, List.length_range, rangeD_length]) (fun j h1 h2 Y hY => ?_) ?_
    · rw [rangeD_at h1]
      rw [List.getElem_map, List.getElem_map, List.getElem_range] at hY
      exact hY
    · refine ⟨by rw [List.length_map, List.length_map, List.length_map, List.length_range]; omega, hN _ ⟨es ++ (List.range (n' - rows).toNat).map (fun (j : Nat) => ((0 + (i : Nat) : Int), rows + (j : Int))), c8, .val (.int (0 + (i : Nat))), ?_, fun p => ?_, ?_⟩⟩
      · unfold eSh
        rw [List.map_append]
        rfl
      · rw [List.mem_append, mem p, mem_row]
        constructor
        · rintro (⟨a, b, q1, q2, q3, q4, rfl⟩ | ⟨b, q3, q4, rfl⟩)
          · exact ⟨a, b, q1, by omega, q3, q4, rfl⟩
          · exact ⟨_, b, by omega, by omega, q3, q4, rfl⟩
        · rintro ⟨a, b, q1, q2, q3, q4, rfl⟩
          by_cases e : a < i
          · exact .inl ⟨a, b, q1, e, q3, q4, rfl⟩
          · exact .inr ⟨b, q3, q4, by rw [show a = 0 + (i : Int) by omega]⟩
      · rw [List.length_append, List.length_map, List.length_range]; omega
  · rintro e ⟨es, c8, c9, rfl, mem, hl⟩
    rw [rangeD_length] at mem hl
    refine sh_6 hM s1 r0 r1 k1 ⟨by omega, by omega, ⟨fun p hp => ?_, fun f hf x hx => ?_⟩, by omega⟩
    · obtain ⟨a, b, q1, q2, q3, q4, rfl⟩ := (mem p).mp hp
      exact ⟨q1, by show a < b; omega, q4⟩
    · have h0 : ∀ b, rows ≤ b → b < n' → f 0 = f b := fun b q3 q4 => hf _ ((mem (0, b)).mpr ⟨0, b, by omega, by omega, q3, q4, rfl⟩)
      by_cases e : (x : Int) < rows
      · have := hf _ ((mem ((x : Int), rows)).mpr ⟨x, rows, by omega, by omega, by omega, by omega, rfl⟩)
        exact this.trans (h0 rows (by omega) (by omega)).symm
      · exact (h0 x (by omega) hx).symm
theorem sh_4 (hM : ShDone M size room) (s0 : 2 ≤ size) (s1 : size ≤ 100) (r0 : 1 ≤ room) (r1 : room ≤ 100) (k1 : kind < 8) {n : Int} {es : List (Int × Int)} {c6 c7 c8 c9 c10 c11 c12 : Cell} (h : JP size n es) : m_law_shape_7_4 M (eSh size room kind n es c6 c7 c8 c9 c10 c11 c12) := by
  refine ⟨rfl, rfl, ite2 (fun hk => ?_) fun hk => sh_5 hM s1 r0 r1 k1 h⟩
  have hm : ∀ x y : Int, (if y < x then y else x) ≤ x ∧ (if y < x then y else x) ≤ y ∧ ((if y < x then y else x) = x ∨ (if y < x then y else x) = y) := by intro x y; split <;> omega
  obtain ⟨a1, a2, a3⟩ := hm size 6
  refine ⟨_, rfl, by omega, by omega, fun r b0 b1 => ?_⟩
  generalize hn' : 2 + r = n' at *
  refine ⟨⟨by omega, by omega⟩, ?_⟩
  refine forGo_inv (fun i e => ∃ (es : List (Int × Int)) (c8 c9 : Cell), e = eSh size room kind n' es c6 c7 c8 c9 c10 c11 c12 ∧ (∀ p, p ∈ es ↔ ∃ a b : Int, 0 ≤ a ∧ a < b ∧ b < i ∧ p = (a, b)) ∧ es.length ≤ 100 * i) ?_ ?_ ⟨[], c8, c9, by rw [← hn']; rfl, fun p => ⟨fun z => by (cases z), fun ⟨a, b, q1, q2, q3, _⟩ => by omega⟩, Nat.zero_le _⟩
  · rintro i hi env N ⟨es, c8, c9, rfl, mem, hl⟩ hN
    rw [rangeD_at hi]
    rw [rangeD_length] at hi
    refine ⟨⟨by omega, by omega⟩, by rw [rangeD_length]; omega, ?_⟩
    refine lcGo_at (rs := ((List.range ((0 + (i : Nat) : Int) - 0).toNat).map (fun (j : Nat) => ((0 + (j : Int) : Int), (0 + (i : Nat) : Int)))).map Dw.prD) (by rw [List.length_map, List.length_map, List.length_range, rangeD_length]) (fun j h1 h2 Y hY => ?_) ?_
    · rw [rangeD_at h1]
      rw [List.getElem_map, List.getElem_map, List.getElem_range] at hY
      exact hY
    · refine ⟨by rw [List.length_map, List.length_map, List.length_map, List.length_range]; omega, hN _ ⟨es ++ (List.range ((0 + (i : Nat) : Int) - 0).toNat).map (fun (j : Nat) => ((0 + (j : Int) : Int), (0 + (i : Nat) : Int))), .val (.int (0 + (i : Nat))), c9, ?_, fun p => ?_, ?_⟩⟩
      · unfold eSh
        rw [List.map_append]
        rfl
      · rw [List.mem_append, mem p, mem_col]
        constructor
        · rintro (⟨a, b, q1, q2, q3, rfl⟩ | ⟨a, q3, q4, rfl⟩)
          · exact ⟨a, b, q1, q2, by omega, rfl⟩
          · exact ⟨a, _, q3, q4, by omega, rfl⟩
        · rintro ⟨a, b, q1, q2, q3, rfl⟩
          by_cases e : b < i
          · exact .inl ⟨a, b, q1, q2, e, rfl⟩
          · have e' : b = 0 + (i : Int) := by omega
            exact .inr ⟨a, q1, by omega, by rw [e']⟩
      · rw [List.length_append, List.length_map, List.length_range]; omega
  · rintro e ⟨es, c8, c9, rfl, mem, hl⟩
    rw [rangeD_length] at mem hl
    refine sh_5 hM s1 r0 r1 k1 ⟨by omega, by omega, ⟨fun p hp => ?_, fun f hf x hx => ?_⟩, by omega⟩
    · obtain ⟨a, b, q1, q2, q3, rfl⟩ := (mem p).mp hp
      exact ⟨q1, q2, by show b < n'; omega⟩
    · by_cases e : x = 0
      · subst e; rfl
      · exact (hf _ ((mem (0, (x : Int))).mpr ⟨0, x, by omega, by omega, by omega, rfl⟩)).symm
theorem sh_3 (hM : ShDone M size room) (s0 : 2 ≤ size) (s1 : size ≤ 100) (r0 : 1 ≤ room) (r1 : room ≤ 100) (k1 : kind < 8) {n : Int} {es : List (Int × Int)} {c6 c7 c8 c9 c10 c11 c12 : Cell} (h : JP size n es) : m_law_shape_7_3 M (eSh size room kind n es c6 c7 c8 c9 c10 c11 c12) := by
  refine ⟨rfl, rfl, ite2 (fun hk => ?_) fun hk => iteF (sh_4 hM s0 s1 r0 r1 k1 h)⟩
  refine ite2 (fun hs => ?_) fun hs => sh_4 hM s0 s1 r0 r1 k1 h
  have hs := of_decide_eq_true hs
  have hd : (size - 1).fdiv 2 = (size - 1) / 2 := Int.fdiv_eq_ediv_of_nonneg _ (by decide)
  refine ⟨⟨by decide, by decide⟩, _, rfl, by omega, by omega, fun r b0 b1 => ?_⟩
  have hb : ∃ base : Int, base = 1 + r := ⟨_, rfl⟩
  obtain ⟨base, hbase⟩ := hb
  refine ⟨.inl ⟨by decide, by decide⟩, ⟨by omega, by omega⟩, ?_⟩
  refine forGo_inv (fun i e => ∃ (es : List (Int × Int)) (c7 : Cell), e = eSh size room kind (2 * base + 1) es (.val (.int base)) c7 c8 c9 c10 c11 c12 ∧ (∀ p ∈ es, 0 ≤ p.1 ∧ p.1 < p.2 ∧ p.2 < base + 1 + i) ∧
      (∀ f : Int → Int, (∀ p ∈ es, f p.1 = f p.2) → (∀ x : Nat, x ≤ i → f x = f 0) ∧ ∀ y : Nat, y < i → f (base + 1 + y) = f 0) ∧ es.length = 2 * i) ?_ ?_ ⟨[], c7, by rw [hbase]; rfl, fun p z => by (cases z), fun f _ => ⟨fun x hx => by rw [show x = 0 by omega]; rfl, fun y hy => by omega⟩, rfl⟩
  · rintro i hi env N ⟨es, c7, rfl, lt, con, hl⟩ hN
    rw [rangeD_at hi]
    rw [rangeD_length] at hi
    refine ⟨_, rfl, by omega, by omega, fun t t0 t1 => ⟨by rw [List.length_map, hl]; show 2 * i + 2 ≤ 100000; omega, hN _ ⟨es ++ [(t, base + 1 + (0 + (i : Nat))), (0 + (i : Nat) + 1, base + 1 + (0 + (i : Nat)))], .val (.int (0 + (i : Nat))), ?_, ?_, ?_, by rw [List.length_append, hl]; rfl⟩⟩⟩
    · unfold eSh
      rw [List.map_append]
      rfl
    · intro p hp
      rcases List.mem_append.mp hp with z | z
      · have := lt p z
        omega
      · rcases List.mem_cons.mp z with z | z
        · rw [z]; exact ⟨t0, by show t < base + 1 + (0 + (i : Int)); omega, by show base + 1 + (0 + (i : Int)) < _; omega⟩
        · rw [List.mem_singleton.mp z]; exact ⟨by show (0 : Int) ≤ 0 + (i : Int) + 1; omega, by show 0 + (i : Int) + 1 < base + 1 + (0 + (i : Int)); omega, by show base + 1 + (0 + (i : Int)) < _; omega⟩
    · intro f hf
      obtain ⟨q1, q2⟩ := con f fun p hp => hf p (List.mem_append_left _ hp)
      have e1 : f t = f (base + 1 + (0 + (i : Nat))) := hf _ (List.mem_append_right _ List.mem_cons_self)
      have e2 : f (0 + (i : Nat) + 1) = f (base + 1 + (0 + (i : Nat))) := hf _ (List.mem_append_right _ (List.mem_cons_of_mem _ List.mem_cons_self))
      have e3 := q1 t.toNat (by omega)
      rw [Int.toNat_of_nonneg t0] at e3
      rw [Int.zero_add] at e1 e2
      have e4 : f (base + 1 + (i : Nat)) = f 0 := e1.symm.trans e3
      refine ⟨fun x hx => ?_, fun y hy => ?_⟩
      · by_cases z : x ≤ i
        · exact q1 x z
        · rw [show (x : Int) = (i : Int) + 1 by omega]
          exact e2.trans e4
      · by_cases z : y < i
        · exact q2 y z
        · rw [show y = i by omega]
          exact e4
  · rintro e ⟨es, c7, rfl, lt, con, hl⟩
    rw [rangeD_length] at lt con hl
    refine sh_4 hM s0 s1 r0 r1 k1 ⟨by omega, by omega, ⟨fun p hp => ?_, fun f hf x hx => ?_⟩, by omega⟩
    · have := lt p hp
      omega
    · obtain ⟨q1, q2⟩ := con f hf
      by_cases z : (x : Int) ≤ base
      · exact q1 x (by omega)
      · have := q2 (x - (base + 1)).toNat (by omega)
        rw [show (base + 1 + (((x : Int) - (base + 1)).toNat : Int) : Int) = x by omega] at this
        exact this
theorem sh_2 (hM : ShDone M size room) (s0 : 2 ≤ size) (s1 : size ≤ 100) (r0 : 1 ≤ room) (r1 : room ≤ 100) (k1 : kind < 8) {n : Int} {es : List (Int × Int)} {c6 c7 c8 c9 c10 c11 c12 : Cell} (h : JP size n es) (hl : es.length ≤ 100) : m_law_shape_7_2 M (eSh size room kind n es c6 c7 c8 c9 c10 c11 c12) := by
  refine ⟨rfl, rfl, ite2 (fun hk => ?_) fun hk => iteF (sh_3 hM s0 s1 r0 r1 k1 h)⟩
  refine ite2 (fun hs => ?_) fun hs => sh_3 hM s0 s1 r0 r1 k1 h
  have hs := of_decide_eq_true hs
  refine ⟨by rw [List.length_map]; omega, ?_⟩
  have := sh_3 (kind := kind) (c6 := c6) (c7 := c7) (c8 := c8) (c9 := c9) (c10 := c10) (c11 := c11) (c12 := c12) hM s0 s1 r0 r1 k1 ⟨h.n2, h.ns, h.sh.more (p := (0, n - 1)) (Int.le_refl _) (by show (0 : Int) < n - 1; omega) (by show n - 1 < n; omega), by rw [List.length_append]; show es.length + 1 ≤ 1000; omega⟩
  unfold eSh at this
  rw [List.map_append] at this
  exact this
theorem shape_ok (s0 : 2 ≤ size) (s1 : size ≤ 100) (r0 : 1 ≤ room) (r1 : room ≤ 100) (hP : ∀ n es, JP size n es → (es.length : Int) ≤ room → P (.tuple [.int n, .list (es.map Dw.prD)])) : pre_law_shape [.well, .val (.int size), .val (.int room)] P := by
  show m_law_shape { nx := fun _ => P .none, rt := P } [.well, .val (.int size), .val (.int room), .non, .non, .non, .non, .non, .non, .non, .non, .non, .non]
  refine ⟨8, rfl, by decide, by decide, fun kind k0 k1 => ⟨size - 1, rfl, by omega, by omega, fun t t0 t1 => ⟨⟨by omega, by omega⟩, ?_⟩⟩⟩
  refine path_mean (by omega) (by omega) (fun _ => rfl) ?_
  exact sh_2 (M := { nx := fun _ => P .none, rt := P }) (kind := kind) (n := 2 + t) hP s0 s1 r0 r1 k1 ⟨by omega, by omega, sh_path, by rw [pathL_len]; omega⟩ (by rw [pathL_len]; omega)
end
theorem ixN_of {n : Nat} {k : Int} (h0 : 0 ≤ k) (h1 : k < n) : ixN n k = some k.toNat := by
  unfold ixN
  rw [if_pos h0, if_pos h1]
theorem ixI {l : List Int} {a : Int} {P : PyData → Prop} (h0 : 0 ≤ a) (h1 : a < l.length) (h : P (.int (l.getD a.toNat 0))) : atD (l.map PyData.int) a P := by
  have hl : a.toNat < l.length := by omega
  have e : atI (l.map PyData.int) a = some (.int (l.getD a.toNat 0)) := by
    have := atI_nat (xs := l.map PyData.int) (j := a.toNat) (v := .int (l.getD a.toNat 0)) (by rw [List.getElem?_map, List.getElem?_eq_getElem hl, List.getD_eq_getElem?_getD, List.getElem?_eq_getElem hl]; rfl)
    rw [Int.toNat_of_nonneg h0] at this
    exact this
  unfold atD
  rw [e]
  exact h
/-! ### new names -/
def nm (l : List Int) (x : Int) : Int := l.getD x.toNat 0
def rel (l : List Int) (p : Int × Int) : Int × Int := (if nm l p.2 < nm l p.1 then nm l p.2 else nm l p.1, if nm l p.2 > nm l p.1 then nm l p.2 else nm l p.1)
structure Nms (n : Int) (l : List Int) : Prop where
  len : (l.length : Int) = n
  bd : ∀ x : Nat, (x : Int) < n → 0 ≤ nm l x ∧ nm l x < n
  inj : ∀ x y : Nat, (x : Int) < n → (y : Int) < n → nm l x = nm l y → x = y
  onto : ∀ y : Nat, (y : Int) < n → ∃ x : Nat, (x : Int) < n ∧ nm l x = y
theorem nms_of {n : Int} {l : List Int} (h0 : 0 ≤ n) (h : l.Perm ((List.range n.toNat).map Int.ofNat)) : Nms n l := by
  have hl : l.length = n.toNat := by rw [h.length_eq, List.length_map, List.length_range]
  have mem : ∀ y : Int, y ∈ l ↔ 0 ≤ y ∧ y < n := by
    intro y
    rw [h.mem_iff, List.mem_map]
    constructor
    · rintro ⟨i, hi, rfl⟩
      rw [List.mem_range] at hi
      exact ⟨by show (0 : Int) ≤ (i : Int); omega, by show (i : Int) < n; omega⟩
    · rintro ⟨a, b⟩
      exact ⟨y.toNat, by rw [List.mem_range]; omega, Int.toNat_of_nonneg a⟩
  have nd : l.Nodup := by
    rw [h.nodup_iff]
    exact List.Pairwise.map _ (fun a b (ne : a ≠ b) e => ne (Int.ofNat.inj e)) List.nodup_range
  have at_ : ∀ (x : Nat) (hx : x < l.length), nm l x = l[x] := by
    intro x hx
    unfold nm
    rw [List.getD_eq_getElem?_getD, show ((x : Int)).toNat = x from rfl, List.getElem?_eq_getElem hx]
    rfl
  refine ⟨by omega, fun x hx => ?_, fun x y hx hy e => ?_, fun y hy => ?_⟩
  · rw [at_ x (by omega)]
    exact (mem _).mp (List.getElem_mem _)
  · rw [at_ x (by omega), at_ y (by omega)] at e
    have pw := List.pairwise_iff_getElem.mp nd
    rcases Nat.lt_trichotomy x y with z | z | z
    · exact absurd e (pw x y _ _ z)
    · exact z
    · exact absurd e.symm (pw y x _ _ z)
  · obtain ⟨i, hi, e⟩ := List.getElem_of_mem ((mem (y : Int)).mpr ⟨by omega, hy⟩)
    exact ⟨i, by omega, (at_ i hi).trans e⟩
theorem Sh.named {n : Int} {es qs : List (Int × Int)} {l : List Int} (h : Sh n es) (n1 : 1 ≤ n) (N : Nms n l) (hq : qs.Perm (es.map (rel l))) : Sh n qs where
  lt := fun p hp => by
    obtain ⟨q, hq, rfl⟩ := List.mem_map.mp (hq.mem_iff.mp hp)
    obtain ⟨a0, a1, a2⟩ := h.lt q hq
    obtain ⟨b1, b2⟩ := N.bd q.1.toNat (by omega)
    obtain ⟨b3, b4⟩ := N.bd q.2.toNat (by omega)
    have ne : nm l q.1 ≠ nm l q.2 := fun e => by
      have := N.inj q.1.toNat q.2.toNat (by omega) (by omega) (by rw [Int.toNat_of_nonneg a0, Int.toNat_of_nonneg (by omega)]; exact e)
      omega
    rw [Int.toNat_of_nonneg a0] at b1 b2
    rw [Int.toNat_of_nonneg (by omega)] at b3 b4
    show 0 ≤ (if nm l q.2 < nm l q.1 then nm l q.2 else nm l q.1) ∧ (if nm l q.2 < nm l q.1 then nm l q.2 else nm l q.1) < (if nm l q.2 > nm l q.1 then nm l q.2 else nm l q.1) ∧ (if nm l q.2 > nm l q.1 then nm l q.2 else nm l q.1) < n
    split <;> split <;> omega
  conn := fun f hf => by
    have c := h.conn (fun x => f (nm l x)) fun q hq' => by
      have := hf (rel l q) (hq.mem_iff.mpr (List.mem_map_of_mem hq'))
      unfold rel at this
      simp only at this
      show f (nm l q.1) = f (nm l q.2)
      split at this <;> split at this <;> first | exact this | exact this.symm | (rw [show nm l q.1 = nm l q.2 by omega])
    have all : ∀ y : Nat, (y : Int) < n → f y = f (nm l 0) := fun y hy => by
      obtain ⟨x, hx, e⟩ := N.onto y hy
      rw [← e]
      exact c x hx
    intro x hx
    exact (all x hx).trans (all 0 (by omega)).symm
/-! ### a web -/
abbrev eWb (size room load : Int) (c4 c5 c6 c7 c8 c9 c10 c11 c12 : Cell) : Cells := [.well, .val (.int size), .val (.int room), .val (.int load), c4, c5, c6, c7, c8, c9, c10, c11, c12]
structure Wb (size room load n : Int) (es : List (Int × Int)) (bs : List Int) : Prop where
  n2 : 2 ≤ n
  ns : n ≤ size
  sh : Sh n es
  e1 : 1 ≤ es.length
  er : (es.length : Int) ≤ room
  bl : bs.length = es.length
  bb : ∀ b ∈ bs, 1 ≤ b ∧ b ≤ load
def webD (n : Int) (es : List (Int × Int)) (bs : List Int) : PyData := .tuple [.int n, .tuple (es.map Dw.prD), .tuple (bs.map PyData.int)]
theorem Sh.ne {n : Int} {es : List (Int × Int)} (h : Sh n es) (n2 : 2 ≤ n) : 1 ≤ es.length := by
  cases es with
  | cons _ _ => exact Nat.succ_le_succ (Nat.zero_le _)
  | nil =>
    have := h.conn (fun x => x) (fun p hp => by cases hp) 1 (by omega)
    cases this
section
variable {M : MEnds} {size room load n : Int} {es : List (Int × Int)} {bs : List Int} {c6 c10 c11 c12 : Cell}
def WbDone (M : MEnds) (size room load : Int) : Prop := ∀ n es bs, Wb size room load n es bs → M.rt (webD n es bs)
abbrev eW9 (size room load n : Int) (c6 : Cell) (es : List (Int × Int)) (c7 : Cell) (way : Int) (bs : List Int) (c10 c11 c12 : Cell) : Cells := eWb size room load (.val (.int n)) c12 c6 c7 (.val (.int way)) (.own (bs.map PyData.int)) c10 c11 c12
theorem wb_ret (hM : WbDone M size room load) (h : Wb size room load n es bs) {c5 c8 : Cell} {c7 c9 : Cell} (h7 : c7 = .val (.list (es.map Dw.prD)) ∨ c7 = .own (es.map Dw.prD)) (h9 : c9 = .own (bs.map PyData.int)) : (mRet (mTup (mCons (mVar 4) (mCons (mBl fTuple (mCons (mVarB 7) mNil)) (mCons (mBl fTuple (mCons (mVarB 9) mNil)) mNil))))) M (eWb size room load (.val (.int n)) c5 c6 c7 c8 c9 c10 c11 c12) := by
  subst h9
  rcases h7 with rfl | rfl
  · exact hM n es bs h
  · exact hM n es bs h
theorem wb_5 (hM : WbDone M size room load) (l1 : 1 ≤ load) (l2 : load ≤ 1000) (rr : room ≤ 1000) (h : Wb size room load n es bs) {c5 : Cell} {way : Int} : m_law_web_1_5 M (eWb size room load (.val (.int n)) c5 c6 (.val (.list (es.map Dw.prD))) (.val (.int way)) (.own (bs.map PyData.int)) c10 c11 c12) := by
  have er := h.er
  refine ⟨rfl, rfl, ite2 (fun hk => ?_) fun hk => wb_ret (c5 := c5) (c6 := c6) (c8 := .val (.int way)) (c10 := c10) (c11 := c11) (c12 := c12) hM h (.inl rfl) rfl⟩
  refine ⟨by rw [List.length_map]; omega, lcGo_inv (fun i acc => ∃ bs : List Int, acc = bs.map PyData.int ∧ bs.length = i ∧ ∀ b ∈ bs, 1 ≤ b ∧ b ≤ load) ?_ ⟨[], rfl, rfl, List.forall_mem_nil _⟩ ?_⟩
  · rintro i hi acc Y S ⟨bs, rfl, hl, hb⟩ hY hS
    refine ⟨load, rfl, by omega, by omega, fun r a b => hY _ ⟨bs ++ [1 + r], by rw [List.map_append]; rfl, by rw [List.length_append, hl]; rfl, fun y hy => ?_⟩⟩
    rcases List.mem_append.mp hy with z | z
    · exact hb y z
    · rw [List.mem_singleton.mp z]; omega
  · rintro acc ⟨bs', rfl, hl, hb⟩
    rw [List.length_map] at hl
    exact wb_ret (c5 := c5) (c6 := c6) (c8 := .val (.int way)) (c10 := c10) (c11 := c11) (c12 := c12) hM (bs := bs') ⟨h.n2, h.ns, h.sh, h.e1, h.er, hl, hb⟩ (.inl rfl) rfl
theorem wb_4 (hM : WbDone M size room load) (l1 : 1 ≤ load) (l2 : load ≤ 1000) (rr : room ≤ 1000) (h : Wb size room load n es bs) {c5 : Cell} {way : Int} : m_law_web_1_4 M (eWb size room load (.val (.int n)) c5 c6 (.val (.list (es.map Dw.prD))) (.val (.int way)) (.own (bs.map PyData.int)) c10 c11 c12) := by
  have er := h.er
  have e1 := h.e1
  have bl := h.bl
  refine ⟨rfl, rfl, ite2 (fun hk => ?_) fun hk => wb_5 hM l1 l2 rr h⟩
  refine ⟨load, rfl, by omega, by omega, fun r a b => ⟨((bs.map PyData.int).length : Nat), rfl, by rw [List.length_map]; omega, by rw [List.length_map]; omega, fun k k0 k1 => ⟨k.toNat, ?_, ?_⟩⟩⟩
  · have := ixN_of (n := (bs.map PyData.int).length) k0 k1
    exact this
  · have := wb_5 (c6 := c6) (c10 := c10) (c11 := c11) (c12 := c12) (c5 := c5) (way := way) (bs := bs.set k.toNat (1 + r)) hM l1 l2 rr ⟨h.n2, h.ns, h.sh, h.e1, h.er, by rw [List.length_set]; exact bl, fun y hy => by
      rcases List.mem_or_eq_of_mem_set hy with z | z
      · exact h.bb y z
      · rw [z]; omega⟩
    unfold eWb at this
    rw [List.map_set] at this
    exact this
theorem wb_3 (hM : WbDone M size room load) (l1 : 1 ≤ load) (l2 : load ≤ 1000) (rr : room ≤ 1000) (n2 : 2 ≤ n) (ns : n ≤ size) (sh : Sh n es) (er : (es.length : Int) ≤ room) {c5 c8 c9 : Cell} : m_law_web_1_3 M (eWb size room load (.val (.int n)) c5 c6 (.own (es.map Dw.prD)) c8 c9 c10 c11 c12) := by
  have e1 := sh.ne n2
  refine ⟨4, rfl, by decide, by decide, fun way w0 w1 => ?_⟩
  refine ⟨by rw [List.length_map]; omega, lcGo_at (rs := (es.map fun _ => (1 : Int)).map PyData.int) (by rw [List.length_map, List.length_map, List.length_map]) (fun i h1 h2 Y hY => ?_) ?_⟩
  · rw [List.getElem_map, List.getElem_map] at hY
    exact hY
  · exact wb_4 (c5 := c5) (c6 := c6) (c10 := c10) (c11 := c11) (c12 := c12) (way := way) hM l1 l2 rr ⟨n2, ns, sh, e1, er, by rw [List.length_map], fun b hb => by
      obtain ⟨_, _, rfl⟩ := List.mem_map.mp hb
      omega⟩
theorem wb_2 (hM : WbDone M size room load) (l1 : 1 ≤ load) (l2 : load ≤ 1000) (rr : room ≤ 1000) (n2 : 2 ≤ n) (ns : n ≤ size) (sh : Sh n es) (er : (es.length : Int) ≤ room) {l : List Int} (N : Nms n l) {c7 c8 c9 : Cell} : m_law_web_1_2 M (eWb size room load (.val (.int n)) (.val (.list (es.map Dw.prD))) (.val (.list (l.map PyData.int))) c7 c8 c9 c10 c11 c12) := by
  refine ⟨by rw [List.length_map]; omega, lcGo_at (rs := (es.map (rel l)).map Dw.prD) (by rw [List.length_map, List.length_map, List.length_map]) (fun i h1 h2 Y hY => ?_) ?_⟩
  · rw [List.getElem_map]
    rw [List.getElem_map, List.getElem_map] at hY
    have hi : i < es.length := by rw [List.length_map] at h1; exact h1
    obtain ⟨a0, a1, a2⟩ := sh.lt _ (List.getElem_mem hi)
    have hN := N.len
    refine ⟨rfl, rfl, ?_⟩
    exact ixI (P := fun d => atD (l.map PyData.int) es[i].2 fun e => on2 [d, e] fun a b => onI2 a b fun i' j => atD (l.map PyData.int) es[i].1 fun d => atD (l.map PyData.int) es[i].2 fun e => on2 [d, e] fun a b => onI2 a b fun i'' j' => Y (.tuple [.int (if j < i' then j else i'), .int (if j' > i'' then j' else i'')])) a0 (by omega)
      (ixI (P := fun e => on2 [.int (nm l es[i].1), e] fun a b => onI2 a b fun i' j => atD (l.map PyData.int) es[i].1 fun d => atD (l.map PyData.int) es[i].2 fun e => on2 [d, e] fun a b => onI2 a b fun i'' j' => Y (.tuple [.int (if j < i' then j else i'), .int (if j' > i'' then j' else i'')])) (by omega) (by omega)
      (ixI (P := fun d => atD (l.map PyData.int) es[i].2 fun e => on2 [d, e] fun a b => onI2 a b fun i'' j' => Y (.tuple [.int (if nm l es[i].2 < nm l es[i].1 then nm l es[i].2 else nm l es[i].1), .int (if j' > i'' then j' else i'')])) a0 (by omega)
      (ixI (P := fun e => on2 [.int (nm l es[i].1), e] fun a b => onI2 a b fun i'' j' => Y (.tuple [.int (if nm l es[i].2 < nm l es[i].1 then nm l es[i].2 else nm l es[i].1), .int (if j' > i'' then j' else i'')])) (by omega) (by omega) hY)))
  · refine .inr ⟨_, rfl, fun qs hq hp => ?_⟩
    exact wb_3 (c5 := .val (.list (es.map Dw.prD))) (c6 := .val (.list (l.map PyData.int))) (c8 := c8) (c9 := c9) (c10 := c10) (c11 := c11) (c12 := c12) hM l1 l2 rr n2 ns (sh.named (by omega) N hq) (by rw [hq.length_eq, List.length_map]; exact er)
theorem wb_1 (hM : WbDone M size room load) (l1 : 1 ≤ load) (l2 : load ≤ 1000) (rr : room ≤ 1000) (s1 : size ≤ 1000) (n2 : 2 ≤ n) (ns : n ≤ size) (sh : Sh n es) (er : (es.length : Int) ≤ room) {c7 c8 c9 : Cell} : m_law_web_1_1 M (eWb size room load (.val (.int n)) (.val (.list (es.map Dw.prD))) c6 c7 c8 c9 c10 c11 c12) := by
  refine ⟨4, rfl, by decide, by decide, fun way w0 w1 => ite2 (fun hk => ?_) fun hk => ?_⟩
  · exact ⟨n, rfl, by omega, by omega, fun l hl => wb_2 (c7 := c7) (c8 := c8) (c9 := c9) (c10 := c10) (c11 := c11) (c12 := c12) hM l1 l2 rr n2 ns sh er (nms_of (by omega) hl)⟩
  · refine ⟨⟨by omega, by omega, by omega, by omega, by omega⟩, ?_⟩
    have e : rangeD 0 n = ((List.range n.toNat).map Int.ofNat).map PyData.int := by
      unfold rangeD
      rw [List.map_map, show (n - 0).toNat = n.toNat by omega]
      refine List.map_congr_left fun i _ => ?_
      show PyData.int (0 + (i : Int)) = PyData.int (i : Int)
      rw [Int.zero_add]
    rw [e]
    exact wb_2 (c7 := c7) (c8 := c8) (c9 := c9) (c10 := c10) (c11 := c11) (c12 := c12) hM l1 l2 rr n2 ns sh er (nms_of (by omega) (List.Perm.refl _))
theorem web_ok {P : PyData → Prop} (s0 : 2 ≤ size) (s1 : size ≤ 100) (r0 : 1 ≤ room) (r1 : room ≤ 100) (l1 : 1 ≤ load) (l2 : load ≤ 1000) (hP : ∀ n es bs, Wb size room load n es bs → P (webD n es bs)) : pre_law_web [.well, .val (.int size), .val (.int room), .val (.int load)] P := by
  show m_law_web { nx := fun _ => P .none, rt := P } [.well, .val (.int size), .val (.int room), .val (.int load), .non, .non, .non, .non, .non, .non, .non, .non, .non]
  refine shape_ok s0 s1 r0 r1 fun n es h hr => ⟨rfl, rfl, ?_⟩
  exact wb_1 (M := { nx := fun _ => P .none, rt := P }) (c6 := .non) (c7 := .non) (c8 := .non) (c9 := .non) (c10 := .non) (c11 := .non) (c12 := .non) hP l1 l2 (by omega) (by omega) h.n2 h.ns h.sh hr
end
/-! ### a standing -/
structure St (bs ls : List Int) : Prop where
  len : ls.length = bs.length
  bd : ∀ i : Nat, i < bs.length → 0 ≤ ls.getD i 0 ∧ ls.getD i 0 ≤ bs.getD i 0
theorem getD_at {l : List Int} {i : Nat} (h : i < l.length) : l.getD i 0 = l[i] := by
  rw [List.getD_eq_getElem?_getD, List.getElem?_eq_getElem h]
  rfl
theorem getD_app {l : List Int} {x : Int} {i : Nat} : (l ++ [x]).getD i 0 = if i < l.length then l.getD i 0 else if i = l.length then x else 0 := by
  rw [List.getD_eq_getElem?_getD, List.getD_eq_getElem?_getD]
  by_cases h : i < l.length
  · rw [if_pos h, List.getElem?_append_left h]
  · rw [if_neg h, List.getElem?_append_right (by omega)]
    by_cases e : i = l.length
    · rw [if_pos e, e, Nat.sub_self]; rfl
    · rw [if_neg e, show i - l.length = (i - l.length - 1) + 1 by omega]; rfl
theorem getD_set {l : List Int} {x : Int} {i j : Nat} (h : j < l.length) : (l.set j x).getD i 0 = if i = j then x else l.getD i 0 := by
  rw [List.getD_eq_getElem?_getD, List.getD_eq_getElem?_getD, List.getElem?_set]
  by_cases e : j = i
  · rw [if_pos e, if_pos h, if_pos e.symm]; rfl
  · rw [if_neg e, if_neg fun z => e z.symm]
section
variable {P : PyData → Prop} {n : Int} {es : List (Int × Int)} {bs : List Int}
theorem standing_ok (hb : ∀ b ∈ bs, 1 ≤ b ∧ b ≤ 1000) (h1 : 1 ≤ bs.length) (hl : bs.length ≤ 1000) (hP : ∀ ls, St bs ls → P (.tuple (ls.map PyData.int))) : pre_law_standing [.well, .val (webD n es bs)] P := by
  show m_law_standing { nx := fun _ => P .none, rt := P } [.well, .val (webD n es bs), .non, .non, .non, .non, .non]
  have bat : ∀ i : Nat, i < bs.length → 1 ≤ bs.getD i 0 ∧ bs.getD i 0 ≤ 1000 := fun i h => by rw [getD_at h]; exact hb _ (List.getElem_mem h)
  refine ⟨5, rfl, by decide, by decide, fun way w0 w1 => ite2 (fun hk => ?_) fun hk => ?_⟩
  · refine ⟨by rw [List.length_map]; omega, lcGo_inv (fun i acc => ∃ ls : List Int, acc = ls.map PyData.int ∧ ls.length = i ∧ ∀ j : Nat, j < i → 0 ≤ ls.getD j 0 ∧ ls.getD j 0 ≤ bs.getD j 0) ?_ ⟨[], rfl, rfl, fun j h => by omega⟩ ?_⟩
    · rintro i hi acc Y S ⟨ls, rfl, e, q⟩ hY hS
      rw [List.getElem_map]
      rw [List.length_map] at hi
      have := bat i hi
      rw [getD_at hi] at this
      refine ⟨bs[i] + 1, rfl, by omega, by omega, fun r a b => hY _ ⟨ls ++ [r], by rw [List.map_append]; rfl, by rw [List.length_append, e]; rfl, fun j hj => ?_⟩⟩
      rw [getD_app]
      by_cases z : j < ls.length
      · rw [if_pos z]; exact q j (by omega)
      · rw [if_neg z, if_pos (by omega), show j = i by omega, getD_at hi]; omega
    · rintro acc ⟨ls, rfl, e, q⟩
      rw [List.length_map] at e q
      exact hP ls ⟨e, q⟩
  · refine ⟨by rw [List.length_map]; omega, lcGo_at (rs := (bs.map fun b => if way = 3 then (0 : Int) else b).map PyData.int) (by rw [List.length_map, List.length_map, List.length_map]) (fun i h1 h2 Y hY => ?_) ?_⟩
    · rw [List.getElem_map, List.getElem_map] at hY
      rw [List.getElem_map]
      refine ⟨rfl, rfl, ite2 (fun e => ?_) fun e => ?_⟩
      · have e : way = 3 := by simpa [PyData.eqv] using e
        rw [if_pos e] at hY
        exact hY
      · have e : ¬ way = 3 := by simpa [PyData.eqv] using e
        rw [if_neg e] at hY
        exact hY
    · refine ⟨3, rfl, by decide, by decide, fun m m0 m1 => ⟨⟨by omega, by omega⟩, ?_⟩⟩
      refine forGo_inv (fun i e => ∃ (ls : List Int) (c4 c5 : Cell), e = [.well, .val (webD n es bs), .val (.int way), .own (ls.map PyData.int), c4, c5, .non] ∧ St bs ls) ?_ ?_ ⟨_, _, _, rfl, by rw [List.length_map], fun i hi => ?_⟩
      · rintro i hi env N ⟨ls, c4, c5, rfl, st⟩ hN
        rw [rangeD_at hi]
        have el := st.len
        refine ⟨((ls.map PyData.int).length : Nat), rfl, by rw [List.length_map]; omega, by rw [List.length_map]; omega, fun r a b => ?_⟩
        rw [List.length_map] at b
        have hr := bat r.toNat (by omega)
        refine ixI (P := fun d => fAddA d (.int 1) fun x => preDraw [.well, .val x] fun d => ∃ j, ixN (ls.map PyData.int).length r = some j ∧ N [.well, .val (webD n es bs), .val (.int way), .own ((ls.map PyData.int).set j d), .val (.int (0 + (i : Nat))), .val (.int r), .non]) a (by omega) ?_
        refine ⟨_, rfl, by omega, by omega, fun t t0 t1 => ⟨r.toNat, ixN_of a (by rw [List.length_map]; exact b), hN _ ⟨ls.set r.toNat t, _, _, by rw [List.map_set], by rw [List.length_set]; exact el, fun j hj => ?_⟩⟩⟩
        rw [getD_set (by omega)]
        by_cases z : j = r.toNat
        · rw [if_pos z, z]; omega
        · rw [if_neg z]; exact st.bd j hj
      · rintro e ⟨ls, c4, c5, rfl, st⟩
        exact hP ls st
      · have := bat i hi
        have hi' : i < (bs.map fun b => if way = 3 then (0 : Int) else b).length := by rw [List.length_map]; exact hi
        rw [getD_at hi', List.getElem_map]
        rw [getD_at hi] at this ⊢
        split <;> omega
end
/-! ### small data: what a repr of it asks -/
structure Sm (w e : Nat) (d : PyData) : Prop where
  ls : d.leavesShort 13 = true
  sh : d.showable = true
  hd : d.hasDict = false
  dp : d.depth ≤ e
  wt : d.weight ≤ w
structure SmL (w e : Nat) (ds : List PyData) : Prop where
  ls : PyData.leavesShortAll 13 ds = true
  sh : PyData.showableAll ds = true
  hd : PyData.hasDictAll ds = false
  dp : PyData.depthAll ds ≤ e
  wt : PyData.weightAll ds ≤ w
theorem Sm.int {i : Int} (h0 : -999999999999 ≤ i) (h1 : i ≤ 999999999999) : Sm 40 1 (.int i) where
  ls := by simp only [PyData.leavesShort, decide_eq_true_eq]; exact PyData.shown_int_le2 h0 h1
  sh := by
    simp only [PyData.showable, decide_eq_true_eq]
    have : i.natAbs.log2 < 40 := by
      by_cases z : i.natAbs = 0
      · rw [z]; decide
      · exact (Nat.log2_lt z).mpr (by have : (2 : Nat) ^ 40 = 1099511627776 := by decide
                                      omega)
    omega
  hd := rfl
  dp := by simp [PyData.depth]
  wt := by
    simp only [PyData.weight]
    split
    · omega
    · have : i.natAbs.log2 < 40 := by
        by_cases z : i.natAbs = 0
        · rw [z]; decide
        · exact (Nat.log2_lt z).mpr (by have : (2 : Nat) ^ 40 = 1099511627776 := by decide
                                        omega)
      omega
theorem Sm.bool (b : Bool) : Sm 0 1 (.bool b) := ⟨rfl, rfl, rfl, by simp [PyData.depth], Nat.le_refl _⟩
theorem Sm.list {w e : Nat} {ds : List PyData} (h : SmL w e ds) : Sm w (e + 1) (.list ds) :=
  ⟨by simp only [PyData.leavesShort]; exact h.ls, by simp only [PyData.showable]; exact h.sh, by simp only [PyData.hasDict]; exact h.hd, by simp only [PyData.depth]; exact Nat.add_le_add_right h.dp 1, by simp only [PyData.weight]; exact h.wt⟩
theorem Sm.tuple {w e : Nat} {ds : List PyData} (h : SmL w e ds) : Sm w (e + 1) (.tuple ds) :=
  ⟨by simp only [PyData.leavesShort]; exact h.ls, by simp only [PyData.showable]; exact h.sh, by simp only [PyData.hasDict]; exact h.hd, by simp only [PyData.depth]; exact Nat.add_le_add_right h.dp 1, by simp only [PyData.weight]; exact h.wt⟩
theorem SmL.nil {e : Nat} : SmL 0 e [] := ⟨rfl, rfl, rfl, by simp [PyData.depthAll], Nat.le_refl _⟩
theorem SmL.cons {w w' e : Nat} {d : PyData} {ds : List PyData} (h : Sm w e d) (r : SmL w' e ds) : SmL (w + 1 + w') e (d :: ds) :=
  ⟨by simp only [PyData.leavesShortAll, h.ls, r.ls, Bool.and_self], by simp only [PyData.showableAll, h.sh, r.sh, Bool.and_self], by simp only [PyData.hasDictAll, h.hd, r.hd, Bool.or_self], by simp only [PyData.depthAll]; exact Nat.max_le.mpr ⟨h.dp, r.dp⟩, by simp only [PyData.weightAll]; have := h.wt; have := r.wt; omega⟩
theorem Sm.mono {w w' e e' : Nat} {d : PyData} (h : Sm w e d) (hw : w ≤ w') (he : e ≤ e') : Sm w' e' d := ⟨h.ls, h.sh, h.hd, Nat.le_trans h.dp he, Nat.le_trans h.wt hw⟩
theorem SmL.mono {w w' e e' : Nat} {d : List PyData} (h : SmL w e d) (hw : w ≤ w') (he : e ≤ e') : SmL w' e' d := ⟨h.ls, h.sh, h.hd, Nat.le_trans h.dp he, Nat.le_trans h.wt hw⟩
theorem SmL.map {α : Type} {f : α → PyData} {w e : Nat} : ∀ {xs : List α}, (∀ x ∈ xs, Sm w e (f x)) → SmL ((w + 1) * xs.length) e (xs.map f)
  | [], _ => SmL.nil
  | x :: r, h => by
    have h1 := SmL.cons (h x List.mem_cons_self) (SmL.map fun y hy => h y (List.mem_cons_of_mem _ hy))
    refine h1.mono ?_ (Nat.le_refl _)
    rw [List.length_cons, Nat.mul_add]
    omega
theorem SmL.ints {ns : List Int} (h : ∀ i ∈ ns, -999999999999 ≤ i ∧ i ≤ 999999999999) : SmL (41 * ns.length) 1 (ns.map PyData.int) := SmL.map fun i hi => Sm.int (h i hi).1 (h i hi).2
theorem SmL.prs {es : List (Int × Int)} (h : ∀ p ∈ es, (-999999999999 ≤ p.1 ∧ p.1 ≤ 999999999999) ∧ -999999999999 ≤ p.2 ∧ p.2 ≤ 999999999999) : SmL (83 * es.length) 2 (es.map Dw.prD) :=
  SmL.map fun p hp => Sm.tuple (SmL.cons (Sm.int (h p hp).1.1 (h p hp).1.2) (SmL.cons (Sm.int (h p hp).2.1 (h p hp).2.2) SmL.nil))
theorem repr_ok {w e : Nat} {d : PyData} {P : PyData → Prop} (h : Sm w e d) (hw : w ≤ 1048576) (he : e ≤ 60) (hd : dispD d = true) (hP : P (.str d.shown)) : fRepr [d] P :=
  ⟨hd, h.sh, h.hd, Nat.le_trans h.dp he, PyData.shown_fits (B := 13) (by decide) (by decide) h.ls (Nat.le_trans h.wt hw), hP⟩
theorem tints_shaped (zs : List Int) : SeqAt.shaped (.tuple (zs.map PyData.int)) = true := by
  have h1 := ints_depth zs
  have h2 : PyData.depth (.tuple (zs.map PyData.int)) ≤ 64 := by
    simp only [PyData.depth]
    omega
  show (PyData.canLay0 (.tuple (zs.map PyData.int)) && decide (PyData.depth (.tuple (zs.map PyData.int)) ≤ 64)) = true
  rw [Bool.and_eq_true]
  exact ⟨by simp only [PyData.canLay0]; exact ints_lay zs, decide_eq_true h2⟩
theorem eqv_int (a b : Int) : PyData.eqv (.int a) (.int b) = decide (a = b) := by
  simp [PyData.eqv]
  rfl
/-! ### how many unlike ones there are -/
theorem met_one {ns : List Int} (h : 1 ≤ ns.length) : (PyProof.Rows.firstMet (fun i => ns.getD i 0) ns.length).length = 1 ↔ ∀ i : Nat, i < ns.length → ns.getD i 0 = ns.getD 0 0 := by
  have key : ∀ k, 1 ≤ k → k ≤ ns.length → (1 ≤ (PyProof.Rows.firstMet (fun i => ns.getD i 0) k).length ∧ (((PyProof.Rows.firstMet (fun i => ns.getD i 0) k).length = 1) ↔ ∀ i : Nat, i < k → ns.getD i 0 = ns.getD 0 0)) ∧ ((PyProof.Rows.firstMet (fun i => ns.getD i 0) k).length = 1 → PyProof.Rows.firstMet (fun i => ns.getD i 0) k = [ns.getD 0 0]) := by
    intro k
    induction k with
    | zero => intro h; omega
    | succ k ih =>
      intro _ hk
      rw [PyProof.Rows.firstMet_succ]
      by_cases z : k = 0
      · subst z
        refine ⟨⟨by rw [PyProof.Rows.firstMet_zero]; exact Nat.le_refl _, fun _ i hi => by rw [show i = 0 by omega], fun _ => rfl⟩, fun _ => rfl⟩
      · obtain ⟨⟨i1, i2⟩, i3⟩ := ih (by omega) (by omega)
        unfold PyProof.Rows.step_dedup
        by_cases a : (PyProof.Rows.firstMet (fun i => ns.getD i 0) k).any (· == ns.getD k 0) = true
        · rw [if_pos a]
          refine ⟨⟨i1, fun e i hi => ?_, fun e => i2.mpr fun i hi => e i (by omega)⟩, i3⟩
          by_cases y : i < k
          · exact i2.mp e i y
          · rw [i3 e] at a
            have : ns.getD 0 0 = ns.getD k 0 := by simpa using a
            rw [show i = k by omega, this]
        · rw [if_neg a]
          refine ⟨⟨by rw [List.length_append]; omega, fun e => ?_, fun e => ?_⟩, fun e => ?_⟩
          · rw [List.length_append] at e
            have : [ns.getD k 0].length = 1 := rfl
            omega
          · exfalso
            have e1 := i3 (i2.mpr fun i hi => e i (by omega))
            rw [e1] at a
            have e2 := e k (by omega)
            apply a
            rw [e2]
            simp
          · rw [List.length_append] at e
            have : [ns.getD k 0].length = 1 := rfl
            omega
  exact (key ns.length h (Nat.le_refl _)).1.2
/-! ### any data: what a repr asks -/
structure Sz (w e : Nat) (d : PyData) : Prop where
  ls : d.leavesShort 64 = true
  sh : d.showable = true
  dp : d.depth ≤ e
  wt : d.bulk ≤ w
structure SzL (w e : Nat) (ds : List PyData) : Prop where
  ls : PyData.leavesShortAll 64 ds = true
  sh : PyData.showableAll ds = true
  dp : PyData.depthAll ds ≤ e
  wt : PyData.bulkAll ds ≤ w
theorem Sz.mono {w w' e e' : Nat} {d : PyData} (h : Sz w e d) (hw : w ≤ w') (he : e ≤ e') : Sz w' e' d := ⟨h.ls, h.sh, Nat.le_trans h.dp he, Nat.le_trans h.wt hw⟩
theorem SzL.mono {w w' e e' : Nat} {d : List PyData} (h : SzL w e d) (hw : w ≤ w') (he : e ≤ e') : SzL w' e' d := ⟨h.ls, h.sh, Nat.le_trans h.dp he, Nat.le_trans h.wt hw⟩
theorem big40 : (10 : Nat) ^ 40 = 10000000000000000000000000000000000000000 := by decide
theorem Sz.int {i : Int} (h : i.natAbs < 10 ^ 40) : Sz 0 1 (.int i) where
  ls := by
    simp only [PyData.leavesShort, PyData.shown]
    refine decide_eq_true ?_
    rw [PySem.ofString_length]
    have := int_text_length_le10 (k := 40) (by decide) h
    omega
  sh := by
    simp only [PyData.showable, decide_eq_true_eq]
    by_cases z : i.natAbs = 0
    · rw [z]; decide
    · have q : (10 : Nat) ^ 40 < 2 ^ 140 := by decide
      have : i.natAbs.log2 < 140 := (Nat.log2_lt z).mpr (Nat.lt_trans h q)
      omega
  dp := by simp [PyData.depth]
  wt := by simp only [PyData.bulk]; exact Nat.le_refl _
theorem Sz.intS {i : Int} (h0 : -999999999999 ≤ i) (h1 : i ≤ 999999999999) : Sz 0 1 (.int i) := Sz.int (by rw [big40]; omega)
theorem Sz.non : Sz 0 1 .none := ⟨rfl, rfl, by simp [PyData.depth], by simp only [PyData.bulk]; exact Nat.le_refl _⟩
theorem Sz.bool (b : Bool) : Sz 0 1 (.bool b) := ⟨rfl, rfl, by simp [PyData.depth], by simp only [PyData.bulk]; exact Nat.le_refl _⟩
def Pln (x : Str) : Prop := ∀ c ∈ x.cps.toList, c < 16 ^ 8
theorem Sz.str {x : Str} {w : Nat} (h : Pln x) (hl : x.length ≤ w) : Sz w 1 (.str x) := ⟨by simp only [PyData.leavesShort, List.all_eq_true, decide_eq_true_eq]; exact h, rfl, by simp [PyData.depth], by simp only [PyData.bulk]; exact hl⟩
theorem Sz.dic : Sz 0 1 (.dict []) := ⟨rfl, rfl, by simp [PyData.depth, PyData.depthKv], by simp only [PyData.bulk, PyData.bulkKv]; exact Nat.le_refl _⟩
theorem Sz.list {w e : Nat} {ds : List PyData} (h : SzL w e ds) : Sz w (e + 1) (.list ds) :=
  ⟨by simp only [PyData.leavesShort]; exact h.ls, by simp only [PyData.showable]; exact h.sh, by simp only [PyData.depth]; exact Nat.add_le_add_right h.dp 1, by simp only [PyData.bulk]; exact h.wt⟩
theorem Sz.tuple {w e : Nat} {ds : List PyData} (h : SzL w e ds) : Sz w (e + 1) (.tuple ds) :=
  ⟨by simp only [PyData.leavesShort]; exact h.ls, by simp only [PyData.showable]; exact h.sh, by simp only [PyData.depth]; exact Nat.add_le_add_right h.dp 1, by simp only [PyData.bulk]; exact h.wt⟩
theorem SzL.nil {e : Nat} : SzL 0 e [] := ⟨rfl, rfl, by simp [PyData.depthAll], by simp only [PyData.bulkAll]; exact Nat.le_refl _⟩
theorem SzL.cons {w w' e : Nat} {d : PyData} {ds : List PyData} (h : Sz w e d) (r : SzL w' e ds) : SzL (w + 1 + w') e (d :: ds) :=
  ⟨by simp only [PyData.leavesShortAll, h.ls, r.ls, Bool.and_self], by simp only [PyData.showableAll, h.sh, r.sh, Bool.and_self], by simp only [PyData.depthAll]; exact Nat.max_le.mpr ⟨h.dp, r.dp⟩, by simp only [PyData.bulkAll]; have := h.wt; have := r.wt; omega⟩
theorem SzL.all {w e : Nat} : ∀ {ds : List PyData}, (∀ x ∈ ds, Sz w e x) → SzL ((w + 1) * ds.length) e ds
  | [], _ => SzL.nil
  | x :: r, h => by
    have h1 := SzL.cons (h x List.mem_cons_self) (SzL.all fun y hy => h y (List.mem_cons_of_mem _ hy))
    refine h1.mono ?_ (Nat.le_refl _)
    rw [List.length_cons, Nat.mul_add]
    omega
theorem Sz.pair {w w' e : Nat} {a b : PyData} (h : Sz w e a) (h' : Sz w' e b) : Sz (w + w' + 2) (e + 1) (.list [a, b]) := (Sz.list (SzL.cons h (SzL.cons h' SzL.nil))).mono (by omega) (Nat.le_refl _)
theorem SzL.ints {ns : List Int} (h : ∀ i ∈ ns, -999999999999 ≤ i ∧ i ≤ 999999999999) : SzL ns.length 1 (ns.map PyData.int) :=
  (SzL.all (w := 0) (e := 1) fun x hx => by obtain ⟨i, hi, rfl⟩ := List.mem_map.mp hx; exact Sz.intS (h i hi).1 (h i hi).2).mono (by rw [List.length_map]; omega) (Nat.le_refl _)
theorem SzL.prs {es : List (Int × Int)} (h : ∀ p ∈ es, (-999999999999 ≤ p.1 ∧ p.1 ≤ 999999999999) ∧ -999999999999 ≤ p.2 ∧ p.2 ≤ 999999999999) : SzL (3 * es.length) 2 (es.map Dw.prD) :=
  (SzL.all (w := 2) (e := 2) fun x hx => by
    obtain ⟨p, hp, rfl⟩ := List.mem_map.mp hx
    exact Sz.tuple (SzL.cons (Sz.intS (h p hp).1.1 (h p hp).1.2) (SzL.cons (Sz.intS (h p hp).2.1 (h p hp).2.2) SzL.nil))).mono (by rw [List.length_map]; omega) (Nat.le_refl _)
theorem reprA_ok {w e : Nat} {d : PyData} {P : PyData → Prop} (h : Sz w e d) (hw : w ≤ 200000) (he : e ≤ 60) (hP : P (.str d.shown)) : fReprA [d] P := by
  refine ⟨h.sh, Nat.le_trans h.dp he, ?_, hP⟩
  have h1 := PyData.shown_le_bulk 64 (by decide) d h.ls
  have h2 := h.wt
  have h3 : (64 + 2) * d.bulk ≤ 66 * 200000 := Nat.mul_le_mul (by decide) (by omega)
  rw [sizeLine_eq]
  omega
/-! ### texts -/
theorem pln_int (i : Int) : Pln (Str.ofString (toString i)) := fun c hc => by
  by_cases z : c < 16 ^ 8
  · exact z
  · have q : (16 : Nat) ^ 8 = 4294967296 := by decide
    exact absurd hc (int_text_free' c ⟨by omega, .inr (by omega)⟩ i)
theorem len_int {i : Int} (h0 : -99999 ≤ i) (h1 : i ≤ 99999) : (Str.ofString (toString i)).length ≤ 8 := by
  rw [PySem.ofString_length]
  have := int_text_length_le10 (a := i) (k := 5) (by decide) (by have q : (10 : Nat) ^ 5 = 100000 := by decide
                                                                 omega)
  omega
theorem pln_app {x y : Str} (hx : Pln x) (hy : Pln y) : Pln (x ++ y) := fun c hc => by
  have e : (x ++ y).cps = x.cps ++ y.cps := rfl
  rw [e, Array.toList_append] at hc
  rcases List.mem_append.mp hc with q | q
  · exact hx c q
  · exact hy c q
theorem join_small : ∀ {l : List Str}, (∀ y ∈ l, Pln y ∧ y.length ≤ 8) → Pln (Str.join (Str.ofString "") l) ∧ (Str.join (Str.ofString "") l).length ≤ 8 * l.length
  | [], _ => ⟨(fun c hc => nomatch (show c ∈ ([] : List Nat) from hc)), Nat.le_refl _⟩
  | [x], h => ⟨(h x List.mem_cons_self).1, by have := (h x List.mem_cons_self).2; exact this⟩
  | x :: y :: r, h => by
    obtain ⟨h1, h2⟩ := h x List.mem_cons_self
    obtain ⟨h3, h4⟩ := join_small (l := y :: r) fun z hz => h z (List.mem_cons_of_mem _ hz)
    refine ⟨pln_app (pln_app h1 fun c hc => nomatch (show c ∈ ([] : List Nat) from hc)) h3, ?_⟩
    show (x ++ Str.ofString "" ++ Str.join (Str.ofString "") (y :: r)).length ≤ _
    rw [strLen_append, strLen_append, List.length_cons]
    have : (Str.ofString "").length = 0 := rfl
    omega
theorem txt_join (a : Str) (l : List Str) : Txt.join a l = Str.join a l := eq_of_beq (join_plain_closes a l)
theorem iteP {c : Bool} {A B : Prop} (hc : c = true) (h : A) : if c = true then A else B := by rw [if_pos hc]; exact h
theorem iteN {c : Bool} {A B : Prop} (hc : c = false) (h : B) : if c = true then A else B := by rw [hc]; exact h
theorem onB_at {c : Bool} {K : Bool → Prop} (b : Bool) (e : c = b) (h : K b) : onB (.bool c) K := by rw [e]; exact h
/-! ### sums -/
def gS (x : Int) (p : (Int × Int) × Int) : Int := if p.1.1 = x ∨ p.1.2 = x then p.2 else 0
def TS' (zs : List ((Int × Int) × Int)) (x : Int) : Int := (zs.map (gS x)).sum
def sumsL (n : Int) (zs : List ((Int × Int) × Int)) : List Int := (List.range n.toNat).map fun (x : Nat) => TS' zs (x : Int)
theorem sumsL_len {n : Int} {zs : List ((Int × Int) × Int)} : (sumsL n zs).length = n.toNat := by unfold sumsL; rw [List.length_map, List.length_range]
theorem sumsL_at {n : Int} {zs : List ((Int × Int) × Int)} {i : Nat} (h : i < (sumsL n zs).length) : (sumsL n zs)[i] = TS' zs (i : Int) := by
  have e : (sumsL n zs)[i]? = some (TS' zs (i : Int)) := by
    rw [sumsL_len] at h
    unfold sumsL
    rw [List.getElem?_map, List.getElem?_range h]
    rfl
  exact Option.some.inj ((List.getElem?_eq_getElem h).symm.trans e)
theorem TS_add {zs : List ((Int × Int) × Int)} {i : Nat} (h : i < zs.length) (x : Int) : TS' (zs.take (i + 1)) x = TS' (zs.take i) x + gS x zs[i] := by
  unfold TS'
  rw [List.take_add_one, List.getElem?_eq_getElem h, List.map_append, List.sum_append]
  simp
theorem sums_ext {xs : List Int} {n : Int} {zs : List ((Int × Int) × Int)} (hl : xs.length = n.toNat) (h : ∀ x : Nat, (x : Int) < n → xs.getD x 0 = TS' zs x) : xs = sumsL n zs := by
  refine List.ext_getElem (by rw [hl, sumsL_len]) fun i h1 h2 => ?_
  have := h i (by omega)
  rw [getD_at h1] at this
  rw [this, sumsL_at h2]
theorem rep_flat (k : Nat) : (List.replicate k [PyData.int 0]).flatten = (List.replicate k (0 : Int)).map PyData.int := by
  induction k with
  | zero => rfl
  | succ k ih => rw [List.replicate_succ, List.replicate_succ, List.flatten_cons, ih]; rfl
theorem enumD_at {ds : List PyData} {i : Nat} (h : i < (enumD ds).length) (h2 : i < ds.length) : (enumD ds)[i] = .tuple [.int (i : Nat), ds[i]] := by
  have e : (enumD ds)[i]? = some (.tuple [.int (i : Nat), ds[i]]) := by
    unfold enumD
    rw [List.getElem?_map, List.getElem?_zipIdx, List.getElem?_eq_getElem h2]
    simp
  exact Option.some.inj ((List.getElem?_eq_getElem h).symm.trans e)
theorem enumD_len {ds : List PyData} : (enumD ds).length = ds.length := by unfold enumD; simp
theorem zipD_at {as bs : List PyData} {i : Nat} (h : i < (zipD as bs).length) (h1 : i < as.length) (h2 : i < bs.length) : (zipD as bs)[i] = .tuple [as[i], bs[i]] := by
  have e : (zipD as bs)[i]? = some (.tuple [as[i], bs[i]]) := by
    unfold zipD
    rw [List.getElem?_map, List.getElem?_zip_eq_some (z := (as[i], bs[i])) |>.mpr ⟨List.getElem?_eq_getElem h1, List.getElem?_eq_getElem h2⟩]
    rfl
  exact Option.some.inj ((List.getElem?_eq_getElem h).symm.trans e)
theorem zipD_len {as bs : List PyData} : (zipD as bs).length = min as.length bs.length := by unfold zipD; simp
theorem zip_at {es : List (Int × Int)} {ls : List Int} {i : Nat} (h : i < (es.zip ls).length) : (es.zip ls)[i] = (es[i]'(by rw [List.length_zip] at h; omega), ls[i]'(by rw [List.length_zip] at h; omega)) := by simp
theorem inPair (a b x : Int) : anyD (.int x) [.int a, .int b] = decide (a = x ∨ b = x) := by
  simp [anyD, PyData.eqv]
  rfl
/-- a web and its standing, as they are handed in -/
structure WS (n : Int) (es : List (Int × Int)) (ls : List Int) : Prop where
  n2 : 2 ≤ n
  n9 : n ≤ 100
  sh : Sh n es
  len : ls.length = es.length
  e9 : es.length ≤ 1000
section
variable {P : PyData → Prop} {n : Int} {es : List (Int × Int)} {bs ls : List Int}
theorem law_sums_ok (h : WS n es ls) (hP : P (.list ((sumsL n (es.zip ls)).map PyData.int))) : pre_law_sums [.val (webD n es bs), .val (.tuple (ls.map PyData.int))] P := by
  show m_law_sums { nx := fun _ => P .none, rt := P } [.val (webD n es bs), .val (.tuple (ls.map PyData.int)), .non, .non, .non]
  have n2 := h.n2
  have n9 := h.n9
  have e9 := h.e9
  have hzl : (es.zip ls).length = es.length := by rw [List.length_zip, h.len, Nat.min_self]
  have hdl : (zipD (es.map Dw.prD) (ls.map PyData.int)).length = es.length := by rw [zipD_len, List.length_map, List.length_map, h.len, Nat.min_self]
  refine ⟨⟨by omega, by omega⟩, by rw [rangeD_length]; omega, lcGo_at (rs := (sumsL n (es.zip ls)).map PyData.int) (by rw [List.length_map, sumsL_len, rangeD_length, show (n - 0) = n by omega]) (fun x h1 h2 Y hY => ?_) hP⟩
  rw [rangeD_at h1]
  rw [List.getElem_map, sumsL_at] at hY
  refine .inr ⟨by rw [hdl]; omega, ?_⟩
  refine lcGo_inv (fun i acc => ∃ ns : List Int, acc = ns.map PyData.int ∧ ns.sum = TS' ((es.zip ls).take i) (x : Int)) ?_ ⟨[], rfl, rfl⟩ ?_
  · rintro i hi acc Y S ⟨ns, rfl, hs⟩ hY hS
    rw [hdl] at hi
    rw [zipD_at _ (by rw [List.length_map]; exact hi) (by rw [List.length_map, h.len]; exact hi), List.getElem_map, List.getElem_map]
    have hz : i < (es.zip ls).length := by rw [hzl]; exact hi
    have hT := TS_add hz (x : Int)
    rw [zip_at hz] at hT
    refine ⟨rfl, rfl, ?_⟩
    refine ⟨rfl, rfl, ?_⟩
    refine ite_b (inPair _ _ _) (ite2 (fun hd => hY _ ⟨ns ++ [ls[i]'(by rw [h.len]; exact hi)], by rw [List.map_append]; rfl, ?_⟩) fun hd => hS ⟨ns, rfl, ?_⟩)
    · have hd := of_decide_eq_true hd
      rw [List.sum_append, hs, hT]
      unfold gS
      rw [if_pos (by rw [Int.zero_add] at hd; exact hd)]
      simp
    · have hd : ¬ _ := fun z => hd (decide_eq_true z)
      rw [hs, hT]
      unfold gS
      rw [if_neg (by rw [Int.zero_add] at hd; exact hd)]
      omega
  · rintro acc ⟨ns, rfl, hs⟩
    rw [hdl, ← hzl, List.take_length] at hs
    exact ⟨ns, rfl, by rw [hs]; exact hY⟩
theorem ixL {ds : List PyData} {i : Nat} {P : PyData → Prop} (h : i < ds.length) (k : P ds[i]) : atD ds (i : Int) P := by
  unfold atD
  rw [atI_nat (List.getElem?_eq_getElem h)]
  exact k
theorem sums_of_ok (h : WS n es ls) (hP : P (.tuple ((sumsL n (es.zip ls)).map PyData.int))) : pre_sums_of [.val (webD n es bs), .val (.tuple (ls.map PyData.int))] P := by
  show m_sums_of { nx := fun _ => P .none, rt := P } [.val (webD n es bs), .val (.tuple (ls.map PyData.int)), .non, .non, .non, .non]
  have n2 := h.n2
  have n9 := h.n9
  have e9 := h.e9
  have hll := h.len
  have hzl : (es.zip ls).length = es.length := by rw [List.length_zip, h.len, Nat.min_self]
  refine ⟨by omega, by omega, by show 1 * n.toNat ≤ 100000; omega, ?_⟩
  rw [rep_flat]
  refine forGo_inv (fun i e => ∃ (xs : List Int) (c3 c4 c5 : Cell), e = [.val (webD n es bs), .val (.tuple (ls.map PyData.int)), .own (xs.map PyData.int), c3, c4, c5] ∧ xs.length = n.toNat ∧ ∀ x : Nat, (x : Int) < n → xs.getD x 0 = TS' ((es.zip ls).take i) (x : Int)) ?_ ?_ ⟨_, _, _, _, rfl, List.length_replicate, fun x hx => ?_⟩
  · rintro i hi env N ⟨xs, c3, c4, c5, rfl, hl, hx⟩ hN
    rw [enumD_len, List.length_map] at hi
    rw [enumD_at _ (by rw [List.length_map]; exact hi), List.getElem_map]
    obtain ⟨a0, a1, a2⟩ := h.sh.lt _ (List.getElem_mem hi)
    have hz : i < (es.zip ls).length := by rw [hzl]; exact hi
    have hil : i < ls.length := by rw [h.len]; exact hi
    have hT := fun x : Int => TS_add hz x
    rw [zip_at hz] at hT
    have lx : (xs.map PyData.int).length = xs.length := List.length_map _
    have la : es[i].1.toNat < xs.length := by omega
    have lb : es[i].2.toNat < xs.length := by omega
    refine ⟨rfl, rfl, rfl, rfl, es[i].1.toNat, ixN_of a0 (by rw [lx]; omega), xs[es[i].1.toNat], by rw [List.getElem?_map, List.getElem?_eq_getElem la]; rfl, ?_⟩
    refine ixL (P := fun d => onI d fun y => _) (by rw [List.length_map]; exact hil) ?_
    rw [List.getElem_map]
    refine ⟨es[i].2.toNat, ixN_of (by omega) (by rw [List.length_set, lx]; omega), xs[es[i].2.toNat], by rw [List.getElem?_set_ne (by omega), List.getElem?_map, List.getElem?_eq_getElem lb]; rfl, ?_⟩
    refine ixL (P := fun d => onI d fun y => _) (by rw [List.length_map]; exact hil) ?_
    rw [List.getElem_map]
    refine hN _ ⟨(xs.set es[i].1.toNat (xs[es[i].1.toNat] + ls[i])).set es[i].2.toNat (xs[es[i].2.toNat] + ls[i]), .val (.int (i : Nat)), .val (.int es[i].1), .val (.int es[i].2), ?_, by rw [List.length_set, List.length_set]; exact hl, fun x hx' => ?_⟩
    · rw [List.map_set, List.map_set]
      rfl
    · rw [hT, getD_set (by rw [List.length_set]; exact lb), getD_set la]
      unfold gS
      dsimp only
      have q1 := hx es[i].1.toNat (by omega)
      have q2 := hx es[i].2.toNat (by omega)
      rw [getD_at la] at q1
      rw [getD_at lb] at q2
      by_cases z2 : x = es[i].2.toNat
      · rw [if_pos z2, if_pos (.inr (by omega)), q2, z2]
      · rw [if_neg z2]
        by_cases z1 : x = es[i].1.toNat
        · rw [if_pos z1, if_pos (.inl (by omega)), q1, z1]
        · rw [if_neg z1, if_neg (by omega), hx x hx']
          omega
  · rintro e ⟨xs, c3, c4, c5, rfl, hl, hx⟩
    rw [enumD_len, List.length_map, ← hzl, List.take_length] at hx
    rw [sums_ext hl hx]
    exact hP
  · rw [getD_at (by rw [List.length_replicate]; omega), List.getElem_replicate]
    rfl
end
/-! ### even, unlike -/
def evenB (n : Int) (zs : List ((Int × Int) × Int)) : Bool := decide (∀ i : Nat, i < n.toNat → TS' zs (i : Int) = TS' zs 0)
def unB (es : List (Int × Int)) (zs : List ((Int × Int) × Int)) (i : Nat) : Bool := !decide (TS' zs (es.getD i (0, 0)).1 = TS' zs (es.getD i (0, 0)).2)
def unL (es : List (Int × Int)) (zs : List ((Int × Int) × Int)) : List Int := ((List.range es.length).filter (unB es zs)).map Int.ofNat
theorem sums_all {n : Int} {zs : List ((Int × Int) × Int)} {Q : Int → Prop} : (∀ y ∈ sumsL n zs, Q y) ↔ ∀ i : Nat, i < n.toNat → Q (TS' zs (i : Int)) := by
  unfold sumsL
  constructor
  · intro h i hi
    exact h _ (List.mem_map.mpr ⟨i, List.mem_range.mpr hi, rfl⟩)
  · intro h y hy
    obtain ⟨i, hi, rfl⟩ := List.mem_map.mp hy
    exact h i (List.mem_range.mp hi)
theorem sums_getD {n : Int} {zs : List ((Int × Int) × Int)} {i : Nat} (h : i < n.toNat) : (sumsL n zs).getD i 0 = TS' zs (i : Int) := by
  have h' : i < (sumsL n zs).length := by rw [sumsL_len]; exact h
  rw [getD_at h', sumsL_at h']
theorem even_min {n : Int} {zs : List ((Int × Int) × Int)} (n1 : 1 ≤ n) {m M : Int} (h1 : m ∈ sumsL n zs) (h2 : ∀ y ∈ sumsL n zs, m ≤ y) (h3 : M ∈ sumsL n zs) (h4 : ∀ y ∈ sumsL n zs, y ≤ M) : PyData.eqv (.int m) (.int M) = evenB n zs := by
  rw [eqv_int]
  unfold evenB
  rw [Bool.eq_iff_iff, decide_eq_true_iff, decide_eq_true_iff]
  have q2 := sums_all.mp h2
  have q4 := sums_all.mp h4
  constructor
  · intro e i hi
    have a1 := q2 i hi
    have a2 := q4 i hi
    have a3 := q2 0 (by omega)
    have a4 := q4 0 (by omega)
    show TS' zs (i : Int) = TS' zs ((0 : Nat) : Int)
    omega
  · intro e
    have e' : ∀ y ∈ sumsL n zs, y = TS' zs 0 := sums_all.mpr e
    rw [e' m h1, e' M h3]
theorem even_met {n : Int} {zs : List ((Int × Int) × Int)} (n1 : 1 ≤ n) : PyData.eqv (.int ((PyProof.Rows.firstMet (fun i => (sumsL n zs).getD i 0) (sumsL n zs).length).length : Nat)) (.int 1) = evenB n zs := by
  rw [eqv_int]
  unfold evenB
  rw [Bool.eq_iff_iff, decide_eq_true_iff, decide_eq_true_iff]
  have := met_one (ns := sumsL n zs) (by rw [sumsL_len]; omega)
  constructor
  · intro e i hi
    have h := this.mp (by omega) i (by rw [sumsL_len]; exact hi)
    rw [sums_getD hi, sums_getD (by omega)] at h
    exact h
  · intro e
    have h := this.mpr fun i hi => by
      rw [sumsL_len] at hi
      rw [sums_getD hi, sums_getD (by omega)]
      exact e i hi
    omega
theorem un_nil {n : Int} {es : List (Int × Int)} {zs : List ((Int × Int) × Int)} (n1 : 1 ≤ n) (h : Sh n es) : unL es zs = [] ↔ evenB n zs = true := by
  unfold evenB unL
  rw [decide_eq_true_iff, List.map_eq_nil_iff, List.filter_eq_nil_iff]
  constructor
  · intro e i hi
    refine h.conn (fun x => TS' zs x) (fun p hp => ?_) i (by omega)
    obtain ⟨j, hj, rfl⟩ := List.getElem_of_mem hp
    have := e j (List.mem_range.mpr hj)
    unfold unB at this
    rw [List.getD_eq_getElem?_getD, List.getElem?_eq_getElem hj] at this
    simpa using this
  · intro e j hj
    have hj := List.mem_range.mp hj
    obtain ⟨a0, a1, a2⟩ := h.lt _ (List.getElem_mem hj)
    unfold unB
    rw [List.getD_eq_getElem?_getD, List.getElem?_eq_getElem hj]
    have e1 := e es[j].1.toNat (by omega)
    have e2 := e es[j].2.toNat (by omega)
    rw [Int.toNat_of_nonneg a0] at e1
    rw [Int.toNat_of_nonneg (by omega)] at e2
    have : TS' zs es[j].1 = TS' zs es[j].2 := e1.trans e2.symm
    simp [this]
section
variable {P : PyData → Prop} {n : Int} {es : List (Int × Int)} {bs ls : List Int}
end
/-! ### deeds that are let -/
def okB (bs ls : List Int) (i : Nat) (by' : Int) : Bool := decide (0 ≤ ls.getD i 0 + by') && decide (ls.getD i 0 + by' ≤ bs.getD i 0)
def letOf (bs ls : List Int) (i : Nat) : List (Int × Int) := ([-1, 1].filter (okB bs ls i)).map fun b => ((i : Int), b)
def letL (es : List (Int × Int)) (bs ls : List Int) : List (Int × Int) := ((List.range es.length).filter (unB es (es.zip ls))).flatMap (letOf bs ls)
section
variable {n : Int} {es : List (Int × Int)} {bs ls : List Int} {P : PyData → Prop}
theorem room_ok (h : WS n es ls) (hb : bs.length = es.length) {i : Nat} (hi : i < es.length) {b : Int} (hP : P (.bool (okB bs ls i b))) : pre_has_room [.val (webD n es bs), .val (.tuple (ls.map PyData.int)), .val (.int (i : Nat)), .val (.int b)] P := by
  show m_has_room { nx := fun _ => P .none, rt := P } [.val (webD n es bs), .val (.tuple (ls.map PyData.int)), .val (.int (i : Nat)), .val (.int b)]
  have hl := h.len
  have ls' : ∀ {Q : PyData → Prop}, Q (.int (ls.getD i 0)) → atD (ls.map PyData.int) ((i : Nat) : Int) Q := fun hQ => ixI (by omega) (by omega) hQ
  have bs' : ∀ {Q : PyData → Prop}, Q (.int (bs.getD i 0)) → atD (bs.map PyData.int) ((i : Nat) : Int) Q := fun hQ => ixI (by omega) (by omega) hQ
  refine ls' (Q := fun d => fAddA d (.int b) fun y => fLe (.int 0) y fun z => onB z fun k => if k = true then atD (bs.map PyData.int) ((i : Nat) : Int) (fun w => fLe y w P) else P (.bool false)) ?_
  show if decide (0 ≤ ls.getD i 0 + b) = true then atD (bs.map PyData.int) ((i : Nat) : Int) (fun w => fLe (.int (ls.getD i 0 + b)) w P) else P (.bool false)
  unfold okB at hP
  cases q : decide (0 ≤ ls.getD i 0 + b) with
  | false =>
    rw [q] at hP
    exact iteF hP
  | true =>
    rw [q] at hP
    exact iteT (bs' hP)
theorem letL_mem {p : Int × Int} (hp : p ∈ letL es bs ls) : 0 ≤ p.1 ∧ p.1 < es.length ∧ (p.2 = -1 ∨ p.2 = 1) := by
  unfold letL at hp
  obtain ⟨i, hi, hq⟩ := List.mem_flatMap.mp hp
  have hi := List.mem_range.mp (List.mem_filter.mp hi).1
  unfold letOf at hq
  obtain ⟨b, hb, rfl⟩ := List.mem_map.mp hq
  have hb := (List.mem_filter.mp hb).1
  simp at hb
  exact ⟨by show (0 : Int) ≤ (i : Int); omega, by show (i : Int) < _; omega, hb⟩
end
section
variable {q_law_sums : Pre} {n : Int} {es : List (Int × Int)} {bs ls : List Int} {M : MEnds}
abbrev eL (n : Int) (es : List (Int × Int)) (bs ls : List Int) (acc : List PyData) (c4 c5 c6 c7 : Cell) : Cells := [.val (webD n es bs), .val (.tuple (ls.map PyData.int)), .val (.list ((sumsL n (es.zip ls)).map PyData.int)), .own acc, c4, c5, c6, c7]
theorem ll_one (h : WS n es ls) (hb : bs.length = es.length) {i : Nat} (hi : i < es.length) {b : Int} {acc : List PyData} (hacc : acc.length < 100000)
    (hN : M.nx (eL n es bs ls (acc ++ if (unB es (es.zip ls) i && okB bs ls i b) = true then [Dw.prD ((i : Int), b)] else []) (.val (.int (i : Nat))) (.val (.int es[i].1)) (.val (.int es[i].2)) (.val (.int b)))) :
    (mIf (mAnd (mB (m2 fNe (m2 fIx (mVarB 2) (mVarB 5)) (m2 fIx (mVarB 2) (mVarB 6)))) (mB (mChain fLe fLe (mC (.int 0)) (m2 fAddA (m2 fIx (mVarB 1) (mVarB 4)) (mVarB 7)) (m2 fIx (m2 fIx (mVarB 0) (mC (.int 2))) (mVarB 4))))) (mApp 3 (mTup (mCons (mVar 4) (mCons (mVar 7) mNil)))) mNext) M (eL n es bs ls acc (.val (.int (i : Nat))) (.val (.int es[i].1)) (.val (.int es[i].2)) (.val (.int b))) := by
  obtain ⟨a0, a1, a2⟩ := h.sh.lt _ (List.getElem_mem hi)
  have n2 := h.n2
  have hl := h.len
  have hsl : (sumsL n (es.zip ls)).length = n.toNat := sumsL_len
  have look : ∀ {k : Int} {Q : PyData → Prop}, 0 ≤ k → k < n → Q (.int (TS' (es.zip ls) k)) → atD ((sumsL n (es.zip ls)).map PyData.int) k Q := by
    intro k Q k0 k1 hQ
    have e : (sumsL n (es.zip ls)).getD k.toNat 0 = TS' (es.zip ls) k := by rw [sums_getD (by omega), Int.toNat_of_nonneg k0]
    exact ixI k0 (by omega) (by rw [e]; exact hQ)
  have lsA : ∀ {Q : PyData → Prop}, Q (.int (ls.getD i 0)) → atD (ls.map PyData.int) ((i : Nat) : Int) Q := fun hQ => ixI (by omega) (by omega) hQ
  have bsA : ∀ {Q : PyData → Prop}, Q (.int (bs.getD i 0)) → atD (bs.map PyData.int) ((i : Nat) : Int) Q := fun hQ => ixI (by omega) (by omega) hQ
  have hu : unB es (es.zip ls) i = !decide (TS' (es.zip ls) es[i].1 = TS' (es.zip ls) es[i].2) := by
    unfold unB
    rw [List.getD_eq_getElem?_getD, List.getElem?_eq_getElem hi]
    rfl
  simp only [mIf, mAnd, mB, m2, mChain, mVarB, mC, mApp, onOwn, mTup, mCons, mVar, mNil, mNext, fIx, onI, webD, List.getElem?_cons_succ, List.getElem?_cons_zero, List.set_cons_succ, List.set_cons_zero]
  refine look a0 (by omega) ?_
  refine look (by omega) a2 ?_
  refine ⟨rfl, rfl, ?_⟩
  rw [eqv_int, ← hu]
  have hno : (unB es (es.zip ls) i && okB bs ls i b) = false → M.nx (eL n es bs ls acc (.val (.int (i : Nat))) (.val (.int es[i].1)) (.val (.int es[i].2)) (.val (.int b))) := fun q => by
    rw [q, if_neg (by decide), List.append_nil] at hN
    exact hN
  cases hq : unB es (es.zip ls) i with
  | false => exact hno (by rw [hq]; rfl)
  | true =>
    rw [hq] at hN hno
    refine lsA ?_
    cases q1 : decide (0 ≤ ls.getD i 0 + b) with
    | false =>
      show if decide (0 ≤ ls.getD i 0 + b) = true then _ else _
      rw [q1]
      exact hno (by unfold okB; rw [q1]; rfl)
    | true =>
      show if decide (0 ≤ ls.getD i 0 + b) = true then _ else _
      rw [q1]
      refine (bsA (Q := fun w => fLe (.int (ls.getD i 0 + b)) w fun x => onB x fun c => if c = true then acc.length < 100000 ∧ M.nx (eL n es bs ls (acc ++ [Dw.prD ((i : Int), b)]) (.val (.int (i : Nat))) (.val (.int es[i].1)) (.val (.int es[i].2)) (.val (.int b))) else M.nx (eL n es bs ls acc (.val (.int (i : Nat))) (.val (.int es[i].1)) (.val (.int es[i].2)) (.val (.int b)))) ?_)
      cases q2 : decide (ls.getD i 0 + b ≤ bs.getD i 0) with
      | false =>
        show if decide (ls.getD i 0 + b ≤ bs.getD i 0) = true then _ else _
        rw [q2]
        exact hno (by unfold okB; rw [q1, q2]; rfl)
      | true =>
        show if decide (ls.getD i 0 + b ≤ bs.getD i 0) = true then _ else _
        rw [q2]
        have e : (true && okB bs ls i b) = true := by unfold okB; rw [q1, q2]; rfl
        rw [e, if_pos rfl] at hN
        exact ⟨hacc, hN⟩
theorem letOf_two (bs ls : List Int) (i : Nat) : letOf bs ls i = (if okB bs ls i (-1) = true then [((i : Int), (-1 : Int))] else []) ++ (if okB bs ls i 1 = true then [((i : Int), (1 : Int))] else []) := by
  unfold letOf
  rw [List.filter_cons, List.filter_cons, List.filter_nil]
  split <;> split <;> rfl
theorem letOf_len (bs ls : List Int) (i : Nat) : (letOf bs ls i).length ≤ 2 := by
  unfold letOf
  rw [List.length_map]
  exact List.length_filter_le _ _
def letN (es : List (Int × Int)) (bs ls : List Int) (k : Nat) : List (Int × Int) := ((List.range k).filter (unB es (es.zip ls))).flatMap (letOf bs ls)
theorem letN_succ (es : List (Int × Int)) (bs ls : List Int) (k : Nat) : (letN es bs ls (k + 1)).map Dw.prD = ((letN es bs ls k).map Dw.prD ++ (if (unB es (es.zip ls) k && okB bs ls k (-1)) = true then [Dw.prD ((k : Int), (-1 : Int))] else [])) ++ (if (unB es (es.zip ls) k && okB bs ls k 1) = true then [Dw.prD ((k : Int), (1 : Int))] else []) := by
  unfold letN
  rw [List.range_succ, List.filter_append, List.flatMap_append, List.map_append, List.append_assoc]
  congr 1
  rw [List.filter_cons, List.filter_nil]
  cases unB es (es.zip ls) k with
  | false => rfl
  | true =>
    show (([k].flatMap (letOf bs ls)).map Dw.prD) = _
    rw [List.flatMap_cons, List.flatMap_nil, List.append_nil, letOf_two, List.map_append]
    cases okB bs ls k (-1) <;> cases okB bs ls k 1 <;> rfl
theorem law_let_loop (h : WS n es ls) (hb : bs.length = es.length) (hM : M.rt (.list ((letL es bs ls).map Dw.prD))) {c4 c5 c6 c7 : Cell} : m_law_let_1_1 q_law_sums M (eL n es bs ls [] c4 c5 c6 c7) := by
  have e9 := h.e9
  refine forGo_inv (fun i e => ∃ c4 c5 c6 c7 : Cell, e = eL n es bs ls ((letN es bs ls i).map Dw.prD) c4 c5 c6 c7 ∧ (letN es bs ls i).length ≤ 2 * i) ?_ ?_ ⟨c4, c5, c6, c7, rfl, Nat.le_refl _⟩
  · rintro i hi env N ⟨c4, c5, c6, c7, rfl, hl⟩ hN
    rw [enumD_len, List.length_map] at hi
    rw [enumD_at _ (by rw [List.length_map]; exact hi), List.getElem_map]
    refine ⟨rfl, rfl, rfl, rfl, ?_⟩
    have hlen : (letN es bs ls (i + 1)).length ≤ 2 * (i + 1) := by
      have e := congrArg List.length (letN_succ es bs ls i)
      rw [List.length_map, List.length_append, List.length_append, List.length_map] at e
      have a : (if (unB es (es.zip ls) i && okB bs ls i (-1)) = true then [Dw.prD ((i : Int), (-1 : Int))] else []).length ≤ 1 := by split <;> simp
      have b : (if (unB es (es.zip ls) i && okB bs ls i 1) = true then [Dw.prD ((i : Int), (1 : Int))] else []).length ≤ 1 := by split <;> simp
      omega
    have a : (if (unB es (es.zip ls) i && okB bs ls i (-1)) = true then [Dw.prD ((i : Int), (-1 : Int))] else []).length ≤ 1 := by split <;> simp
    refine ll_one (b := -1) h hb hi (by rw [List.length_map]; omega) ?_
    refine ll_one (b := 1) h hb hi (by rw [List.length_append, List.length_map]; omega) ?_
    refine hN _ ⟨.val (.int (i : Nat)), .val (.int es[i].1), .val (.int es[i].2), .val (.int 1), ?_, hlen⟩
    rw [letN_succ]
  · rintro e ⟨c4, c5, c6, c7, rfl, hl⟩
    rw [enumD_len, List.length_map]
    exact hM
end
section
variable {q_law_sums : Pre} {n : Int} {es : List (Int × Int)} {bs ls : List Int} {M : MEnds}
theorem law_let_frame {w s : PyData} {S : List PyData} (h1 : ∀ Q : PyData → Prop, Q (.list S) → q_law_sums [.val w, .val s] Q) (h2 : m_law_let_1_1 q_law_sums M [.val w, .val s, .val (.list S), .own [], .non, .non, .non, .non]) : m_law_let_1_0 q_law_sums M [.val w, .val s, .non, .non, .non, .non, .non, .non] := by
  simp only [m_law_let_1_0, mSq, mParF, mCall, mcCons, mcNil, mVar, mNil, List.getElem?_cons_succ, List.getElem?_cons_zero, List.set_cons_succ, List.set_cons_zero]
  refine h1 _ ?_
  exact h2
theorem law_let_ok {P : PyData → Prop} (h : WS n es ls) (hb : bs.length = es.length) (hP : P (.list ((letL es bs ls).map Dw.prD))) : pre_law_let [.val (webD n es bs), .val (.tuple (ls.map PyData.int))] P := by
  show m_law_let { nx := fun _ => P .none, rt := P } [.val (webD n es bs), .val (.tuple (ls.map PyData.int)), .non, .non, .non, .non, .non, .non]
  exact law_let_frame (S := (sumsL n (es.zip ls)).map PyData.int) (fun Q hQ => law_sums_ok h hQ) (law_let_loop (M := { nx := fun _ => P .none, rt := P }) h hb hP)
end
/-! ### what is a deed -/
def alikeB (es : List (Int × Int)) (zs : List ((Int × Int) × Int)) (i : Nat) : Bool := decide (TS' zs (es.getD i (0, 0)).1 = TS' zs (es.getD i (0, 0)).2)
def deedIn (es : List (Int × Int)) (bs ls : List Int) (r b : Int) : PyData :=
  if (decide (0 ≤ r) && decide (r < es.length)) = true then
    if (decide (b = 1) || decide (b = -1)) = true then
      if alikeB es (es.zip ls) r.toNat = true then .str "alike" else if okB bs ls r.toNat b = true then .none else .str "room"
    else .str "by"
  else .str "road"
def deedD (es : List (Int × Int)) (bs ls : List Int) (d : PyData) : PyData := match d with
  | .tuple [.int r, .int b] => deedIn es bs ls r b
  | _ => .str "form"
theorem integer_ok {d : PyData} {P : PyData → Prop} (h : P (.bool (isI d && !isB d))) : pre_is_integer [.val d] P := by
  show onB (.bool (isI d)) fun c => if c = true then (onB (.bool (isB d)) fun b => P (.bool (!b))) else P (.bool false)
  cases hd : isI d with
  | false => rw [hd] at h; exact h
  | true => rw [hd] at h; exact h
theorem tuple_of_ok {d : PyData} {m : Int} {P : PyData → Prop} (h : P (.bool (match d with | .tuple ds => decide ((ds.length : Int) = m) | _ => false))) : pre_is_tuple_of [.val d, .val (.int m)] P := by
  cases d with
  | tuple ds =>
    show SeqAt.shaped (.int (ds.length : Nat)) = true ∧ SeqAt.shaped (.int m) = true ∧ P (.bool (PyData.eqv (.int (ds.length : Nat)) (.int m)))
    rw [eqv_int]
    exact ⟨rfl, rfl, h⟩
  | _ => exact h
theorem isIB {d : PyData} (h : (isI d && !isB d) = true) : ∃ i, d = .int i := by
  cases d with
  | int i => exact ⟨i, rfl⟩
  | bool b => cases h
  | _ => cases h
theorem in11 (b : Int) : anyD (.int b) [.int 1, .int (-1)] = (decide (b = 1) || decide (b = -1)) := by
  have e : anyD (.int b) [.int 1, .int (-1)] = (((1 : Int) == b) || (((-1 : Int) == b) || false)) := by simp [anyD, PyData.eqv]
  rw [e, Bool.or_false]
  congr 1 <;> (rw [Bool.eq_iff_iff]; simp; exact eq_comm)
section
variable {n : Int} {es : List (Int × Int)} {bs ls : List Int} {M : MEnds} {P : PyData → Prop}
theorem alike_at (h : WS n es ls) {r : Int} (h0 : 0 ≤ r) (h1 : r < es.length) {Q : Bool → Prop} {o : PyData} (ho : o = .tuple ((sumsL n (es.zip ls)).map PyData.int) ∨ o = .list ((sumsL n (es.zip ls)).map PyData.int)) (hQ : Q (alikeB es (es.zip ls) r.toNat)) :
    fIx o (.int (es.getD r.toNat (0, 0)).1) fun x => fIx o (.int (es.getD r.toNat (0, 0)).2) fun y => fEq x y fun z => onB z Q := by
  have hr : r.toNat < es.length := by omega
  obtain ⟨a0, a1, a2⟩ := h.sh.lt _ (List.getElem_mem hr)
  have n2 := h.n2
  have hsl : (sumsL n (es.zip ls)).length = n.toNat := sumsL_len
  have ge : es.getD r.toNat (0, 0) = es[r.toNat] := by rw [List.getD_eq_getElem?_getD, List.getElem?_eq_getElem hr]; rfl
  unfold alikeB at hQ
  rw [ge] at hQ ⊢
  have look : ∀ {k : Int} {Q : PyData → Prop}, 0 ≤ k → k < n → Q (.int (TS' (es.zip ls) k)) → atD ((sumsL n (es.zip ls)).map PyData.int) k Q := by
    intro k Q k0 k1 hQ
    have e : (sumsL n (es.zip ls)).getD k.toNat 0 = TS' (es.zip ls) k := by rw [sums_getD (by omega), Int.toNat_of_nonneg k0]
    exact ixI k0 (by omega) (by rw [e]; exact hQ)
  rcases ho with rfl | rfl
  · refine look a0 (by omega) (look (by omega) a2 ⟨rfl, rfl, ?_⟩)
    rw [eqv_int]
    exact hQ
  · refine look a0 (by omega) (look (by omega) a2 ⟨rfl, rfl, ?_⟩)
    rw [eqv_int]
    exact hQ
theorem road_at {r : Int} (h0 : 0 ≤ r) (h1 : r < es.length) {Q : PyData → Prop} (hQ : Q (Dw.prD (es.getD r.toNat (0, 0)))) : atD (es.map Dw.prD) r Q := by
  have hr : r.toNat < es.length := by omega
  have ge : es.getD r.toNat (0, 0) = es[r.toNat] := by rw [List.getD_eq_getElem?_getD, List.getElem?_eq_getElem hr]; rfl
  unfold atD atI
  rw [ixN_of h0 (by rw [List.length_map]; exact h1)]
  show (match ((es.map Dw.prD)[r.toNat]?) with | some d => Q d | none => False)
  rw [List.getElem?_map, List.getElem?_eq_getElem hr]
  rw [ge] at hQ
  exact hQ
theorem deed_error_ok (h : WS n es ls) (hb : bs.length = es.length) {d : PyData} (hP : P (deedD es bs ls d)) : pre_deed_error [.val (webD n es bs), .val (.tuple (ls.map PyData.int)), .val d] P := by
  have hin : ∀ r b : Int, P (deedIn es bs ls r b) → m_deed_error_1_3 { nx := fun _ => P .none, rt := P } [.val (webD n es bs), .val (.tuple (ls.map PyData.int)), .val d, .val (.int r), .val (.int b), .non, .non, .non] := by
    intro r b hP
    show if decide ((0 : Int) ≤ r) = true then (if (!decide (r < ((es.map Dw.prD).length : Nat))) = true then P (.str "road") else m_deed_error_1_4 { nx := fun _ => P .none, rt := P } [.val (webD n es bs), .val (.tuple (ls.map PyData.int)), .val d, .val (.int r), .val (.int b), .non, .non, .non]) else P (.str "road")
    unfold deedIn at hP
    rw [List.length_map]
    by_cases h0 : 0 ≤ r
    · by_cases h1 : r < es.length
      · rw [if_pos (by simp [h0, h1])] at hP
        rw [decide_eq_true h0, decide_eq_true h1]
        refine iteT (iteF ?_)
        refine ⟨rfl, rfl, ?_⟩
        show if (!anyD (.int b) [.int 1, .int (-1)]) = true then P (.str "by") else m_deed_error_1_5 { nx := fun _ => P .none, rt := P } [.val (webD n es bs), .val (.tuple (ls.map PyData.int)), .val d, .val (.int r), .val (.int b), .non, .non, .non]
        rw [in11]
        cases q : decide (b = 1) || decide (b = -1) with
        | false =>
          rw [q, if_neg (by decide)] at hP
          exact iteT hP
        | true =>
          rw [q, if_pos rfl] at hP
          refine iteF (sums_of_ok h (road_at h0 h1 ⟨rfl, rfl, ?_⟩))
          refine alike_at h h0 h1 (.inl rfl) ?_
          cases a : alikeB es (es.zip ls) r.toNat with
          | true =>
            rw [a, if_pos rfl] at hP
            exact iteT hP
          | false =>
            rw [a, if_neg (by decide)] at hP
            refine iteF ?_
            obtain ⟨i, rfl⟩ : ∃ i : Nat, r = (i : Int) := ⟨r.toNat, by omega⟩
            rw [Int.toNat_natCast] at hP
            refine room_ok h hb (by omega) ?_
            show if (!okB bs ls i b) = true then P (.str "room") else P .none
            cases o : okB bs ls i b with
            | true => rw [o, if_pos rfl] at hP; exact iteF hP
            | false => rw [o, if_neg (by decide)] at hP; exact iteT hP
      · rw [if_neg (by simp [h1])] at hP
        rw [decide_eq_true h0, decide_eq_false h1]
        exact iteT (iteT hP)
    · rw [if_neg (by simp [h0])] at hP
      rw [decide_eq_false h0]
      exact iteF hP
  show pre_is_tuple_of [.val d, .val (.int 2)] fun x => onB x fun c => if (!c) = true then P (.str "form") else m_deed_error_1_1 { nx := fun _ => P .none, rt := P } [.val (webD n es bs), .val (.tuple (ls.map PyData.int)), .val d, .non, .non, .non, .non, .non]
  refine tuple_of_ok ?_
  match d, hP, hin with
  | .tuple [x, y], hP, hin =>
    show (if (!decide ((([x, y].length : Nat) : Int) = 2)) = true then P (.str "form") else m_deed_error_1_1 { nx := fun _ => P .none, rt := P } [.val (webD n es bs), .val (.tuple (ls.map PyData.int)), .val (.tuple [x, y]), .non, .non, .non, .non, .non])
    rw [show decide ((([x, y].length : Nat) : Int) = 2) = true from rfl]
    refine iteF ?_
    refine ⟨rfl, rfl, ?_⟩
    refine integer_ok (d := x) (P := fun z => onB z fun c => if (!c) = true then (if true = true then P (.str "form") else m_deed_error_1_3 { nx := fun _ => P .none, rt := P } [.val (webD n es bs), .val (.tuple (ls.map PyData.int)), .val (.tuple [x, y]), .val x, .val y, .non, .non, .non]) else pre_is_integer [.val y] fun z => onB z fun c => if (!c) = true then P (.str "form") else m_deed_error_1_3 { nx := fun _ => P .none, rt := P } [.val (webD n es bs), .val (.tuple (ls.map PyData.int)), .val (.tuple [x, y]), .val x, .val y, .non, .non, .non]) ?_
    cases hx : isI x && !isB x with
    | false =>
      have e : P (.str "form") := by cases x <;> first | exact hP | cases hx
      exact e
    | true =>
      obtain ⟨r, rfl⟩ := isIB hx
      refine integer_ok (d := y) (P := fun z => onB z fun c => if (!c) = true then P (.str "form") else m_deed_error_1_3 { nx := fun _ => P .none, rt := P } [.val (webD n es bs), .val (.tuple (ls.map PyData.int)), .val (.tuple [.int r, y]), .val (.int r), .val y, .non, .non, .non]) ?_
      cases hy : isI y && !isB y with
      | false =>
        have e : P (.str "form") := by cases y <;> first | exact hP | cases hy
        exact e
      | true =>
        obtain ⟨b, rfl⟩ := isIB hy
        exact hin r b hP
  | .tuple [], hP, _ => exact hP
  | .tuple [x], hP, _ =>
    have e : deedD es bs ls (.tuple [x]) = .str "form" := by cases x <;> rfl
    rw [e] at hP
    exact hP
  | .tuple (x :: y :: z :: r), hP, _ =>
    have e : deedD es bs ls (.tuple (x :: y :: z :: r)) = .str "form" := by cases x <;> cases y <;> rfl
    rw [e] at hP
    have q : decide ((((x :: y :: z :: r).length : Nat) : Int) = 2) = false := decide_eq_false (by simp only [List.length_cons]; omega)
    show if (!decide ((((x :: y :: z :: r).length : Nat) : Int) = 2)) = true then P (.str "form") else m_deed_error_1_1 { nx := fun _ => P .none, rt := P } [.val (webD n es bs), .val (.tuple (ls.map PyData.int)), .val (.tuple (x :: y :: z :: r)), .non, .non, .non, .non, .non]
    rw [q]
    exact iteT hP
  | .none, hP, _ => exact hP
  | .bool _, hP, _ => exact hP
  | .int _, hP, _ => exact hP
  | .str _, hP, _ => exact hP
  | .list _, hP, _ => exact hP
  | .dict _, hP, _ => exact hP

theorem form_of {d : PyData} (h : ∀ r b : Int, d ≠ .tuple [.int r, .int b]) : deedD es bs ls d = .str "form" := by
  unfold deedD
  split
  · exact absurd rfl (h _ _)
  · rfl
end
/-! ### things -/
theorem mem_cutD {xs : List PyData} {l u : Option Int} {x : PyData} (h : x ∈ Dw.cutD xs l u) : x ∈ xs := by
  unfold Dw.cutD at h
  exact List.mem_of_mem_drop (List.mem_of_mem_take h)
structure WG (n : Int) (es : List (Int × Int)) (bs ls : List Int) : Prop where
  n2 : 2 ≤ n
  n9 : n ≤ 100
  sh : Sh n es
  e1 : 1 ≤ es.length
  e9 : es.length ≤ 100
  bl : bs.length = es.length
  ll : ls.length = es.length
  bb : ∀ b ∈ bs, 1 ≤ b ∧ b ≤ 1000
  lb : ∀ l ∈ ls, 0 ≤ l ∧ l ≤ 1000
theorem WG.of {size room load n : Int} {es : List (Int × Int)} {bs ls : List Int} (h : Wb size room load n es bs) (st : St bs ls) (s : size ≤ 100) (r : room ≤ 100) (l : load ≤ 1000) : WG n es bs ls where
  n2 := h.n2
  n9 := by have := h.ns; omega
  sh := h.sh
  e1 := h.e1
  e9 := by have := h.er; omega
  bl := h.bl
  ll := st.len.trans h.bl
  bb := fun b hb => by have := h.bb b hb; omega
  lb := fun y hy => by
    obtain ⟨i, hi, rfl⟩ := List.getElem_of_mem hy
    have hb : i < bs.length := by rw [← st.len]; exact hi
    have q := st.bd i hb
    rw [getD_at hi, getD_at hb] at q
    have := h.bb _ (List.getElem_mem hb)
    omega
section
variable {n : Int} {es : List (Int × Int)} {bs ls : List Int} {P : PyData → Prop}
theorem web_sz (h : WG n es bs ls) : Sz 500 5 (webD n es bs) := by
  have n2 := h.n2
  have n9 := h.n9
  have e9 := h.e9
  have bl := h.bl
  refine (Sz.tuple (SzL.cons ((Sz.intS (i := n) (by omega) (by omega)).mono (Nat.le_refl _) (by decide : 1 ≤ 3)) (SzL.cons (Sz.tuple (SzL.prs fun p hp => ?_)) (SzL.cons ((Sz.tuple (SzL.ints (ns := bs) fun i hi => ?_)).mono (Nat.le_refl _) (by decide : 2 ≤ 3)) SzL.nil)))).mono (by omega) (by decide)
  · have := h.sh.lt p hp
    omega
  · have := h.bb i hi
    omega
theorem st_items (h : WG n es bs ls) : ∀ x ∈ ls.map PyData.int, Sz 0 1 x := fun x hx => by
  obtain ⟨i, hi, rfl⟩ := List.mem_map.mp hx
  have := h.lb i hi
  exact Sz.intS (by omega) (by omega)
theorem tup_sz {w e : Nat} {ds : List PyData} (h : ∀ x ∈ ds, Sz w e x) (hl : ds.length ≤ 200) (hw : w ≤ 4) (he : e ≤ 6) : Sz 1000 8 (.tuple ds) :=
  (Sz.tuple (SzL.all h)).mono (by
    have : (w + 1) * ds.length ≤ 5 * 200 := Nat.mul_le_mul (by omega) hl
    omega) (by omega)
theorem lst_sz {w e : Nat} {ds : List PyData} (h : ∀ x ∈ ds, Sz w e x) (hl : ds.length ≤ 200) (hw : w ≤ 4) (he : e ≤ 6) : Sz 1000 8 (.list ds) :=
  (Sz.list (SzL.all h)).mono (by
    have : (w + 1) * ds.length ≤ 5 * 200 := Nat.mul_le_mul (by omega) hl
    omega) (by omega)
theorem cut_len {xs : List PyData} {l u : Option Int} : (Dw.cutD xs l u).length ≤ xs.length := by
  unfold Dw.cutD
  rw [List.length_take, List.length_drop]
  omega
theorem pw30 : (10 : Int) ^ (30 : Int).toNat = 1000000000000000000000000000000 := by decide
end
theorem aN {Q : PyData → Prop} : ∀ d ∈ ([] : List PyData), Q d := fun d hd => by cases hd
theorem aC {Q : PyData → Prop} {x : PyData} {l : List PyData} (h : Q x) (r : ∀ d ∈ l, Q d) : ∀ d ∈ x :: l, Q d := fun d hd => by
  rcases List.mem_cons.mp hd with e | e
  · rw [e]; exact h
  · exact r d e
theorem aA {Q : PyData → Prop} {a b : List PyData} (h : ∀ d ∈ a, Q d) (r : ∀ d ∈ b, Q d) : ∀ d ∈ a ++ b, Q d := fun d hd => by
  rcases List.mem_append.mp hd with e | e
  · exact h d e
  · exact r d e
section
variable {P : PyData → Prop}
theorem pick_ok {ds : List PyData} {P : PyData → Prop} (h1 : 1 ≤ ds.length) (h2 : ds.length ≤ 100000) (h : ∀ d ∈ ds, P d) : pre_law_pick [.well, .val (.list ds)] P := by
  refine ⟨(ds.length : Nat), rfl, by omega, by omega, fun r r0 r1 => ?_⟩
  show atD ds r P
  unfold atD atI
  rw [ixN_of r0 r1]
  have hr : r.toNat < ds.length := by omega
  show (match ds[r.toNat]? with | some d => P d | none => False)
  rw [List.getElem?_eq_getElem hr]
  exact h _ (List.getElem_mem hr)
end
/-! ### a deed done -/
theorem TS_cons (p : (Int × Int) × Int) (zs : List ((Int × Int) × Int)) (x : Int) : TS' (p :: zs) x = gS x p + TS' zs x := by
  unfold TS'
  rw [List.map_cons, List.sum_cons]
theorem TS_set : ∀ {es : List (Int × Int)} {ls : List Int} {r : Nat} (v x : Int), ls.length = es.length → r < es.length →
    TS' (es.zip (ls.set r v)) x = TS' (es.zip ls) x + (if (es.getD r (0, 0)).1 = x ∨ (es.getD r (0, 0)).2 = x then v - ls.getD r 0 else 0)
  | [], _, _, _, _, _, h => by simp at h
  | _ :: _, [], _, _, _, h, _ => by simp at h
  | p :: es, l :: ls, 0, v, x, hl, _ => by
    show TS' ((p, v) :: es.zip ls) x = TS' ((p, l) :: es.zip ls) x + (if p.1 = x ∨ p.2 = x then v - l else 0)
    rw [TS_cons, TS_cons]
    unfold gS
    split <;> (first | omega | (simp only; omega))
  | p :: es, l :: ls, r + 1, v, x, hl, hr => by
    show TS' ((p, l) :: es.zip (ls.set r v)) x = TS' ((p, l) :: es.zip ls) x + (if (es.getD r (0, 0)).1 = x ∨ (es.getD r (0, 0)).2 = x then v - ls.getD r 0 else 0)
    rw [TS_cons, TS_cons, TS_set v x (by simpa using hl) (by simpa using hr)]
    omega
def upL (ls : List Int) (r : Nat) (b : Int) : List Int := ls.set r (ls.getD r 0 + b)
theorem upL_len {ls : List Int} {r : Nat} {b : Int} : (upL ls r b).length = ls.length := by unfold upL; rw [List.length_set]
theorem upL_at {ls : List Int} {r : Nat} {b : Int} (h : r < ls.length) : (upL ls r b).getD r 0 = ls.getD r 0 + b := by
  unfold upL
  rw [getD_set h, if_pos rfl]
theorem upL_back {ls : List Int} {r : Nat} {b : Int} (h : r < ls.length) : upL (upL ls r b) r (-b) = ls := by
  show (upL ls r b).set r ((upL ls r b).getD r 0 + -b) = ls
  rw [upL_at h]
  unfold upL
  rw [List.set_set, show ls.getD r 0 + b + -b = ls.getD r 0 by omega, getD_at h]
  exact List.set_getElem_self h
section
variable {n : Int} {es : List (Int × Int)} {bs ls : List Int} {r : Nat} {b : Int} {P : PyData → Prop}
theorem alike_up (h : WS n es ls) (hr : r < es.length) : alikeB es (es.zip (upL ls r b)) r = alikeB es (es.zip ls) r := by
  unfold alikeB upL
  rw [TS_set _ _ h.len hr, TS_set _ _ h.len hr, if_pos (.inl rfl), if_pos (.inr rfl)]
  rw [Bool.eq_iff_iff]
  simp only [decide_eq_true_eq]
  omega
theorem ws_up (h : WS n es ls) : WS n es (upL ls r b) := ⟨h.n2, h.n9, h.sh, by rw [upL_len]; exact h.len, h.e9⟩
theorem cutA {xs : List PyData} {k : Nat} (h : k ≤ xs.length) : Dw.cutD xs none (some ((k : Nat) : Int)) = xs.take k := by
  unfold Dw.cutD
  rw [HT.sIx_none, show HT.sIx xs.length xs.length (some ((k : Nat) : Int)) = min k xs.length from HT.sIx_nat _ _ k]
  rw [List.drop_zero]
  congr 1
  omega
theorem cutB {xs : List PyData} {k : Nat} (h : k ≤ xs.length) : Dw.cutD xs (some ((k : Nat) : Int)) none = xs.drop k := by
  unfold Dw.cutD
  rw [HT.sIx_none, show HT.sIx xs.length 0 (some ((k : Nat) : Int)) = min k xs.length from HT.sIx_nat _ _ k, Nat.min_eq_left h]
  rw [List.take_of_length_le]
  rw [List.length_drop]
  exact Nat.le_refl _
/-- the slices put together -/
theorem parts_ok (hr : r < ls.length) (hl : ls.length ≤ 1000) (hP : P (.tuple ((upL ls r b).map PyData.int))) :
    fIx (.tuple (ls.map PyData.int)) (.int (r : Nat)) fun v => fAddA v (.int b) fun u => fAddA (.tuple (Dw.cutD (ls.map PyData.int) none (some ((r : Nat) : Int)))) (.tuple [u]) fun t => fAddA t (.tuple (Dw.cutD (ls.map PyData.int) (some (((r : Nat) : Int) + 1)) none)) P := by
  have hm : (ls.map PyData.int).length = ls.length := List.length_map ..
  have e2 : (((r : Nat) : Int) + 1) = ((r + 1 : Nat) : Int) := by omega
  rw [cutA (by omega), e2, cutB (by omega)]
  refine ixI (by omega) (by omega) ?_
  rw [Int.toNat_natCast]
  refine ⟨by rw [List.length_take]; show min r _ + 1 ≤ _; omega, ⟨by rw [List.length_append, List.length_take, List.length_drop]; show min r _ + 1 + _ ≤ _; omega, ?_⟩⟩
  have e3 : (upL ls r b).map PyData.int = (ls.map PyData.int).take r ++ [.int (ls.getD r 0 + b)] ++ (ls.map PyData.int).drop (r + 1) := by
    unfold upL
    rw [List.map_set, List.set_eq_take_append_cons_drop, if_pos (by omega), List.append_assoc]
    rfl
  rw [← e3]
  exact hP
theorem behind_ok (hr : r < ls.length) (hl : ls.length ≤ 1000) (hP : P (.tuple ((upL ls r b).map PyData.int))) : pre_law_behind [.val (.tuple (ls.map PyData.int)), .val (.tuple [.int (r : Nat), .int b])] P := by
  have hm : (ls.map PyData.int).length = ls.length := List.length_map ..
  have e2 : (((r : Nat) : Int) + 1) = ((r + 1 : Nat) : Int) := by omega
  have k := parts_ok hr hl hP
  rw [cutA (by omega), e2, cutB (by omega)] at k
  have g : (fIx (.tuple (ls.map PyData.int)) (.int (r : Nat)) fun v => fAddA v (.int b) fun u => fAddA (.tuple (Dw.cutD (ls.map PyData.int) none (some ((r : Nat) : Int)))) (.tuple [u]) fun t => fAddA t (.tuple (Dw.cutD (ls.map PyData.int) (some (((r : Nat) : Int) + 1)) none)) P) → pre_law_behind [.val (.tuple (ls.map PyData.int)), .val (.tuple [.int (r : Nat), .int b])] P := fun q => q
  exact g (parts_ok hr hl hP)
end
section
variable {n : Int} {es : List (Int × Int)} {bs ls : List Int} {P : PyData → Prop} {XP : Str → Prop} {d : PyData}
theorem none_in {r b : Int} (h : deedIn es bs ls r b = .none) : 0 ≤ r ∧ r < es.length ∧ (b = 1 ∨ b = -1) ∧ alikeB es (es.zip ls) r.toNat = false ∧ okB bs ls r.toNat b = true := by
  unfold deedIn at h
  by_cases h1 : (decide (0 ≤ r) && decide (r < es.length)) = true
  · rw [if_pos h1] at h
    simp only [Bool.and_eq_true, decide_eq_true_eq] at h1
    by_cases h2 : (decide (b = 1) || decide (b = -1)) = true
    · rw [if_pos h2] at h
      simp only [Bool.or_eq_true, decide_eq_true_eq] at h2
      cases h3 : alikeB es (es.zip ls) r.toNat with
      | true => rw [h3, if_pos rfl] at h; cases h
      | false =>
        rw [h3, if_neg (by decide)] at h
        cases h4 : okB bs ls r.toNat b with
        | true => exact ⟨h1.1, h1.2, h2, rfl, rfl⟩
        | false => rw [h4, if_neg (by decide)] at h; cases h
    · rw [if_neg h2] at h; cases h
  · rw [if_neg h1] at h; cases h
theorem in_none {r : Nat} {b : Int} (h1 : r < es.length) (h2 : b = 1 ∨ b = -1) (h3 : alikeB es (es.zip ls) r = false) (h4 : okB bs ls r b = true) : deedIn es bs ls (r : Int) b = .none := by
  unfold deedIn
  rw [if_pos (by simp only [Bool.and_eq_true, decide_eq_true_eq]; omega), if_pos (by simp only [Bool.or_eq_true, decide_eq_true_eq]; exact h2), Int.toNat_natCast, h3, if_neg (by decide), h4, if_pos rfl]
theorem none_deed (h : deedD es bs ls d = .none) : ∃ (r : Nat) (b : Int), d = .tuple [.int (r : Nat), .int b] ∧ r < es.length ∧ (b = 1 ∨ b = -1) ∧ alikeB es (es.zip ls) r = false ∧ okB bs ls r b = true := by
  unfold deedD at h
  split at h
  · rename_i r b
    obtain ⟨h0, h1, h2, h3, h4⟩ := none_in h
    exact ⟨r.toNat, b, by rw [Int.toNat_of_nonneg h0], by omega, h2, h3, h4⟩
  · cases h
/-- what done tells: the standing, or nothing -/
def doneL (es : List (Int × Int)) (bs ls : List Int) (d : PyData) : Option (List Int) := match d with
  | .tuple [.int r, .int b] => if isN (deedIn es bs ls r b) = true then some (upL ls r.toNat b) else none
  | _ => none
theorem doneL_at {r : Nat} {b : Int} (h : deedIn es bs ls (r : Int) b = .none) : doneL es bs ls (.tuple [.int (r : Nat), .int b]) = some (upL ls r b) := by
  show (if isN (deedIn es bs ls (r : Nat) b) = true then some (upL ls ((r : Nat) : Int).toNat b) else none) = _
  rw [h, Int.toNat_natCast]
  rfl
theorem isN_eq {e : PyData} (h : isN e = true) : e = .none := by
  cases e <;> first | rfl | cases h
theorem doneL_none (h : isN (deedD es bs ls d) = false) : doneL es bs ls d = none := by
  unfold doneL
  split
  · rename_i r b
    rw [show deedIn es bs ls r b = deedD es bs ls (.tuple [.int r, .int b]) from rfl, h]
    rfl
  · rfl
theorem done_frame {q_deed_error : Pre} {D : DX} {M : MEnds} (C : ∀ Q : PyData → Prop, Q (deedD es bs ls d) → q_deed_error [.val (webD n es bs), .val (.tuple (ls.map PyData.int)), .val d] Q) (hl : ls.length = es.length) (e9 : es.length ≤ 1000)
    (hP : ∀ l, doneL es bs ls d = some l → M.rt (.tuple (l.map PyData.int))) (hX : doneL es bs ls d = none → ∀ env, D "Unfit" env) : m_done_1_0 q_deed_error D M [.val (webD n es bs), .val (.tuple (ls.map PyData.int)), .val d, .non, .non] := by
  refine C _ ?_
  show if (!isN (deedD es bs ls d)) = true then D "Unfit" [.val (webD n es bs), .val (.tuple (ls.map PyData.int)), .val d, .non, .non] else m_done_1_1 q_deed_error D M [.val (webD n es bs), .val (.tuple (ls.map PyData.int)), .val d, .non, .non]
  cases q : isN (deedD es bs ls d) with
  | false => exact iteT (hX (doneL_none q) _)
  | true =>
    refine iteF ?_
    obtain ⟨r, b, rfl, h1, h2, h3, h4⟩ := none_deed (isN_eq q)
    have k := hP _ (doneL_at (in_none h1 h2 h3 h4))
    exact ⟨rfl, rfl, parts_ok (by omega) (by omega) k⟩
theorem done_ok (h : WS n es ls) (hb : bs.length = es.length) (hP : ∀ l, doneL es bs ls d = some l → P (.tuple (l.map PyData.int))) (hX : doneL es bs ls d = none → XP "Unfit") : pre_done [.val (webD n es bs), .val (.tuple (ls.map PyData.int)), .val d] P XP :=
  done_frame (D := fun x _ => XP x) (M := { nx := fun _ => P .none, rt := P }) (fun Q hQ => deed_error_ok h hb hQ) h.len h.e9 hP fun e _ => hX e
theorem let_mem {r : Nat} {b : Int} (hr : r < es.length) (hb : b = 1 ∨ b = -1) (hu : unB es (es.zip ls) r = true) (ho : okB bs ls r b = true) : ((r : Int), b) ∈ letL es bs ls := by
  unfold letL
  refine List.mem_flatMap.mpr ⟨r, List.mem_filter.mpr ⟨List.mem_range.mpr hr, hu⟩, ?_⟩
  unfold letOf
  refine List.mem_map.mpr ⟨b, List.mem_filter.mpr ⟨?_, ho⟩, rfl⟩
  rcases hb with rfl | rfl
  · exact List.mem_cons_of_mem _ (List.mem_singleton.mpr rfl)
  · exact List.mem_cons_self
theorem mem_let {p : Int × Int} (hp : p ∈ letL es bs ls) : ∃ r : Nat, p.1 = (r : Int) ∧ r < es.length ∧ (p.2 = 1 ∨ p.2 = -1) ∧ unB es (es.zip ls) r = true ∧ okB bs ls r p.2 = true := by
  unfold letL at hp
  obtain ⟨r, h1, h2⟩ := List.mem_flatMap.mp hp
  obtain ⟨h3, h4⟩ := List.mem_filter.mp h1
  unfold letOf at h2
  obtain ⟨b, h5, rfl⟩ := List.mem_map.mp h2
  obtain ⟨h6, h7⟩ := List.mem_filter.mp h5
  refine ⟨r, rfl, List.mem_range.mp h3, ?_, h4, h7⟩
  simp only [List.mem_cons, List.not_mem_nil, or_false] at h6
  exact h6.symm
theorem un_alike {r : Nat} : unB es (es.zip ls) r = !alikeB es (es.zip ls) r := rfl
theorem letLen (es : List (Int × Int)) (bs ls : List Int) : ∀ is : List Nat, (is.flatMap (letOf bs ls)).length ≤ 2 * is.length
  | [] => Nat.le_refl _
  | i :: r => by
    rw [List.flatMap_cons, List.length_append, List.length_cons]
    have a := letOf_len bs ls i
    have b := letLen es bs ls r
    omega
end
/-! ### ways -/
def stD (l : List Int) : PyData := .tuple (l.map PyData.int)
def goL (es : List (Int × Int)) (bs : List Int) : List Int → List PyData → Option (List (List Int))
  | _, [] => some []
  | ls, d :: ds => match doneL es bs ls d with
    | some l => (goL es bs l ds).map (l :: ·)
    | none => none
def alongD (es : List (Int × Int)) (bs ls : List Int) : PyData → Option (List (List Int))
  | .tuple ds => (goL es bs ls ds).map (ls :: ·)
  | _ => none
theorem atD_nat {xs : List PyData} {k : Nat} {P : PyData → Prop} (h : k < xs.length) (hP : P xs[k]) : atD xs (k : Int) P := by
  unfold atD atI
  rw [ixN_of (by omega) (by omega), Int.toNat_natCast]
  show (match xs[k]? with | some d => P d | none => False)
  rw [List.getElem?_eq_getElem h]
  exact hP
theorem atD_neg {xs : List PyData} {x : PyData} {P : PyData → Prop} (hP : P x) : atD (xs ++ [x]) (-1) P := by
  unfold atD atI
  have e : ixN (xs ++ [x]).length (-1) = some xs.length := by
    unfold ixN
    rw [if_neg (by decide), List.length_append]
    show (if _ then _ else _) = _
    rw [if_pos (by simp; omega)]
    congr 1
    simp
    try omega
  rw [e]
  show (match (xs ++ [x])[xs.length]? with | some d => P d | none => False)
  rw [List.getElem?_append_right (Nat.le_refl _), Nat.sub_self]
  exact hP
theorem atD_last {xs : List PyData} {P : PyData → Prop} (h : xs ≠ []) (hP : P (xs.getLast h)) : atD xs (-1) P := by
  have := atD_neg (xs := xs.dropLast) hP
  rw [List.dropLast_concat_getLast h] at this
  exact this
section
variable {n : Int} {es : List (Int × Int)} {bs ls : List Int} {P : PyData → Prop} {XP : Str → Prop} {d : PyData} {q_done q_end_of q_standings_along : PreX} {q_deed_error : Pre} {D : DX} {M : MEnds}
theorem doneL_ex {l : List Int} (h : doneL es bs ls d = some l) : ∃ (r : Nat) (b : Int), d = .tuple [.int (r : Nat), .int b] ∧ deedIn es bs ls (r : Int) b = .none ∧ l = upL ls r b := by
  unfold doneL at h
  split at h
  · rename_i r b
    split at h
    · rename_i e
      cases h
      obtain ⟨h0, _⟩ := none_in (isN_eq e)
      exact ⟨r.toNat, b, by rw [Int.toNat_of_nonneg h0], by rw [Int.toNat_of_nonneg h0]; exact isN_eq e, rfl⟩
    · cases h
  · cases h
theorem doneL_ws {l : List Int} (ws : WS n es ls) (h : doneL es bs ls d = some l) : WS n es l := by
  obtain ⟨r, b, _, _, rfl⟩ := doneL_ex h
  exact ws_up ws
structure QDone (q_done : PreX) (n : Int) (es : List (Int × Int)) (bs : List Int) : Prop where
  ok : ∀ (ls : List Int) (d : PyData) (Q : PyData → Prop) (X : Str → Prop), WS n es ls → (∀ l, doneL es bs ls d = some l → Q (stD l)) → (doneL es bs ls d = none → X "Unfit") → q_done [.val (webD n es bs), .val (stD ls), .val d] Q X
theorem along_loop (C : QDone q_done n es bs) {s t : PyData} : ∀ (ds : List PyData) (acc : List (List Int)) (ls : List Int) (c4 : Cell), WS n es ls → acc.length + 1 + ds.length ≤ 1000 →
    (∀ rows c4, goL es bs ls ds = some rows → M.nx [.val (webD n es bs), .val s, .val t, .own ((acc ++ ls :: rows).map stD), c4]) → (goL es bs ls ds = none → ∀ env, D "Unfit" env) →
    forGo (mgName 4) (mApp 3 (mCallX D q_done (mcCons (mVar 0) (mcCons (m2 fIx (mVarB 3) (m1 fNeg (mC (.int 1)))) (mcCons (mVar 4) mcNil))))) M ds [.val (webD n es bs), .val s, .val t, .own ((acc ++ [ls]).map stD), c4]
  | [], acc, ls, c4, ws, hl, h1, h2 => h1 [] c4 rfl
  | d :: ds, acc, ls, c4, ws, hl, h1, h2 => by
    show ((acc ++ [ls]).map stD).length < 100000 ∧ atD ((acc ++ [ls]).map stD) (-1) fun y => q_done [.val (webD n es bs), .val y, .val d] (fun u => forGo (mgName 4) (mApp 3 (mCallX D q_done (mcCons (mVar 0) (mcCons (m2 fIx (mVarB 3) (m1 fNeg (mC (.int 1)))) (mcCons (mVar 4) mcNil))))) M ds [.val (webD n es bs), .val s, .val t, .own ((acc ++ [ls]).map stD ++ [u]), .val d]) fun x => D x [.val (webD n es bs), .val s, .val t, .own ((acc ++ [ls]).map stD), .val d]
    rw [List.length_cons] at hl
    refine ⟨by rw [List.length_map, List.length_append]; show acc.length + 1 < _; omega, ?_⟩
    have e : (acc ++ [ls]).map stD = acc.map stD ++ [stD ls] := by rw [List.map_append]; rfl
    rw [e]
    refine atD_neg ?_
    rw [← e]
    refine C.ok ls d _ _ ws (fun l hd => ?_) fun hd => h2 (by show (match doneL es bs ls d with | some l => (goL es bs l ds).map (l :: ·) | none => none) = none; rw [hd]) _
    have e2 : (acc ++ [ls]).map stD ++ [stD l] = ((acc ++ [ls]) ++ [l]).map stD := by rw [List.map_append (l₁ := acc ++ [ls])]; rfl
    rw [e2]
    have gd : goL es bs ls (d :: ds) = (goL es bs l ds).map (l :: ·) := by
      show (match doneL es bs ls d with | some l => (goL es bs l ds).map (l :: ·) | none => none) = _
      rw [hd]
    refine along_loop C ds (acc ++ [ls]) l (.val d) (doneL_ws ws hd) (by rw [List.length_append]; show acc.length + 1 + 1 + _ ≤ _; omega) (fun rows c4 hr => ?_) fun hn => ?_
    · rw [List.append_assoc]
      exact h1 (l :: rows) c4 (by rw [gd, hr]; rfl)
    · exact h2 (by rw [gd, hn]; rfl)
theorem along_frame (C : QDone q_done n es bs) {t : PyData} (ws : WS n es ls) (hl : ∀ ds, t = .tuple ds → ds.length ≤ 900)
    (hP : ∀ rows, alongD es bs ls t = some rows → M.rt (.tuple (rows.map stD))) (hX : alongD es bs ls t = none → ∀ env, D "Unfit" env) : (m_standings_along_1_0 q_done) D M [.val (webD n es bs), .val (stD ls), .val t, .non, .non] := by
  have bad : (∀ env, D "Unfit" env) → (if true = true then D "Unfit" [.val (webD n es bs), .val (stD ls), .val t, .non, .non] else (m_standings_along_1_1 q_done) D M [.val (webD n es bs), .val (stD ls), .val t, .non, .non]) := fun h => iteT (h _)
  cases t with
  | tuple ds =>
    refine (iteF ?_ : if false = true then D "Unfit" [.val (webD n es bs), .val (stD ls), .val (.tuple ds), .non, .non] else (m_standings_along_1_1 q_done) D M [.val (webD n es bs), .val (stD ls), .val (.tuple ds), .non, .non])
    have hl := hl ds rfl
    refine along_loop (M := { M with nx := fun e => (mRet (mBl fTuple (mCons (mVarB 3) mNil))) M e }) C ds [] ls .non ws (by show 0 + 1 + ds.length ≤ 1000; omega) (fun rows c4 hr => ?_) fun hn => hX ?_
    · exact hP (ls :: rows) (by show (goL es bs ls ds).map (ls :: ·) = _; rw [hr]; rfl)
    · show (goL es bs ls ds).map (ls :: ·) = _
      rw [hn]
      rfl
  | none => exact bad (hX rfl)
  | bool b => exact bad (hX rfl)
  | int i => exact bad (hX rfl)
  | str x => exact bad (hX rfl)
  | list xs => exact bad (hX rfl)
  | dict xs => exact bad (hX rfl)
structure QAlong (q_standings_along : PreX) (n : Int) (es : List (Int × Int)) (bs : List Int) : Prop where
  ok : ∀ (ls : List Int) (t : PyData) (Q : PyData → Prop) (X : Str → Prop), WS n es ls → (∀ ds, t = .tuple ds → ds.length ≤ 900) → (∀ rows, alongD es bs ls t = some rows → Q (.tuple (rows.map stD))) → (alongD es bs ls t = none → X "Unfit") → q_standings_along [.val (webD n es bs), .val (stD ls), .val t] Q X
theorem alongD_ne {t : PyData} {rows : List (List Int)} (h : alongD es bs ls t = some rows) : ∃ rs, rows = ls :: rs := by
  cases t with
  | tuple ds =>
    have h : (goL es bs ls ds).map (ls :: ·) = some rows := h
    cases q : goL es bs ls ds with
    | none => rw [q] at h; cases h
    | some rs => rw [q] at h; cases h; exact ⟨rs, rfl⟩
  | _ => cases h
def lastL (rows : List (List Int)) : List Int := rows.getLastD []
theorem lastD_at {rows : List (List Int)} {Q : PyData → Prop} (h : rows ≠ []) (hQ : Q (stD (lastL rows))) : atD (rows.map stD) (-1) Q := by
  have h1 : rows.map stD ≠ [] := by cases rows; exact absurd rfl h; exact List.cons_ne_nil _ _
  refine atD_last h1 ?_
  rw [List.getLast_map]
  unfold lastL at hQ
  rw [List.getLastD_eq_getLast?, List.getLast?_eq_some_getLast h] at hQ
  exact hQ
theorem end_ok (C : QAlong q_standings_along n es bs) {t : PyData} (ws : WS n es ls) (hl : ∀ ds, t = .tuple ds → ds.length ≤ 900) {Q : PyData → Prop} {X : Str → Prop}
    (hP : ∀ rows, alongD es bs ls t = some rows → Q (stD (lastL rows))) (hX : alongD es bs ls t = none → X "Unfit") :
    (mRet (m2 fIx (mCallX (fun x _ => X x) q_standings_along (mcCons (mVar 0) (mcCons (mVar 1) (mcCons (mVar 2) mcNil)))) (m1 fNeg (mC (.int 1))))) { nx := fun _ => Q .none, rt := Q } [.val (webD n es bs), .val (stD ls), .val t] := by
  refine C.ok ls t _ _ ws hl (fun rows hr => ?_) hX
  obtain ⟨rs, rfl⟩ := alongD_ne hr
  exact lastD_at (List.cons_ne_nil _ _) (hP _ hr)
/-! ### a way without an error -/
structure QErr (q_deed_error : Pre) (n : Int) (es : List (Int × Int)) (bs : List Int) : Prop where
  ok : ∀ (ls : List Int) (d : PyData) (Q : PyData → Prop), WS n es ls → Q (deedD es bs ls d) → q_deed_error [.val (webD n es bs), .val (stD ls), .val d] Q
end
theorem qdone {n : Int} {es : List (Int × Int)} {bs : List Int} (hb : bs.length = es.length) : QDone pre_done n es bs := ⟨fun ls d Q X ws h1 h2 => done_ok ws hb h1 h2⟩
theorem qerr {n : Int} {es : List (Int × Int)} {bs : List Int} (hb : bs.length = es.length) : QErr pre_deed_error n es bs := ⟨fun ls d Q ws h => deed_error_ok ws hb h⟩
theorem qalong {n : Int} {es : List (Int × Int)} {bs : List Int} (hb : bs.length = es.length) : QAlong pre_standings_along n es bs :=
  ⟨fun ls t Q X ws hl h1 h2 => along_frame (D := fun x _ => X x) (M := { nx := fun _ => Q .none, rt := Q }) (qdone hb) ws hl h1 fun e _ => h2 e⟩
/-! ### a way walked -/
section
variable {n : Int} {es : List (Int × Int)} {bs ls : List Int} {d : PyData} {q_law_behind q_law_draw q_law_let q_law_pick : Pre} {M : MEnds}
theorem lastL_cons {a b : List Int} {r : List (List Int)} : lastL (a :: b :: r) = lastL (b :: r) := by
  unfold lastL
  simp [List.getLastD]
theorem lastL_one {a : List Int} : lastL [a] = a := rfl
theorem lastL_snoc {rs : List (List Int)} {l : List Int} : lastL (ls :: (rs ++ [l])) = l := by
  unfold lastL
  simp [List.getLastD_eq_getLast?, List.getLast?_cons]
theorem lastL_mem {rs : List (List Int)} : lastL (ls :: rs) ∈ ls :: rs := by
  unfold lastL
  rw [List.getLastD_eq_getLast?, List.getLast?_eq_some_getLast (List.cons_ne_nil _ _)]
  exact List.getLast_mem _
theorem goL_cons {ds : List PyData} : goL es bs ls (d :: ds) = (match doneL es bs ls d with | some l => (goL es bs l ds).map (l :: ·) | none => none) := rfl
theorem goL_ex {ds : List PyData} {rs : List (List Int)} (h : goL es bs ls (d :: ds) = some rs) : ∃ l rs', doneL es bs ls d = some l ∧ goL es bs l ds = some rs' ∧ rs = l :: rs' := by
  rw [goL_cons] at h
  cases q : doneL es bs ls d with
  | none => rw [q] at h; cases h
  | some l =>
    rw [q] at h
    cases q2 : goL es bs l ds with
    | none => simp only [q2] at h; cases h
    | some rs' => simp only [q2] at h; cases h; exact ⟨l, rs', rfl, q2, rfl⟩
theorem goL_snoc : ∀ {ds : List PyData} {ls : List Int} {rs : List (List Int)}, goL es bs ls ds = some rs → goL es bs ls (ds ++ [d]) = (doneL es bs (lastL (ls :: rs)) d).map fun l => rs ++ [l]
  | [], ls, rs, h => by
    cases h
    rw [List.nil_append, goL_cons, lastL_one]
    cases doneL es bs ls d <;> rfl
  | d0 :: ds, ls, rs, h => by
    obtain ⟨l, rs', h1, h2, rfl⟩ := goL_ex h
    rw [List.cons_append, goL_cons, h1, lastL_cons]
    simp only
    rw [goL_snoc h2]
    cases doneL es bs (lastL (l :: rs')) d <;> rfl
theorem goL_len : ∀ {ds : List PyData} {ls : List Int} {rs : List (List Int)}, goL es bs ls ds = some rs → rs.length = ds.length
  | [], ls, rs, h => by cases h; rfl
  | d0 :: ds, ls, rs, h => by
    obtain ⟨l, rs', h1, h2, rfl⟩ := goL_ex h
    rw [List.length_cons, List.length_cons, goL_len h2]
theorem goL_drop : ∀ {k : Nat} {ds : List PyData} {ls : List Int} {rs : List (List Int)}, goL es bs ls ds = some rs → k ≤ ds.length → goL es bs ((ls :: rs).getD k []) (ds.drop k) = some (rs.drop k)
  | 0, ds, ls, rs, h, _ => h
  | k + 1, [], ls, rs, h, hk => by simp at hk
  | k + 1, d0 :: ds, ls, rs, h, hk => by
    obtain ⟨l, rs', h1, h2, rfl⟩ := goL_ex h
    show goL es bs ((l :: rs').getD k []) (ds.drop k) = some (rs'.drop k)
    exact goL_drop h2 (by simpa using hk)
theorem goL_take : ∀ {k : Nat} {ds : List PyData} {ls : List Int} {rs : List (List Int)}, goL es bs ls ds = some rs → goL es bs ls (ds.take k) = some (rs.take k)
  | 0, ds, ls, rs, h => rfl
  | k + 1, [], ls, rs, h => by cases h; rfl
  | k + 1, d0 :: ds, ls, rs, h => by
    obtain ⟨l, rs', h1, h2, rfl⟩ := goL_ex h
    show goL es bs ls (d0 :: ds.take k) = some (l :: rs'.take k)
    rw [goL_cons, h1]
    simp only
    rw [goL_take h2]
    rfl
theorem last_take : ∀ {k : Nat} {ls : List Int} {rs : List (List Int)}, k ≤ rs.length → lastL (ls :: rs.take k) = (ls :: rs).getD k []
  | 0, ls, rs, _ => rfl
  | k + 1, ls, [], h => by simp at h
  | k + 1, ls, r :: rs, h => by
    show lastL (ls :: r :: rs.take k) = (r :: rs).getD k []
    rw [lastL_cons]
    exact last_take (by simpa using h)
theorem last_drop : ∀ {k : Nat} {ls : List Int} {rs : List (List Int)}, k ≤ rs.length → lastL ((ls :: rs).getD k [] :: rs.drop k) = lastL (ls :: rs)
  | 0, ls, rs, _ => rfl
  | k + 1, ls, [], h => by simp at h
  | k + 1, ls, r :: rs, h => by
    show lastL ((r :: rs).getD k [] :: rs.drop k) = lastL (ls :: r :: rs)
    rw [lastL_cons]
    exact last_drop (by simpa using h)
theorem drop_rows : ∀ {k : Nat} {ls : List Int} {rs : List (List Int)}, k ≤ rs.length → (ls :: rs).drop k = (ls :: rs).getD k [] :: rs.drop k
  | 0, ls, rs, _ => rfl
  | k + 1, ls, [], h => by simp at h
  | k + 1, ls, r :: rs, h => by
    show (r :: rs).drop k = (r :: rs).getD k [] :: rs.drop k
    exact drop_rows (by simpa using h)
theorem up_st {l : List Int} {r : Nat} {b : Int} (st : St bs l) (ho : okB bs l r b = true) (hr : r < bs.length) : St bs (upL l r b) where
  len := by rw [upL_len]; exact st.len
  bd := fun i hi => by
    have hl := st.len
    unfold okB at ho
    simp only [Bool.and_eq_true, decide_eq_true_eq] at ho
    have := st.bd i hi
    unfold upL
    rw [getD_set (by omega)]
    split
    · rename_i e
      subst e
      exact ho
    · exact this
structure Walk (n : Int) (es : List (Int × Int)) (bs ls : List Int) (ps : List (Int × Int)) (rs : List (List Int)) : Prop where
  go : goL es bs ls (ps.map Dw.prD) = some rs
  st : ∀ l ∈ ls :: rs, St bs l
  pb : ∀ p ∈ ps, 0 ≤ p.1 ∧ p.1 < es.length ∧ (p.2 = 1 ∨ p.2 = -1)
  bk : ∀ p, ps.getLast? = some p → deedIn es bs (lastL (ls :: rs)) p.1 (-p.2) = .none
theorem Walk.start (st : St bs ls) : Walk n es bs ls [] [] := ⟨rfl, fun l h => by rw [List.mem_singleton.mp h]; exact st, fun p h => absurd h (by simp), fun p h => absurd h (by simp)⟩
theorem ws_of (g : WG n es bs ls) {l : List Int} (st : St bs l) : WS n es l := ⟨g.n2, g.n9, g.sh, by rw [st.len]; exact g.bl, by have := g.e9; omega⟩
theorem Walk.snoc (g : WG n es bs ls) {ps : List (Int × Int)} {rs : List (List Int)} (w : Walk n es bs ls ps rs) {r b : Int} (hd : deedIn es bs (lastL (ls :: rs)) r b = .none) : Walk n es bs ls (ps ++ [(r, b)]) (rs ++ [upL (lastL (ls :: rs)) r.toNat b]) := by
  obtain ⟨h0, h1, h2, h3, h4⟩ := none_in hd
  have bl := g.bl
  have stl := w.st _ lastL_mem
  have len := stl.len
  have hr : r.toNat < es.length := by omega
  have hb2 : -b = 1 ∨ -b = -1 := by omega
  have st2 := up_st stl h4 (by omega)
  have hdn : doneL es bs (lastL (ls :: rs)) (.tuple [.int r, .int b]) = some (upL (lastL (ls :: rs)) r.toNat b) := by
    show (if isN (deedIn es bs (lastL (ls :: rs)) r b) = true then _ else _) = _
    rw [hd]
    rfl
  refine ⟨?_, fun l hl => ?_, fun p hp => ?_, fun p hp => ?_⟩
  · rw [List.map_append]
    show goL es bs ls (ps.map Dw.prD ++ [.tuple [.int r, .int b]]) = _
    rw [goL_snoc w.go, hdn]
    rfl
  · rw [← List.cons_append] at hl
    rcases List.mem_append.mp hl with q | q
    · exact w.st l q
    · rw [List.mem_singleton.mp q]
      exact st2
  · rcases List.mem_append.mp hp with q | q
    · exact w.pb p q
    · rw [List.mem_singleton.mp q]
      exact ⟨h0, h1, h2⟩
  · rw [List.getLast?_append, List.getLast?_singleton] at hp
    cases hp
    rw [lastL_snoc]
    have k := in_none (bs := bs) (ls := upL (lastL (ls :: rs)) r.toNat b) (r := r.toNat) (b := -b) hr hb2 (by rw [alike_up (ws_of g stl) hr]; exact h3) (by
      have bd := stl.bd r.toNat (by omega)
      unfold okB at h4 ⊢
      rw [upL_at (by rw [len]; omega)]
      simp only [Bool.and_eq_true, decide_eq_true_eq] at h4 ⊢
      omega)
    rw [Int.toNat_of_nonneg h0] at k
    exact k
end
section
variable {n : Int} {es : List (Int × Int)} {bs ls : List Int} {q_law_behind q_law_draw q_law_let q_law_pick : Pre} {M : MEnds}
structure QWalk (q_law_behind q_law_draw q_law_let q_law_pick : Pre) : Prop where
  be : ∀ (P : PyData → Prop) (ls : List Int) (r : Nat) (b : Int), r < ls.length → ls.length ≤ 1000 → P (stD (upL ls r b)) → q_law_behind [.val (stD ls), .val (.tuple [.int (r : Nat), .int b])] P
  dr : ∀ (k : Int) (P : PyData → Prop), 0 < k → k < 1073741824 → (∀ r : Int, 0 ≤ r → r < k → P (.int r)) → q_law_draw [.well, .val (.int k)] P
  lt : ∀ (P : PyData → Prop) (n : Int) (es : List (Int × Int)) (bs ls : List Int), WS n es ls → bs.length = es.length → P (.list ((letL es bs ls).map Dw.prD)) → q_law_let [.val (webD n es bs), .val (stD ls)] P
  pk : ∀ (ds : List PyData) (P : PyData → Prop), 1 ≤ ds.length → ds.length ≤ 100000 → (∀ d ∈ ds, P d) → q_law_pick [.well, .val (.list ds)] P
abbrev eW (n : Int) (es : List (Int × Int)) (bs ls : List Int) (most : Int) (ps : List (Int × Int)) (rs : List (List Int)) (c6 c7 c8 : Cell) : Cells := [.well, .val (webD n es bs), .val (stD ls), .val (.int most), .own (ps.map Dw.prD), .own ((ls :: rs).map stD), c6, c7, c8]
theorem lastA_at {rs : List (List Int)} {Q : PyData → Prop} (hQ : Q (stD (lastL (ls :: rs)))) : atD ((ls :: rs).map stD) (-1) Q := lastD_at (List.cons_ne_nil _ _) hQ
theorem lastP_at {ps : List (Int × Int)} {p : Int × Int} {Q : PyData → Prop} (hp : ps.getLast? = some p) (hQ : Q (Dw.prD p)) : atD (ps.map Dw.prD) (-1) Q := by
  have h : ps ≠ [] := by rintro rfl; cases hp
  have h1 : ps.map Dw.prD ≠ [] := by cases ps; exact absurd rfl h; exact List.cons_ne_nil _ _
  refine atD_last h1 ?_
  rw [List.getLast_map]
  rw [List.getLast?_eq_some_getLast h] at hp
  cases hp
  exact hQ
theorem walk_app (C : QWalk q_law_behind q_law_draw q_law_let q_law_pick) (g : WG n es bs ls) {most r b : Int} {ps : List (Int × Int)} {rs : List (List Int)} (w : Walk n es bs ls ps rs) (hl : ps.length ≤ 900) {c6 c7 : Cell} (hd : deedIn es bs (lastL (ls :: rs)) r b = .none)
    (hN : ∀ (ps' : List (Int × Int)) (rs' : List (List Int)) (c8 : Cell), Walk n es bs ls ps' rs' → ps'.length ≤ ps.length + 1 → M.nx (eW n es bs ls most ps' rs' c6 c7 c8)) :
    m_law_walk_1_2 q_law_behind q_law_draw q_law_let q_law_pick M (eW n es bs ls most ps rs c6 c7 (.val (Dw.prD (r, b)))) := by
  have rl := goL_len w.go
  rw [List.length_map] at rl
  obtain ⟨h0, h1, h2, h3, h4⟩ := none_in hd
  have stl := w.st _ lastL_mem
  have len := stl.len
  have bl := g.bl
  have e9 := g.e9
  show (ps.map Dw.prD).length < 100000 ∧ (((ls :: rs).map stD).length < 100000 ∧ atD ((ls :: rs).map stD) (-1) fun y => q_law_behind [.val y, .val (.tuple [.int r, .int b])] fun u => M.nx [.well, .val (webD n es bs), .val (stD ls), .val (.int most), .own (ps.map Dw.prD ++ [Dw.prD (r, b)]), .own ((ls :: rs).map stD ++ [u]), c6, c7, .val (Dw.prD (r, b))])
  refine ⟨by rw [List.length_map]; omega, by rw [List.length_map, List.length_cons]; omega, lastA_at ?_⟩
  have k := C.be (fun u => M.nx [.well, .val (webD n es bs), .val (stD ls), .val (.int most), .own (ps.map Dw.prD ++ [Dw.prD (r, b)]), .own ((ls :: rs).map stD ++ [u]), c6, c7, .val (Dw.prD (r, b))]) (lastL (ls :: rs)) r.toNat b (by omega) (by omega)
  rw [Int.toNat_of_nonneg h0] at k
  refine k ?_
  have q := hN (ps ++ [(r, b)]) (rs ++ [upL (lastL (ls :: rs)) r.toNat b]) (.val (Dw.prD (r, b))) (w.snoc g hd) (by rw [List.length_append]; exact Nat.le_refl _)
  unfold eW at q
  rw [List.map_append, ← List.cons_append, List.map_append (f := stD)] at q
  exact q
theorem walk_back (C : QWalk q_law_behind q_law_draw q_law_let q_law_pick) (g : WG n es bs ls) {most r b : Int} {ps : List (Int × Int)} {rs : List (List Int)} (w : Walk n es bs ls ps rs) (hl : ps.length ≤ 900) {c6 c7 : Cell} (hd : deedIn es bs (lastL (ls :: rs)) r b = .none)
    (hN : ∀ (ps' : List (Int × Int)) (rs' : List (List Int)) (c8 : Cell), Walk n es bs ls ps' rs' → ps'.length ≤ ps.length + 1 → M.nx (eW n es bs ls most ps' rs' c6 c7 c8)) :
    m_law_walk_1_1 q_law_behind q_law_draw q_law_let q_law_pick M (eW n es bs ls most ps rs c6 c7 (.val (Dw.prD (r, b)))) := by
  have one := walk_app C g w hl hd hN
  show fNe (.list (ps.map Dw.prD)) (.list []) fun u => onB u fun c => if c = true then (q_law_draw [.well, .val (.int 5)] fun x => fEq x (.int 0) fun z => onB z fun c2 => if c2 = true then (atD (ps.map Dw.prD) (-1) fun p => fIx p (.int 0) fun a => atD (ps.map Dw.prD) (-1) fun p => fIx p (.int 1) fun v => fNeg v fun b' => m_law_walk_1_2 q_law_behind q_law_draw q_law_let q_law_pick M (eW n es bs ls most ps rs c6 c7 (.val (.tuple [a, b'])))) else m_law_walk_1_2 q_law_behind q_law_draw q_law_let q_law_pick M (eW n es bs ls most ps rs c6 c7 (.val (Dw.prD (r, b))))) else (if false = true then (atD (ps.map Dw.prD) (-1) fun p => fIx p (.int 0) fun a => atD (ps.map Dw.prD) (-1) fun p => fIx p (.int 1) fun v => fNeg v fun b' => m_law_walk_1_2 q_law_behind q_law_draw q_law_let q_law_pick M (eW n es bs ls most ps rs c6 c7 (.val (.tuple [a, b'])))) else m_law_walk_1_2 q_law_behind q_law_draw q_law_let q_law_pick M (eW n es bs ls most ps rs c6 c7 (.val (Dw.prD (r, b)))))
  refine ⟨prs_shaped _, rfl, ?_⟩
  cases q : ps.getLast? with
  | none =>
    have e : ps = [] := List.getLast?_eq_none_iff.mp q
    subst e
    have e0 : PyData.eqv (.list (List.map Dw.prD [])) (.list []) = true := by simp [PyData.eqv, PyData.eqvAll]
    refine onB_at false (by rw [e0]; rfl) ?_
    exact iteF (iteF one)
  | some p =>
    have e0 : PyData.eqv (.list (List.map Dw.prD ps)) (.list []) = false := by
      cases ps
      · cases q
      · simp [PyData.eqv, PyData.eqvAll]
    refine onB_at true (by rw [e0]; rfl) ?_
    refine iteT (C.dr 5 _ (by decide) (by decide) fun x _ _ => ⟨rfl, rfl, ?_⟩)
    have two := walk_app C g w hl (w.bk p q) hN
    show if PyData.eqv (.int x) (.int 0) = true then _ else _
    by_cases z : PyData.eqv (.int x) (.int 0) = true
    · rw [if_pos z]
      exact lastP_at q (lastP_at q two)
    · rw [if_neg z]
      exact one
theorem deed_let {l : List Int} {p : Int × Int} (hp : p ∈ letL es bs l) : deedIn es bs l p.1 p.2 = .none := by
  obtain ⟨r, e1, hr, hb, hu, ho⟩ := mem_let hp
  rw [e1]
  rw [un_alike] at hu
  exact in_none hr hb (by simpa using hu) ho
theorem walk_turn (C : QWalk q_law_behind q_law_draw q_law_let q_law_pick) (g : WG n es bs ls) {most : Int} {ps : List (Int × Int)} {rs : List (List Int)} (w : Walk n es bs ls ps rs) (hl : ps.length ≤ 900) {c6 c7 c8 : Cell}
    (hN : ∀ (ps' : List (Int × Int)) (rs' : List (List Int)) (c7 c8 : Cell), Walk n es bs ls ps' rs' → ps'.length ≤ ps.length + 1 → M.nx (eW n es bs ls most ps' rs' c6 c7 c8)) :
    m_law_walk_2_0 q_law_behind q_law_draw q_law_let q_law_pick M (eW n es bs ls most ps rs c6 c7 c8) := by
  have stl := w.st _ lastL_mem
  have e9 := g.e9
  show atD ((ls :: rs).map stD) (-1) fun y => q_law_let [.val (webD n es bs), .val y] fun u => fNe u (.list []) fun v => onB v fun c => if c = true then m_law_walk_1_0 q_law_behind q_law_draw q_law_let q_law_pick M (eW n es bs ls most ps rs c6 (.val u) c8) else M.nx (eW n es bs ls most ps rs c6 (.val u) c8)
  refine lastA_at (C.lt _ n es bs _ (ws_of g stl) g.bl ⟨prs_shaped _, rfl, ?_⟩)
  have two : letL es bs (lastL (ls :: rs)) ≠ [] → m_law_walk_1_0 q_law_behind q_law_draw q_law_let q_law_pick M (eW n es bs ls most ps rs c6 (.val (.list ((letL es bs (lastL (ls :: rs))).map Dw.prD))) c8) := by
    intro ne
    refine C.pk _ _ (by rw [List.length_map]; cases q : letL es bs (lastL (ls :: rs)) with
      | nil => exact absurd q ne
      | cons _ _ => simp) ?_ fun d hd => ?_
    · rw [List.length_map]
      have : (letL es bs (lastL (ls :: rs))).length ≤ 2 * (List.range es.length).length := by
        unfold letL
        refine Nat.le_trans (letLen es bs _ _) (Nat.mul_le_mul_left 2 (List.length_filter_le _ _))
      rw [List.length_range] at this
      omega
    · obtain ⟨p, hp, rfl⟩ := List.mem_map.mp hd
      exact walk_back C g w hl (deed_let hp) fun ps' rs' c8 h1 h2 => hN ps' rs' _ c8 h1 h2
  cases q : letL es bs (lastL (ls :: rs)) with
  | nil =>
    have e0 : PyData.eqv (.list (List.map Dw.prD [])) (.list []) = true := by simp [PyData.eqv, PyData.eqvAll]
    refine onB_at false (by rw [e0]; rfl) ?_
    exact iteF (hN ps rs _ _ w (Nat.le_succ _))
  | cons p rest =>
    rw [q] at two
    have e0 : PyData.eqv (.list (List.map Dw.prD (p :: rest))) (.list []) = false := by simp [PyData.eqv, PyData.eqvAll]
    refine onB_at true (by rw [e0]; rfl) ?_
    exact iteT (two (List.cons_ne_nil _ _))
theorem walk_frame (C : QWalk q_law_behind q_law_draw q_law_let q_law_pick) (g : WG n es bs ls) (st : St bs ls) {most : Int} (m0 : 0 ≤ most) (m1 : most ≤ 500)
    (hM : ∀ (ps : List (Int × Int)) (rs : List (List Int)), Walk n es bs ls ps rs → (ps.length : Int) ≤ most → M.rt (.tuple [.tuple (ps.map Dw.prD), .tuple ((ls :: rs).map stD)])) :
    m_law_walk_3_0 q_law_behind q_law_draw q_law_let q_law_pick M [.well, .val (webD n es bs), .val (stD ls), .val (.int most), .non, .non, .non, .non, .non] := by
  refine C.dr _ _ (by omega) (by omega) fun k k0 k1 => ⟨⟨by omega, by omega⟩, ?_⟩
  refine forGo_inv (fun i e => ∃ (ps : List (Int × Int)) (rs : List (List Int)) (c6 c7 c8 : Cell), e = eW n es bs ls most ps rs c6 c7 c8 ∧ Walk n es bs ls ps rs ∧ ps.length ≤ i) ?_ ?_ ⟨[], [], _, _, _, rfl, Walk.start st, Nat.le_refl _⟩
  · rintro i hi env N ⟨ps, rs, c6, c7, c8, rfl, w, hl⟩ hN
    rw [rangeD_at hi]
    rw [rangeD_length] at hi
    exact walk_turn (M := { nx := N, rt := M.rt, bk := _, ct := N }) C g w (by omega) fun ps' rs' c7 c8 h1 h2 => hN _ ⟨ps', rs', _, c7, c8, rfl, h1, by omega⟩
  · rintro e ⟨ps, rs, c6, c7, c8, rfl, w, hl⟩
    rw [rangeD_length] at hl
    exact hM ps rs w (by omega)
end
theorem qwalk : QWalk pre_law_behind pre_law_draw pre_law_let pre_law_pick := ⟨fun P ls r b h1 h2 h => behind_ok h1 h2 h, fun k P h0 h1 h => ⟨k, rfl, h0, h1, h⟩, fun P n es bs ls ws hb h => law_let_ok ws hb h, fun ds P h1 h2 h => pick_ok h1 h2 h⟩
/-! ### ways there and back -/
structure Wk (es : List (Int × Int)) (bs ls : List Int) (ps : List (Int × Int)) (rs : List (List Int)) : Prop where
  go : goL es bs ls (ps.map Dw.prD) = some rs
  st : ∀ l ∈ ls :: rs, St bs l
  pb : ∀ p ∈ ps, 0 ≤ p.1 ∧ p.1 < es.length ∧ (p.2 = 1 ∨ p.2 = -1)
section
variable {n : Int} {es : List (Int × Int)} {bs ls x : List Int} {ps ps' : List (Int × Int)} {rs rs' : List (List Int)}
theorem Walk.wk (w : Walk n es bs ls ps rs) : Wk es bs ls ps rs := ⟨w.go, w.st, w.pb⟩
theorem Wk.len (w : Wk es bs ls ps rs) : rs.length = ps.length := by
  have := goL_len w.go
  rwa [List.length_map] at this
theorem goL_app : ∀ {ds es' : List PyData} {ls : List Int} {rs rs' : List (List Int)}, goL es bs ls ds = some rs → goL es bs (lastL (ls :: rs)) es' = some rs' → goL es bs ls (ds ++ es') = some (rs ++ rs')
  | [], es', ls, rs, rs', h, h' => by
    cases (Option.some.inj h : [] = rs)
    exact h'
  | d :: ds, es', ls, rs, rs', h, h' => by
    obtain ⟨l, rs2, h1, h2, rfl⟩ := goL_ex h
    rw [lastL_cons] at h'
    have ih := goL_app h2 h'
    rw [List.cons_append, goL_cons, h1]
    show (goL es bs l (ds ++ es')).map _ = _
    rw [ih]
    rfl
theorem Wk.app (w : Wk es bs ls ps rs) (w' : Wk es bs (lastL (ls :: rs)) ps' rs') : Wk es bs ls (ps ++ ps') (rs ++ rs') where
  go := by rw [List.map_append]; exact goL_app w.go w'.go
  st := fun l hl => by
    rw [← List.cons_append] at hl
    rcases List.mem_append.mp hl with h | h
    · exact w.st l h
    · exact w'.st l (List.mem_cons_of_mem _ h)
  pb := fun p hp => (List.mem_append.mp hp).elim (w.pb p) (w'.pb p)
theorem Wk.take (w : Wk es bs ls ps rs) (k : Nat) : Wk es bs ls (ps.take k) (rs.take k) where
  go := by rw [List.map_take]; exact goL_take w.go
  st := fun l hl => by
    rcases List.mem_cons.mp hl with rfl | h
    · exact w.st _ List.mem_cons_self
    · exact w.st l (List.mem_cons_of_mem _ (List.mem_of_mem_take h))
  pb := fun p hp => w.pb p (List.mem_of_mem_take hp)
def con (p : Int × Int) : Int × Int := (p.1, -p.2)
def backP (ps : List (Int × Int)) : List (Int × Int) := ps.reverse.map con
theorem doneL_back (g : WG n es bs x) (st : St bs ls) {p : Int × Int} {l : List Int} (h : doneL es bs ls (Dw.prD p) = some l) : doneL es bs l (Dw.prD (con p)) = some ls := by
  obtain ⟨r, b, e, hd, rfl⟩ := doneL_ex h
  have e1 : p.1 = (r : Int) ∧ p.2 = b := by
    unfold Dw.prD at e
    injection e with e
    injection e with e1 e2
    injection e2 with e2 _
    injection e1 with e1
    injection e2 with e2
    exact ⟨e1, e2⟩
  obtain ⟨h0, h1, h2, h3, h4⟩ := none_in hd
  rw [Int.toNat_natCast] at h3 h4
  have len := st.len
  have bl := g.bl
  have hr : r < es.length := by omega
  have k := in_none (bs := bs) (ls := upL ls r b) (r := r) (b := -b) hr (by omega) (by rw [alike_up (ws_of g st) hr]; exact h3) (by
    have bd := st.bd r (by omega)
    unfold okB at h4 ⊢
    rw [upL_at (by rw [len]; omega)]
    simp only [Bool.and_eq_true, decide_eq_true_eq] at h4 ⊢
    omega)
  show doneL es bs (upL ls r b) (.tuple [.int p.1, .int (-p.2)]) = some ls
  rw [e1.1, e1.2, doneL_at k, upL_back (by omega)]
theorem rev_last {l : List Int} {rs : List (List Int)} : lastL (lastL (l :: rs) :: (l :: rs).reverse.tail) = l := by
  have e : lastL (l :: rs) :: (l :: rs).reverse.tail = (l :: rs).reverse := by
    cases q : (l :: rs).reverse with
    | nil => simp at q
    | cons y ys =>
      have : lastL (l :: rs) = y := by
        unfold lastL
        rw [List.getLastD_eq_getLast?, ← List.head?_reverse, q]
        rfl
      rw [this]
      rfl
  rw [e]
  unfold lastL
  rw [List.getLastD_eq_getLast?, List.getLast?_reverse]
  rfl
theorem Wk.back (g : WG n es bs x) : ∀ {ps : List (Int × Int)} {ls : List Int} {rs : List (List Int)}, Wk es bs ls ps rs → Wk es bs (lastL (ls :: rs)) (backP ps) ((ls :: rs).reverse.tail)
  | [], ls, rs, w => by
    cases (Option.some.inj w.go : [] = rs)
    exact ⟨rfl, w.st, fun p hp => nomatch hp⟩
  | p :: ps, ls, rs, w => by
    obtain ⟨l, rs2, h1, h2, rfl⟩ := goL_ex w.go
    have w2 : Wk es bs l ps rs2 := ⟨h2, fun y hy => w.st y (List.mem_cons_of_mem _ hy), fun q hq => w.pb q (List.mem_cons_of_mem _ hq)⟩
    have ih := Wk.back g w2
    have one : Wk es bs l [con p] [ls] := ⟨by
      show (match doneL es bs l (Dw.prD (con p)) with | some y => (goL es bs y []).map (y :: ·) | none => none) = _
      rw [doneL_back g (w.st ls List.mem_cons_self) h1]
      rfl, fun y hy => by
      rcases List.mem_cons.mp hy with rfl | hy
      · exact w2.st _ List.mem_cons_self
      · rw [List.mem_singleton.mp hy]; exact w.st ls List.mem_cons_self, fun q hq => by
      rw [List.mem_singleton.mp hq]
      have := w.pb p List.mem_cons_self
      show 0 ≤ p.1 ∧ p.1 < es.length ∧ (-p.2 = 1 ∨ -p.2 = -1)
      omega⟩
    have all := ih.app (ps' := [con p]) (rs' := [ls]) (by rw [rev_last]; exact one)
    have e1 : backP (p :: ps) = backP ps ++ [con p] := by unfold backP; rw [List.reverse_cons, List.map_append]; rfl
    have e2 : (ls :: l :: rs2).reverse.tail = (l :: rs2).reverse.tail ++ [ls] := by
      rw [List.reverse_cons]
      cases q : (l :: rs2).reverse with
      | nil => simp at q
      | cons y ys => rfl
    rw [lastL_cons, e1, e2]
    exact all
/-- there, back, and there again a part -/
theorem Wk.again (g : WG n es bs x) (w : Wk es bs ls ps rs) (k : Nat) : Wk es bs ls (ps ++ backP ps ++ ps.take k) (rs ++ (ls :: rs).reverse.tail ++ rs.take k) := by
  have a := w.app (w.back g)
  refine a.app ?_
  have e : lastL (ls :: (rs ++ (ls :: rs).reverse.tail)) = ls := by
    have : ls :: (rs ++ (ls :: rs).reverse.tail) = (ls :: rs) ++ (ls :: rs).reverse.tail := rfl
    rw [this]
    cases q : (ls :: rs).reverse.tail with
    | nil =>
      rw [List.append_nil]
      have : (ls :: rs).reverse.length ≤ 1 := by
        cases z : (ls :: rs).reverse with
        | nil => simp
        | cons y ys => rw [z] at q; cases (q : ys = []); simp
      rw [List.length_reverse, List.length_cons] at this
      have : rs = [] := List.eq_nil_of_length_eq_zero (by omega)
      subst this
      rfl
    | cons y ys =>
      have h := rev_last (l := ls) (rs := rs)
      rw [q] at h
      rw [lastL_cons] at h
      unfold lastL at h ⊢
      rw [List.getLastD_eq_getLast?, List.getLast?_eq_some_getLast (List.cons_ne_nil _ _)] at h
      rw [List.getLastD_eq_getLast?, List.getLast?_append, List.getLast?_eq_some_getLast (List.cons_ne_nil y ys)]
      exact h
  rw [e]
  exact w.take k
end
/-! ### roads trodden -/
def cnt (ps : List (Int × Int)) (q : Int × Int) : Int := ((ps.countP fun p => decide (p = q) : Nat) : Int)
def rwD (q : Int × Int × Int) : PyData := .tuple [.int q.1, .int q.2.1, .int q.2.2]
def troL (ps : List (Int × Int)) (ms : List Int) : List (Int × Int × Int) := ms.map fun r => (r, cnt ps (r, 1), cnt ps (r, -1))
structure Rds (ps : List (Int × Int)) (ms : List Int) : Prop where
  up : ms.Pairwise (· < ·)
  mem : ∀ k, k ∈ ms ↔ k ∈ ps.map Prod.fst
theorem Rds.one {ps : List (Int × Int)} {ms ns : List Int} (h : Rds ps ms) (h' : Rds ps ns) : ms = ns := by
  have nd : ∀ {l : List Int}, l.Pairwise (· < ·) → l.Nodup := fun h => h.imp fun q e => by omega
  have pe : ms.Perm ns := (List.perm_ext_iff_of_nodup (nd h.up) (nd h'.up)).mpr fun k => (h.mem k).trans (h'.mem k).symm
  exact List.Perm.eq_of_pairwise (le := fun a b : Int => a < b) (fun a b _ _ x y => by omega) h.up h'.up pe
theorem eqv_prD (p q : Int × Int) : PyData.eqv (Dw.prD p) (Dw.prD q) = decide (p = q) := by
  obtain ⟨a, b⟩ := p
  obtain ⟨c, d⟩ := q
  show PyData.eqv (.tuple [.int a, .int b]) (.tuple [.int c, .int d]) = _
  simp only [PyData.eqv, PyData.eqvAll, Bool.and_true]
  have e1 := eqv_int a c
  have e2 := eqv_int b d
  simp only [PyData.eqv] at e1 e2
  rw [e1, e2]
  by_cases h1 : a = c <;> by_cases h2 : b = d <;> simp [h1, h2]
theorem prs_nd : ∀ ps : List (Int × Int), PyData.hasDictAll (ps.map Dw.prD) = false
  | [] => by simp [PyData.hasDictAll]
  | p :: ps => by
    have ih := prs_nd ps
    rw [List.map_cons]
    simp [Dw.prD, PyData.hasDictAll, PyData.hasDict, ih]
theorem prs_pl : ∀ ps : List (Int × Int), PyData.plainAll (ps.map Dw.prD) = true
  | [] => by simp [PyData.plainAll]
  | p :: ps => by
    have ih := prs_pl ps
    rw [List.map_cons]
    simp [Dw.prD, PyData.plainAll, PyData.plain, ih]
theorem cnt_at (ps : List (Int × Int)) (q : Int × Int) : (((ps.map Dw.prD).countP fun y => PyData.eqv y (Dw.prD q) : Nat) : Int) = cnt ps q := by
  unfold cnt
  rw [List.countP_map]
  congr 2
  funext p
  exact eqv_prD p q
theorem scGo_prs {ps : List (Int × Int)} : ∀ {acc : List Int} {W c1 : Cell} {P : List Int → Prop}, P (acc ++ ps.map Prod.fst) → scGo (mgTup 2 (mgCons (mgName 2) (mgCons (mgName 3) mgNil))) mYes (mVar 2) [W, c1, .non, .non] (ps.map Dw.prD) acc P := by
  induction ps with
  | nil => intro acc W c1 P h; rw [List.map_nil, List.append_nil] at h; exact h
  | cons p ps ih =>
    intro acc W c1 P h
    refine ⟨rfl, rfl, ?_⟩
    refine ih ?_
    rw [List.append_assoc]
    exact h
theorem turned_ok {P : PyData → Prop} {ps : List (Int × Int)} (hl : ps.length ≤ 900) (hP : P (.tuple ((backP ps).map Dw.prD))) : pre_turned [.val (.tuple (ps.map Dw.prD))] P := by
  have len : (ps.map Dw.prD).reverse.length = (backP ps).length := by simp [backP]
  show (ps.map Dw.prD).reverse.length ≤ 100000 ∧ lcGo (mgTup 2 (mgCons (mgName 1) (mgCons (mgName 2) mgNil))) mYes (mTup (mCons (mVar 1) (mCons (m1 fNeg (mVarB 2)) mNil))) [.val (.tuple (ps.map Dw.prD)), .non, .non] (ps.map Dw.prD).reverse fun ys => P (.tuple ys)
  refine ⟨by simp; omega, lcGo_at (rs := (backP ps).map Dw.prD) (by rw [List.length_map, len]) (fun i h1 h2 Y hY => ?_) hP⟩
  have hi : i < ps.reverse.length := by simpa using h1
  have e1 : (ps.map Dw.prD).reverse[i] = Dw.prD (ps.reverse[i]) := by simp [List.getElem_reverse]
  have e2 : ((backP ps).map Dw.prD)[i] = Dw.prD (con (ps.reverse[i])) := by simp [backP]
  rw [e2] at hY
  rw [e1]
  exact ⟨rfl, rfl, hY⟩
theorem rds_few {ps : List (Int × Int)} {ms : List Int} (h : Rds ps ms) : ms.length ≤ ps.length := by
  have nd : ms.Nodup := h.up.imp fun q e => by omega
  have := List.Nodup.length_le_of_subset nd (fun k hk => (h.mem k).mp hk)
  rwa [List.length_map] at this
theorem trodden_ok {P : PyData → Prop} {ps : List (Int × Int)} (hl : ps.length ≤ 60) (hP : ∀ ms, Rds ps ms → P (.tuple ((troL ps ms).map rwD))) : pre_trodden [.val (.tuple (ps.map Dw.prD))] P := by
  show (ps.map Dw.prD).length ≤ 60 ∧ scGo (mgTup 2 (mgCons (mgName 2) (mgCons (mgName 3) mgNil))) mYes (mVar 2) [.val (.tuple (ps.map Dw.prD)), .non, .non, .non] (ps.map Dw.prD) [] fun ns => ∀ ms : List Int, ms.Pairwise (· < ·) → (∀ k, k ∈ ms ↔ k ∈ ns) →
    ((ms.map PyData.int).length ≤ 100000 ∧ lcGo (mgName 2) mYes (mTup (mCons (mVar 2) (mCons (mTCnt (mVar 0) (mTup (mCons (mVar 2) (mCons (mC (.int 1)) mNil)))) (mCons (mTCnt (mVar 0) (mTup (mCons (mVar 2) (mCons (m1 fNeg (mC (.int 1))) mNil)))) mNil)))) [.val (.tuple (ps.map Dw.prD)), .val (.list (ms.map PyData.int)), .non, .non] (ms.map PyData.int) fun ys => P (.tuple ys))
  refine ⟨by rw [List.length_map]; exact hl, scGo_prs fun ms up mem => ?_⟩
  rw [List.nil_append] at mem
  have rd : Rds ps ms := ⟨up, mem⟩
  have few := rds_few rd
  refine ⟨by rw [List.length_map]; omega, lcGo_at (rs := (troL ps ms).map rwD) (by simp [troL]) (fun i h1 h2 Y hY => ?_) (hP ms rd)⟩
  have hi : i < ms.length := by simpa using h1
  have e1 : (ms.map PyData.int)[i] = .int (ms[i]) := by simp
  have e2 : ((troL ps ms).map rwD)[i] = .tuple [.int ms[i], .int (cnt ps (ms[i], 1)), .int (cnt ps (ms[i], -1))] := by simp [troL, rwD]
  rw [e2] at hY
  rw [e1]
  generalize ms[i] = r at hY
  have dp : ∀ b : Int, (Dw.prD (r, b)).depth ≤ 40 := fun b => Nat.le_trans (prD_depth2 _) (by decide)
  have nd : ∀ b : Int, (Dw.prD (r, b)).hasDict = false := fun b => by simp [Dw.prD, PyData.hasDict, PyData.hasDictAll]
  have pl : ∀ b : Int, (Dw.prD (r, b)).plain = true := fun b => by simp [Dw.prD, PyData.plain, PyData.plainAll]
  refine ⟨prs_nd ps, nd 1, prs_pl ps, pl 1, dp 1, prs_nd ps, nd (-1), prs_pl ps, pl (-1), dp (-1), ?_⟩
  show Y (.tuple [.int r, .int (((ps.map Dw.prD).countP fun y => PyData.eqv y (Dw.prD (r, 1)) : Nat) : Int), .int (((ps.map Dw.prD).countP fun y => PyData.eqv y (Dw.prD (r, -1)) : Nat) : Int)])
  rw [cnt_at, cnt_at]
  exact hY
/-! ### roads counted by the law -/
theorem cnt_go {q : Int × Int} {te : ME} {W c1 c2 c3 : Cell} {b : Int} (hc : c2 = .val (.int q.1)) (ht : te = mTup (mCons (mVar 2) (mCons (fun _ P => P (.int b)) mNil))) (hb : b = q.2) : ∀ {ps : List (Int × Int)} {P : List PyData → Prop}, (∀ ys : List PyData, ys.length = (ps.countP fun p => decide (p = q)) → P ys) →
    lcGo (mgName 4) (mB (m2 fEq (mVarB 4) te)) (mC (.int 1)) [W, c1, c2, c3, .non] (ps.map Dw.prD) P
  | [], P, h => h [] rfl
  | p :: ps, P, h => by
    subst hc ht hb
    have ih := fun P => cnt_go (q := q) (W := W) (c1 := c1) (c3 := c3) (te := mTup (mCons (mVar 2) (mCons (fun _ P => P (.int q.2)) mNil))) rfl rfl rfl (ps := ps) (P := P)
    rw [List.map_cons]
    refine ⟨pr_shaped p, pr_shaped q, ?_⟩
    refine onB_at (decide (p = q)) (eqv_prD p q) ?_
    by_cases e : p = q
    · refine iteP (decide_eq_true e) (ih _ fun ys hy => h _ ?_)
      rw [List.countP_cons_of_pos (by simpa using e), List.length_cons, hy]
    · refine iteN (decide_eq_false e) (ih _ fun ys hy => h _ ?_)
      rw [List.countP_cons_of_neg (by simpa using e), hy]
theorem counts_turn {M : MEnds} {ps : List (Int × Int)} {acc : List PyData} {r : Int} {c3 c4 : Cell} (hl : ps.length ≤ 900) (ha : acc.length < 100000)
    (hN : ∀ c3 c4 : Cell, M.nx [.val (.tuple (ps.map Dw.prD)), .own (acc ++ [rwD (r, cnt ps (r, 1), cnt ps (r, -1))]), .val (.int r), c3, c4]) :
    m_law_counts_1_0 M [.val (.tuple (ps.map Dw.prD)), .own acc, .val (.int r), c3, c4] := by
  refine ⟨by rw [List.length_map]; omega, cnt_go (q := (r, 1)) (b := 1) rfl rfl rfl fun ys hy => ⟨ha, ?_⟩⟩
  refine ⟨by rw [List.length_map]; omega, cnt_go (q := (r, -1)) (b := -1) rfl rfl rfl fun zs hz => ?_⟩
  have q := hN (.val (.int (ys.length : Nat))) c4
  show M.nx [.val (.tuple (ps.map Dw.prD)), .own (acc ++ [.tuple [.int r, .int (ys.length : Nat), .int (zs.length : Nat)]]), .val (.int r), .val (.int (ys.length : Nat)), c4]
  have e : rwD (r, cnt ps (r, 1), cnt ps (r, -1)) = .tuple [.int r, .int (ys.length : Nat), .int (zs.length : Nat)] := by
    unfold rwD cnt
    rw [hy, hz]
  rw [e] at q
  exact q
theorem counts_ok {P : PyData → Prop} {ps : List (Int × Int)} (hl : ps.length ≤ 60) (hP : ∀ ms, Rds ps ms → P (.tuple ((troL ps ms).map rwD))) : pre_law_counts [.val (.tuple (ps.map Dw.prD))] P := by
  show (ps.map Dw.prD).length ≤ 100000 ∧ lcGo (mgName 4) mYes (m2 fIx (mVarB 4) (mC (.int 0))) [.val (.tuple (ps.map Dw.prD)), .own [], .non, .non, .non] (ps.map Dw.prD) fun ys => fSortSet [.list ys] fun ds => forGo (mgName 2) m_law_counts_1_0 { nx := fun e => (mRet (mBl fTuple (mCons (mVarB 1) mNil))) { nx := fun _ => P .none, rt := P } e, rt := P } ds [.val (.tuple (ps.map Dw.prD)), .own [], .non, .non, .non]
  refine ⟨by rw [List.length_map]; omega, lcGo_at (rs := (ps.map Prod.fst).map PyData.int) (by simp) (fun i h1 h2 Y hY => ?_) ?_⟩
  · have e1 : (ps.map Dw.prD)[i] = Dw.prD (ps[i]'(by simpa using h1)) := by simp
    have e2 : ((ps.map Prod.fst).map PyData.int)[i] = .int (ps[i]'(by simpa using h1)).1 := by simp
    rw [e2] at hY
    rw [e1]
    exact hY
  · refine ⟨ps.map Prod.fst, rfl, by rw [List.length_map]; exact hl, fun ms up mem => ?_⟩
    have rd : Rds ps ms := ⟨up, mem⟩
    have few := rds_few rd
    refine forGo_inv (fun i e => ∃ c2 c3 c4 : Cell, e = [.val (.tuple (ps.map Dw.prD)), .own ((troL ps (ms.take i)).map rwD), c2, c3, c4]) ?_ ?_ ⟨_, _, _, rfl⟩
    · rintro i hi env N ⟨c2, c3, c4, rfl⟩ hN
      have hi2 : i < ms.length := by simpa using hi
      have e1 : (ms.map PyData.int)[i] = .int (ms[i]) := by simp
      rw [e1]
      refine counts_turn (M := { nx := N, rt := P, bk := _, ct := N }) (by omega) (by simp [troL]; omega) fun c3 c4 => hN _ ⟨.val (.int ms[i]), c3, c4, ?_⟩
      have e2 : (troL ps (ms.take (i + 1))).map rwD = (troL ps (ms.take i)).map rwD ++ [rwD (ms[i], cnt ps (ms[i], 1), cnt ps (ms[i], -1))] := by
        rw [List.take_succ_eq_append_getElem hi2]
        unfold troL
        rw [List.map_append, List.map_append]
        rfl
      rw [e2]
    · rintro e ⟨c2, c3, c4, rfl⟩
      have q := hP ms rd
      rw [List.length_map, List.take_length]
      exact q
/-! ### loads along a way -/
def net (ps : List (Int × Int)) (i : Int) : Int := cnt ps (i, 1) - cnt ps (i, -1)
theorem cnt_nil (q : Int × Int) : cnt [] q = 0 := rfl
theorem cnt_cons (p q : Int × Int) (ps : List (Int × Int)) : cnt (p :: ps) q = cnt ps q + (if p = q then 1 else 0) := by
  unfold cnt
  rw [List.countP_cons]
  by_cases e : p = q <;> simp [e]
theorem last_net {n : Int} {es : List (Int × Int)} {bs : List Int} : ∀ {ps : List (Int × Int)} {ls : List Int} {rs : List (List Int)}, Wk es bs ls ps rs → (lastL (ls :: rs)).length = ls.length ∧ ∀ i : Nat, (lastL (ls :: rs)).getD i 0 = ls.getD i 0 + net ps i
  | [], ls, rs, w => by
    cases (Option.some.inj w.go : [] = rs)
    exact ⟨rfl, fun i => by rw [lastL_one]; unfold net; rw [cnt_nil, cnt_nil]; omega⟩
  | p :: ps, ls, rs, w => by
    obtain ⟨l, rs2, h1, h2, rfl⟩ := goL_ex w.go
    have w2 : Wk es bs l ps rs2 := ⟨h2, fun y hy => w.st y (List.mem_cons_of_mem _ hy), fun q hq => w.pb q (List.mem_cons_of_mem _ hq)⟩
    obtain ⟨a1, a2⟩ := last_net (n := n) w2
    obtain ⟨r, b, e, hd, hl⟩ := doneL_ex h1
    have e1 : p = ((r : Int), b) := by
      obtain ⟨p1, p2⟩ := p
      have e : PyData.tuple [.int p1, .int p2] = .tuple [.int (r : Int), .int b] := e
      injection e with e
      injection e with e1 e2
      injection e2 with e2 _
      injection e1 with e1
      injection e2 with e2
      rw [e1, e2]
    have pb := w.pb p List.mem_cons_self
    have st := w.st ls List.mem_cons_self
    obtain ⟨h0, q1, q2, q3, q4⟩ := none_in hd
    have hlen : l.length = ls.length := by rw [hl, upL_len]
    refine ⟨by rw [lastL_cons, a1, hlen], fun i => ?_⟩
    rw [lastL_cons, a2 i, hl]
    have inb : r < ls.length := by
      have s2 := w2.st l List.mem_cons_self
      by_cases z : r < ls.length
      · exact z
      · exfalso
        unfold okB at q4
        simp only [Bool.and_eq_true, decide_eq_true_eq, Int.toNat_natCast] at q4
        have hz : ls.getD r 0 = 0 := by rw [List.getD_eq_getElem?_getD, List.getElem?_eq_none (by omega)]; rfl
        have hz2 : bs.getD r 0 = 0 := by rw [List.getD_eq_getElem?_getD, List.getElem?_eq_none (by have := st.len; omega)]; rfl
        rw [hz, hz2] at q4
        omega
    unfold upL
    rw [getD_set inb]
    unfold net
    rw [cnt_cons, cnt_cons, e1]
    rw [e1] at pb
    have b1 : b = 1 ∨ b = -1 := pb.2.2
    by_cases z : i = r
    · subst z
      rw [if_pos rfl]
      rcases b1 with rfl | rfl
      · rw [if_pos rfl, if_neg (by rintro h; cases h)]; omega
      · rw [if_neg (by rintro h; cases h), if_pos rfl]; omega
    · have ne : ∀ c : Int, ((r : Int), b) ≠ ((i : Int), c) := fun c h => z (by have := congrArg Prod.fst h; have t : (r : Int) = i := this; omega)
      rw [if_neg z, if_neg (ne _), if_neg (ne _)]
      omega
theorem cnt_zero {ps : List (Int × Int)} {r b : Int} (h : r ∉ ps.map Prod.fst) : cnt ps (r, b) = 0 := by
  unfold cnt
  rw [List.countP_eq_zero.mpr fun p hp => ?_]
  · rfl
  · have ne : p ≠ (r, b) := fun e => h (by rw [e] at hp; exact List.mem_map.mpr ⟨_, hp, rfl⟩)
    simp [ne]
/-! ### a way back -/
theorem back_back (ps : List (Int × Int)) : backP (backP ps) = ps := by
  unfold backP
  rw [← List.map_reverse, List.reverse_reverse, List.map_map]
  have e : con ∘ con = id := by
    funext p
    show (p.1, - -p.2) = p
    rw [Int.neg_neg]
  rw [e, List.map_id]
theorem cnt_back (ps : List (Int × Int)) (r b : Int) : cnt (backP ps) (r, b) = cnt ps (r, -b) := by
  unfold cnt backP
  rw [List.countP_map, List.countP_reverse]
  congr 2
  funext p
  obtain ⟨x, y⟩ := p
  show decide ((x, -y) = (r, b)) = decide ((x, y) = (r, -b))
  by_cases h1 : x = r
  · by_cases h2 : y = -b
    · subst h1 h2
      simp
    · have h3 : ¬ -y = b := fun e => h2 (by omega)
      simp [h2, h3]
  · simp [h1]
theorem fst_back (ps : List (Int × Int)) (k : Int) : k ∈ (backP ps).map Prod.fst ↔ k ∈ ps.map Prod.fst := by
  unfold backP
  rw [List.map_map]
  have e : Prod.fst ∘ con = (Prod.fst : Int × Int → Int) := rfl
  rw [e, List.map_reverse, List.mem_reverse]
theorem Rds.back {ps : List (Int × Int)} {ms : List Int} (h : Rds (backP ps) ms) : Rds ps ms := ⟨h.up, fun k => (h.mem k).trans (fst_back ps k)⟩
def swp (q : Int × Int × Int) : Int × Int × Int := (q.1, q.2.2, q.2.1)
theorem tro_back (ps : List (Int × Int)) (ms : List Int) : troL (backP ps) ms = (troL ps ms).map swp := by
  unfold troL
  rw [List.map_map]
  refine List.map_congr_left fun r _ => ?_
  show (r, cnt (backP ps) (r, 1), cnt (backP ps) (r, -1)) = (r, cnt ps (r, -1), cnt ps (r, 1))
  rw [cnt_back, cnt_back, Int.neg_neg]
theorem rows_back {l : List Int} {rs : List (List Int)} : lastL (l :: rs) :: (l :: rs).reverse.tail = (l :: rs).reverse := by
  cases q : (l :: rs).reverse with
  | nil => simp at q
  | cons y ys =>
    have : lastL (l :: rs) = y := by
      unfold lastL
      rw [List.getLastD_eq_getLast?, ← List.head?_reverse, q]
      rfl
    rw [this]
    rfl
/-! ### loads: one road after another -/
def plusL (ps : List (Int × Int)) (ls : List Int) (ms : List Int) : List Int := (List.range ls.length).map fun (i : Nat) => ls.getD i 0 + (if (i : Int) ∈ ms then net ps i else 0)
theorem plus_len {ps : List (Int × Int)} {ls ms : List Int} : (plusL ps ls ms).length = ls.length := by simp [plusL]
theorem plus_at {ps : List (Int × Int)} {ls ms : List Int} {i : Nat} (h : i < ls.length) : (plusL ps ls ms).getD i 0 = ls.getD i 0 + (if (i : Int) ∈ ms then net ps i else 0) := by
  rw [getD_at (by rw [plus_len]; exact h)]
  simp [plusL]
theorem ext_getD {a b : List Int} (hl : a.length = b.length) (h : ∀ i : Nat, i < a.length → a.getD i 0 = b.getD i 0) : a = b :=
  List.ext_getElem hl fun i h1 h2 => by
    have := h i h1
    rwa [getD_at h1, getD_at h2] at this
theorem plus_nil {ps : List (Int × Int)} {ls : List Int} : plusL ps ls [] = ls := ext_getD plus_len fun i hi => by
  rw [plus_len] at hi
  rw [plus_at hi, if_neg (by simp)]
  omega
theorem plus_snoc {ps : List (Int × Int)} {ls ms : List Int} {r : Nat} (h : r < ls.length) (hn : (r : Int) ∉ ms) : (plusL ps ls ms).set r ((plusL ps ls ms).getD r 0 + cnt ps (r, 1) - cnt ps (r, -1)) = plusL ps ls (ms ++ [(r : Int)]) := ext_getD (by rw [List.length_set, plus_len, plus_len]) fun i hi => by
  rw [List.length_set, plus_len] at hi
  rw [getD_set (by rw [plus_len]; exact h), plus_at hi, plus_at hi, plus_at h]
  by_cases e : i = r
  · subst e
    rw [if_pos rfl, if_neg hn, if_pos (by simp)]
    unfold net
    omega
  · rw [if_neg e]
    have : ((i : Int) ∈ ms ++ [(r : Int)]) ↔ (i : Int) ∈ ms := by
      rw [List.mem_append, List.mem_singleton]
      exact ⟨fun h => h.elim id fun q => absurd q (by omega), .inl⟩
    by_cases m : (i : Int) ∈ ms
    · rw [if_pos m, if_pos (this.mpr m)]
    · rw [if_neg m, if_neg fun q => m (this.mp q)]
theorem plus_all {n : Int} {es : List (Int × Int)} {bs ls ms : List Int} {ps : List (Int × Int)} {rs : List (List Int)} (w : Wk es bs ls ps rs) (rd : Rds ps ms) : plusL ps ls ms = lastL (ls :: rs) := by
  obtain ⟨a1, a2⟩ := last_net (n := n) w
  refine ext_getD (by rw [plus_len, a1]) fun i hi => ?_
  rw [plus_len] at hi
  rw [plus_at hi, a2 i]
  by_cases m : (i : Int) ∈ ms
  · rw [if_pos m]
  · rw [if_neg m]
    have nm := fun q => m ((rd.mem i).mpr q)
    unfold net
    rw [cnt_zero nm, cnt_zero nm]
    omega
/-! ### the law's turn -/
theorem eqvAll_ints : ∀ a b : List Int, PyData.eqvAll (a.map PyData.int) (b.map PyData.int) = decide (a = b)
  | [], [] => rfl
  | [], _ :: _ => rfl
  | _ :: _, [] => rfl
  | x :: a, y :: b => by
    show (PyData.eqv (.int x) (.int y) && PyData.eqvAll (a.map PyData.int) (b.map PyData.int)) = _
    rw [eqv_int, eqvAll_ints a b, Bool.eq_iff_iff, Bool.and_eq_true, decide_eq_true_eq, decide_eq_true_eq, decide_eq_true_eq, List.cons.injEq]
theorem eqv_stD (a b : List Int) : PyData.eqv (stD a) (stD b) = decide (a = b) := eqvAll_ints a b
section
variable {q_law_counts q_law_standing q_law_walk q_law_web q_trodden q_turned : Pre} {q_standings_along : PreX} {M : MEnds} {W S T B F : PyData} {c2 c7 c8 c9 c10 c11 c12 c13 c14 : Cell} {x y z : Str}
abbrev e15 (W S T R : PyData) (c2 c7 c8 c9 c10 c11 c12 c13 c14 : Cell) : Cells := [.non, .well, c2, .val W, .val S, .val T, .val R, c7, c8, c9, c10, c11, c12, c13, c14]
theorem l15_put {L : List Int} {r : Nat} {a b : Int} {R : PyData} (h : r < L.length)
    (hN : M.nx (e15 W S T R c2 (.val (.int (r : Nat))) c8 c9 c10 (.val (.int a)) (.val (.int b)) (.own ((L.set r (L.getD r 0 + a - b)).map PyData.int)) c14)) :
    mPut 13 (mVarB 7) (m2 fSub (m2 fAddA (m2 fIx (mVarB 13) (mVarB 7)) (mVarB 11)) (mVarB 12)) M (e15 W S T R c2 (.val (.int (r : Nat))) c8 c9 c10 (.val (.int a)) (.val (.int b)) (.own (L.map PyData.int)) c14) := by
  show atD (L.map PyData.int) (r : Int) fun d => fAddA d (.int a) fun d => fSub d (.int b) fun d => ∃ j, ixN (L.map PyData.int).length (r : Int) = some j ∧ M.nx (e15 W S T R c2 (.val (.int (r : Nat))) c8 c9 c10 (.val (.int a)) (.val (.int b)) (.own ((L.map PyData.int).set j d)) c14)
  refine ixI (by omega) (by omega) ⟨r, ?_, ?_⟩
  · rw [List.length_map, ixN_of (by omega) (by omega), Int.toNat_natCast]
  · rw [Int.toNat_natCast]
    rw [List.map_set] at hN
    exact hN
theorem l15_10 {ls : List Int} {ms : List Int} {ps : List (Int × Int)} {rows : List (List Int)} (up : ms.Pairwise (· < ·)) (hb : ∀ k ∈ ms, 0 ≤ k ∧ k < ls.length) (r0 : rows ≠ []) (all : plusL ps ls ms = lastL rows)
    (hx : ∀ Q : PyData → Prop, Q (.str x) → fReprA [T] Q)
    (hN : ∀ c7 c11 c12 c13 : Cell, M.nx (e15 W S T (.tuple (rows.map stD)) c2 c7 (.val (.str x)) c9 (.val (.tuple ((troL ps ms).map rwD))) c11 c12 c13 c14)) :
    m_law_1_10 q_law_counts q_law_standing q_law_walk q_law_web q_standings_along q_trodden q_turned M (e15 W S T (.tuple (rows.map stD)) c2 c7 (.val (.str x)) c9 (.val (.tuple ((troL ps ms).map rwD))) c11 c12 (.own (ls.map PyData.int)) c14) := by
  refine forGo_inv (fun i e => ∃ c7 c11 c12 : Cell, e = e15 W S T (.tuple (rows.map stD)) c2 c7 (.val (.str x)) c9 (.val (.tuple ((troL ps ms).map rwD))) c11 c12 (.own ((plusL ps ls (ms.take i)).map PyData.int)) c14) ?_ ?_ ⟨c7, c11, c12, by rw [List.take_zero, plus_nil]⟩
  · rintro i hi env N ⟨c7, c11, c12, rfl⟩ hN
    have hi2 : i < ms.length := by simpa [troL] using hi
    have e1 : ((troL ps ms).map rwD)[i] = rwD (ms[i], cnt ps (ms[i], 1), cnt ps (ms[i], -1)) := by simp [troL]
    rw [e1]
    obtain ⟨b0, b1⟩ := hb ms[i] (List.getElem_mem _)
    obtain ⟨k, hk⟩ : ∃ k : Nat, ms[i] = (k : Int) := ⟨ms[i].toNat, by omega⟩
    have nin : (k : Int) ∉ ms.take i := fun q => by
      obtain ⟨j, hj, e⟩ := List.mem_iff_getElem.mp q
      rw [List.getElem_take] at e
      rw [List.length_take] at hj
      have := List.pairwise_iff_getElem.mp up j i (by omega) hi2 (by omega)
      omega
    rw [hk] at b1 ⊢
    have kl : k < ls.length := by omega
    have key : ∀ (Z : Cells → Prop) (r a b : Int) {R : PyData} {c9 c10 c11 c12 c13 : Cell}, Z (e15 W S T R c2 (.val (.int r)) (.val (.str x)) c9 c10 (.val (.int a)) (.val (.int b)) c13 c14) → mgTup 3 (mgCons (mgName 7) (mgCons (mgName 11) (mgCons (mgName 12) mgNil))) (rwD (r, a, b)) (e15 W S T R c2 c7 (.val (.str x)) c9 c10 c11 c12 c13 c14) Z := fun Z r a b R c9 c10 c11 c12 c13 h => ⟨rfl, rfl, h⟩
    refine key _ _ _ _ ?_
    refine l15_put (M := { M with nx := N, ct := N, bk := _ }) (L := plusL ps ls (ms.take i)) (r := k) (a := cnt ps ((k : Int), 1)) (b := cnt ps ((k : Int), -1)) (by rw [plus_len]; exact kl) (hN _ ⟨.val (.int (k : Nat)), .val (.int (cnt ps ((k : Int), 1))), .val (.int (cnt ps ((k : Int), -1))), ?_⟩)
    rw [plus_snoc kl nin, List.take_succ_eq_append_getElem hi2, hk]
  · rintro e ⟨c7, c11, c12, rfl⟩
    have hl : ((troL ps ms).map rwD).length = ms.length := by simp [troL]
    rw [hl, List.take_length, all]
    show atD (rows.map stD) (-1) fun b => SeqAt.shaped (stD (lastL rows)) = true ∧ SeqAt.shaped b = true ∧ (if (!PyData.eqv (stD (lastL rows)) b) = true then M.rt (.bool false) else (fReprA [T] fun p => fNeT p (.str x) fun u => onB u fun c => if c = true then M.rt (.bool false) else M.nx (e15 W S T (.tuple (rows.map stD)) c2 c7 (.val (.str x)) c9 (.val (.tuple ((troL ps ms).map rwD))) c11 c12 (.own ((lastL rows).map PyData.int)) c14)))
    refine lastD_at r0 ⟨tints_shaped _, tints_shaped _, ?_⟩
    rw [eqv_stD, decide_eq_true rfl]
    refine iteF (hx _ ?_)
    show if (!decide (x = x)) = true then _ else _
    rw [decide_eq_true rfl]
    exact iteF (hN _ _ _ _)
end
section
variable {q_law_counts q_law_standing q_law_walk q_law_web q_trodden q_turned : Pre} {q_standings_along : PreX} {M : MEnds} {W S T B R F : PyData} {c2 c7 c8 c9 c10 c11 c12 c13 c14 : Cell} {x y z : Str}
theorem same_text {x : Str} {A : PyData → Prop} {C : Prop} (h : C) : fNeT (.str x) (.str x) fun u => onB u fun c => if c = true then A (.bool false) else C := by
  show if (!decide (x = x)) = true then _ else _
  rw [decide_eq_true rfl]
  exact iteF h
theorem l15_8 {ls : List Int} {tr tb : List (Int × Int × Int)} (hs : tb = tr.map swp) (hl : tr.length ≤ 60) (hx : ∀ Q : PyData → Prop, Q (.str x) → fReprA [.tuple (tb.map rwD)] Q)
    (ht : ∀ Q : PyData → Prop, Q (.tuple (tb.map rwD)) → q_trodden [.val B] Q)
    (hN : m_law_1_10 q_law_counts q_law_standing q_law_walk q_law_web q_standings_along q_trodden q_turned M (e15 W (stD ls) T R c2 c7 c8 (.val B) (.val (.tuple (tr.map rwD))) c11 c12 (.own (ls.map PyData.int)) c14)) :
    m_law_1_8 q_law_counts q_law_standing q_law_walk q_law_web q_standings_along q_trodden q_turned M (e15 W (stD ls) T R c2 c7 c8 (.val B) (.val (.tuple (tr.map rwD))) c11 c12 c13 c14) := by
  show q_trodden [.val B] fun a => fReprA [a] fun p => ((tr.map rwD).length ≤ 100000 ∧ lcGo (mgTup 3 (mgCons (mgName 7) (mgCons (mgName 11) (mgCons (mgName 12) mgNil)))) mYes (mTup (mCons (mVar 7) (mCons (mVar 12) (mCons (mVar 11) mNil)))) (wipeE (e15 W (stD ls) T R c2 c7 c8 (.val B) (.val (.tuple (tr.map rwD))) c11 c12 c13 c14) [7, 11, 12]) (tr.map rwD) fun ys => fReprA [.tuple ys] fun q => fNeT p q fun u => onB u fun c => if c = true then M.rt (.bool false) else m_law_1_10 q_law_counts q_law_standing q_law_walk q_law_web q_standings_along q_trodden q_turned M (e15 W (stD ls) T R c2 c7 c8 (.val B) (.val (.tuple (tr.map rwD))) c11 c12 (.own (ls.map PyData.int)) c14))
  refine ht _ (hx _ ⟨by rw [List.length_map]; omega, lcGo_at (rs := tb.map rwD) (by rw [hs]; simp) (fun i h1 h2 Y hY => ?_) (hx _ (same_text hN))⟩)
  subst hs
  have hi : i < tr.length := by simpa using h1
  have e1 : (tr.map rwD)[i] = rwD tr[i] := by simp
  have e2 : ((tr.map swp).map rwD)[i] = rwD (swp tr[i]) := by simp
  rw [e2] at hY
  rw [e1]
  exact ⟨rfl, rfl, hY⟩
theorem l15_7 {F : PyData} (hx : ∀ Q : PyData → Prop, Q (.str x) → fReprA [.list [F, F]] Q) (ht : ∀ Q : PyData → Prop, Q F → q_trodden [.val T] Q) (hc : ∀ Q : PyData → Prop, Q F → q_law_counts [.val T] Q)
    (hN : m_law_1_8 q_law_counts q_law_standing q_law_walk q_law_web q_standings_along q_trodden q_turned M (e15 W S T R c2 c7 c8 c9 (.val F) c11 c12 c13 c14)) :
    m_law_1_7 q_law_counts q_law_standing q_law_walk q_law_web q_standings_along q_trodden q_turned M (e15 W S T R c2 c7 c8 c9 (.val F) c11 c12 c13 c14) := by
  show q_trodden [.val T] fun a => fReprA [.list [F, a]] fun p => q_law_counts [.val T] fun b => fMulB (.list [b]) (.int 2) fun b2 => fReprA [b2] fun q => fNeT p q fun u => onB u fun c => if c = true then M.rt (.bool false) else m_law_1_8 q_law_counts q_law_standing q_law_walk q_law_web q_standings_along q_trodden q_turned M (e15 W S T R c2 c7 c8 c9 (.val F) c11 c12 c13 c14)
  refine ht _ (hx _ (hc _ ⟨by decide, by decide, by show 1 * 2 ≤ 100000; decide, ?_⟩))
  show fReprA [.list [F, F]] _
  exact hx _ (same_text hN)
theorem l15_5 {rows : List (List Int)} (r0 : rows ≠ []) (hx : ∀ Q : PyData → Prop, Q (.str x) → fReprA [.tuple (rows.map stD).reverse] Q) (ht : ∀ Q : PyData → Prop, Q B → q_turned [.val T] Q) (ha : ∀ Q : PyData → Prop, Q (.tuple (rows.map stD).reverse) → calmP q_standings_along [.val W, .val (stD (lastL rows)), .val B] Q)
    (hN : m_law_1_6 q_law_counts q_law_standing q_law_walk q_law_web q_standings_along q_trodden q_turned M (e15 W S T (.tuple (rows.map stD)) c2 c7 c8 c9 c10 c11 c12 c13 c14)) :
    m_law_1_5 q_law_counts q_law_standing q_law_walk q_law_web q_standings_along q_trodden q_turned M (e15 W S T (.tuple (rows.map stD)) c2 c7 c8 c9 c10 c11 c12 c13 c14) := by
  show atD (rows.map stD) (-1) fun l => q_turned [.val T] fun t => calmP q_standings_along [.val W, .val l, .val t] fun a => fReprA [a] fun p => fReprA [.tuple (rows.map stD).reverse] fun q => fNeT p q fun u => onB u fun c => if c = true then M.rt (.bool false) else m_law_1_6 q_law_counts q_law_standing q_law_walk q_law_web q_standings_along q_trodden q_turned M (e15 W S T (.tuple (rows.map stD)) c2 c7 c8 c9 c10 c11 c12 c13 c14)
  exact lastD_at r0 (ht _ (ha _ (hx _ (hx _ (same_text hN)))))
theorem l15_4 (hx : ∀ Q : PyData → Prop, Q (.str x) → fReprA [.list [B, B, T]] Q) (ht : ∀ Q : PyData → Prop, Q B → q_turned [.val T] Q) (hb : ∀ Q : PyData → Prop, Q T → q_turned [.val B] Q)
    (hN : m_law_1_5 q_law_counts q_law_standing q_law_walk q_law_web q_standings_along q_trodden q_turned M (e15 W S T R c2 c7 c8 (.val B) c10 c11 c12 c13 c14)) :
    m_law_1_4 q_law_counts q_law_standing q_law_walk q_law_web q_standings_along q_trodden q_turned M (e15 W S T R c2 c7 c8 (.val B) c10 c11 c12 c13 c14) := by
  show q_turned [.val T] fun a => q_turned [.val T] fun b => q_turned [.val B] fun d => fReprA [.list [a, b, d]] fun p => fReprA [.list [B, B, T]] fun q => fNeT p q fun u => onB u fun c => if c = true then M.rt (.bool false) else m_law_1_5 q_law_counts q_law_standing q_law_walk q_law_web q_standings_along q_trodden q_turned M (e15 W S T R c2 c7 c8 (.val B) c10 c11 c12 c13 c14)
  exact ht _ (ht _ (hb _ (hx _ (hx _ (same_text hN)))))
theorem l15_3 {ps : List (Int × Int)} (hl : ps.length ≤ 900) (hx : ∀ Q : PyData → Prop, Q (.str x) → fReprA [.tuple (ps.map Dw.prD)] Q)
    (hN : m_law_1_4 q_law_counts q_law_standing q_law_walk q_law_web q_standings_along q_trodden q_turned M (e15 W S (.tuple (ps.map Dw.prD)) R c2 c7 (.val (.str x)) (.val (.tuple ((backP ps).map Dw.prD))) c10 c11 c12 c13 c14)) :
    m_law_1_3 q_law_counts q_law_standing q_law_walk q_law_web q_standings_along q_trodden q_turned M (e15 W S (.tuple (ps.map Dw.prD)) R c2 c7 c8 c9 c10 c11 c12 c13 c14) := by
  have len : (ps.map Dw.prD).reverse.length = (backP ps).length := by simp [backP]
  show fReprA [.tuple (ps.map Dw.prD)] fun p => ((ps.map Dw.prD).reverse.length ≤ 100000 ∧ lcGo (mgTup 2 (mgCons (mgName 7) (mgCons (mgName 14) mgNil))) mYes (mTup (mCons (mVar 7) (mCons (m1 fNeg (mVarB 14)) mNil))) (wipeE (e15 W S (.tuple (ps.map Dw.prD)) R c2 c7 c8 c9 c10 c11 c12 c13 c14) [7, 14]) (ps.map Dw.prD).reverse fun ys => m_law_1_4 q_law_counts q_law_standing q_law_walk q_law_web q_standings_along q_trodden q_turned M (e15 W S (.tuple (ps.map Dw.prD)) R c2 c7 (.val p) (.val (.tuple ys)) c10 c11 c12 c13 c14))
  refine hx _ ⟨by simp; omega, lcGo_at (rs := (backP ps).map Dw.prD) (by rw [List.length_map, len]) (fun i h1 h2 Y hY => ?_) hN⟩
  have hi : i < ps.reverse.length := by simpa using h1
  have e1 : (ps.map Dw.prD).reverse[i] = Dw.prD (ps.reverse[i]) := by simp [List.getElem_reverse]
  have e2 : ((backP ps).map Dw.prD)[i] = Dw.prD (con (ps.reverse[i])) := by simp [backP]
  rw [e2] at hY
  rw [e1]
  exact ⟨rfl, rfl, hY⟩
end
theorem wg_of {n : Int} {es : List (Int × Int)} {bs ls : List Int} (g : WG n es bs ls) {l : List Int} (st : St bs l) : WG n es bs l :=
  { g with
    ll := by rw [st.len]; exact g.bl
    lb := fun x hx => by
      obtain ⟨i, hi, rfl⟩ := List.mem_iff_getElem.mp hx
      have len := st.len
      have b := st.bd i (by omega)
      have c := g.bb (bs.getD i 0) (by rw [getD_at (by omega)]; exact List.getElem_mem _)
      rw [getD_at hi] at b
      omega }
section
variable {n : Int} {es : List (Int × Int)} {bs ls : List Int} {ps : List (Int × Int)} {rs : List (List Int)}
theorem row_sz (g : WG n es bs ls) {l : List Int} (st : St bs l) : Sz 200 3 (stD l) := (Sz.tuple (SzL.all (st_items (wg_of g st)))).mono (by rw [List.length_map, (wg_of g st).ll]; have := g.e9; omega) (by decide)
theorem way_sz2 (g : WG n es bs ls) (pb : ∀ p ∈ ps, 0 ≤ p.1 ∧ p.1 < es.length ∧ (p.2 = 1 ∨ p.2 = -1)) (hl : ps.length ≤ 60) : Sz 200 5 (.tuple (ps.map Dw.prD)) :=
  (Sz.tuple (SzL.prs fun p hp => by
    have := pb p hp
    have := g.e9
    omega)).mono (by omega) (by decide)
theorem rows_sz (g : WG n es bs ls) {rows : List (List Int)} (h : ∀ l ∈ rows, St bs l) (hl : rows.length ≤ 61) : Sz 13000 5 (.tuple (rows.map stD).reverse) :=
  (Sz.tuple (SzL.all (w := 200) (e := 3) fun x hx => by
    obtain ⟨l, hl, rfl⟩ := List.mem_map.mp (List.mem_reverse.mp hx)
    exact row_sz g (h l hl))).mono (by rw [List.length_reverse, List.length_map]; omega) (by decide)
theorem cnt_le (ps : List (Int × Int)) (q : Int × Int) : 0 ≤ cnt ps q ∧ cnt ps q ≤ ps.length := by
  unfold cnt
  have : (ps.countP fun p => decide (p = q)) ≤ ps.length := List.countP_le_length
  omega
theorem tro_sz (g : WG n es bs ls) {ms : List Int} (hl : ps.length ≤ 60) (hm : ms.length ≤ 60) (hb : ∀ k ∈ ms, 0 ≤ k ∧ k < es.length) : Sz 300 3 (.tuple ((troL ps ms).map rwD)) :=
  (Sz.tuple (SzL.all (w := 3) (e := 2) fun x hx => by
    obtain ⟨q, hq, rfl⟩ := List.mem_map.mp hx
    obtain ⟨r, hr, rfl⟩ := List.mem_map.mp hq
    have b := hb r hr
    have c1 := cnt_le ps (r, 1)
    have c2 := cnt_le ps (r, -1)
    have e9 := g.e9
    exact (Sz.tuple (SzL.ints (ns := [r, cnt ps (r, 1), cnt ps (r, -1)]) fun i hi => by
      rcases List.mem_cons.mp hi with rfl | hi
      · omega
      · rcases List.mem_cons.mp hi with rfl | hi
        · omega
        · rw [List.mem_singleton.mp hi]; omega)))).mono (by simp [troL]; omega) (Nat.le_refl _)
end
section
variable {q_law_counts q_law_standing q_law_walk q_law_web q_trodden q_turned : Pre} {q_standings_along : PreX} {M : MEnds} {n : Int} {es : List (Int × Int)} {bs ls : List Int} {ps : List (Int × Int)} {rs : List (List Int)}
structure C15 (q_law_counts q_law_standing q_law_walk q_law_web : Pre) (q_standings_along : PreX) (q_trodden q_turned : Pre) : Prop where
  web : ∀ (P : PyData → Prop) (size room load : Int), 2 ≤ size → size ≤ 100 → 1 ≤ room → room ≤ 100 → 1 ≤ load → load ≤ 1000 → (∀ n es bs, Wb size room load n es bs → P (webD n es bs)) → q_law_web [.well, .val (.int size), .val (.int room), .val (.int load)] P
  std : ∀ (P : PyData → Prop) (n : Int) (es : List (Int × Int)) (bs : List Int), (∀ b ∈ bs, 1 ≤ b ∧ b ≤ 1000) → 1 ≤ bs.length → bs.length ≤ 1000 → (∀ ls, St bs ls → P (stD ls)) → q_law_standing [.well, .val (webD n es bs)] P
  wk : ∀ (P : PyData → Prop) (n : Int) (es : List (Int × Int)) (bs ls : List Int) (most : Int), WG n es bs ls → St bs ls → 0 ≤ most → most ≤ 18 → (∀ ps rs, Wk es bs ls ps rs → (ps.length : Int) ≤ most → P (.tuple [.tuple (ps.map Dw.prD), .tuple ((ls :: rs).map stD)])) → q_law_walk [.well, .val (webD n es bs), .val (stD ls), .val (.int most)] P
  al : ∀ (P : PyData → Prop) (n : Int) (es : List (Int × Int)) (bs ls x : List Int) (ps : List (Int × Int)) (rs : List (List Int)), WG n es bs x → Wk es bs ls ps rs → ps.length ≤ 900 → P (.tuple ((ls :: rs).map stD)) → calmP q_standings_along [.val (webD n es bs), .val (stD ls), .val (.tuple (ps.map Dw.prD))] P
  tu : ∀ (P : PyData → Prop) (ps : List (Int × Int)), ps.length ≤ 900 → P (.tuple ((backP ps).map Dw.prD)) → q_turned [.val (.tuple (ps.map Dw.prD))] P
  tr : ∀ (P : PyData → Prop) (ps : List (Int × Int)), ps.length ≤ 60 → (∀ ms, Rds ps ms → P (.tuple ((troL ps ms).map rwD))) → q_trodden [.val (.tuple (ps.map Dw.prD))] P
  ct : ∀ (P : PyData → Prop) (ps : List (Int × Int)), ps.length ≤ 60 → (∀ ms, Rds ps ms → P (.tuple ((troL ps ms).map rwD))) → q_law_counts [.val (.tuple (ps.map Dw.prD))] P
theorem l15_all (C : C15 q_law_counts q_law_standing q_law_walk q_law_web q_standings_along q_trodden q_turned) (g : WG n es bs ls) (w : Wk es bs ls ps rs) (hl : ps.length ≤ 60) {c2 c7 c8 c9 c10 c11 c12 c13 c14 : Cell}
    (hN : ∀ c7 c8 c9 c10 c11 c12 c13 c14 : Cell, M.nx (e15 (webD n es bs) (stD ls) (.tuple (ps.map Dw.prD)) (.tuple ((ls :: rs).map stD)) c2 c7 c8 c9 c10 c11 c12 c13 c14)) :
    m_law_1_3 q_law_counts q_law_standing q_law_walk q_law_web q_standings_along q_trodden q_turned M (e15 (webD n es bs) (stD ls) (.tuple (ps.map Dw.prD)) (.tuple ((ls :: rs).map stD)) c2 c7 c8 c9 c10 c11 c12 c13 c14) := by
  have len := w.len
  have wb := w.back g
  have lb : (backP ps).length = ps.length := by simp [backP]
  have szw := way_sz2 g w.pb hl
  have szb := way_sz2 g wb.pb (by omega)
  have rne : ls :: rs ≠ [] := List.cons_ne_nil _ _
  obtain ⟨x, hx⟩ : ∃ x : Str, ∀ Q : PyData → Prop, Q (.str x) → fReprA [.tuple (ps.map Dw.prD)] Q := ⟨_, fun Q hQ => reprA_ok szw (by decide) (by decide) hQ⟩
  obtain ⟨y, hy⟩ : ∃ y : Str, ∀ Q : PyData → Prop, Q (.str y) → fReprA [.list [.tuple ((backP ps).map Dw.prD), .tuple ((backP ps).map Dw.prD), .tuple (ps.map Dw.prD)]] Q := ⟨_, fun Q hQ => reprA_ok (Sz.list (SzL.cons szb (SzL.cons szb (SzL.cons szw SzL.nil)))) (by decide) (by decide) hQ⟩
  obtain ⟨z, hz⟩ : ∃ z : Str, ∀ Q : PyData → Prop, Q (.str z) → fReprA [.tuple ((ls :: rs).map stD).reverse] Q := ⟨_, fun Q hQ => reprA_ok (rows_sz g w.st (by rw [List.length_cons]; omega)) (by decide) (by decide) hQ⟩
  refine l15_3 (x := x) (by omega) hx ?_
  refine l15_4 (x := y) hy (fun Q h => C.tu Q ps (by omega) h) (fun Q h => C.tu Q (backP ps) (by omega) (by rw [back_back]; exact h)) ?_
  refine l15_5 (x := z) (B := .tuple ((backP ps).map Dw.prD)) rne hz (fun Q h => C.tu Q ps (by omega) h) (fun Q h => C.al Q n es bs (lastL (ls :: rs)) ls (backP ps) _ g wb (by omega) (by rw [rows_back, List.map_reverse]; exact h)) ?_
  show q_trodden [.val (.tuple (ps.map Dw.prD))] fun f => m_law_1_7 q_law_counts q_law_standing q_law_walk q_law_web q_standings_along q_trodden q_turned M (e15 (webD n es bs) (stD ls) (.tuple (ps.map Dw.prD)) (.tuple ((ls :: rs).map stD)) c2 c7 (.val (.str x)) (.val (.tuple ((backP ps).map Dw.prD))) (.val f) c11 c12 c13 c14)
  refine C.tr _ ps hl fun ms rd => ?_
  have few := rds_few rd
  have hb : ∀ k ∈ ms, 0 ≤ k ∧ k < es.length := fun k hk => by
    obtain ⟨p, hp, rfl⟩ := List.mem_map.mp ((rd.mem k).mp hk)
    have := w.pb p hp
    omega
  have szf := tro_sz g (ps := ps) hl (by omega) hb
  have szg := tro_sz g (ps := backP ps) (by omega) (by omega) hb
  obtain ⟨u, hu⟩ : ∃ u : Str, ∀ Q : PyData → Prop, Q (.str u) → fReprA [.list [.tuple ((troL ps ms).map rwD), .tuple ((troL ps ms).map rwD)]] Q := ⟨_, fun Q hQ => reprA_ok (Sz.pair szf szf) (by decide) (by decide) hQ⟩
  obtain ⟨v, hv⟩ : ∃ v : Str, ∀ Q : PyData → Prop, Q (.str v) → fReprA [.tuple ((troL (backP ps) ms).map rwD)] Q := ⟨_, fun Q hQ => reprA_ok szg (by decide) (by decide) hQ⟩
  refine l15_7 (x := u) hu (fun Q h => C.tr Q ps hl fun ms' rd' => by rw [rd'.one rd]; exact h) (fun Q h => C.ct Q ps hl fun ms' rd' => by rw [rd'.one rd]; exact h) ?_
  refine l15_8 (x := v) (tb := troL (backP ps) ms) (tro_back ps ms) (by simp [troL]; omega) hv (fun Q h => C.tr Q (backP ps) (by omega) fun ms' rd' => by rw [rd'.back.one rd]; exact h) ?_
  exact l15_10 (x := x) rd.up (fun k hk => by have := hb k hk; have := g.ll; omega) rne (plus_all (n := n) w rd) hx fun c7 c11 c12 c13 => hN _ _ _ _ _ _ _ _
end
section
variable {q_law_counts q_law_standing q_law_walk q_law_web q_trodden q_turned : Pre} {q_standings_along : PreX} {M : MEnds} {n : Int} {es : List (Int × Int)} {bs ls : List Int} {ps : List (Int × Int)} {rs : List (List Int)}
theorem l15_2 (C : C15 q_law_counts q_law_standing q_law_walk q_law_web q_standings_along q_trodden q_turned) (g : WG n es bs ls) (st : St bs ls) {t : Int} {c5 c6 c7 c8 c9 c10 c11 c12 c13 c14 : Cell} (hN : ∀ c5 c6 c7 c8 c9 c10 c11 c12 c13 c14 : Cell, M.nx [.non, .well, .val (.int t), .val (webD n es bs), .val (stD ls), c5, c6, c7, c8, c9, c10, c11, c12, c13, c14]) :
    m_law_1_2 q_law_counts q_law_standing q_law_walk q_law_web q_standings_along q_trodden q_turned M [.non, .well, .val (.int t), .val (webD n es bs), .val (stD ls), c5, c6, c7, c8, c9, c10, c11, c12, c13, c14] := by
  have go : ∀ most : Int, 0 ≤ most → most ≤ 18 → q_law_walk [.well, .val (webD n es bs), .val (stD ls), .val (.int most)] fun d => mgTup 2 (mgCons (mgName 5) (mgCons (mgName 6) mgNil)) d [.non, .well, .val (.int t), .val (webD n es bs), .val (stD ls), c5, c6, c7, c8, c9, c10, c11, c12, c13, c14] fun e => m_law_1_3 q_law_counts q_law_standing q_law_walk q_law_web q_standings_along q_trodden q_turned M e :=
    fun most m0 m1 => C.wk _ n es bs ls most g st m0 m1 fun ps rs w hp => ⟨rfl, rfl, l15_all C g w (by omega) fun c7 c8 c9 c10 c11 c12 c13 c14 => hN _ _ _ _ _ _ _ _ _ _⟩
  show if decide (t < 4) = true then (q_law_walk [.well, .val (webD n es bs), .val (stD ls), .val (.int 14)] fun d => mgTup 2 (mgCons (mgName 5) (mgCons (mgName 6) mgNil)) d [.non, .well, .val (.int t), .val (webD n es bs), .val (stD ls), c5, c6, c7, c8, c9, c10, c11, c12, c13, c14] fun e => m_law_1_3 q_law_counts q_law_standing q_law_walk q_law_web q_standings_along q_trodden q_turned M e) else (q_law_walk [.well, .val (webD n es bs), .val (stD ls), .val (.int 6)] fun d => mgTup 2 (mgCons (mgName 5) (mgCons (mgName 6) mgNil)) d [.non, .well, .val (.int t), .val (webD n es bs), .val (stD ls), c5, c6, c7, c8, c9, c10, c11, c12, c13, c14] fun e => m_law_1_3 q_law_counts q_law_standing q_law_walk q_law_web q_standings_along q_trodden q_turned M e)
  by_cases h : decide (t < 4) = true
  · rw [if_pos h]
    exact go 14 (by decide) (by decide)
  · rw [if_neg h]
    exact go 6 (by decide) (by decide)
theorem l15_turn (C : C15 q_law_counts q_law_standing q_law_walk q_law_web q_standings_along q_trodden q_turned) {N : Cells → Prop} {t : Int} {c3 c4 c5 c6 c7 c8 c9 c10 c11 c12 c13 c14 : Cell} (hN : ∀ c3 c4 c5 c6 c7 c8 c9 c10 c11 c12 c13 c14 : Cell, N [.non, .well, .val (.int t), c3, c4, c5, c6, c7, c8, c9, c10, c11, c12, c13, c14]) :
    m_law_1_0 q_law_counts q_law_standing q_law_walk q_law_web q_standings_along q_trodden q_turned { M with nx := N } [.non, .well, .val (.int t), c3, c4, c5, c6, c7, c8, c9, c10, c11, c12, c13, c14] := by
  have go : ∀ (size room load n : Int) (es : List (Int × Int)) (bs : List Int), size ≤ 100 → room ≤ 100 → load ≤ 1000 → Wb size room load n es bs → m_law_1_1 q_law_counts q_law_standing q_law_walk q_law_web q_standings_along q_trodden q_turned { M with nx := N } [.non, .well, .val (.int t), .val (webD n es bs), c4, c5, c6, c7, c8, c9, c10, c11, c12, c13, c14] := by
    intro size room load n es bs a b c h
    have bl := h.bl
    have e1 := h.e1
    have er := h.er
    exact C.std _ n es bs (fun x hx => by have := h.bb x hx; omega) (by omega) (by omega) fun ls st => l15_2 (M := { M with nx := N }) C (WG.of h st a b c) st fun c5 c6 c7 c8 c9 c10 c11 c12 c13 c14 => hN _ _ _ _ _ _ _ _ _ _ _ _
  refine ⟨rfl, rfl, ?_⟩
  show if PyData.eqv (.int t) (.int 4) = true then _ else _
  by_cases e : PyData.eqv (.int t) (.int 4) = true
  · rw [if_pos e]
    exact C.web _ 24 40 9 (by decide) (by decide) (by decide) (by decide) (by decide) (by decide) fun n es bs h => go 24 40 9 n es bs (by decide) (by decide) (by decide) h
  · rw [if_neg e]
    exact C.web _ 9 14 3 (by decide) (by decide) (by decide) (by decide) (by decide) (by decide) fun n es bs h => go 9 14 3 n es bs (by decide) (by decide) (by decide) h
theorem l15_law (C : C15 q_law_counts q_law_standing q_law_walk q_law_web q_standings_along q_trodden q_turned) : m_law_2_0 q_law_counts q_law_standing q_law_walk q_law_web q_standings_along q_trodden q_turned { nx := fun _ => False, rt := fun d => d = .bool true } (.non :: .well :: List.replicate (15 - 2) .non) := by
  refine ⟨⟨by decide, by decide⟩, ?_⟩
  refine forGo_inv (fun i e => ∃ c2 c3 c4 c5 c6 c7 c8 c9 c10 c11 c12 c13 c14 : Cell, e = [.non, .well, c2, c3, c4, c5, c6, c7, c8, c9, c10, c11, c12, c13, c14]) ?_ ?_ ⟨_, _, _, _, _, _, _, _, _, _, _, _, _, rfl⟩
  · rintro i hi env N ⟨c2, c3, c4, c5, c6, c7, c8, c9, c10, c11, c12, c13, c14, rfl⟩ hN
    rw [rangeD_at hi]
    exact l15_turn (M := { nx := N, rt := fun d => d = .bool true, bk := _, ct := N }) C fun c3 c4 c5 c6 c7 c8 c9 c10 c11 c12 c13 c14 => hN _ ⟨_, _, _, _, _, _, _, _, _, _, _, _, _, rfl⟩
  · rintro e ⟨c2, c3, c4, c5, c6, c7, c8, c9, c10, c11, c12, c13, c14, rfl⟩
    exact rfl
end
theorem walk_ok (P : PyData → Prop) (n : Int) (es : List (Int × Int)) (bs ls : List Int) (most : Int) (g : WG n es bs ls) (st : St bs ls) (m0 : 0 ≤ most) (m1 : most ≤ 18) (h : ∀ ps rs, Wk es bs ls ps rs → (ps.length : Int) ≤ most → P (.tuple [.tuple (ps.map Dw.prD), .tuple ((ls :: rs).map stD)])) : pre_law_walk [.well, .val (webD n es bs), .val (stD ls), .val (.int most)] P := by
  show m_law_walk_3_0 pre_law_behind pre_law_draw pre_law_let pre_law_pick { nx := fun _ => P .none, rt := P } [.well, .val (webD n es bs), .val (stD ls), .val (.int most), .non, .non, .non, .non, .non]
  exact walk_frame (M := { nx := fun _ => P .none, rt := P }) qwalk g st m0 (by omega) fun ps rs w hp => h ps rs w.wk hp
theorem std_ok (P : PyData → Prop) (n : Int) (es : List (Int × Int)) (bs : List Int) (a : ∀ b ∈ bs, 1 ≤ b ∧ b ≤ 1000) (b : 1 ≤ bs.length) (c : bs.length ≤ 1000) (h : ∀ ls, St bs ls → P (stD ls)) : pre_law_standing [.well, .val (webD n es bs)] P := standing_ok a b c h
theorem wk_along {es : List (Int × Int)} {bs ls : List Int} {ps : List (Int × Int)} {rs : List (List Int)} (w : Wk es bs ls ps rs) : alongD es bs ls (.tuple (ps.map Dw.prD)) = some (ls :: rs) := by
  show (goL es bs ls (ps.map Dw.prD)).map (ls :: ·) = _
  rw [w.go]
  rfl
theorem along_ok15 (P : PyData → Prop) (n : Int) (es : List (Int × Int)) (bs ls x : List Int) (ps : List (Int × Int)) (rs : List (List Int)) (g : WG n es bs x) (w : Wk es bs ls ps rs) (hl : ps.length ≤ 900) (h : P (.tuple ((ls :: rs).map stD))) : calmP pre_standings_along [.val (webD n es bs), .val (stD ls), .val (.tuple (ps.map Dw.prD))] P :=
  (qalong g.bl).ok ls _ P (fun _ => False) (ws_of g (w.st ls List.mem_cons_self)) (fun ds e => by cases e; rw [List.length_map]; exact hl) (fun r e => by rw [wk_along w] at e; cases e; exact h) fun e => by rw [wk_along w] at e; cases e
theorem c15 : C15 pre_law_counts pre_law_standing pre_law_walk pre_law_web pre_standings_along pre_trodden pre_turned where
  web := fun P size room load a b c d e f h => web_ok a b c d e f h
  std := std_ok
  wk := walk_ok
  al := along_ok15
  tu := fun P ps hl h => turned_ok hl h
  tr := fun P ps hl h => trodden_ok hl h
  ct := fun P ps hl h => counts_ok hl h
theorem law_mean : m_law { nx := fun _ => False, rt := fun d => d = .bool true } (.non :: .well :: List.replicate (15 - 2) .non) := l15_law c15

section
variable {P : Program} {w : World} {K : PySem.W.Frag} {mg : Str → Option Value} {bs : Heap} {c_Unfit : Addr}
theorem fn_law (T : Txt mg) (Y : Exs K mg c_Unfit) {f f2 : Addr} {fd fd2 : FuncData} (F : Fun K "law" "law" s_law f fd) (Fw : FnG P w K mg bs CX0 1 f2 fd2 ["script"] (spWell K)) (Gw : Fun K "_law_well" "_law_well" s_law_well f2 fd2) (qw : mg "_law_well" = some (.ref f2)) (bw : Binds K fd2 ["script"] []) (C_law_counts : Cal P w K mg bs 1 "_law_counts" s_law_counts ["way"] 1 pre_law_counts) (C_law_standing : Cal P w K mg bs 2 "_law_standing" s_law_standing ["well", "web"] 2 pre_law_standing) (C_law_walk : Cal P w K mg bs 3 "_law_walk" s_law_walk ["well", "web", "standing", "most"] 4 pre_law_walk) (C_law_web : Cal P w K mg bs 3 "_law_web" s_law_web ["well", "size", "room", "load"] 4 pre_law_web) (C_standings_along : CalX P w K mg bs 4 "standings_along" s_standings_along ["web", "standing", "way"] 3 pre_standings_along) (C_trodden : Cal P w K mg bs 1 "trodden" s_trodden ["way"] 1 pre_trodden) (C_turned : Cal P w K mg bs 1 "turned" s_turned ["way"] 1 pre_turned) : FnG P w K mg bs CX0 5 f fd ["script"] (spLaw K) :=
  fng_law (ps2 := []) (m := m_law) (N := ["script", "well", "turn", "web", "standing", "way", "rows", "road", "kept", "back", "found", "laid", "taken", "loads", "by"]) (k := 3) F sc_law rfl rfl rfl rfl rfl rfl (fun _ => Fw) qw Gw.kp bw (fun cdv A out s H E hr hG => ⟨_, ps_set (i := 1) sc_law.nd rfl (by first | exact .inl rfl | exact .inr rfl) (pe_callG Fw (rm hr) hG (by rfl) qw Gw.kp bw pass0 (pa_cons (pv 0) pa_nil)), pkJ
    (jss_cons (js_for PassesOwn.never (ji_range1 T.range (jab_cons (JE.jb je_int) jab_nil)) (jg_name 2 sc_law.nd) (jss_cons (js_set 3 sc_law.nd (je_if (jt_eq (un64 hr) (jb_var 2) (JE.jb je_int)) (j_call C_law_web (rm hr) hG (jc_well 1 (jc_cons je_int (jc_cons je_int (jc_cons je_int jc_nil))))) (j_call C_law_web (rm hr) hG (jc_well 1 (jc_cons je_int (jc_cons je_int (jc_cons je_int jc_nil)))))))
    (jss_cons (js_set 4 sc_law.nd (j_call C_law_standing (rm hr) hG (jc_well 1 (jc_cons (je_var 3) jc_nil))))
    (jss_cons (js_asg (j_call C_law_walk (rm hr) hG (jc_well 1 (jc_cons (je_var 3) (jc_cons (je_var 4) (jc_cons (je_if (jt_lt (jb_var 2) (JE.jb je_int)) je_int je_int) jc_nil))))) (jg_tupK (js := [5, 6]) (jgs_cons (jg_name 5 sc_law.nd) (jgs_cons (jg_name 6 sc_law.nd) jgs_nil))))
    (jss_cons (js_par 8 9 sc_law.nd (je_reprA hG (un64 hr) T.repr (jab_cons (jb_var 5) jab_nil)) (je_tuple T.tuple (jab_cons (JE.jb (JF.je (jf_lcF [("road", 7), ("by", 14)] sc_law.nd (ji_seq (je_revT (jb_var 5))) (blkOk_by (own := [("road", 7), ("by", 14)]) (N := ["script", "well", "turn", "web", "standing", "way", "rows", "road", "kept", "back", "found", "laid", "taken", "loads", "by"]) (sc := defScope s_law) (by decide +kernel)) (fun _ _ _ _ _ => (jg_tupK (js := [7, 14]) (jgs_cons (jg_name 7 sc_law.nd) (jgs_cons (jg_name 14 sc_law.nd) jgs_nil)))) (fun _ _ _ _ _ => jts_nil) (fun _ _ _ _ _ => (je_tup (ja_cons (je_var 7) (ja_cons (je_neg (jb_var 14)) ja_nil))))))) jab_nil)) rfl rfl)
    (jss_cons (js_if (jt_neT (JE.jb (je_reprA hG (un64 hr) T.repr (jab_cons (JE.jb (JF.je (jf_lst (ja_cons (j_call C_turned (rm hr) hG (jc_cons (je_var 5) jc_nil)) (ja_cons (j_callK0 C_turned kb_turned_0 (perm_pm (by decide)) (rm hr) hG (jk_cons (je_var 5) jk_nil)) (ja_cons (j_call C_turned (rm hr) hG (jc_cons (je_var 9) jc_nil)) ja_nil)))))) jab_nil))) (JE.jb (je_reprA hG (un64 hr) T.repr (jab_cons (JE.jb (JF.je (jf_lst (ja_cons (je_var 9) (ja_cons (je_var 9) (ja_cons (je_var 5) ja_nil)))))) jab_nil)))) (jss_one (js_ret je_bl)) jss_nil)
    (jss_cons (js_if (jt_neT (JE.jb (je_reprA hG (un64 hr) T.repr (jab_cons (JE.jb (j_call C_standings_along.calm (rm hr) hG (jc_cons (je_var 3) (jc_cons (je_ix (jb_var 6) (JE.jb (je_neg (JE.jb je_int))) (fun _ _ => rfl)) (jc_cons (j_call C_turned (rm hr) hG (jc_cons (je_var 5) jc_nil)) jc_nil))))) jab_nil))) (JE.jb (je_reprA hG (un64 hr) T.repr (jab_cons (JE.jb (je_revT (jb_var 6))) jab_nil)))) (jss_one (js_ret je_bl)) jss_nil)
    (jss_cons (js_set 10 sc_law.nd (j_call C_trodden (rm hr) hG (jc_cons (je_var 5) jc_nil)))
    (jss_cons (js_if (jt_neT (JE.jb (je_reprA hG (un64 hr) T.repr (jab_cons (JE.jb (JF.je (jf_lst (ja_cons (je_var 10) (ja_cons (j_callK0 C_trodden kb_trodden_0 (perm_pm (by decide)) (rm hr) hG (jk_cons (je_var 5) jk_nil)) ja_nil))))) jab_nil))) (JE.jb (je_reprA hG (un64 hr) T.repr (jab_cons (JE.jb (je_mulB (JE.jb (JF.je (jf_lst (ja_cons (j_call C_law_counts (rm hr) hG (jc_cons (je_var 5) jc_nil)) ja_nil)))) (JE.jb je_int))) jab_nil)))) (jss_one (js_ret je_bl)) jss_nil)
    (jss_cons (js_if (jt_neT (JE.jb (je_reprA hG (un64 hr) T.repr (jab_cons (JE.jb (j_call C_trodden (rm hr) hG (jc_cons (je_var 9) jc_nil))) jab_nil))) (JE.jb (je_reprA hG (un64 hr) T.repr (jab_cons (JE.jb (je_tuple T.tuple (jab_cons (JE.jb (JF.je (jf_lcF [("road", 7), ("laid", 11), ("taken", 12)] sc_law.nd (ji_seq (je_var 10)) (blkOk_by (own := [("road", 7), ("laid", 11), ("taken", 12)]) (N := ["script", "well", "turn", "web", "standing", "way", "rows", "road", "kept", "back", "found", "laid", "taken", "loads", "by"]) (sc := defScope s_law) (by decide +kernel)) (fun _ _ _ _ _ => (jg_tupK (js := [7, 11, 12]) (jgs_cons (jg_name 7 sc_law.nd) (jgs_cons (jg_name 11 sc_law.nd) (jgs_cons (jg_name 12 sc_law.nd) jgs_nil))))) (fun _ _ _ _ _ => jts_nil) (fun _ _ _ _ _ => (je_tup (ja_cons (je_var 7) (ja_cons (je_var 12) (ja_cons (je_var 11) ja_nil)))))))) jab_nil))) jab_nil)))) (jss_one (js_ret je_bl)) jss_nil)
    (jss_cons (js_setF 13 sc_law.nd (jf_list T.list (jab_cons (jb_var 4) jab_nil)))
    (jss_cons (js_for PassesOwn.never (ji_seq (je_var 10)) (jg_tupK (js := [7, 11, 12]) (jgs_cons (jg_name 7 sc_law.nd) (jgs_cons (jg_name 11 sc_law.nd) (jgs_cons (jg_name 12 sc_law.nd) jgs_nil)))) (jss_one (js_put 13 (je_sub (JE.jb (je_addA (JE.jb (je_ix (jb_var 13) (jb_var 7) (fun _ _ => rfl))) (jb_var 11))) (jb_var 12)) (jb_var 7))))
    (jss_one (js_if (JW.jt (jw_or (jt_ne (un64 hr) (JE.jb (je_tuple T.tuple (jab_cons (jb_var 13) jab_nil))) (JE.jb (je_ix (jb_var 6) (JE.jb (je_neg (JE.jb je_int))) (fun _ _ => rfl)))) (jw_or1 (jt_neT (JE.jb (je_reprA hG (un64 hr) T.repr (jab_cons (jb_var 5) jab_nil))) (jb_var 8))))) (jss_one (js_ret je_bl)) jss_nil))))))))))))))
    (jss_one (js_ret je_bl))) rfl⟩) law_mean
theorem all_mk {l : PySem.W.OpenLaw} {w : World} {K : PySem.W.Frag} {h : Heap} {mg : Str → Option Value} {fa : Addr}
    (X : K.In h) (G : h.Ns mainGlobals mg) (hfa : mg "law" = some (.ref fa))
    {f0 : Addr} {od0 an0 : Option Addr} {sl0 : Array (Option Value)} {oc0 kV0 dc0 pm0 cd0 ct0 : Value}
    {f1 : Addr} {od1 an1 : Option Addr} {sl1 : Array (Option Value)} {oc1 kV1 dc1 pm1 cd1 ct1 : Value}
    {f2 : Addr} {od2 an2 : Option Addr} {sl2 : Array (Option Value)} {oc2 kV2 dc2 pm2 cd2 ct2 : Value}
    {f3 : Addr} {od3 an3 : Option Addr} {sl3 : Array (Option Value)} {oc3 kV3 dc3 pm3 cd3 ct3 : Value}
    {f4 : Addr} {od4 an4 : Option Addr} {sl4 : Array (Option Value)} {oc4 kV4 dc4 pm4 cd4 ct4 : Value}
    {f5 : Addr} {od5 an5 : Option Addr} {sl5 : Array (Option Value)} {oc5 kV5 dc5 pm5 cd5 ct5 : Value}
    {f6 : Addr} {od6 an6 : Option Addr} {sl6 : Array (Option Value)} {oc6 kV6 dc6 pm6 cd6 ct6 : Value}
    {f7 : Addr} {od7 an7 : Option Addr} {sl7 : Array (Option Value)} {oc7 kV7 dc7 pm7 cd7 ct7 : Value}
    {f8 : Addr} {od8 an8 : Option Addr} {sl8 : Array (Option Value)} {oc8 kV8 dc8 pm8 cd8 ct8 : Value}
    {f9 : Addr} {od9 an9 : Option Addr} {sl9 : Array (Option Value)} {oc9 kV9 dc9 pm9 cd9 ct9 : Value}
    {f10 : Addr} {od10 an10 : Option Addr} {sl10 : Array (Option Value)} {oc10 kV10 dc10 pm10 cd10 ct10 : Value}
    {f11 : Addr} {od11 an11 : Option Addr} {sl11 : Array (Option Value)} {oc11 kV11 dc11 pm11 cd11 ct11 : Value}
    {f12 : Addr} {od12 an12 : Option Addr} {sl12 : Array (Option Value)} {oc12 kV12 dc12 pm12 cd12 ct12 : Value}
    {f13 : Addr} {od13 an13 : Option Addr} {sl13 : Array (Option Value)} {oc13 kV13 dc13 pm13 cd13 ct13 : Value}
    {f14 : Addr} {od14 an14 : Option Addr} {sl14 : Array (Option Value)} {oc14 kV14 dc14 pm14 cd14 ct14 : Value}
    {f15 : Addr} {od15 an15 : Option Addr} {sl15 : Array (Option Value)} {oc15 kV15 dc15 pm15 cd15 ct15 : Value}
    {f16 : Addr} {od16 an16 : Option Addr} {sl16 : Array (Option Value)} {oc16 kV16 dc16 pm16 cd16 ct16 : Value}
    {f17 : Addr} {od17 an17 : Option Addr} {sl17 : Array (Option Value)} {oc17 kV17 dc17 pm17 cd17 ct17 : Value}
    {f18 : Addr} {od18 an18 : Option Addr} {sl18 : Array (Option Value)} {oc18 kV18 dc18 pm18 cd18 ct18 : Value}
    {f19 : Addr} {od19 an19 : Option Addr} {sl19 : Array (Option Value)} {oc19 kV19 dc19 pm19 cd19 ct19 : Value}
    {f20 : Addr} {od20 an20 : Option Addr} {sl20 : Array (Option Value)} {oc20 kV20 dc20 pm20 cd20 ct20 : Value}
    {f21 : Addr} {od21 an21 : Option Addr} {sl21 : Array (Option Value)} {oc21 kV21 dc21 pm21 cd21 ct21 : Value}
    {c_Unfit : Addr}
    (a0 : PySem.W.nsIn K mainGlobals "is_integer" = some (some (.ref f0))) (l0 : K.lookup f0 = some ⟨oc0, od0, .func (PySem.W.fnOf "is_integer" "is_integer" (defArgs s_is_integer) (defBody s_is_integer) (defScope s_is_integer) .none kV0 dc0 pm0 an0 cd0 ct0), sl0⟩) (c0 : PySem.W.codeIn K cd0 "is_integer" = true) (k0 : PySem.W.keepIn K (.ref f0) = true)
    (a1 : PySem.W.nsIn K mainGlobals "is_tuple_of" = some (some (.ref f1))) (l1 : K.lookup f1 = some ⟨oc1, od1, .func (PySem.W.fnOf "is_tuple_of" "is_tuple_of" (defArgs s_is_tuple_of) (defBody s_is_tuple_of) (defScope s_is_tuple_of) .none kV1 dc1 pm1 an1 cd1 ct1), sl1⟩) (c1 : PySem.W.codeIn K cd1 "is_tuple_of" = true) (k1 : PySem.W.keepIn K (.ref f1) = true)
    (a2 : PySem.W.nsIn K mainGlobals "sums_of" = some (some (.ref f2))) (l2 : K.lookup f2 = some ⟨oc2, od2, .func (PySem.W.fnOf "sums_of" "sums_of" (defArgs s_sums_of) (defBody s_sums_of) (defScope s_sums_of) .none kV2 dc2 pm2 an2 cd2 ct2), sl2⟩) (c2 : PySem.W.codeIn K cd2 "sums_of" = true) (k2 : PySem.W.keepIn K (.ref f2) = true)
    (a3 : PySem.W.nsIn K mainGlobals "deed_error" = some (some (.ref f3))) (l3 : K.lookup f3 = some ⟨oc3, od3, .func (PySem.W.fnOf "deed_error" "deed_error" (defArgs s_deed_error) (defBody s_deed_error) (defScope s_deed_error) .none kV3 dc3 pm3 an3 cd3 ct3), sl3⟩) (c3 : PySem.W.codeIn K cd3 "deed_error" = true) (k3 : PySem.W.keepIn K (.ref f3) = true)
    (a4 : PySem.W.nsIn K mainGlobals "_has_room" = some (some (.ref f4))) (l4 : K.lookup f4 = some ⟨oc4, od4, .func (PySem.W.fnOf "_has_room" "_has_room" (defArgs s_has_room) (defBody s_has_room) (defScope s_has_room) .none kV4 dc4 pm4 an4 cd4 ct4), sl4⟩) (c4 : PySem.W.codeIn K cd4 "_has_room" = true) (k4 : PySem.W.keepIn K (.ref f4) = true)
    (a5 : PySem.W.nsIn K mainGlobals "done" = some (some (.ref f5))) (l5 : K.lookup f5 = some ⟨oc5, od5, .func (PySem.W.fnOf "done" "done" (defArgs s_done) (defBody s_done) (defScope s_done) .none kV5 dc5 pm5 an5 cd5 ct5), sl5⟩) (c5 : PySem.W.codeIn K cd5 "done" = true) (k5 : PySem.W.keepIn K (.ref f5) = true)
    (a6 : PySem.W.nsIn K mainGlobals "standings_along" = some (some (.ref f6))) (l6 : K.lookup f6 = some ⟨oc6, od6, .func (PySem.W.fnOf "standings_along" "standings_along" (defArgs s_standings_along) (defBody s_standings_along) (defScope s_standings_along) .none kV6 dc6 pm6 an6 cd6 ct6), sl6⟩) (c6 : PySem.W.codeIn K cd6 "standings_along" = true) (k6 : PySem.W.keepIn K (.ref f6) = true)
    (a7 : PySem.W.nsIn K mainGlobals "turned" = some (some (.ref f7))) (l7 : K.lookup f7 = some ⟨oc7, od7, .func (PySem.W.fnOf "turned" "turned" (defArgs s_turned) (defBody s_turned) (defScope s_turned) .none kV7 dc7 pm7 an7 cd7 ct7), sl7⟩) (c7 : PySem.W.codeIn K cd7 "turned" = true) (k7 : PySem.W.keepIn K (.ref f7) = true)
    (a8 : PySem.W.nsIn K mainGlobals "trodden" = some (some (.ref f8))) (l8 : K.lookup f8 = some ⟨oc8, od8, .func (PySem.W.fnOf "trodden" "trodden" (defArgs s_trodden) (defBody s_trodden) (defScope s_trodden) .none kV8 dc8 pm8 an8 cd8 ct8), sl8⟩) (c8 : PySem.W.codeIn K cd8 "trodden" = true) (k8 : PySem.W.keepIn K (.ref f8) = true)
    (a9 : PySem.W.nsIn K mainGlobals "_law_well" = some (some (.ref f9))) (l9 : K.lookup f9 = some ⟨oc9, od9, .func (PySem.W.fnOf "_law_well" "_law_well" (defArgs s_law_well) (defBody s_law_well) (defScope s_law_well) .none kV9 dc9 pm9 an9 cd9 ct9), sl9⟩) (c9 : PySem.W.codeIn K cd9 "_law_well" = true) (k9 : PySem.W.keepIn K (.ref f9) = true)
    (a10 : PySem.W.nsIn K mainGlobals "_law_draw" = some (some (.ref f10))) (l10 : K.lookup f10 = some ⟨oc10, od10, .func (PySem.W.fnOf "_law_draw" "_law_draw" (defArgs s_law_draw) (defBody s_law_draw) (defScope s_law_draw) .none kV10 dc10 pm10 an10 cd10 ct10), sl10⟩) (c10 : PySem.W.codeIn K cd10 "_law_draw" = true) (k10 : PySem.W.keepIn K (.ref f10) = true)
    (a11 : PySem.W.nsIn K mainGlobals "_law_pick" = some (some (.ref f11))) (l11 : K.lookup f11 = some ⟨oc11, od11, .func (PySem.W.fnOf "_law_pick" "_law_pick" (defArgs s_law_pick) (defBody s_law_pick) (defScope s_law_pick) .none kV11 dc11 pm11 an11 cd11 ct11), sl11⟩) (c11 : PySem.W.codeIn K cd11 "_law_pick" = true) (k11 : PySem.W.keepIn K (.ref f11) = true)
    (a12 : PySem.W.nsIn K mainGlobals "_law_mixed" = some (some (.ref f12))) (l12 : K.lookup f12 = some ⟨oc12, od12, .func (PySem.W.fnOf "_law_mixed" "_law_mixed" (defArgs s_law_mixed) (defBody s_law_mixed) (defScope s_law_mixed) .none kV12 dc12 pm12 an12 cd12 ct12), sl12⟩) (c12 : PySem.W.codeIn K cd12 "_law_mixed" = true) (k12 : PySem.W.keepIn K (.ref f12) = true)
    (a13 : PySem.W.nsIn K mainGlobals "_law_shape" = some (some (.ref f13))) (l13 : K.lookup f13 = some ⟨oc13, od13, .func (PySem.W.fnOf "_law_shape" "_law_shape" (defArgs s_law_shape) (defBody s_law_shape) (defScope s_law_shape) .none kV13 dc13 pm13 an13 cd13 ct13), sl13⟩) (c13 : PySem.W.codeIn K cd13 "_law_shape" = true) (k13 : PySem.W.keepIn K (.ref f13) = true)
    (a14 : PySem.W.nsIn K mainGlobals "_law_web" = some (some (.ref f14))) (l14 : K.lookup f14 = some ⟨oc14, od14, .func (PySem.W.fnOf "_law_web" "_law_web" (defArgs s_law_web) (defBody s_law_web) (defScope s_law_web) .none kV14 dc14 pm14 an14 cd14 ct14), sl14⟩) (c14 : PySem.W.codeIn K cd14 "_law_web" = true) (k14 : PySem.W.keepIn K (.ref f14) = true)
    (a15 : PySem.W.nsIn K mainGlobals "_law_standing" = some (some (.ref f15))) (l15 : K.lookup f15 = some ⟨oc15, od15, .func (PySem.W.fnOf "_law_standing" "_law_standing" (defArgs s_law_standing) (defBody s_law_standing) (defScope s_law_standing) .none kV15 dc15 pm15 an15 cd15 ct15), sl15⟩) (c15 : PySem.W.codeIn K cd15 "_law_standing" = true) (k15 : PySem.W.keepIn K (.ref f15) = true)
    (a16 : PySem.W.nsIn K mainGlobals "_law_sums" = some (some (.ref f16))) (l16 : K.lookup f16 = some ⟨oc16, od16, .func (PySem.W.fnOf "_law_sums" "_law_sums" (defArgs s_law_sums) (defBody s_law_sums) (defScope s_law_sums) .none kV16 dc16 pm16 an16 cd16 ct16), sl16⟩) (c16 : PySem.W.codeIn K cd16 "_law_sums" = true) (k16 : PySem.W.keepIn K (.ref f16) = true)
    (a17 : PySem.W.nsIn K mainGlobals "_law_let" = some (some (.ref f17))) (l17 : K.lookup f17 = some ⟨oc17, od17, .func (PySem.W.fnOf "_law_let" "_law_let" (defArgs s_law_let) (defBody s_law_let) (defScope s_law_let) .none kV17 dc17 pm17 an17 cd17 ct17), sl17⟩) (c17 : PySem.W.codeIn K cd17 "_law_let" = true) (k17 : PySem.W.keepIn K (.ref f17) = true)
    (a18 : PySem.W.nsIn K mainGlobals "_law_behind" = some (some (.ref f18))) (l18 : K.lookup f18 = some ⟨oc18, od18, .func (PySem.W.fnOf "_law_behind" "_law_behind" (defArgs s_law_behind) (defBody s_law_behind) (defScope s_law_behind) .none kV18 dc18 pm18 an18 cd18 ct18), sl18⟩) (c18 : PySem.W.codeIn K cd18 "_law_behind" = true) (k18 : PySem.W.keepIn K (.ref f18) = true)
    (a19 : PySem.W.nsIn K mainGlobals "_law_walk" = some (some (.ref f19))) (l19 : K.lookup f19 = some ⟨oc19, od19, .func (PySem.W.fnOf "_law_walk" "_law_walk" (defArgs s_law_walk) (defBody s_law_walk) (defScope s_law_walk) .none kV19 dc19 pm19 an19 cd19 ct19), sl19⟩) (c19 : PySem.W.codeIn K cd19 "_law_walk" = true) (k19 : PySem.W.keepIn K (.ref f19) = true)
    (a20 : PySem.W.nsIn K mainGlobals "_law_counts" = some (some (.ref f20))) (l20 : K.lookup f20 = some ⟨oc20, od20, .func (PySem.W.fnOf "_law_counts" "_law_counts" (defArgs s_law_counts) (defBody s_law_counts) (defScope s_law_counts) .none kV20 dc20 pm20 an20 cd20 ct20), sl20⟩) (c20 : PySem.W.codeIn K cd20 "_law_counts" = true) (k20 : PySem.W.keepIn K (.ref f20) = true)
    (a21 : PySem.W.nsIn K mainGlobals "law" = some (some (.ref f21))) (l21 : K.lookup f21 = some ⟨oc21, od21, .func (PySem.W.fnOf "law" "law" (defArgs s_law) (defBody s_law) (defScope s_law) .none kV21 dc21 pm21 an21 cd21 ct21), sl21⟩) (c21 : PySem.W.codeIn K cd21 "law" = true) (k21 : PySem.W.keepIn K (.ref f21) = true)
    (z0 : PySem.W.nsIn K mainGlobals "abs" = some none)
    (z1 : PySem.W.nsIn K mainGlobals "bool" = some none)
    (z2 : PySem.W.nsIn K mainGlobals "enumerate" = some none)
    (z3 : PySem.W.nsIn K mainGlobals "int" = some none)
    (z4 : PySem.W.nsIn K mainGlobals "isinstance" = some none)
    (z5 : PySem.W.nsIn K mainGlobals "len" = some none)
    (z6 : PySem.W.nsIn K mainGlobals "list" = some none)
    (z7 : PySem.W.nsIn K mainGlobals "max" = some none)
    (z8 : PySem.W.nsIn K mainGlobals "min" = some none)
    (z9 : PySem.W.nsIn K mainGlobals "range" = some none)
    (z10 : PySem.W.nsIn K mainGlobals "repr" = some none)
    (z11 : PySem.W.nsIn K mainGlobals "set" = some none)
    (z12 : PySem.W.nsIn K mainGlobals "sorted" = some none)
    (z13 : PySem.W.nsIn K mainGlobals "sum" = some none)
    (z14 : PySem.W.nsIn K mainGlobals "tuple" = some none)
    (z15 : PySem.W.nsIn K mainGlobals "zip" = some none)
    (ea_Unfit : PySem.W.nsIn K mainGlobals "Unfit" = some (some (.ref c_Unfit)))
    (ek_Unfit : PySem.W.keepIn K (.ref c_Unfit) = true) (ex_Unfit : PySem.W.excIn K c_Unfit valueErr "ValueError.__new__" = true) (es_Unfit : PySem.W.subIn K (.ref c_Unfit) (.type "BaseException") = some true) (et_Unfit : PySem.W.typeIn K (.ref c_Unfit) = some (.type "type")) :
    ∃ fd : FuncData, (∀ (s : Shared) (v : Value), BindsTo s fd ⟨[v], []⟩ [("script", v)]) ∧ ∀ bs : Heap, K.In bs → bs.Ns mainGlobals mg → FnG l.prog w K mg bs CX0 5 fa fd ["script"] (spLaw K) := by
  have e := hfa.symm.trans (PySem.W.mg_of X G a21)
  cases e
  have T : Txt mg := ⟨PySem.W.mg_none_of X G z0, PySem.W.mg_none_of X G z1, PySem.W.mg_none_of X G z2, PySem.W.mg_none_of X G z3, PySem.W.mg_none_of X G z4, PySem.W.mg_none_of X G z5, PySem.W.mg_none_of X G z6, PySem.W.mg_none_of X G z7, PySem.W.mg_none_of X G z8, PySem.W.mg_none_of X G z9, PySem.W.mg_none_of X G z10, PySem.W.mg_none_of X G z11, PySem.W.mg_none_of X G z12, PySem.W.mg_none_of X G z13, PySem.W.mg_none_of X G z14, PySem.W.mg_none_of X G z15⟩
  have F0 := fun_mk (st := s_is_integer) l0 c0 k0
  have b0 := F0.binds (ps := ["value"]) fun _ _ _ _ _ _ us hl => match us, hl with | [_], _ => rfl
  have t0 : At K mg "is_integer" s_is_integer ["value"] := ⟨_, _, F0, PySem.W.mg_of X G a0, b0⟩
  have F1 := fun_mk (st := s_is_tuple_of) l1 c1 k1
  have b1 := F1.binds (ps := ["value", "many"]) fun _ _ _ _ _ _ us hl => match us, hl with | [_, _], _ => rfl
  have t1 : At K mg "is_tuple_of" s_is_tuple_of ["value", "many"] := ⟨_, _, F1, PySem.W.mg_of X G a1, b1⟩
  have F2 := fun_mk (st := s_sums_of) l2 c2 k2
  have b2 := F2.binds (ps := ["web", "standing"]) fun _ _ _ _ _ _ us hl => match us, hl with | [_, _], _ => rfl
  have t2 : At K mg "sums_of" s_sums_of ["web", "standing"] := ⟨_, _, F2, PySem.W.mg_of X G a2, b2⟩
  have F3 := fun_mk (st := s_deed_error) l3 c3 k3
  have b3 := F3.binds (ps := ["web", "standing", "value"]) fun _ _ _ _ _ _ us hl => match us, hl with | [_, _, _], _ => rfl
  have t3 : At K mg "deed_error" s_deed_error ["web", "standing", "value"] := ⟨_, _, F3, PySem.W.mg_of X G a3, b3⟩
  have F4 := fun_mk (st := s_has_room) l4 c4 k4
  have b4 := F4.binds (ps := ["web", "standing", "road", "by"]) fun _ _ _ _ _ _ us hl => match us, hl with | [_, _, _, _], _ => rfl
  have t4 : At K mg "_has_room" s_has_room ["web", "standing", "road", "by"] := ⟨_, _, F4, PySem.W.mg_of X G a4, b4⟩
  have F5 := fun_mk (st := s_done) l5 c5 k5
  have b5 := F5.binds (ps := ["web", "standing", "deed"]) fun _ _ _ _ _ _ us hl => match us, hl with | [_, _, _], _ => rfl
  have t5 : At K mg "done" s_done ["web", "standing", "deed"] := ⟨_, _, F5, PySem.W.mg_of X G a5, b5⟩
  have F6 := fun_mk (st := s_standings_along) l6 c6 k6
  have b6 := F6.binds (ps := ["web", "standing", "way"]) fun _ _ _ _ _ _ us hl => match us, hl with | [_, _, _], _ => rfl
  have t6 : At K mg "standings_along" s_standings_along ["web", "standing", "way"] := ⟨_, _, F6, PySem.W.mg_of X G a6, b6⟩
  have F7 := fun_mk (st := s_turned) l7 c7 k7
  have b7 := F7.binds (ps := ["way"]) fun _ _ _ _ _ _ us hl => match us, hl with | [_], _ => rfl
  have t7 : At K mg "turned" s_turned ["way"] := ⟨_, _, F7, PySem.W.mg_of X G a7, b7⟩
  have F8 := fun_mk (st := s_trodden) l8 c8 k8
  have b8 := F8.binds (ps := ["way"]) fun _ _ _ _ _ _ us hl => match us, hl with | [_], _ => rfl
  have t8 : At K mg "trodden" s_trodden ["way"] := ⟨_, _, F8, PySem.W.mg_of X G a8, b8⟩
  have F9 := fun_mk (st := s_law_well) l9 c9 k9
  have b9 := F9.binds (ps := ["script"]) fun _ _ _ _ _ _ us hl => match us, hl with | [_], _ => rfl
  have F10 := fun_mk (st := s_law_draw) l10 c10 k10
  have b10 := F10.binds (ps := ["well", "many"]) fun _ _ _ _ _ _ us hl => match us, hl with | [_, _], _ => rfl
  have t10 : At K mg "_law_draw" s_law_draw ["well", "many"] := ⟨_, _, F10, PySem.W.mg_of X G a10, b10⟩
  have F11 := fun_mk (st := s_law_pick) l11 c11 k11
  have b11 := F11.binds (ps := ["well", "items"]) fun _ _ _ _ _ _ us hl => match us, hl with | [_, _], _ => rfl
  have t11 : At K mg "_law_pick" s_law_pick ["well", "items"] := ⟨_, _, F11, PySem.W.mg_of X G a11, b11⟩
  have F12 := fun_mk (st := s_law_mixed) l12 c12 k12
  have b12 := F12.binds (ps := ["well", "many"]) fun _ _ _ _ _ _ us hl => match us, hl with | [_, _], _ => rfl
  have t12 : At K mg "_law_mixed" s_law_mixed ["well", "many"] := ⟨_, _, F12, PySem.W.mg_of X G a12, b12⟩
  have F13 := fun_mk (st := s_law_shape) l13 c13 k13
  have b13 := F13.binds (ps := ["well", "size", "room"]) fun _ _ _ _ _ _ us hl => match us, hl with | [_, _, _], _ => rfl
  have t13 : At K mg "_law_shape" s_law_shape ["well", "size", "room"] := ⟨_, _, F13, PySem.W.mg_of X G a13, b13⟩
  have F14 := fun_mk (st := s_law_web) l14 c14 k14
  have b14 := F14.binds (ps := ["well", "size", "room", "load"]) fun _ _ _ _ _ _ us hl => match us, hl with | [_, _, _, _], _ => rfl
  have t14 : At K mg "_law_web" s_law_web ["well", "size", "room", "load"] := ⟨_, _, F14, PySem.W.mg_of X G a14, b14⟩
  have F15 := fun_mk (st := s_law_standing) l15 c15 k15
  have b15 := F15.binds (ps := ["well", "web"]) fun _ _ _ _ _ _ us hl => match us, hl with | [_, _], _ => rfl
  have t15 : At K mg "_law_standing" s_law_standing ["well", "web"] := ⟨_, _, F15, PySem.W.mg_of X G a15, b15⟩
  have F16 := fun_mk (st := s_law_sums) l16 c16 k16
  have b16 := F16.binds (ps := ["web", "standing"]) fun _ _ _ _ _ _ us hl => match us, hl with | [_, _], _ => rfl
  have t16 : At K mg "_law_sums" s_law_sums ["web", "standing"] := ⟨_, _, F16, PySem.W.mg_of X G a16, b16⟩
  have F17 := fun_mk (st := s_law_let) l17 c17 k17
  have b17 := F17.binds (ps := ["web", "standing"]) fun _ _ _ _ _ _ us hl => match us, hl with | [_, _], _ => rfl
  have t17 : At K mg "_law_let" s_law_let ["web", "standing"] := ⟨_, _, F17, PySem.W.mg_of X G a17, b17⟩
  have F18 := fun_mk (st := s_law_behind) l18 c18 k18
  have b18 := F18.binds (ps := ["standing", "deed"]) fun _ _ _ _ _ _ us hl => match us, hl with | [_, _], _ => rfl
  have t18 : At K mg "_law_behind" s_law_behind ["standing", "deed"] := ⟨_, _, F18, PySem.W.mg_of X G a18, b18⟩
  have F19 := fun_mk (st := s_law_walk) l19 c19 k19
  have b19 := F19.binds (ps := ["well", "web", "standing", "most"]) fun _ _ _ _ _ _ us hl => match us, hl with | [_, _, _, _], _ => rfl
  have t19 : At K mg "_law_walk" s_law_walk ["well", "web", "standing", "most"] := ⟨_, _, F19, PySem.W.mg_of X G a19, b19⟩
  have F20 := fun_mk (st := s_law_counts) l20 c20 k20
  have b20 := F20.binds (ps := ["way"]) fun _ _ _ _ _ _ us hl => match us, hl with | [_], _ => rfl
  have t20 : At K mg "_law_counts" s_law_counts ["way"] := ⟨_, _, F20, PySem.W.mg_of X G a20, b20⟩
  have F21 := fun_mk (st := s_law) l21 c21 k21
  have Y : Exs K mg c_Unfit := ⟨⟨PySem.W.mg_of X G ea_Unfit, ek_Unfit, ex_Unfit, es_Unfit, et_Unfit⟩⟩
  refine ⟨PySem.W.fnOf "law" "law" (defArgs s_law) (defBody s_law) (defScope s_law) .none kV21 dc21 pm21 an21 cd21 ct21, fun s v => .of_eq rfl, fun bs _ _ => ?_⟩
  have C_law_counts := cal_law_counts (P := l.prog) (w := w) (bs := bs) T Y t20  
  have C_law_draw := cal_law_draw (P := l.prog) (w := w) (bs := bs) T t10  
  have C_law_standing := cal_law_standing (P := l.prog) (w := w) (bs := bs) T Y t15 C_law_draw 
  have C_law_behind := cal_law_behind (P := l.prog) (w := w) (bs := bs) T Y t18  
  have C_law_sums := cal_law_sums (P := l.prog) (w := w) (bs := bs) T Y t16  
  have C_law_let := cal_law_let (P := l.prog) (w := w) (bs := bs) T Y t17 C_law_sums 
  have C_law_pick := cal_law_pick (P := l.prog) (w := w) (bs := bs) T Y t11 C_law_draw 
  have C_law_walk := cal_law_walk (P := l.prog) (w := w) (bs := bs) T Y t19 C_law_behind C_law_draw C_law_let C_law_pick 
  have C_law_mixed := cal_law_mixed (P := l.prog) (w := w) (bs := bs) T t12 C_law_draw 
  have C_law_shape := cal_law_shape (P := l.prog) (w := w) (bs := bs) T Y t13 C_law_draw 
  have C_law_web := cal_law_web (P := l.prog) (w := w) (bs := bs) T Y t14 C_law_draw C_law_mixed C_law_shape 
  have C_has_room := cal_has_room (P := l.prog) (w := w) (bs := bs) T Y t4  
  have C_is_integer := cal_is_integer (P := l.prog) (w := w) (bs := bs) T Y t0  
  have C_is_tuple_of := cal_is_tuple_of (P := l.prog) (w := w) (bs := bs) T Y t1  
  have C_sums_of := cal_sums_of (P := l.prog) (w := w) (bs := bs) T Y t2  
  have C_deed_error := cal_deed_error (P := l.prog) (w := w) (bs := bs) T Y t3 C_has_room C_is_integer C_is_tuple_of C_sums_of 
  have C_done := cal_done (P := l.prog) (w := w) (bs := bs) T Y t5 C_deed_error 
  have C_standings_along := cal_standings_along (P := l.prog) (w := w) (bs := bs) T Y t6 C_done 
  have C_trodden := cal_trodden (P := l.prog) (w := w) (bs := bs) T Y t8  
  have C_turned := cal_turned (P := l.prog) (w := w) (bs := bs) T Y t7  
  exact fn_law T Y F21 (fn_law_well T F9) F9 (PySem.W.mg_of X G a9) b9 C_law_counts C_law_standing C_law_walk C_law_web C_standings_along C_trodden C_turned
end
end Lk15
open PySem PySem.W PyProof.Rows in
set_option maxRecDepth 100000 in
set_option maxHeartbeats 0 in
theorem PySem.Challenge.cw_unevenroads_k15_whole_ways_turned_and_tr_holds : PySem.Challenge.rw_unevenroads_k15_whole_ways_turned_and_tr.Holds := by
  w_on; o_law; k_head; (case hw => w_witness2)
  k_fill
  refine Dw.walkG (l := PySem.Challenge.rw_unevenroads_k15_whole_ways_turned_and_tr) (n := 63) (k := 5) (x := "script") (sp := fun K => Dw.spLaw K) rfl (by decide) rfl ⟨rfl, by decide, by decide⟩ (fun w h Y => PySem.W.kIn_of Y) ?F (fun K H a ns hl _ hS => ⟨a, ns, rfl, hS, hl, fun _ => rfl⟩)
  case F =>
    intro w mg fa h KX G hmg
    refine' Lk15.all_mk KX G hmg ?a0 ?l0 ?c0 ?k0 ?a1 ?l1 ?c1 ?k1 ?a2 ?l2 ?c2 ?k2 ?a3 ?l3 ?c3 ?k3 ?a4 ?l4 ?c4 ?k4 ?a5 ?l5 ?c5 ?k5 ?a6 ?l6 ?c6 ?k6 ?a7 ?l7 ?c7 ?k7 ?a8 ?l8 ?c8 ?k8 ?a9 ?l9 ?c9 ?k9 ?a10 ?l10 ?c10 ?k10 ?a11 ?l11 ?c11 ?k11 ?a12 ?l12 ?c12 ?k12 ?a13 ?l13 ?c13 ?k13 ?a14 ?l14 ?c14 ?k14 ?a15 ?l15 ?c15 ?k15 ?a16 ?l16 ?c16 ?k16 ?a17 ?l17 ?c17 ?k17 ?a18 ?l18 ?c18 ?k18 ?a19 ?l19 ?c19 ?k19 ?a20 ?l20 ?c20 ?k20 ?a21 ?l21 ?c21 ?k21 ?z0 ?z1 ?z2 ?z3 ?z4 ?z5 ?z6 ?z7 ?z8 ?z9 ?z10 ?z11 ?z12 ?z13 ?z14 ?z15 ?ea_Unfit ?ek_Unfit ?ex_Unfit ?es_Unfit ?et_Unfit
    (case a0 => k_is)
    (case l0 => k_is)
    (case c0 => k_is)
    (case k0 => k_is)
    (case a1 => k_is)
    (case l1 => k_is)
    (case c1 => k_is)
    (case k1 => k_is)
    (case a2 => k_is)
    (case l2 => k_is)
    (case c2 => k_is)
    (case k2 => k_is)
    (case a3 => k_is)
    (case l3 => k_is)
    (case c3 => k_is)
    (case k3 => k_is)
    (case a4 => k_is)
    (case l4 => k_is)
    (case c4 => k_is)
    (case k4 => k_is)
    (case a5 => k_is)
    (case l5 => k_is)
    (case c5 => k_is)
    (case k5 => k_is)
    (case a6 => k_is)
    (case l6 => k_is)
    (case c6 => k_is)
    (case k6 => k_is)
    (case a7 => k_is)
    (case l7 => k_is)
    (case c7 => k_is)
    (case k7 => k_is)
    (case a8 => k_is)
    (case l8 => k_is)
    (case c8 => k_is)
    (case k8 => k_is)
    (case a9 => k_is)
    (case l9 => k_is)
    (case c9 => k_is)
    (case k9 => k_is)
    (case a10 => k_is)
    (case l10 => k_is)
    (case c10 => k_is)
    (case k10 => k_is)
    (case a11 => k_is)
    (case l11 => k_is)
    (case c11 => k_is)
    (case k11 => k_is)
    (case a12 => k_is)
    (case l12 => k_is)
    (case c12 => k_is)
    (case k12 => k_is)
    (case a13 => k_is)
    (case l13 => k_is)
    (case c13 => k_is)
    (case k13 => k_is)
    (case a14 => k_is)
    (case l14 => k_is)
    (case c14 => k_is)
    (case k14 => k_is)
    (case a15 => k_is)
    (case l15 => k_is)
    (case c15 => k_is)
    (case k15 => k_is)
    (case a16 => k_is)
    (case l16 => k_is)
    (case c16 => k_is)
    (case k16 => k_is)
    (case a17 => k_is)
    (case l17 => k_is)
    (case c17 => k_is)
    (case k17 => k_is)
    (case a18 => k_is)
    (case l18 => k_is)
    (case c18 => k_is)
    (case k18 => k_is)
    (case a19 => k_is)
    (case l19 => k_is)
    (case c19 => k_is)
    (case k19 => k_is)
    (case a20 => k_is)
    (case l20 => k_is)
    (case c20 => k_is)
    (case k20 => k_is)
    (case a21 => k_is)
    (case l21 => k_is)
    (case c21 => k_is)
    (case k21 => k_is)
    (case z0 => k_is)
    (case z1 => k_is)
    (case z2 => k_is)
    (case z3 => k_is)
    (case z4 => k_is)
    (case z5 => k_is)
    (case z6 => k_is)
    (case z7 => k_is)
    (case z8 => k_is)
    (case z9 => k_is)
    (case z10 => k_is)
    (case z11 => k_is)
    (case z12 => k_is)
    (case z13 => k_is)
    (case z14 => k_is)
    (case z15 => k_is)
    (case ea_Unfit => k_is)
    (case ek_Unfit => k_is)
    (case ex_Unfit => k_exc)
    (case es_Unfit => first | k_is | rfl)
    (case et_Unfit => k_is)
