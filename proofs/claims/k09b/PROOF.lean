import PyProof.Rows.All
import Wide.All
import OpenK.AllK
import Wide.FinOn
import PyProof.EqAt
import PyProof.EqKinds
import PyProof.TupleCall
import HandS.ForMost
import HandS.ForExc
import HandS.ExcOwn
import HandS.IsInst
import KE.KDictKeyed
import KE.KDictCopyH
import KE.DataEq
import HandS.Lambda
import HandS.Deep
import HandS.TupAny
import HandS.More
import HandS.Flow
import HandS.Zip
import KE.DataCmp
import KE.DataFind
import KE.DataMinMax
import KE.SortData
import HandS.TupMul
import HandS.Style
import KE.KStateDown
import HandS.Head2
import HandS.Dict
import PyProof.DictDisplay
import HandS.HeadHook3
import HandS.HeadWalk
import KE.GoesEnum
import KE.SortKeyHeap
import HandS.SortKw
import HandS.Keys
import KE.KDictList
import HandS.Star
import KE.KDictPairs
import KE.KDictZip
import KE.GoesMore
import KE.GoesZip
import HandS.Small
import HandS.CallLocal
import KE.KDictSum
import HandS.Rev
import HandS.RaiseMore
import HandS.Strs
import KE.GoesComp
import KE.GoesRaise
import HandS.EndTab
import HandS.ExcIs
import HandS.Property
import KE.KDflt
import KE.KExcIs
import HandS.ExcField
import HandS.ExcInit
import HandS.Nested
import HandS.FStr
import KE.KSuper
import KE.KExcSuper
import HandS.Codes
import HandS.Text
import PyProof.StrOps2
import HandS.TupSets
import HandS.SetBool
import PySem.Challenge.RW_queryheld_k09_whole_refused
set_option Elab.async false
set_option linter.all false
set_option maxRecDepth 100000
set_option maxHeartbeats 4000000
namespace DL
open PySem PySem.Spec PyProof.Rows L2
abbrev D := PyData
def SqLM (K : PySem.W.Frag) (M : Addr → Prop) (H : Hp) (a : Addr) (xs : List V) : Prop :=
  (Rd H a (.lst xs) ∧ ¬ M a) ∨
    ∃ (o : Obj) (its : Array Value) (n : Nat), K.lookup a = some o ∧ o.cls = .type "list" ∧ o.dict = none ∧ o.data = .seq its n ∧ its.size ≤ sizeLine ∧ Vals xs its.toList
theorem SqLM.sq {K : PySem.W.Frag} {M : Addr → Prop} {H : Hp} {a : Addr} {xs : List V} (h : SqLM K M H a xs) : SqL K H a xs := by
  rcases h with ⟨h, _⟩ | h
  · exact .inl h
  · exact .inr h
def lfV : Leaf → V
  | .none => .non
  | .num i => .int i
  | .text x => .str x
def lfD : Leaf → D
  | .none => .none
  | .num i => .int i
  | .text x => .str x
/-- no text: the hash is the program's alone -/
def lfN : Leaf → Bool
  | .text _ => false
  | _ => true
def lfH : Leaf → Int
  | .none => reduceHash 0xFCA86420
  | .num i => hashInt i
  | .text _ => 0
def lfsH (ks : List Leaf) : Int := reduceHash (Builtin.Tuple.tupleHashOf (ks.map lfH))
abbrev Rk := List Leaf × Addr × Int
def RkV (p : Rk) (q : List Leaf × Addr × Value) : Prop := p.1 = q.1 ∧ p.2.1 = q.2.1 ∧ RelV (.int p.2.2) q.2.2
def dctO (a : Addr) (ps : List Rk) : HO := .ext fun h => (a == sysModules) = false ∧ ps.length ≤ sizeLine ∧ ∃ xs : List (List Leaf × Addr × Value), Paired RkV ps xs ∧
  ∃ o es ep, h.get? a = some o ∧ o.ExactDict ∧ o.data = .dict es ep ∧ es.toList = xs.map fun x => ⟨lfsH x.1, .ref x.2.1, x.2.2⟩
/-- a dict with text keys, its values data -/
def tkV : List Str → List V → List (Key × V)
  | k :: ks, v :: vs => (.inr k, v) :: tkV ks vs
  | _, _ => []
def skD (p : Str × D) : D × D := (.str p.1, p.2)
def rkD (p : Rk) : D × D := (.tuple (p.1.map lfD), .int p.2.2)
mutual
inductive Da (K : PySem.W.Frag) (M : Addr → Prop) (H : Hp) : V → D → Prop
  | non : Da K M H .non .none
  | bl (b : Bool) : Da K M H (.bl b) (.bool b)
  | int (i : Int) : Da K M H (.int i) (.int i)
  | str (x : Str) : Da K M H (.str x) (.str x)
  | lst {a : Addr} {xs : List V} {ds : List D} : H a = some (.lst xs) → ¬ M a → DaL K M H xs ds → Da K M H (.ref a) (.list ds)
  | tup {a : Addr} {xs : List V} {ds : List D} : SqT K H a xs → DaL K M H xs ds → Da K M H (.ref a) (.tuple ds)
  | dct {a : Addr} {ps : List Rk} : H a = some (dctO a ps) → (∀ p ∈ ps, SqT K H p.2.1 (p.1.map lfV) ∧ p.1.all lfN = true) → (ps.map (·.1)).Nodup → Da K M H (.ref a) (.dict (ps.map rkD))
  | txd {a : Addr} {kvs : List (Str × D)} {xs : List V} : H a = some (.dK (tkV (kvs.map (·.1)) xs)) → ¬ M a → (kvs ≠ [] ∧ (kvs.map (·.1)).Nodup) → DaL K M H xs (kvs.map (·.2)) → Da K M H (.ref a) (.dict (kvs.map skD))
  | fzt {a : Addr} {o : Obj} {xs : List V} {ds : List D} : H a = some (.frz o (.tup xs)) → o.dict = none → DaL K M H xs ds → Da K M H (.ref a) (.dict [(.tuple ds, .none)])
inductive DaL (K : PySem.W.Frag) (M : Addr → Prop) (H : Hp) : List V → List D → Prop
  | nil : DaL K M H [] []
  | cons {v : V} {vs : List V} {d : D} {ds : List D} : Da K M H v d → DaL K M H vs ds → DaL K M H (v :: vs) (d :: ds)
end
/-- M holds lists and dicts with text keys alone -/
def mutO : HO → Prop
  | .lst _ => True
  | .dK _ => True
  | .ins _ _ _ => True
  | _ => False
def mutT : HO → Prop
  | .lst _ => True
  | .dK _ => True
  | .ins _ _ _ => True
  | .tbl _ => True
  | _ => False
/-- a state beside the row's: tables of flat rows -/
abbrev Xs : Type := List (List (List Leaf))
/-- more that may change beside the row: where it stands, what is true of it in a state -/
class Xk where
  kx : Addr → Prop
  ax : PySem.W.Frag → Hp → Xs → Prop
  obj : Nat → Addr
  tb : List (Addr × Str)
  there : ∀ K H x b, ax K H x → kx b → ∃ o, H b = some o ∧ mutT o
  keep : ∀ K H H' x, ax K H x → (∀ b o, kx b → H b = some o → H' b = some o) → (∀ b o, ¬ mutT o → H b = some o → H' b = some o) → ax K H' x
  tkx : ∀ p ∈ tb, kx p.1
  tabs : ∀ K H x, ax K H x → LamX.Tabs tb H
  ext : ∀ K H H1 x, ax K H x → LamX.ExtN H H1 → LamX.Tabs tb H1 → ax K H1 x
  fns : Hp → V → List Nat → Prop
  fstay : ∀ H H' v l, fns H v l → (∀ b o, ¬ mutT o → H b = some o → H' b = some o) → fns H' v l
  cl : Option (List (Str × Addr))
/-- nothing more -/
instance (priority := low) xk0 : Xk := ⟨fun _ => False, fun _ _ _ => True, fun _ => 0, [], fun _ _ _ _ _ h => h.elim, fun _ _ _ _ _ _ _ => trivial, fun _ h => (nomatch h), fun _ _ _ _ _ h => (nomatch h), fun _ _ _ _ _ _ _ => trivial, fun _ _ _ => False, fun _ _ _ _ h _ => h, none⟩
variable [Xk]
/-- what may change, and a table of code objects only where one is known -/
def mutX (b : Addr) : HO → Prop
  | .lst _ => True
  | .dK _ => True
  | .ins _ _ _ => True
  | .tbl _ => Xk.kx b
  | _ => False
theorem mutO.x {o : HO} (h : mutO o) {b : Addr} : mutX b o := by
  cases o with
  | lst _ => trivial
  | dK _ => trivial
  | ins _ _ _ => trivial
  | _ => exact h.elim
theorem mutO.t {o : HO} (h : mutO o) : mutT o := by
  cases o with
  | lst _ => trivial
  | dK _ => trivial
  | ins _ _ _ => trivial
  | _ => exact h.elim
theorem mutT.x {o : HO} (h : mutT o) {b : Addr} (k : Xk.kx b) : mutX b o := by
  cases o with
  | lst _ => trivial
  | dK _ => trivial
  | ins _ _ _ => trivial
  | tbl _ => exact k
  | _ => exact h.elim
theorem mutX.t {o : HO} {b : Addr} (h : mutX b o) : mutT o := by
  cases o with
  | lst _ => trivial
  | dK _ => trivial
  | ins _ _ _ => trivial
  | tbl _ => trivial
  | _ => exact h.elim
def Ml (M : Addr → Prop) (H : Hp) : Prop := ∀ b, M b → ∃ o, H b = some o ∧ mutX b o
/-- all that was tracked, but M, is as it was -/
def Kp (M : Addr → Prop) (H H' : Hp) : Prop := ∀ b o, ¬ M b → H b = some o → H' b = some o
theorem Kp.refl {M : Addr → Prop} (H : Hp) : Kp M H H := fun _ _ _ h => h
theorem Kp.trans {M : Addr → Prop} {H H1 H2 : Hp} (a : Kp M H H1) (b : Kp M H1 H2) : Kp M H H2 := fun c o n h => b c o n (a c o n h)
theorem Kp.of_same {M : Addr → Prop} {H H' : Hp} (a : Same H H') : Kp M H H' := fun c o _ h => a c o h
theorem Kp.mono {M M' : Addr → Prop} {H H' : Hp} (a : Kp M H H') (h : ∀ b, M b → M' b) : Kp M' H H' := fun c o n q => a c o (fun z => n (h c z)) q
section
variable {K : PySem.W.Frag} {M M' : Addr → Prop} {H H' : Hp}
theorem frz_kp {a : Addr} {o : Obj} {xs : List V} (h : H a = some (.frz o (.tup xs))) (ml : Ml M H) (k : Kp M H H') : H' a = some (.frz o (.tup xs)) := k _ _ (fun m => by
  obtain ⟨ys, e, q⟩ := ml _ m
  rw [h] at e; cases e; exact q) h
theorem sqt_kp {a : Addr} {xs : List V} (h : SqT K H a xs) (ml : Ml M H) (k : Kp M H H') : SqT K H' a xs := by
  rcases h with (h | ⟨o, h⟩) | h
  · refine .inl (.inl (k _ _ (fun m => ?_) h))
    obtain ⟨ys, e, q⟩ := ml _ m
    rw [h] at e; cases e; exact q
  · refine .inl (.inr ⟨o, k _ _ (fun m => ?_) h⟩)
    obtain ⟨ys, e, q⟩ := ml _ m
    rw [h] at e; cases e; exact q
  · exact .inr h
theorem sqt_same {a : Addr} {xs : List V} (s : Same H H') (h : SqT K H a xs) : SqT K H' a xs := by
  rcases h with (h | ⟨o, h⟩) | h
  · exact .inl (.inl (s _ _ h))
  · exact .inl (.inr ⟨o, s _ _ h⟩)
  · exact .inr h
theorem sqlm_kp {a : Addr} {xs : List V} (h : SqLM K M H a xs) (k : Kp M H H') : SqLM K M H' a xs := by
  rcases h with ⟨h | ⟨o, h⟩, n⟩ | h
  · exact .inl ⟨.inl (k _ _ n h), n⟩
  · exact .inl ⟨.inr ⟨o, k _ _ n h⟩, n⟩
  · exact .inr h
theorem sqlm_sub {a : Addr} {xs : List V} (h : SqLM K M H a xs) (s : ∀ b, M' b → M b) : SqLM K M' H a xs := by
  rcases h with ⟨h, n⟩ | h
  · exact .inl ⟨h, fun z => n (s _ z)⟩
  · exact .inr h
theorem dct_kp (ml : Ml M H) (k : Kp M H H') {a : Addr} {ps : List Rk} (h : H a = some (dctO a ps)) : H' a = some (dctO a ps) :=
  k _ _ (fun m => by obtain ⟨xs, e, q⟩ := ml _ m; rw [h] at e; cases e; exact q) h
mutual
theorem Da.kp (ml : Ml M H) (k : Kp M H H') : ∀ {v : V} {d : D}, Da K M H v d → Da K M H' v d
  | _, _, .non => .non
  | _, _, .bl b => .bl b
  | _, _, .int i => .int i
  | _, _, .str x => .str x
  | _, _, .lst h n t => .lst (k _ _ n h) n (DaL.kp ml k t)
  | _, _, .tup h t => .tup (sqt_kp h ml k) (DaL.kp ml k t)
  | _, _, .dct h t n => .dct (dct_kp ml k h) (fun p z => ⟨sqt_kp (t p z).1 ml k, (t p z).2⟩) n
  | _, _, .txd h n l t => .txd (k _ _ n h) n l (DaL.kp ml k t)
  | _, _, .fzt h n t => .fzt (frz_kp h ml k) n (DaL.kp ml k t)
theorem DaL.kp (ml : Ml M H) (k : Kp M H H') : ∀ {vs : List V} {ds : List D}, DaL K M H vs ds → DaL K M H' vs ds
  | _, _, .nil => .nil
  | _, _, .cons h t => .cons (Da.kp ml k h) (DaL.kp ml k t)
end
mutual
theorem Da.sub (s : ∀ b, M' b → M b) : ∀ {v : V} {d : D}, Da K M H v d → Da K M' H v d
  | _, _, .non => .non
  | _, _, .bl b => .bl b
  | _, _, .int i => .int i
  | _, _, .str x => .str x
  | _, _, .lst h n t => .lst h (fun z => n (s _ z)) (DaL.sub s t)
  | _, _, .tup h t => .tup h (DaL.sub s t)
  | _, _, .dct h t n => .dct h t n
  | _, _, .txd h n l t => .txd h (fun z => n (s _ z)) l (DaL.sub s t)
  | _, _, .fzt h n t => .fzt h n (DaL.sub s t)
theorem DaL.sub (s : ∀ b, M' b → M b) : ∀ {vs : List V} {ds : List D}, DaL K M H vs ds → DaL K M' H vs ds
  | _, _, .nil => .nil
  | _, _, .cons h t => .cons (Da.sub s h) (DaL.sub s t)
end
mutual
theorem Da.same (s : Same H H') : ∀ {v : V} {d : D}, Da K M H v d → Da K M H' v d
  | _, _, .non => .non
  | _, _, .bl b => .bl b
  | _, _, .int i => .int i
  | _, _, .str x => .str x
  | _, _, .lst h n t => .lst (s _ _ h) n (DaL.same s t)
  | _, _, .tup h t => .tup (sqt_same s h) (DaL.same s t)
  | _, _, .dct h t n => .dct (s _ _ h) (fun p z => ⟨sqt_same s (t p z).1, (t p z).2⟩) n
  | _, _, .txd h n l t => .txd (s _ _ h) n l (DaL.same s t)
  | _, _, .fzt h n t => .fzt (s _ _ h) n (DaL.same s t)
theorem DaL.same (s : Same H H') : ∀ {vs : List V} {ds : List D}, DaL K M H vs ds → DaL K M H' vs ds
  | _, _, .nil => .nil
  | _, _, .cons h t => .cons (Da.same s h) (DaL.same s t)
end
/-- no list within -/
def noL : D → Bool
  | .none => true
  | .bool _ => true
  | .int _ => true
  | .str _ => true
  | .list _ => false
  | .tuple ds => noLs ds
  | .dict _ => false
where noLs : List D → Bool
  | [] => true
  | d :: ds => noL d && noLs ds
mutual
theorem Da.any : ∀ {v : V} {d : D}, noL d = true → Da K M H v d → Da K M' H v d
  | _, _, _, .non => .non
  | _, _, _, .bl b => .bl b
  | _, _, _, .int i => .int i
  | _, _, _, .str x => .str x
  | _, _, n, .lst h _ t => by simp [noL] at n
  | _, _, n, .tup h t => .tup h (DaL.any (by simpa [noL] using n) t)
  | _, _, n, .dct _ _ _ => by simp [noL] at n
  | _, _, n, .txd _ _ _ _ => by simp [noL] at n
  | _, _, n, .fzt _ _ _ => by simp [noL] at n
theorem DaL.any : ∀ {vs : List V} {ds : List D}, noL.noLs ds = true → DaL K M H vs ds → DaL K M' H vs ds
  | _, _, _, .nil => .nil
  | _, _, n, .cons h t => by
    simp only [noL.noLs, Bool.and_eq_true] at n
    exact .cons (Da.any n.1 h) (DaL.any n.2 t)
end
mutual
theorem Da.dp : ∀ {v : V} {d : D}, Da K M H v d → d.plain = true → Dp K H v d
  | _, _, .non, _ => .non
  | _, _, .bl b, _ => .bl b
  | _, _, .int i, _ => .int i
  | _, _, .str x, _ => .str x
  | _, _, .lst h _ t, p => .lst (.of h) (DaL.dp t p)
  | _, _, .tup h t, p => .tup h (DaL.dp t p)
  | _, _, .fzt _ _ _, p => absurd p Bool.false_ne_true
theorem DaL.dp : ∀ {vs : List V} {ds : List D}, DaL K M H vs ds → PyData.plainAll ds = true → DpAll K H vs ds
  | _, _, .nil, _ => .nil
  | _, _, .cons h t, p => .cons (Da.dp h (Bool.and_eq_true_iff.mp p).1) (DaL.dp t (Bool.and_eq_true_iff.mp p).2)
end
theorem DaL.length : ∀ {vs : List V} {ds : List D}, DaL K M H vs ds → vs.length = ds.length
  | _, _, .nil => rfl
  | _, _, .cons _ t => congrArg (· + 1) (DaL.length t)
theorem DaL.get : ∀ {vs : List V} {ds : List D} {i : Nat} {d : D}, DaL K M H vs ds → ds[i]? = some d → ∃ v, vs[i]? = some v ∧ Da K M H v d
  | _, _, _, _, .nil, e => by simp at e
  | _, _, 0, _, .cons h _, e => by simp at e; subst e; exact ⟨_, rfl, h⟩
  | _, _, i + 1, d, .cons _ t, e => by
    obtain ⟨v, h1, h2⟩ := DaL.get (i := i) (d := d) t (by simpa using e)
    exact ⟨v, by simpa using h1, h2⟩
theorem DaL.append : ∀ {vs ws : List V} {ds es : List D}, DaL K M H vs ds → DaL K M H ws es → DaL K M H (vs ++ ws) (ds ++ es)
  | _, _, _, _, .nil, q => q
  | _, _, _, _, .cons h t, q => .cons h (DaL.append t q)
theorem DaL.dropLast : ∀ {vs : List V} {ds : List D}, DaL K M H vs ds → DaL K M H vs.dropLast ds.dropLast
  | _, _, .nil => .nil
  | _, _, .cons h .nil => .nil
  | _, _, .cons h (.cons h2 t) => .cons h (DaL.dropLast (.cons h2 t))
theorem DaL.take : ∀ {vs : List V} {ds : List D} (n : Nat), DaL K M H vs ds → DaL K M H (vs.take n) (ds.take n)
  | _, _, 0, _ => by simp; exact .nil
  | _, _, _ + 1, .nil => .nil
  | _, _, n + 1, .cons h t => .cons h (DaL.take n t)
theorem DaL.drop : ∀ {vs : List V} {ds : List D} (n : Nat), DaL K M H vs ds → DaL K M H (vs.drop n) (ds.drop n)
  | _, _, 0, t => t
  | _, _, _ + 1, .nil => .nil
  | _, _, n + 1, .cons h t => DaL.drop n t
/-- a new object leaves M and what is tracked -/
theorem Ml.upd {p : Addr} {o : HO} (ml : Ml M H) (hp : H p = none) : Ml M (upd H p o) := fun b m => by
  obtain ⟨xs, e, q⟩ := ml b m
  exact ⟨xs, by rw [upd_ne (ne_of_none e hp)]; exact e, q⟩
theorem same_upd {p : Addr} {o : HO} (hp : H p = none) : Same H (upd H p o) := fun b u q => by rw [upd_ne (ne_of_none q hp)]; exact q
theorem Ml.fresh {p : Addr} (ml : Ml M H) (hp : H p = none) : ¬ M p := fun m => by
  obtain ⟨xs, e, _⟩ := ml p m
  rw [hp] at e; cases e
/-- a fresh tuple, a fresh list -/
theorem Da.newT {p : Addr} {vs : List V} {ds : List D} (ml : Ml M H) (hp : H p = none) (h : DaL K M H vs ds) : Da K M (upd H p (.tup vs)) (.ref p) (.tuple ds) :=
  .tup (.inl (.inl upd_same)) (h.kp ml (.of_same (same_upd hp)))
theorem Da.newL {p : Addr} {vs : List V} {ds : List D} (ml : Ml M H) (hp : H p = none) (h : DaL K M H vs ds) : Da K M (upd H p (.lst vs)) (.ref p) (.list ds) :=
  .lst upd_same (ml.fresh hp) (h.kp ml (.of_same (same_upd hp)))
end
structure RS where
  ns : List Int
  a : Nat
  b : Int
  c : Int
  x : Xs
inductive Out (α : Type) where
  | val (a : α)
  | exc (cls : Str) (idx : Option Int)
abbrev Mn (α : Type) := RS → Option (Out α × RS)
/-- what a frame owns: a list, a dict with text keys -/
inductive Ow where
  | l (ds : List D)
  | d (kvs : List (Str × D))
instance : Coe (List D) Ow := ⟨Ow.l⟩
def Ow.ds : Ow → List D
  | .l ds => ds
  | .d kvs => kvs.map (·.2)
def Ow.ho : Ow → List V → HO
  | .l _, xs => .lst xs
  | .d kvs, xs => .dK (tkV (kvs.map (·.1)) xs)
theorem Ow.mut (o : Ow) (xs : List V) : mutO (o.ho xs) := by cases o <;> trivial
inductive Slot where
  | hid
  | dat (d : D)
  | row
  | own (o : Ow)
  | obj (n : Nat)
  | fns (l : List Nat)
abbrev Ev := List Slot
/-- where the row stands, and its script -/
structure Rw where
  a : Addr
  sc : Addr
  ns : List Int
/-- what may change -/
def Mt (r : Rw) (b : Addr) : Prop := b = r.a ∨ Xk.kx b
abbrev MR (M : Addr → Prop) (r : Rw) : Prop := ∀ b, Mt r b → M b
def RowAt (K : PySem.W.Frag) (M : Addr → Prop) (H : Hp) (r : Rw) (rs : RS) : Prop :=
  (H r.a = some (.lst [.ref r.sc, .int (rs.a : Int), .int rs.b, .int rs.c]) ∧ (rs.ns = r.ns ∧ (¬ Xk.kx r.a ∧ Xk.ax K H rs.x))) ∧ SqLM K M H r.sc (r.ns.map V.int)
/-- all that was tracked but the row -/
def Stp (r : Rw) (H H' : Hp) : Prop := ∀ b o, ¬ Mt r b → H b = some o → H' b = some o
theorem Stp.refl {r : Rw} (H : Hp) : Stp r H H := fun _ _ _ h => h
theorem Stp.trans {r : Rw} {H H1 H2 : Hp} (a : Stp r H H1) (b : Stp r H1 H2) : Stp r H H2 := fun c o n h => b c o n (a c o n h)
theorem Stp.of_same {r : Rw} {H H' : Hp} (a : Same H H') : Stp r H H' := fun c o _ h => a c o h
theorem Stp.kp {M : Addr → Prop} {r : Rw} {H H' : Hp} (mr : MR M r) (a : Stp r H H') : Kp M H H' := fun b o n h => a b o (fun z => n (mr _ z)) h
theorem RowAt.there {K : PySem.W.Frag} {M : Addr → Prop} {H : Hp} {r : Rw} {rs : RS} (h : RowAt K M H r rs) {b : Addr} (z : Mt r b) : ∃ o, H b = some o ∧ mutX b o := by
  obtain ⟨⟨e, _, _, q⟩, _⟩ := h
  rcases z with rfl | z
  · exact ⟨_, e, trivial⟩
  · obtain ⟨o, e, t⟩ := Xk.there _ _ _ _ q z
    exact ⟨o, e, t.x z⟩
/-- what is new, what does not change, is no such thing -/
theorem RowAt.fresh {K : PySem.W.Frag} {M : Addr → Prop} {H : Hp} {r : Rw} {rs : RS} (h : RowAt K M H r rs) {b : Addr} (n : H b = none) : ¬ Mt r b := fun z => by
  obtain ⟨o, e, _⟩ := h.there z
  rw [n] at e
  cases e
theorem RowAt.imm {K : PySem.W.Frag} {M : Addr → Prop} {H : Hp} {r : Rw} {rs : RS} (h : RowAt K M H r rs) {b : Addr} {o : HO} (n : H b = some o) (mu : ¬ mutT o) : ¬ Mt r b := fun z => by
  obtain ⟨o', e, q⟩ := h.there z
  rw [n] at e
  cases e
  exact mu q.t
/-- all but one thing, that may change and is not of these -/
theorem ax_but {K : PySem.W.Frag} {H H' : Hp} {x : Xs} {p : Addr} (h : Xk.ax K H x) (np : ¬ Xk.kx p) (mu : ∀ o, H p = some o → mutT o) (k : ∀ b o, b ≠ p → H b = some o → H' b = some o) : Xk.ax K H' x :=
  Xk.keep _ _ _ _ h (fun b o kb e => k b o (fun z => np (z ▸ kb)) e) (fun b o m e => k b o (fun z => m (mu o (z ▸ e))) e)
theorem ax_same {K : PySem.W.Frag} {H H' : Hp} {x : Xs} (h : Xk.ax K H x) (k : Same H H') : Xk.ax K H' x := Xk.keep _ _ _ _ h (fun b o _ e => k b o e) (fun b o _ e => k b o e)
def SlotAt (K : PySem.W.Frag) (M : Addr → Prop) (r : Rw) (σ : L2.St) (H : Hp) (i : Nat) : Slot → Prop
  | .hid => True
  | .own _ => True
  | .dat d => ∃ v, σ[i]? = some (some v) ∧ Da K M H v d
  | .row => σ[i]? = some (some (.ref r.a))
  | .obj n => σ[i]? = some (some (.ref (Xk.obj n)))
  | .fns l => ∃ v, σ[i]? = some (some v) ∧ Xk.fns H v l
structure RelE (K : PySem.W.Frag) (M : Addr → Prop) (r : Rw) (σ : L2.St) (H : Hp) (ev : Ev) (rs : RS) : Prop where
  mr : MR M r
  ml : Ml M H
  row : RowAt K M H r rs
  slots : ∀ i s, ev[i]? = some s → SlotAt K M r σ H i s
  len : ev.length ≤ σ.length
section
variable {K : PySem.W.Frag} {M : Addr → Prop} {r : Rw} {σ : L2.St} {H H' H1 : Hp} {ev : Ev} {rs rs' : RS}
theorem Ml.stp (mr : MR M r) (ml : Ml M H) (s : Stp r H H') (rw' : RowAt K M H' r rs') : Ml M H' := fun b m => by
  by_cases e : Mt r b
  · exact rw'.there e
  · obtain ⟨xs, q, mu⟩ := ml b m
    exact ⟨xs, s _ _ e q, mu⟩
theorem SlotAt.kp {i : Nat} (ml : Ml M H) (k : Kp M H H') : ∀ {s : Slot}, SlotAt K M r σ H i s → SlotAt K M r σ H' i s
  | .hid, _ => trivial
  | .own _, _ => trivial
  | .dat d, ⟨v, e, h⟩ => ⟨v, e, h.kp ml k⟩
  | .row, h => h
  | .obj _, h => h
  | .fns _, ⟨v, e, h⟩ => ⟨v, e, Xk.fstay _ _ _ _ h fun b o m e => k b o (fun z => by
    obtain ⟨o', e', q⟩ := ml b z
    rw [e] at e'
    cases e'
    exact m q.t) e⟩
theorem RelE.stp (R : RelE K M r σ H ev rs) (s : Stp r H H') (rw' : RowAt K M H' r rs') : RelE K M r σ H' ev rs' :=
  ⟨R.mr, R.ml.stp R.mr s rw', rw', fun i t e => (R.slots i t e).kp R.ml (s.kp R.mr), R.len⟩
theorem RowAt.new {p : Addr} {o : HO} (ml : Ml M H) (mr : MR M r) (h : RowAt K M H r rs) (hp : H p = none) : RowAt K M (upd H p o) r rs := by
  obtain ⟨⟨e, e', nk, ax⟩, q⟩ := h
  exact ⟨⟨by rw [upd_ne (ne_of_none e hp)]; exact e, e', nk, ax_same ax (same_upd hp)⟩, sqlm_kp q (.of_same (same_upd hp))⟩
theorem row_but {p : Addr} (h : RowAt K M H r rs) (np : ¬ Mt r p) (mu : ∀ o, H p = some o → mutT o) (k : ∀ b o, b ≠ p → H b = some o → H' b = some o) (kp : Kp M H H') : RowAt K M H' r rs := by
  obtain ⟨⟨e, e', nk, ax⟩, q⟩ := h
  exact ⟨⟨k _ _ (fun z => np (.inl z.symm)) e, e', nk, ax_but ax (fun z => np (.inr z)) mu k⟩, sqlm_kp q kp⟩
theorem RelE.new {p : Addr} {o : HO} (R : RelE K M r σ H ev rs) (hp : H p = none) : RelE K M r σ (upd H p o) ev rs :=
  R.stp (.of_same (same_upd hp)) (R.row.new R.ml R.mr hp)
end
def ExA (mg : Str → Option Value) (x : Str) (i : Option Int) (cls : Value) (dd : Option Addr) (H : Hp) : Prop :=
  (∃ C, mg x = some (.ref C) ∧ cls = .ref C) ∧ (match i with
    | none => dd = none
    | some n => ∃ d, dd = some d ∧ H d = some (.xd [(("index" : Str), V.int n)]))
/-- what is wanted of an outcome -/
def Wan {α : Type} (K : PySem.W.Frag) (mg : Str → Option Value) (M : Addr → Prop) (r : Rw) (H : Hp) (rs' : RS) (E : XK) (V : α → Hp → Prop) : Out α → Prop
  | .val d => ∀ H', Stp r H H' → RowAt K M H' r rs' → V d H'
  | .exc x i => ∀ cls dd H', Stp r H H' → RowAt K M H' r rs' → ExA mg x i cls dd H' → E cls dd H'
def tE (K : PySem.W.Frag) (mg : Str → Option Value) (W : WX) (f : Ev → Mn D) : TE := fun σ H Q =>
  ∃ M r ev rs, RelE K M r σ H ev rs ∧ ∃ o rs', f ev rs = some (o, rs') ∧ Wan K mg M r H rs' (fun cls dd H' => W cls dd σ H') (fun d H' => ∀ v, Da K M H' v d → Q v H') o
def tT (K : PySem.W.Frag) (mg : Str → Option Value) (W : WX) (f : Ev → Mn Bool) : TT := fun σ H Q =>
  ∃ M r ev rs, RelE K M r σ H ev rs ∧ ∃ o rs', f ev rs = some (o, rs') ∧ Wan K mg M r H rs' (fun cls dd H' => W cls dd σ H') (fun b H' => Q b H') o
/-- arguments: data, or the row -/
inductive ArgL (K : PySem.W.Frag) (M : Addr → Prop) (r : Rw) (H : Hp) : List V → List Slot → Prop
  | nil : ArgL K M r H [] []
  | dat {v : V} {d : D} {vs : List V} {ss : List Slot} : Da K M H v d → ArgL K M r H vs ss → ArgL K M r H (v :: vs) (.dat d :: ss)
  | row {vs : List V} {ss : List Slot} : ArgL K M r H vs ss → ArgL K M r H (.ref r.a :: vs) (.row :: ss)
  | obj {n : Nat} {vs : List V} {ss : List Slot} : ArgL K M r H vs ss → ArgL K M r H (.ref (Xk.obj n) :: vs) (.obj n :: ss)
theorem ArgL.kp {K : PySem.W.Frag} {M : Addr → Prop} {r : Rw} {H H' : Hp} (ml : Ml M H) (k : Kp M H H') : ∀ {vs : List V} {ss : List Slot}, ArgL K M r H vs ss → ArgL K M r H' vs ss
  | _, _, .nil => .nil
  | _, _, .dat h t => .dat (h.kp ml k) (ArgL.kp ml k t)
  | _, _, .row t => .row (ArgL.kp ml k t)
  | _, _, .obj t => .obj (ArgL.kp ml k t)
theorem ArgL.length {K : PySem.W.Frag} {M : Addr → Prop} {r : Rw} {H : Hp} : ∀ {vs : List V} {ss : List Slot}, ArgL K M r H vs ss → vs.length = ss.length
  | _, _, .nil => rfl
  | _, _, .dat _ t => congrArg (· + 1) (ArgL.length t)
  | _, _, .row t => congrArg (· + 1) (ArgL.length t)
  | _, _, .obj t => congrArg (· + 1) (ArgL.length t)
def tAr (K : PySem.W.Frag) (mg : Str → Option Value) (W : WX) (f : Ev → Mn (List Slot)) : TA := fun σ H Q =>
  ∃ M r ev rs, RelE K M r σ H ev rs ∧ ∃ o rs', f ev rs = some (o, rs') ∧ Wan K mg M r H rs' (fun cls dd H' => W cls dd σ H') (fun ss H' => ∀ vs, ArgL K M r H' vs ss → Q vs H') o
structure Gm where
  P : Program
  w : World
  K : PySem.W.Frag
  mg : Str → Option Value
  base : Heap
/-- a scope; which of its cells are stored here -/
structure Sx where
  sc : Scope
  fc : Str → Bool
/-- the def's code object and its table -/
def LamK (X : Cx) : Prop := ∃ c P, X.env.code = .ref c ∧ LamX.TabB X.base X.mg c P ∧ (P, X.env.qual ++ "<lambda>") ∈ Xk.tb ∧ (∀ p ∈ Xk.tb, p.1 = P → p.2 = X.env.qual ++ "<lambda>") ∧ ∀ cl, Xk.cl = some cl → X.env.cells = cl
structure Gd (G : Gm) (k : Nat) (sc : Sx) (N : List Str) (X : Cx) : Prop where
  hN : X.N = N
  nd : N.Nodup
  hsc : X.env.scope = sc.sc
  hfc : ∀ x, sc.fc x = true → X.fn x = true
  calm : X.calm = true
  room : Room k X.A
  hP : X.prog = G.P
  hw : X.w = G.w
  hK : X.K = G.K
  hmg : X.mg = G.mg
  hb : X.base = G.base
  top : sc.fc ("" : Str) = true → X.stack = X.env :: X.outer
  lam : sc.fc ("" : Str) = true → N.contains ("<lambda>" : Str) = true → LamK X
def SE (G : Gm) (k : Nat) (sc : Sx) (N : List Str) (e : Expr) (f : Ev → Mn D) : Prop := ∀ (X : Cx) (W : WX), Gd G k sc N X → Takes X W → PE X e (tE G.K G.mg W f)
def ST (G : Gm) (k : Nat) (sc : Sx) (N : List Str) (e : Expr) (f : Ev → Mn Bool) : Prop := ∀ (X : Cx) (W : WX), Gd G k sc N X → Takes X W → PT X e (tT G.K G.mg W f)
def SA (G : Gm) (k : Nat) (sc : Sx) (N : List Str) (es : List Expr) (f : Ev → Mn (List Slot)) : Prop := ∀ (X : Cx) (W : WX), Gd G k sc N X → Takes X W → PA X es (tAr G.K G.mg W f)
theorem pe_imp {X : Cx} {e : Expr} {t t' : TE} (h : PE X e t) (i : ∀ σ H Q, t' σ H Q → t σ H Q) : PE X e t' := ⟨fun pins s σ H Q I q => h.run pins s σ H Q I (i σ H Q q)⟩
theorem pt_imp {X : Cx} {e : Expr} {t t' : TT} (h : PT X e t) (i : ∀ σ H Q, t' σ H Q → t σ H Q) : PT X e t' := ⟨fun pins s σ H Q I q => h.run pins s σ H Q I (i σ H Q q)⟩
theorem pa_imp {X : Cx} {e : List Expr} {t t' : TA} (h : PA X e t) (i : ∀ σ H Q, t' σ H Q → t σ H Q) : PA X e t' := ⟨fun pos pins s σ H Q I q => h.run pos pins s σ H Q I (i σ H Q q)⟩
theorem pss_imp {X : Cx} {e : List Stmt} {t t' : TS} (h : PSs X e t) (i : ∀ D σ H, t' D σ H → t D σ H) : PSs X e t' := ⟨fun pins s σ H D I q => h.run pins s σ H D I (i D σ H q)⟩
theorem ps_imp {X : Cx} {e : Stmt} {t t' : TS} (h : PS X e t) (i : ∀ D σ H, t' D σ H → t D σ H) : PS X e t' := ⟨fun pins s σ H D I q => h.run pins s σ H D I (i D σ H q)⟩
def pur {α : Type} (a : α) : Mn α := fun rs => some (.val a, rs)
def bnd {α β : Type} (m : Mn α) (f : α → Mn β) : Mn β := fun rs => match m rs with
  | none => none
  | some (.val a, rs') => f a rs'
  | some (.exc x i, rs') => some (.exc x i, rs')
def lft {α : Type} (o : Option α) : Mn α := fun rs => match o with
  | none => none
  | some a => some (.val a, rs)
theorem bnd_some {α β : Type} {m : Mn α} {f : α → Mn β} {rs : RS} {o : Out β} {rs' : RS} (h : bnd m f rs = some (o, rs')) :
    (∃ a rs1, m rs = some (.val a, rs1) ∧ f a rs1 = some (o, rs')) ∨ ∃ x i, m rs = some (.exc x i, rs') ∧ o = .exc x i := by
  unfold bnd at h
  split at h
  · cases h
  · rename_i a rs1 e; exact .inl ⟨a, rs1, e, h⟩
  · rename_i x i rs1 e; cases h; exact .inr ⟨x, i, e, rfl⟩
theorem lft_some {α : Type} {v : Option α} {rs rs' : RS} {o : Out α} (h : lft v rs = some (o, rs')) : ∃ a, v = some a ∧ o = .val a ∧ rs' = rs := by
  unfold lft at h
  split at h
  · cases h
  · rename_i a; cases h; exact ⟨a, rfl, rfl, rfl⟩
end DL
namespace DL
open PySem PySem.Spec PyProof.Rows L2
variable [Xk]
section
variable {K : PySem.W.Frag} {mg : Str → Option Value} {M : Addr → Prop} {r : Rw} {σ : L2.St} {H H' H1 : Hp} {ev : Ev} {rs rs' : RS} {W : WX}
theorem Wan.stp {α : Type} {E : XK} {V : α → Hp → Prop} {o : Out α} (w : Wan K mg M r H rs' E V o) (s : Stp r H H1) : Wan K mg M r H1 rs' E V o := by
  cases o with
  | val a => exact fun H' s' rw' => w H' (s.trans s') rw'
  | exc x i => exact fun cls dd H' s' rw' e => w cls dd H' (s.trans s') rw' e
theorem Wan.exc {α β : Type} {E : XK} {V : α → Hp → Prop} {V' : β → Hp → Prop} {x : Str} {i : Option Int} (w : Wan K mg M r H rs' E V (.exc x i)) : Wan K mg M r H rs' E V' (.exc x i) := w
theorem tE_bnd {β : Type} {fa : Ev → Mn D} {kk : D → Mn β} {o : Out β} {Vb : β → Hp → Prop} {Q1 : VK} (R : RelE K M r σ H ev rs) (h : bnd (fa ev) kk rs = some (o, rs')) (w : Wan K mg M r H rs' (fun cls dd H' => W cls dd σ H') Vb o)
    (c : ∀ x rs1 H1 v, RelE K M r σ H1 ev rs1 → Stp r H H1 → Da K M H1 v x → kk x rs1 = some (o, rs') → Wan K mg M r H1 rs' (fun cls dd H' => W cls dd σ H') Vb o → Q1 v H1) : tE K mg W fa σ H Q1 := by
  rcases bnd_some h with ⟨x, rs1, e1, e2⟩ | ⟨x, i, e1, rfl⟩
  · refine ⟨M, r, ev, rs, R, .val x, rs1, e1, fun H1 s1 w1 v d1 => ?_⟩
    exact c x rs1 H1 v (R.stp s1 w1) s1 d1 e2 (w.stp s1)
  · exact ⟨M, r, ev, rs, R, .exc x i, rs', e1, w.exc⟩
theorem tT_bnd {β : Type} {fa : Ev → Mn Bool} {kk : Bool → Mn β} {o : Out β} {Vb : β → Hp → Prop} {Q1 : Bool → Hp → Prop} (R : RelE K M r σ H ev rs) (h : bnd (fa ev) kk rs = some (o, rs')) (w : Wan K mg M r H rs' (fun cls dd H' => W cls dd σ H') Vb o)
    (c : ∀ x rs1 H1, RelE K M r σ H1 ev rs1 → Stp r H H1 → kk x rs1 = some (o, rs') → Wan K mg M r H1 rs' (fun cls dd H' => W cls dd σ H') Vb o → Q1 x H1) : tT K mg W fa σ H Q1 := by
  rcases bnd_some h with ⟨x, rs1, e1, e2⟩ | ⟨x, i, e1, rfl⟩
  · refine ⟨M, r, ev, rs, R, .val x, rs1, e1, fun H1 s1 w1 => ?_⟩
    exact c x rs1 H1 (R.stp s1 w1) s1 e2 (w.stp s1)
  · exact ⟨M, r, ev, rs, R, .exc x i, rs', e1, w.exc⟩
theorem tAr_bnd {β : Type} {fa : Ev → Mn (List Slot)} {kk : List Slot → Mn β} {o : Out β} {Vb : β → Hp → Prop} {Q1 : List V → Hp → Prop} (R : RelE K M r σ H ev rs) (h : bnd (fa ev) kk rs = some (o, rs')) (w : Wan K mg M r H rs' (fun cls dd H' => W cls dd σ H') Vb o)
    (c : ∀ x rs1 H1 vs, RelE K M r σ H1 ev rs1 → Stp r H H1 → ArgL K M r H1 vs x → kk x rs1 = some (o, rs') → Wan K mg M r H1 rs' (fun cls dd H' => W cls dd σ H') Vb o → Q1 vs H1) : tAr K mg W fa σ H Q1 := by
  rcases bnd_some h with ⟨x, rs1, e1, e2⟩ | ⟨x, i, e1, rfl⟩
  · refine ⟨M, r, ev, rs, R, .val x, rs1, e1, fun H1 s1 w1 v d1 => ?_⟩
    exact c x rs1 H1 v (R.stp s1 w1) s1 d1 e2 (w.stp s1)
  · exact ⟨M, r, ev, rs, R, .exc x i, rs', e1, w.exc⟩
end
section
variable {G : Gm} {k : Nat} {sc : Sx} {N : List Str}
def visB (sc : Sx) (x : Str) : Bool := match sc.sc.names.lookup x with
  | some .local => true
  | some .cell => true
  | some .free => true
  | _ => false
theorem vis_of {sc : Sx} {x : Str} (h : visB sc x = true) : Vis sc.sc x := by
  unfold visB at h
  split at h <;> first | exact .inl (by assumption) | exact .inr (.inl (by assumption)) | exact .inr (.inr (by assumption)) | cases h
def glB (sc : Sx) (x : Str) : Bool := match sc.sc.names.lookup x with
  | some .globalImplicit => true
  | _ => false
theorem gl_of {X : Cx} {x : Str} (g : Gd G k sc N X) (h : glB sc x = true) : Gl X x := by
  unfold glB at h
  split at h
  · rename_i e
    show X.env.scope.names.lookup x = _
    rw [g.hsc]; exact e
  · cases h
def getE (ev : Ev) (i : Nat) : Option D := match ev[i]? with
  | some (.dat d) => some d
  | _ => none
theorem getE_some {ev : Ev} {i : Nat} {d : D} (h : getE ev i = some d) : ev[i]? = some (.dat d) := by
  unfold getE at h
  split at h
  · rename_i e; cases h; exact e
  · cases h
def dVar (i : Nat) (ev : Ev) : Mn D := lft (getE ev i)
theorem e_var (i : Nat) {x : Str} {p : Pos} (hi : N[i]? = some x := by rfl) (hv : visB sc x = true := by rfl) (hd : (x == ("__debug__" : Str)) = false := by decide) (hcd : (x == ("__classdict__" : Str)) = false := by decide) : SE G k sc N (.Name x p) (dVar i) := by
  intro X W g tk
  refine pe_imp (pe_var (i := i) (by rw [g.hN]; exact hi) (by rw [g.hsc]; exact vis_of hv) hd hcd) fun σ H Q h => ?_
  obtain ⟨M, r, ev, rs, R, o, rs', e, w⟩ := h
  obtain ⟨d, e1, rfl, rfl⟩ := lft_some e
  obtain ⟨v, e2, hd⟩ := R.slots i _ (getE_some e1)
  exact ⟨v, e2, w H (.refl H) R.row v hd⟩
def dLit (d : D) (_ : Ev) : Mn D := pur d
theorem e_int {i : Int} {j : Nat} {p : Pos} : SE G k sc N (.Constant (.int i) j p) (dLit (.int i)) := fun X W g tk => pe_imp pe_int fun σ H Q h => by
  obtain ⟨M, r, ev, rs, R, o, rs', e, w⟩ := h
  cases e
  exact w H (.refl H) R.row _ (.int i)
theorem e_bl {b : Bool} {j : Nat} {p : Pos} : SE G k sc N (.Constant (.bool b) j p) (dLit (.bool b)) := fun X W g tk => pe_imp pe_bl fun σ H Q h => by
  obtain ⟨M, r, ev, rs, R, o, rs', e, w⟩ := h
  cases e
  exact w H (.refl H) R.row _ (.bl b)
theorem e_non {j : Nat} {p : Pos} : SE G k sc N (.Constant .none j p) (dLit .none) := fun X W g tk => pe_imp pe_non fun σ H Q h => by
  obtain ⟨M, r, ev, rs, R, o, rs', e, w⟩ := h
  cases e
  exact w H (.refl H) R.row _ .non
theorem e_str {x : Str} {j : Nat} {p : Pos} : SE G k sc N (.Constant (.str x) j p) (dLit (.str x)) := fun X W g tk => pe_imp pe_str fun σ H Q h => by
  obtain ⟨M, r, ev, rs, R, o, rs', e, w⟩ := h
  cases e
  exact w H (.refl H) R.row _ (.str x)
/-- a module's constant that is data -/
def GlD (G : Gm) (x : Str) (d : D) : Prop := ∃ u v, G.mg x = some u ∧ RelV v u ∧ ∀ M H, Da G.K M H v d
theorem e_glob {x : Str} {d : D} {p : Pos} (h : GlD G x d) (hg : glB sc x = true := by rfl) (hdb : (x == ("__debug__" : Str)) = false := by decide) : SE G k sc N (.Name x p) (dLit d) := fun X W g tk => by
  obtain ⟨u, v, h1, h2, h3⟩ := h
  refine pe_imp (pe_glob (gl_of g hg) (by rw [g.hmg]; exact h1) h2 hdb) fun σ H Q h => ?_
  obtain ⟨M, r, ev, rs, R, o, rs', e, w⟩ := h
  cases e
  exact w H (.refl H) R.row _ (h3 M H)
theorem e_bin {e a b : Expr} {fa fb : Ev → Mn D} {op : D → D → Option D} {rl : Cx → R2} (ha : SE G k sc N a fa) (hb : SE G k sc N b fb) (mk : ∀ X ta tb, Gd G k sc N X → PE X a ta → PE X b tb → PE X e (tOp (rl X) ta tb))
    (hr : ∀ X M H x y dx dy d Q, Gd G k sc N X → Ml M H → Da G.K M H x dx → Da G.K M H y dy → op dx dy = some d → (∀ v H', Same H H' → Da G.K M H' v d → Q v H') → rl X x y H Q) :
    SE G k sc N e (fun ev => bnd (fa ev) fun x => bnd (fb ev) fun y => lft (op x y)) := fun X W g tk => by
  refine pe_imp (mk X _ _ g (ha X W g tk) (hb X W g tk)) fun σ H Q h => ?_
  obtain ⟨M, r, ev, rs, R, o, rs', e, w⟩ := h
  refine tE_bnd R e w fun x rs1 H1 v R1 s1 d1 e1 w1 => tE_bnd R1 e1 w1 fun y rs2 H2 u R2 s2 d2 e2 w2 => ?_
  obtain ⟨d, e3, rfl, rfl⟩ := lft_some e2
  refine hr X M H2 v u x y d Q g R2.ml (d1.kp R1.ml (s2.kp R.mr)) d2 e3 fun z H3 s3 d3 => ?_
  exact w2 H3 (.of_same s3) (by
    obtain ⟨⟨q1, q1', nk, ax⟩, q2⟩ := R2.row
    exact ⟨⟨s3 _ _ q1, q1', nk, ax_same ax s3⟩, sqlm_kp q2 (.of_same s3)⟩) z d3
theorem row_same {K : PySem.W.Frag} {M : Addr → Prop} {r : Rw} {rs : RS} {H H' : Hp} (h : RowAt K M H r rs) (s : Same H H') : RowAt K M H' r rs := by
  obtain ⟨⟨q1, q1', nk, ax⟩, q2⟩ := h
  exact ⟨⟨s _ _ q1, q1', nk, ax_same ax s⟩, sqlm_kp q2 (.of_same s)⟩
theorem e_one {e a : Expr} {fa : Ev → Mn D} {op : D → Option D} {rl : Cx → V → Hp → VK → Prop} (ha : SE G k sc N a fa) (mk : ∀ X ta, Gd G k sc N X → PE X a ta → PE X e (fun σ H Q => ta σ H fun x H1 => rl X x H1 Q))
    (hr : ∀ X M H x dx d Q, Gd G k sc N X → Ml M H → Da G.K M H x dx → op dx = some d → (∀ v H', Same H H' → Da G.K M H' v d → Q v H') → rl X x H Q) :
    SE G k sc N e (fun ev => bnd (fa ev) fun x => lft (op x)) := fun X W g tk => by
  refine pe_imp (mk X _ g (ha X W g tk)) fun σ H Q h => ?_
  obtain ⟨M, r, ev, rs, R, o, rs', e, w⟩ := h
  refine tE_bnd R e w fun x rs1 H1 v R1 s1 d1 e1 w1 => ?_
  obtain ⟨d, e3, rfl, rfl⟩ := lft_some e1
  exact hr X M H1 v x d Q g R1.ml d1 e3 fun z H3 s3 d3 => w1 H3 (.of_same s3) (row_same R1.row s3) z d3
def dNil (_ : Ev) : Mn (List Slot) := pur []
def dCons (f : Ev → Mn D) (g : Ev → Mn (List Slot)) (ev : Ev) : Mn (List Slot) := bnd (f ev) fun d => bnd (g ev) fun ss => pur (.dat d :: ss)
def isRow : Option Slot → Bool
  | some .row => true
  | _ => false
theorem isRow_some {o : Option Slot} (h : isRow o = true) : o = some .row := by
  unfold isRow at h
  split at h
  · rfl
  · cases h
def dRow (i : Nat) (g : Ev → Mn (List Slot)) (ev : Ev) : Mn (List Slot) := if isRow ev[i]? = true then bnd (g ev) fun ss => pur (.row :: ss) else fun _ => none
theorem a_nil : SA G k sc N [] dNil := fun X W g tk => pa_imp pa_nil fun σ H Q h => by
  obtain ⟨M, r, ev, rs, R, o, rs', e, w⟩ := h
  cases e
  exact w H (.refl H) R.row [] .nil
theorem a_cons {e : Expr} {es : List Expr} {f : Ev → Mn D} {ff : Ev → Mn (List Slot)} (h1 : SE G k sc N e f) (h2 : SA G k sc N es ff) (hs : ∀ env, starEach (e :: es) env = (false, eval e env) :: starEach es env := by intro _; rfl) : SA G k sc N (e :: es) (dCons f ff) := fun X W g tk => by
  refine pa_imp (pa_cons (h1 X W g tk) (h2 X W g tk) (hs _)) fun σ H Q h => ?_
  obtain ⟨M, r, ev, rs, R, o, rs', e, w⟩ := h
  refine tE_bnd R e w fun x rs1 H1 v R1 s1 d1 e1 w1 => tAr_bnd R1 e1 w1 fun ss rs2 H2 vs R2 s2 d2 e2 w2 => ?_
  cases e2
  exact w2 H2 (.refl _) R2.row _ (.dat (d1.kp R1.ml (s2.kp R.mr)) d2)
theorem a_row (i : Nat) {x : Str} {p : Pos} {es : List Expr} {ff : Ev → Mn (List Slot)} (h2 : SA G k sc N es ff) (hi : N[i]? = some x := by rfl) (hv : visB sc x = true := by rfl) (hd : (x == ("__debug__" : Str)) = false := by decide) (hcd : (x == ("__classdict__" : Str)) = false := by decide) :
    SA G k sc N (.Name x p :: es) (dRow i ff) := fun X W g tk => by
  refine pa_imp (pa_cons (pe_var (i := i) (by rw [g.hN]; exact hi) (by rw [g.hsc]; exact vis_of hv) hd hcd) (h2 X W g tk) rfl) fun σ H Q h => ?_
  obtain ⟨M, r, ev, rs, R, o, rs', e, w⟩ := h
  unfold dRow at e
  split at e
  · rename_i er
    refine ⟨.ref r.a, R.slots i _ (isRow_some er), ?_⟩
    refine tAr_bnd R e w fun ss rs2 H2 vs R2 s2 d2 e2 w2 => ?_
    cases e2
    exact w2 H2 (.refl _) R2.row _ (.row d2)
  · cases e
/-- all data -/
def dats : List Slot → Option (List D)
  | [] => some []
  | .dat d :: ss => (dats ss).map (d :: ·)
  | _ :: _ => none
theorem ArgL.dats {K : PySem.W.Frag} {M : Addr → Prop} {r : Rw} {H : Hp} : ∀ {vs : List V} {ss : List Slot} {ds : List D}, ArgL K M r H vs ss → DL.dats ss = some ds → DaL K M H vs ds
  | _, _, _, .nil, e => by cases e; exact .nil
  | _, _, _, .dat h t, e => by
    unfold DL.dats at e
    cases q : DL.dats _ with
    | none => rw [q] at e; cases e
    | some es => rw [q] at e; cases e; exact .cons h (ArgL.dats t q)
  | _, _, _, .row t, e => by simp [DL.dats] at e
def dTup (f : Ev → Mn (List Slot)) (ev : Ev) : Mn D := bnd (f ev) fun ss => lft (if ss.length ≤ sizeLine then (dats ss).map .tuple else none)
def dLst (f : Ev → Mn (List Slot)) (ev : Ev) : Mn D := bnd (f ev) fun ss => lft (if ss.length ≤ sizeLine then (dats ss).map .list else none)
theorem e_tup {es : List Expr} {x1 : Nat} {p : Pos} {f : Ev → Mn (List Slot)} (h : SA G k sc N es f) : SE G k sc N (.Tuple es x1 p) (dTup f) := fun X W g tk => by
  refine pe_imp (pe_tup (h X W g tk)) fun σ H Q h => ?_
  obtain ⟨M, r, ev, rs, R, o, rs', e, w⟩ := h
  refine tAr_bnd R e w fun ss rs2 H2 vs R2 s2 d2 e2 w2 => ?_
  obtain ⟨d, e3, rfl, rfl⟩ := lft_some e2
  split at e3
  · rename_i hl
    cases q : dats ss with
    | none => rw [q] at e3; cases e3
    | some ds =>
      rw [q] at e3; cases e3
      refine ⟨by rw [d2.length]; exact hl, fun p hp => ?_⟩
      exact w2 _ (.of_same (same_upd hp)) (row_same R2.row (same_upd hp)) _ (Da.newT R2.ml hp (d2.dats q))
  · cases e3
theorem e_lst {es : List Expr} {p : Pos} {f : Ev → Mn (List Slot)} (h : SA G k sc N es f) : SE G k sc N (.List es p) (dLst f) := fun X W g tk => by
  refine pe_imp (pe_lst (h X W g tk)) fun σ H Q h => ?_
  obtain ⟨M, r, ev, rs, R, o, rs', e, w⟩ := h
  refine tAr_bnd R e w fun ss rs2 H2 vs R2 s2 d2 e2 w2 => ?_
  obtain ⟨d, e3, rfl, rfl⟩ := lft_some e2
  split at e3
  · rename_i hl
    cases q : dats ss with
    | none => rw [q] at e3; cases e3
    | some ds =>
      rw [q] at e3; cases e3
      refine ⟨by rw [d2.length]; exact hl, fun p hp => ?_⟩
      exact w2 _ (.of_same (same_upd hp)) (row_same R2.row (same_upd hp)) _ (Da.newL R2.ml hp (d2.dats q))
  · cases e3
def spF (G : Gm) (n : Nat) (φ : List Slot → Mn D) : Sp := fun vs H Q E => vs.length = n ∧
  ∃ M r ss rs, MR M r ∧ Ml M H ∧ RowAt G.K M H r rs ∧ ArgL G.K M r H vs ss ∧ ∃ o rs', φ ss rs = some (o, rs') ∧ Wan G.K G.mg M r H rs' E (fun d H' => ∀ v, Da G.K M H' v d → Q v H') o
def FO (G : Gm) (k : Nat) (x : Str) (n : Nat) (φ : List Slot → Mn D) : Prop :=
  ∃ (f : Addr) (fd : FuncData) (ps : List Str), G.mg x = some (.ref f) ∧ PySem.W.keepIn G.K (.ref f) = true ∧ Binds G.K fd ps [] ∧ ps.length = n ∧ FnOk G.P G.w G.K G.mg G.base (L2.CX G.P G.w) k f fd ps (spF G n φ)
/-- less is said -/
theorem FO.less {j : Nat} {x : Str} {n : Nat} {φ φ' : List Slot → Mn D} (h : FO G j x n φ) (l : ∀ ss rs o, φ' ss rs = some o → ss.length = n → φ ss rs = some o) : FO G j x n φ' := by
  obtain ⟨f, fd, ps, h1, h2, h3, h4, h5⟩ := h
  refine ⟨f, fd, ps, h1, h2, h3, h4, h5.imp fun vs H Q E q => ?_⟩
  obtain ⟨hn, M, r, ss, rs, m, ml, ro, ar, o, rs', e, w⟩ := q
  exact ⟨hn, M, r, ss, rs, m, ml, ro, ar, o, rs', l _ _ _ e (by rw [← ar.length]; exact hn), w⟩
def dCl (n : Nat) (φ : List Slot → Mn D) (f : Ev → Mn (List Slot)) (ev : Ev) : Mn D := bnd (f ev) fun ss => if ss.length = n then φ ss else fun _ => none
theorem e_call {x : Str} {n j : Nat} {φ : List Slot → Mn D} {p pos : Pos} {e : Expr} {es : List Expr} {f : Ev → Mn (List Slot)} (F : FO G j x n φ) (ha : SA G k sc N (e :: es) f) (hj : j ≤ k := by decide) (hg : glB sc x = true := by rfl) (hdb : (x == ("__debug__" : Str)) = false := by decide)
    (he : ∀ env, starEach (e :: es) env = (false, eval e env) :: starEach es env := by intro _; rfl) (hpl : ∀ env, (backTo pos (starEach es env)).any (·.1) = false := by intro _; rfl) : SE G k sc N (.Call (.Name x p) (e :: es) [] pos) (dCl n φ f) := fun X W g tk => by
  obtain ⟨fa, fd, ps, h1, h2, h3, h4, h5⟩ := F
  have F' : FnOk X.prog X.w X.K X.mg X.base (L2.CX X.prog X.w) j fa fd ps (spF G n φ) := by rw [g.hP, g.hw, g.hK, g.hmg, g.hb]; exact h5
  refine pe_imp (pe_callS F' (g.room.mono hj) (gl_of g hg) (by rw [g.hmg]; exact h1) (by rw [g.hK]; exact h2) (by rw [g.hK]; exact h3) (fun σ => passAt tk σ) (ha X W g tk) hdb (he _) (hpl _)) fun σ H Q h => ?_
  obtain ⟨M, r, ev, rs, R, o, rs', e, w⟩ := h
  refine tAr_bnd R e w fun ss rs2 H2 vs R2 s2 d2 e2 w2 => ?_
  split at e2
  · rename_i hl
    exact ⟨by rw [d2.length]; exact hl, M, r, ss, rs2, R2.mr, R2.ml, R2.row, d2, o, rs', e2, w2⟩
  · cases e2
end
end DL
namespace DL
open PySem PySem.Spec PyProof.Rows L2
variable [Xk]
section
variable {G : Gm} {k : Nat} {sc : Sx} {N : List Str}
theorem atI_da {K : PySem.W.Frag} {M : Addr → Prop} {H : Hp} {vs : List V} {ds : List D} {i : Int} {d : D} (h : DaL K M H vs ds) (e : atI ds i = some d) : ∃ v, atI vs i = some v ∧ Da K M H v d := by
  unfold atI at e ⊢
  rw [h.length]
  cases q : ixN ds.length i with
  | none => rw [q] at e; cases e
  | some j =>
    rw [q] at e
    obtain ⟨v, h1, h2⟩ := h.get (i := j) e
    exact ⟨v, h1, h2⟩
def ixD : D → D → Option D
  | .tuple ds, .int i => atI ds i
  | .list ds, .int i => atI ds i
  | .str z, .int i => if z.length ≤ sizeLine then (atI z.cps.toList i).map fun c => .str ⟨#[c]⟩ else none
  | _, _ => none
theorem e_ix {a b : Expr} {fa fb : Ev → Mn D} {p : Pos} (ha : SE G k sc N a fa) (hb : SE G k sc N b fb) (hs : ∀ o i, subscripted b false o i = operate [o, i] (getItem o i) := by intro _ _; rfl) :
    SE G k sc N (.Subscript a b p) (fun ev => bnd (fa ev) fun x => bnd (fb ev) fun y => lft (ixD x y)) := by
  refine e_bin (rl := fun X => rIx X.K) ha hb (fun X ta tb g h1 h2 => pe_ix ix_seq h1 h2 hs) fun X M H x y dx dy d Q g ml hx hy e hq => ?_
  rw [g.hK]
  cases hx with
  | tup h t =>
    cases hy with
    | int i =>
      obtain ⟨v, h1, h2⟩ := atI_da t e
      exact .inr (.inl ⟨_, _, i, v, rfl, rfl, h, h1, hq v H (.refl H) h2⟩)
    | _ => cases e
  | lst h n t =>
    cases hy with
    | int i =>
      obtain ⟨v, h1, h2⟩ := atI_da t e
      exact .inl ⟨_, _, i, v, rfl, rfl, .of h, h1, hq v H (.refl H) h2⟩
    | _ => cases e
  | str z =>
    cases hy with
    | int i =>
      have e : (if z.length ≤ sizeLine then (atI z.cps.toList i).map (fun c => PyData.str ⟨#[c]⟩) else none) = some d := e
      split at e
      · rename_i hl
        cases q : atI z.cps.toList i with
        | none => rw [q] at e; cases e
        | some c => rw [q] at e; cases e; exact .inr (.inr ⟨z, i, c, rfl, rfl, hl, q, hq _ H (.refl H) (.str _)⟩)
      · cases e
    | _ => cases e
  | _ => cases hy <;> cases e
def cutL (xs : List D) (lo hi : Option Int) : List D := (xs.drop (HT.sIx xs.length 0 lo)).take (HT.sIx xs.length xs.length hi - HT.sIx xs.length 0 lo)
theorem cut_da {K : PySem.W.Frag} {M : Addr → Prop} {H : Hp} {vs : List V} {ds : List D} (h : DaL K M H vs ds) (lo hi : Option Int) : DaL K M H (cutV vs lo hi) (cutL ds lo hi) := by
  unfold cutV cutL
  rw [h.length]
  exact (h.drop _).take _
/-- x[lo:] -/
def slLo : D → D → Option D
  | .tuple ds, .int i => some (.tuple (cutL ds (some i) none))
  | .list ds, .int i => some (.list (cutL ds (some i) none))
  | _, _ => none
def slHi : D → D → Option D
  | .tuple ds, .int i => some (.tuple (cutL ds none (some i)))
  | .list ds, .int i => some (.list (cutL ds none (some i)))
  | _, _ => none
theorem sl_any {X : Cx} : SlR X (fun x lo hi H Q => rSlA X.K x lo hi H Q ∨ rSlL X.K x lo hi H Q) := sl_tupA.or sl_list
theorem cutV_whole {xs : List V} {lo hi : Option Int} (hw : HT.sIx xs.length 0 lo = 0 ∧ HT.sIx xs.length xs.length hi = xs.length) : cutV xs lo hi = xs := by
  unfold cutV
  rw [hw.1, hw.2, List.drop_zero, Nat.sub_zero, List.take_length]
theorem sl_go {K : PySem.W.Frag} {M : Addr → Prop} {H : Hp} {Q : VK} {x : V} {dx : D} {lo hi : Option Int} {d : D} (ml : Ml M H) (hx : Da K M H x dx) (e : (match dx with
    | .tuple ds => some (PyData.tuple (cutL ds lo hi))
    | .list ds => some (PyData.list (cutL ds lo hi))
    | _ => none) = some d) (hq : ∀ v H', Same H H' → Da K M H' v d → Q v H') : rSlA K x lo hi H Q ∨ rSlL K x lo hi H Q := by
  cases hx with
  | tup h t =>
    cases e
    refine .inl ⟨_, _, rfl, h, fun hw => ?_, fun hw p hp => ?_⟩
    · refine hq _ _ (.refl _) (.tup h ?_)
      have q := cut_da t lo hi
      rw [cutV_whole hw] at q
      exact q
    · exact hq _ _ (same_upd hp) (Da.newT ml hp (cut_da t lo hi))
  | lst h n t =>
    cases e
    exact .inr ⟨_, _, rfl, .of h, fun p hp => hq _ _ (same_upd hp) (Da.newL ml hp (cut_da t lo hi))⟩
  | _ => cases e
theorem pe_sl {X : Cx} {a : Expr} {ta : TE} {lo hi : Option Expr} {tl th : TO} {p1 p2 : Pos} (h1 : PE X a ta) (hl : PO X lo tl) (hu : PO X hi th) : PE X (.Subscript a (.Slice lo hi none p1) p2) (tSl (fun x l u H Q => rSlA X.K x l u H Q ∨ rSlL X.K x l u H Q) ta tl th) := pe_slice sl_any h1 hl hu
theorem e_slLo {a b : Expr} {fa fb : Ev → Mn D} {p1 p2 : Pos} (ha : SE G k sc N a fa) (hb : SE G k sc N b fb) : SE G k sc N (.Subscript a (.Slice (some b) none none p1) p2) (fun ev => bnd (fa ev) fun x => bnd (fb ev) fun y => lft (slLo x y)) := by
  refine e_bin (rl := fun X x y H Q => ∃ i, y = .int i ∧ (rSlA X.K x (some i) none H Q ∨ rSlL X.K x (some i) none H Q)) ha hb (fun X ta tb g h1 h2 => pe_imp (pe_sl h1 (po_some h2) po_none) fun σ H Q h => h) fun X M H x y dx dy d Q g ml hx hy e hq => ?_
  rw [g.hK]
  cases hy with
  | int i =>
    refine ⟨i, rfl, sl_go (d := d) ml hx ?_ hq⟩
    cases dx <;> first | exact e | cases e
  | _ => cases dx <;> cases e
theorem e_slHi {a b : Expr} {fa fb : Ev → Mn D} {p1 p2 : Pos} (ha : SE G k sc N a fa) (hb : SE G k sc N b fb) : SE G k sc N (.Subscript a (.Slice none (some b) none p1) p2) (fun ev => bnd (fa ev) fun x => bnd (fb ev) fun y => lft (slHi x y)) := by
  refine e_bin (rl := fun X x y H Q => ∃ i, y = .int i ∧ (rSlA X.K x none (some i) H Q ∨ rSlL X.K x none (some i) H Q)) ha hb (fun X ta tb g h1 h2 => pe_imp (pe_sl h1 po_none (po_some h2)) fun σ H Q h => h) fun X M H x y dx dy d Q g ml hx hy e hq => ?_
  rw [g.hK]
  cases hy with
  | int i =>
    refine ⟨i, rfl, sl_go (d := d) ml hx ?_ hq⟩
    cases dx <;> first | exact e | cases e
  | _ => cases dx <;> cases e
def CmpR (G : Gm) (k : Nat) (sc : Sx) (N : List Str) (op : CmpOp) (f : D → D → Option Bool) : Prop :=
  ∀ X, Gd G k sc N X → ∃ rl : R2, OpR X (compareOp op) rl ∧ ∀ M H x y dx dy b Q, Ml M H → Da G.K M H x dx → Da G.K M H y dy → f dx dy = some b → Q (.bl b) H → rl x y H Q
theorem e_cmp {a b : Expr} {fa fb : Ev → Mn D} {op : CmpOp} {f : D → D → Option Bool} {p : Pos} (c : CmpR G k sc N op f) (ha : SE G k sc N a fa) (hb : SE G k sc N b fb) (hm : behindInMarks op b = false := by first | exact nomark _ (by decide) (by decide) | rfl) :
    SE G k sc N (.Compare a [op] [b] p) (fun ev => bnd (fa ev) fun x => bnd (fb ev) fun y => lft ((f x y).map .bool)) := fun X W g tk => by
  obtain ⟨rl, ho, hr⟩ := c X g
  refine pe_imp (pe_cmpR ho (ha X W g tk) (hb X W g tk) hm) fun σ H Q h => ?_
  obtain ⟨M, r, ev, rs, R, o, rs', e, w⟩ := h
  refine tE_bnd R e w fun x rs1 H1 v R1 s1 d1 e1 w1 => tE_bnd R1 e1 w1 fun y rs2 H2 u R2 s2 d2 e2 w2 => ?_
  obtain ⟨d, e3, rfl, rfl⟩ := lft_some e2
  cases q : f x y with
  | none => rw [q] at e3; cases e3
  | some c => rw [q] at e3; cases e3; exact hr M H2 v u x y c Q R2.ml (d1.kp R1.ml (s2.kp R.mr)) d2 q (w2 H2 (.refl _) R2.row _ (.bl c))
theorem t_cmp {a b : Expr} {fa fb : Ev → Mn D} {op : CmpOp} {f : D → D → Option Bool} {p : Pos} (c : CmpR G k sc N op f) (ha : SE G k sc N a fa) (hb : SE G k sc N b fb) (hm : behindInMarks op b = false := by first | exact nomark _ (by decide) (by decide) | rfl) :
    ST G k sc N (.Compare a [op] [b] p) (fun ev => bnd (fa ev) fun x => bnd (fb ev) fun y => lft (f x y)) := fun X W g tk => by
  obtain ⟨rl, ho, hr⟩ := c X g
  refine pt_imp (pt_cmpR ho (ha X W g tk) (hb X W g tk) hm) fun σ H Q h => ?_
  obtain ⟨M, r, ev, rs, R, o, rs', e, w⟩ := h
  refine tE_bnd R e w fun x rs1 H1 v R1 s1 d1 e1 w1 => tE_bnd R1 e1 w1 fun y rs2 H2 u R2 s2 d2 e2 w2 => ?_
  obtain ⟨c, e3, rfl, rfl⟩ := lft_some e2
  exact hr M H2 v u x y c _ R2.ml (d1.kp R1.ml (s2.kp R.mr)) d2 e3 ⟨c, rfl, w2 H2 (.refl _) R2.row⟩
theorem plain_sh {d : D} (h : SeqAt.shaped d = true) : d.plain = true := PyData.plain_of_canLay0 d (SeqAt.canLay_of_shaped h)
def eqD (x y : D) : Option Bool := if SeqAt.shaped x = true ∧ SeqAt.shaped y = true then some (PyData.eqv x y) else none
def neD (x y : D) : Option Bool := if SeqAt.shaped x = true ∧ SeqAt.shaped y = true then some (!PyData.eqv x y) else none
theorem c_eq : CmpR G k sc N .Eq eqD := fun X g => ⟨_, op_eqD g.room.units, fun M H x y dx dy b Q ml hx hy e q => by
  unfold eqD at e
  split at e
  · rename_i hs; cases e; rw [g.hK]; exact ⟨dx, dy, hx.dp (plain_sh hs.1), hy.dp (plain_sh hs.2), hs.1, hs.2, q⟩
  · cases e⟩
theorem c_ne : CmpR G k sc N .NotEq neD := fun X g => ⟨_, op_neD g.room.units, fun M H x y dx dy b Q ml hx hy e q => by
  unfold neD at e
  split at e
  · rename_i hs; cases e; rw [g.hK]; exact ⟨dx, dy, hx.dp (plain_sh hs.1), hy.dp (plain_sh hs.2), hs.1, hs.2, q⟩
  · cases e⟩
def ltD : D → D → Option Bool
  | .int i, .int j => some (decide (i < j))
  | .str x, .str y => some (decide (x.cps.toList < y.cps.toList))
  | _, _ => none
def leD : D → D → Option Bool
  | .int i, .int j => some (decide (i ≤ j))
  | _, _ => none
def gtD : D → D → Option Bool
  | .int i, .int j => some (decide (j < i))
  | _, _ => none
theorem c_lt : CmpR G k sc N .Lt ltD := fun X g => ⟨_, op_lt.or op_lt_str, fun M H x y dx dy b Q ml hx hy e q => by
  cases hx <;> cases hy <;> first
    | cases e; done
    | (cases e; exact .inl ⟨_, _, rfl, rfl, q⟩)
    | (cases e; exact .inr ⟨_, _, rfl, rfl, q⟩)⟩
theorem c_le : CmpR G k sc N .LtE leD := fun X g => ⟨_, op_le, fun M H x y dx dy b Q ml hx hy e q => by
  cases hx <;> cases hy <;> first
    | cases e; done
    | (cases e; exact ⟨_, _, rfl, rfl, q⟩)⟩
theorem c_gt : CmpR G k sc N .Gt gtD := fun X g => ⟨_, op_gt, fun M H x y dx dy b Q ml hx hy e q => by
  cases hx <;> cases hy <;> first
    | cases e; done
    | (cases e; exact ⟨_, _, rfl, rfl, q⟩)⟩
/-- x is y, y None or a bool -/
def isD : D → D → Option Bool
  | .none, .none => some true
  | _, .none => some false
  | .bool a, .bool b => some (decide (a = b))
  | _, .bool _ => some false
  | _, _ => none
def isnD (x y : D) : Option Bool := (isD x y).map (!·)
def rIsD (K : PySem.W.Frag) : R2 := fun x y H Q => ∃ M dx dy b, Da K M H x dx ∧ Da K M H y dy ∧ isD dx dy = some b ∧ Q (.bl b) H
def rIsnD (K : PySem.W.Frag) : R2 := fun x y H Q => ∃ M dx dy b, Da K M H x dx ∧ Da K M H y dy ∧ isD dx dy = some b ∧ Q (.bl (!b)) H
theorem is_fact {X : Cx} {K : PySem.W.Frag} {M : Addr → Prop} {H : Hp} {x y : V} {dx dy : D} {b : Bool} {v u : Value} (hx : Da K M H x dx) (hy : Da K M H y dy) (e : isD dx dy = some b) (rx : RelV x v) (ry : RelV y u) : plainIs v u = true ∧ (v == u) = b := by
  cases hy with
  | non =>
    cases ry
    cases hx with
    | non => cases rx; cases e; exact ⟨rfl, rfl⟩
    | bl c => cases rx; cases e; exact ⟨rfl, rfl⟩
    | int i => obtain ⟨t, rfl⟩ := rx; cases e; exact ⟨rfl, rfl⟩
    | str z => obtain ⟨t, rfl⟩ := rx; cases e; exact ⟨rfl, rfl⟩
    | lst h n t => cases rx; cases e; exact ⟨rfl, rfl⟩
    | tup h t => cases rx; cases e; exact ⟨rfl, rfl⟩
    | dct h t n => cases rx; cases e; exact ⟨rfl, rfl⟩
    | txd h n l t => cases rx; cases e; exact ⟨rfl, rfl⟩
    | fzt h n t => cases rx; cases e; exact ⟨rfl, rfl⟩
  | bl c =>
    cases ry
    cases hx with
    | non => cases rx; cases e; exact ⟨rfl, rfl⟩
    | bl c' =>
      cases rx
      have e : some (decide (c' = c)) = some b := e
      cases e
      refine ⟨rfl, ?_⟩
      cases c <;> cases c' <;> rfl
    | int i => obtain ⟨t, rfl⟩ := rx; cases e; exact ⟨rfl, rfl⟩
    | str z => obtain ⟨t, rfl⟩ := rx; cases e; exact ⟨rfl, rfl⟩
    | lst h n t => cases rx; cases e; exact ⟨rfl, rfl⟩
    | tup h t => cases rx; cases e; exact ⟨rfl, rfl⟩
    | dct h t n => cases rx; cases e; exact ⟨rfl, rfl⟩
    | txd h n l t => cases rx; cases e; exact ⟨rfl, rfl⟩
    | fzt h n t => cases rx; cases e; exact ⟨rfl, rfl⟩
  | _ => cases hx <;> cases e
theorem op_isD {X : Cx} : OpR X (compareOp .Is) (rIsD X.K) := by
  intro pins s σ H x y v u Q I rx ry h
  obtain ⟨M, dx, dy, b, hx, hy, e, q⟩ := h
  obtain ⟨p, e2⟩ := is_fact (X := X) hx hy e rx ry
  exact wpAny_is_plain p ⟨.bl b, H, I, by rw [e2]; rfl, q⟩
theorem op_isnD {X : Cx} : OpR X (compareOp .IsNot) (rIsnD X.K) := by
  intro pins s σ H x y v u Q I rx ry h
  obtain ⟨M, dx, dy, b, hx, hy, e, q⟩ := h
  obtain ⟨p, e2⟩ := is_fact (X := X) hx hy e rx ry
  exact wpAny_isNot_plain p ⟨.bl (!b), H, I, by rw [e2]; rfl, q⟩
theorem c_is : CmpR G k sc N .Is isD := fun X g => ⟨_, op_isD, fun M H x y dx dy b Q ml hx hy e q => by rw [g.hK]; exact ⟨M, dx, dy, b, hx, hy, e, q⟩⟩
theorem c_isn : CmpR G k sc N .IsNot isnD := fun X g => ⟨_, op_isnD, fun M H x y dx dy b Q ml hx hy e q => by
  unfold isnD at e
  cases h : isD dx dy with
  | none => rw [h] at e; cases e
  | some c => rw [h] at e; cases e; rw [g.hK]; exact ⟨M, dx, dy, c, hx, hy, h, q⟩⟩
/-- x in y, y a list or a tuple, of flat things or of data -/
def inD (x y : D) : Option Bool := match y with
  | .list ds => if SeqAt.shaped x = true ∧ SeqAt.shaped (.list ds) = true then some (ds.any fun z => PyData.eqv z x) else none
  | .tuple ds => if flatD x = true ∧ ds.all flatD = true then some (ds.any fun z => PyData.eqv z x) else none
  | _ => none
where flatD : D → Bool
  | .none => true
  | .bool _ => true
  | .int _ => true
  | .str _ => true
  | _ => false
theorem flat_v {K : PySem.W.Frag} {M : Addr → Prop} {H : Hp} {x : V} {d : D} (h : Da K M H x d) (f : inD.flatD d = true) : flatV x = true := by
  cases h <;> first | rfl | cases f
theorem flat_vs {K : PySem.W.Frag} {M : Addr → Prop} {H : Hp} : ∀ {xs : List V} {ds : List D}, DaL K M H xs ds → ds.all inD.flatD = true → xs.all flatV = true
  | _, _, .nil, _ => rfl
  | _, _, .cons h t, f => by
    simp only [List.all_cons, Bool.and_eq_true] at f ⊢
    exact ⟨flat_v h f.1, flat_vs t f.2⟩
theorem eqV_d {K : PySem.W.Frag} {M : Addr → Prop} {H : Hp} {x y : V} {dx dy : D} (hx : Da K M H x dx) (hy : Da K M H y dy) (fx : inD.flatD dx = true) (fy : inD.flatD dy = true) : eqV x y = PyData.eqv dx dy := by
  cases hx <;> cases hy <;> first | (simp only [PyData.eqv, eqV]; done) | rfl | cases fx | cases fy
theorem any_d {K : PySem.W.Frag} {M : Addr → Prop} {H : Hp} {x : V} {dx : D} (hx : Da K M H x dx) (fx : inD.flatD dx = true) : ∀ {ys : List V} {ds : List D}, DaL K M H ys ds → ds.all inD.flatD = true → inV x ys = ds.any fun z => PyData.eqv z dx
  | _, _, .nil, _ => rfl
  | _, _, .cons h t, f => by
    simp only [List.all_cons, Bool.and_eq_true] at f
    have ih := any_d hx fx t f.2
    unfold inV at ih ⊢
    rw [List.any_cons, List.any_cons, ih, eqV_d h hx f.1 fx]
theorem in_go {X : Cx} {M : Addr → Prop} {H : Hp} {x y : V} {dx dy : D} {b : Bool} (hx : Da X.K M H x dx) (hy : Da X.K M H y dy) (e : inD dx dy = some b) :
    (∃ ds, dy = .list ds ∧ SeqAt.shaped dx = true ∧ SeqAt.shaped (.list ds) = true ∧ b = ds.any fun z => PyData.eqv z dx) ∨ (∃ p xs, y = .ref p ∧ (SqL X.K H p xs ∨ SqT X.K H p xs) ∧ flatV x = true ∧ xs.all flatV = true ∧ inV x xs = b) := by
  unfold inD at e
  split at e
  · rename_i ds
    split at e
    · rename_i hs; cases e; exact .inl ⟨ds, rfl, hs.1, hs.2, rfl⟩
    · cases e
  · rename_i ds
    split at e
    · rename_i hs
      cases e
      cases hy with
      | tup h t => exact .inr ⟨_, _, rfl, .inr h, flat_v hx hs.1, flat_vs t hs.2, any_d hx hs.1 t hs.2⟩
    · cases e
  · cases e
theorem units65 {X : Cx} (g : Gd G k sc N X) (hk : 1 ≤ k) : X.A.units + 65 < cLine := by
  have := (g.room.mono hk).un
  omega
theorem c_in (hk : 1 ≤ k := by decide) : CmpR G k sc N .In inD := fun X g => ⟨_, (op_inD (units65 g hk)).or op_in_seq, fun M H x y dx dy b Q ml hx hy e q => by
  rw [← g.hK] at hx hy
  rcases in_go hx hy e with ⟨ds, rfl, h1, h2, rfl⟩ | ⟨p, xs, rfl, h1, h2, h3, rfl⟩
  · exact .inl ⟨dx, ds, hx.dp (plain_sh h1), hy.dp (plain_sh h2), h1, h2, q⟩
  · exact .inr ⟨p, xs, rfl, h1, h2, h3, q⟩⟩
def ninD (x y : D) : Option Bool := (inD x y).map (!·)
theorem c_nin (hk : 1 ≤ k := by decide) : CmpR G k sc N .NotIn ninD := fun X g => ⟨_, (op_notInD (units65 g hk)).or op_notIn_seq, fun M H x y dx dy b Q ml hx hy e q => by
  rw [← g.hK] at hx hy
  unfold ninD at e
  cases h : inD dx dy with
  | none => rw [h] at e; cases e
  | some c =>
    rw [h] at e; cases e
    rcases in_go hx hy h with ⟨ds, rfl, h1, h2, rfl⟩ | ⟨p, xs, rfl, h1, h2, h3, rfl⟩
    · exact .inl ⟨dx, ds, hx.dp (plain_sh h1), hy.dp (plain_sh h2), h1, h2, q⟩
    · exact .inr ⟨p, xs, rfl, h1, h2, h3, q⟩⟩
end
end DL
namespace DL
open PySem PySem.Spec PyProof.Rows L2
variable [Xk]
section
variable {G : Gm} {k : Nat} {sc : Sx} {N : List Str}
def truD : D → Option Bool
  | .none => some false
  | .bool b => some b
  | .int i => some (i != 0)
  | .str y => if y.length ≤ sizeLine then some ((y.length : Int) != 0) else none
  | .list ds => some (!ds.isEmpty)
  | .tuple ds => some (!ds.isEmpty)
  | .dict _ => none
theorem isEmpty_da {K : PySem.W.Frag} {M : Addr → Prop} {H : Hp} {vs : List V} {ds : List D} (h : DaL K M H vs ds) : (!vs.isEmpty) = !ds.isEmpty := by cases h <;> rfl
theorem tru_da {K : PySem.W.Frag} {M : Addr → Prop} {H : Hp} {x : V} {d : D} {b : Bool} (h : Da K M H x d) (e : truD d = some b) : TruV K x H b := by
  cases h with
  | non => cases e; rfl
  | bl c => cases e; rfl
  | int i => cases e; rfl
  | str y =>
    have e : (if y.length ≤ sizeLine then some ((y.length : Int) != 0) else none) = some b := e
    split at e
    · rename_i hl; cases e; exact ⟨hl, rfl⟩
    · cases e
  | lst h n t => cases e; exact .inl ⟨_, .of h, (isEmpty_da t).symm⟩
  | tup h t => cases e; exact .inr (.inl ⟨_, h, (isEmpty_da t).symm⟩)
  | dct h t n => cases e
  | txd h n l t => cases e
  | fzt h n t => cases e
def dTru (f : Ev → Mn D) (ev : Ev) : Mn Bool := bnd (f ev) fun x => lft (truD x)
theorem t_val {e : Expr} {f : Ev → Mn D} (h : SE G k sc N e f) (he : ∀ env whole, isTrue e env whole = (do let v ← whole; standAt e.pos; holding [v] (truthy v)) := by intro _ _; rfl) : ST G k sc N e (dTru f) := fun X W g tk => by
  refine pt_imp (pt_truth (h X W g tk) (he _)) fun σ H Q h => ?_
  obtain ⟨M, r, ev, rs, R, o, rs', e, w⟩ := h
  refine tE_bnd R e w fun x rs1 H1 v R1 s1 d1 e1 w1 => ?_
  obtain ⟨c, e3, rfl, rfl⟩ := lft_some e1
  rw [g.hK]
  exact ⟨c, tru_da d1 e3, w1 H1 (.refl _) R1.row⟩
def SW (G : Gm) (k : Nat) (sc : Sx) (N : List Str) (e : Expr) (f : Ev → Mn Bool) : Prop := ∀ (X : Cx) (W : WX), Gd G k sc N X → Takes X W → PW X e (tT G.K G.mg W f)
theorem pw_imp {X : Cx} {e : Expr} {t t' : TT} (h : PW X e t) (i : ∀ σ H Q, t' σ H Q → t σ H Q) : PW X e t' := ⟨fun wh pins s σ H Q I q => h.run wh pins s σ H Q I (i σ H Q q)⟩
theorem w_and1 {a : Expr} {fa : Ev → Mn Bool} {p : Pos} (h : ST G k sc N a fa) : SW G k sc N (.BoolOp .And [a] p) fa := fun X W g tk => pw_and1 (h X W g tk)
theorem w_or1 {a : Expr} {fa : Ev → Mn Bool} {p : Pos} (h : ST G k sc N a fa) : SW G k sc N (.BoolOp .Or [a] p) fa := fun X W g tk => pw_or1 (h X W g tk)
def dAnd (fa fb : Ev → Mn Bool) (ev : Ev) : Mn Bool := bnd (fa ev) fun c => if c = true then fb ev else pur false
def dOr (fa fb : Ev → Mn Bool) (ev : Ev) : Mn Bool := bnd (fa ev) fun c => if c = true then pur true else fb ev
theorem w_and {a b : Expr} {rest : List Expr} {fa fb : Ev → Mn Bool} {p : Pos} (ha : ST G k sc N a fa) (hb : SW G k sc N (.BoolOp .And (b :: rest) p) fb) : SW G k sc N (.BoolOp .And (a :: b :: rest) p) (dAnd fa fb) := fun X W g tk => by
  refine pw_imp (pw_and (ha X W g tk) (hb X W g tk)) fun σ H Q h => ?_
  obtain ⟨M, r, ev, rs, R, o, rs', e, w⟩ := h
  refine tT_bnd R e w fun x rs1 H1 R1 s1 e1 w1 => ?_
  cases x with
  | true => rw [if_pos rfl] at e1; rw [if_pos rfl]; exact ⟨M, r, ev, rs1, R1, o, rs', e1, w1⟩
  | false => rw [if_neg (by decide)] at e1; rw [if_neg (by decide)]; cases e1; exact w1 H1 (.refl _) R1.row
theorem w_or {a b : Expr} {rest : List Expr} {fa fb : Ev → Mn Bool} {p : Pos} (ha : ST G k sc N a fa) (hb : SW G k sc N (.BoolOp .Or (b :: rest) p) fb) : SW G k sc N (.BoolOp .Or (a :: b :: rest) p) (dOr fa fb) := fun X W g tk => by
  refine pw_imp (pw_or (ha X W g tk) (hb X W g tk)) fun σ H Q h => ?_
  obtain ⟨M, r, ev, rs, R, o, rs', e, w⟩ := h
  refine tT_bnd R e w fun x rs1 H1 R1 s1 e1 w1 => ?_
  cases x with
  | true => rw [if_pos rfl] at e1; rw [if_pos rfl]; cases e1; exact w1 H1 (.refl _) R1.row
  | false => rw [if_neg (by decide)] at e1; rw [if_neg (by decide)]; exact ⟨M, r, ev, rs1, R1, o, rs', e1, w1⟩
theorem t_w {e : Expr} {f : Ev → Mn Bool} (h : SW G k sc N e f) : ST G k sc N e f := fun X W g tk => (h X W g tk).pt
def dNot (f : Ev → Mn Bool) (ev : Ev) : Mn Bool := bnd (f ev) fun c => pur (!c)
theorem t_not {a : Expr} {f : Ev → Mn Bool} {p : Pos} (h : ST G k sc N a f) : ST G k sc N (.UnaryOp .Not a p) (dNot f) := fun X W g tk => by
  refine pt_imp (pt_not (h X W g tk)) fun σ H Q h => ?_
  obtain ⟨M, r, ev, rs, R, o, rs', e, w⟩ := h
  refine tT_bnd R e w fun x rs1 H1 R1 s1 e1 w1 => ?_
  cases e1
  exact w1 H1 (.refl _) R1.row
/-- as values -/
def dOrV (fa fb : Ev → Mn D) (ev : Ev) : Mn D := bnd (fa ev) fun x => bnd (lft (truD x)) fun c => if c = true then pur x else fb ev
def dAndV (fa fb : Ev → Mn D) (ev : Ev) : Mn D := bnd (fa ev) fun x => bnd (lft (truD x)) fun c => if c = true then fb ev else pur x
theorem bnd_lft {α β : Type} {v : Option α} {f : α → Mn β} {rs rs' : RS} {o : Out β} (h : bnd (lft v) f rs = some (o, rs')) : ∃ a, v = some a ∧ f a rs = some (o, rs') := by
  cases v with
  | none => simp [bnd, lft] at h
  | some a => exact ⟨a, rfl, h⟩
theorem e_or1 {a : Expr} {op : BoolOp} {fa : Ev → Mn D} {p : Pos} (h : SE G k sc N a fa) : SE G k sc N (.BoolOp op [a] p) fa := fun X W g tk => pe_one (h X W g tk)
theorem e_and {a b : Expr} {rest : List Expr} {fa fb : Ev → Mn D} {p : Pos} (ha : SE G k sc N a fa) (hb : SE G k sc N (.BoolOp .And (b :: rest) p) fb) : SE G k sc N (.BoolOp .And (a :: b :: rest) p) (dAndV fa fb) := fun X W g tk => by
  refine pe_imp (pe_andT (ha X W g tk) (hb X W g tk)) fun σ H Q h => ?_
  obtain ⟨M, r, ev, rs, R, o, rs', e, w⟩ := h
  refine tE_bnd R e w fun x rs1 H1 v R1 s1 d1 e1 w1 => ?_
  obtain ⟨c, e2, e3⟩ := bnd_lft e1
  rw [g.hK]
  refine ⟨c, tru_da d1 e2, ?_⟩
  cases c with
  | true => rw [if_pos rfl] at e3; rw [if_pos rfl]; exact ⟨M, r, ev, rs1, R1, o, rs', e3, w1⟩
  | false => rw [if_neg (by decide)] at e3; rw [if_neg (by decide)]; cases e3; exact w1 H1 (.refl _) R1.row v d1
def dNotV (f : Ev → Mn D) (ev : Ev) : Mn D := bnd (f ev) fun x => lft ((truD x).map fun c => .bool (!c))
def dIf (t : Ev → Mn Bool) (fa fb : Ev → Mn D) (ev : Ev) : Mn D := bnd (t ev) fun c => if c = true then fa ev else fb ev
theorem e_if {c a b : Expr} {t : Ev → Mn Bool} {fa fb : Ev → Mn D} {p : Pos} (hc : ST G k sc N c t) (ha : SE G k sc N a fa) (hb : SE G k sc N b fb) : SE G k sc N (.IfExp c a b p) (dIf t fa fb) := fun X W g tk => by
  refine pe_imp (pe_ifExp (hc X W g tk) (ha X W g tk) (hb X W g tk)) fun σ H Q h => ?_
  obtain ⟨M, r, ev, rs, R, o, rs', e, w⟩ := h
  refine tT_bnd R e w fun x rs1 H1 R1 s1 e1 w1 => ?_
  cases x with
  | true => rw [if_pos rfl] at e1; rw [if_pos rfl]; exact ⟨M, r, ev, rs1, R1, o, rs', e1, w1⟩
  | false => rw [if_neg (by decide)] at e1; rw [if_neg (by decide)]; exact ⟨M, r, ev, rs1, R1, o, rs', e1, w1⟩
/-- a < b < c -/
def dChain (f f' : D → D → Option Bool) (fa fb fc : Ev → Mn D) (ev : Ev) : Mn D := bnd (fa ev) fun x => bnd (fb ev) fun y => bnd (lft (f x y)) fun c => if c = true then bnd (fc ev) fun z => lft ((f' y z).map .bool) else pur (.bool false)
def dChainT (f f' : D → D → Option Bool) (fa fb fc : Ev → Mn D) (ev : Ev) : Mn Bool := bnd (fa ev) fun x => bnd (fb ev) fun y => bnd (lft (f x y)) fun c => if c = true then bnd (fc ev) fun z => lft (f' y z) else pur false
theorem e_chain {a b c : Expr} {fa fb fc : Ev → Mn D} {op op' : CmpOp} {f f' : D → D → Option Bool} {p : Pos} (h1 : CmpR G k sc N op f) (h2 : CmpR G k sc N op' f') (ha : SE G k sc N a fa) (hb : SE G k sc N b fb) (hc : SE G k sc N c fc)
    (hm : lastMarks [op, op'] [b, c] = false := by with_unfolding_all rfl) : SE G k sc N (.Compare a [op, op'] [b, c] p) (dChain f f' fa fb fc) := fun X W g tk => by
  obtain ⟨rl, ho, hr⟩ := h1 X g
  obtain ⟨rl', ho', hr'⟩ := h2 X g
  refine pe_imp (pe_chain ho ho' (ha X W g tk) (hb X W g tk) (hc X W g tk) hm) fun σ H Q h => ?_
  obtain ⟨M, r, ev, rs, R, o, rs', e, w⟩ := h
  refine tE_bnd R e w fun x rs1 H1 v R1 s1 d1 e1 w1 => tE_bnd R1 e1 w1 fun y rs2 H2 u R2 s2 d2 e2 w2 => ?_
  obtain ⟨c, e3, e4⟩ := bnd_lft e2
  refine hr M H2 v u x y c _ R2.ml (d1.kp R1.ml (s2.kp R.mr)) d2 e3 ⟨c, rfl, ?_⟩
  cases c with
  | false => rw [if_neg (by decide)] at e4; rw [if_neg (by decide)]; cases e4; exact w2 H2 (.refl _) R2.row _ (.bl false)
  | true =>
    rw [if_pos rfl] at e4; rw [if_pos rfl]
    refine tE_bnd R2 e4 w2 fun z rs3 H3 u3 R3 s3 d3 e5 w3 => ?_
    obtain ⟨d, e6, rfl, rfl⟩ := lft_some e5
    cases q : f' y z with
    | none => rw [q] at e6; cases e6
    | some c => rw [q] at e6; cases e6; exact hr' M H3 u u3 y z c _ R3.ml (d2.kp R2.ml (s3.kp R.mr)) d3 q (w3 H3 (.refl _) R3.row _ (.bl c))
def addD : D → D → Option D
  | .int i, .int j => some (.int (i + j))
  | .str x, .str y => if x.length + y.length ≤ sizeLine then some (.str (x ++ y)) else none
  | .tuple xs, .tuple ys => if xs.length + ys.length ≤ sizeLine then some (.tuple (xs ++ ys)) else none
  | .list xs, .list ys => if xs.length + ys.length ≤ sizeLine then some (.list (xs ++ ys)) else none
  | _, _ => none
def subD : D → D → Option D
  | .int i, .int j => some (.int (i - j))
  | _, _ => none
theorem op_addA {X : Cx} : OpR X (binaryOp .Add) (fun x y H Q => rI0 (fun i j => .int (i + j)) x y H Q ∨ (∃ i j, x = .str i ∧ y = .str j ∧ i.length + j.length ≤ sizeLine ∧ Q (.str (i ++ j)) H) ∨ rCatA X.K x y H Q ∨ rCat x y H Q) :=
  op_add.or (op_add_str.or (op_catA.or op_cat))
theorem e_add {a b : Expr} {fa fb : Ev → Mn D} {p : Pos} (ha : SE G k sc N a fa) (hb : SE G k sc N b fb) : SE G k sc N (.BinOp a .Add b p) (fun ev => bnd (fa ev) fun x => bnd (fb ev) fun y => lft (addD x y)) := by
  refine e_bin ha hb (fun X ta tb g h1 h2 => pe_op op_addA h1 h2) fun X M H x y dx dy d Q g ml hx hy e hq => ?_
  cases hx with
  | int i =>
    cases hy with
    | int j => cases e; exact .inl ⟨i, j, rfl, rfl, hq _ H (.refl _) (.int _)⟩
    | _ => cases e
  | str z =>
    cases hy with
    | str z' =>
      have e : (if z.length + z'.length ≤ sizeLine then some (PyData.str (z ++ z')) else none) = some d := e
      split at e
      · rename_i hl; cases e; exact .inr (.inl ⟨z, z', rfl, rfl, hl, hq _ H (.refl _) (.str _)⟩)
      · cases e
    | _ => cases e
  | tup h t =>
    cases hy with
    | tup h' t' =>
      rename_i a xs ds a' xs' ds'
      have e : (if ds.length + ds'.length ≤ sizeLine then some (PyData.tuple (ds ++ ds')) else none) = some d := e
      split at e
      · rename_i hl
        cases e
        refine .inr (.inr (.inl ⟨_, _, _, _, rfl, rfl, by rw [g.hK]; exact h, by rw [g.hK]; exact h', by rw [t.length, t'.length]; exact hl, ?_, ?_, ?_⟩))
        · intro hx
          subst hx
          cases t
          exact hq _ H (.refl _) (.tup h' t')
        · intro hx hy
          subst hy
          cases t'
          exact hq _ H (.refl _) (.tup h (by rw [List.append_nil]; exact t))
        · intro _ _ p hp
          exact hq _ _ (same_upd hp) (Da.newT ml hp (t.append t'))
      · cases e
    | _ => cases e
  | lst h n t =>
    cases hy with
    | lst h' n' t' =>
      rename_i a xs ds a' xs' ds'
      have e : (if ds.length + ds'.length ≤ sizeLine then some (PyData.list (ds ++ ds')) else none) = some d := e
      split at e
      · rename_i hl
        cases e
        exact .inr (.inr (.inr ⟨_, _, _, _, rfl, rfl, h, h', by rw [t.length, t'.length]; exact hl, fun p hp => hq _ _ (same_upd hp) (Da.newL ml hp (t.append t'))⟩))
      · cases e
    | _ => cases e
  | _ => cases hy <;> cases e
theorem e_sub {a b : Expr} {fa fb : Ev → Mn D} {p : Pos} (ha : SE G k sc N a fa) (hb : SE G k sc N b fb) : SE G k sc N (.BinOp a .Sub b p) (fun ev => bnd (fa ev) fun x => bnd (fb ev) fun y => lft (subD x y)) := by
  refine e_bin ha hb (fun X ta tb g h1 h2 => pe_op op_sub h1 h2) fun X M H x y dx dy d Q g ml hx hy e hq => ?_
  cases hx <;> cases hy <;> first
    | cases e; done
    | (cases e; exact ⟨_, _, rfl, rfl, hq _ H (.refl _) (.int _)⟩)
def negD : D → Option D
  | .int i => some (.int (-i))
  | _ => none
theorem e_neg {a : Expr} {fa : Ev → Mn D} {p : Pos} (ha : SE G k sc N a fa) : SE G k sc N (.UnaryOp .USub a p) (fun ev => bnd (fa ev) fun x => lft (negD x)) :=
  e_one (rl := fun X x H Q => rU (fun i => .int (-i)) x H Q) ha (fun X ta g h => pe_un un_neg h) fun X M H x dx d Q g ml hx e hq => by
    cases hx <;> first
      | cases e; done
      | (cases e; exact ⟨_, rfl, hq _ H (.refl _) (.int _)⟩)
end
end DL
namespace DL
open PySem PySem.Spec PyProof.Rows L2
variable [Xk]
section
variable {G : Gm} {k : Nat} {sc : Sx} {N : List Str}
abbrev Mg0 (G : Gm) (x : Str) : Prop := G.mg x = none
theorem e_arg {e : Expr} {es : List Expr} {f : Ev → Mn (List Slot)} {op : List D → Option D} {rl : Cx → List V → Hp → VK → Prop} (ha : SA G k sc N es f) (mk : ∀ X t, Gd G k sc N X → PA X es t → PE X e (tCB (rl X) t))
    (hr : ∀ X M H vs ds d Q, Gd G k sc N X → Ml M H → DaL G.K M H vs ds → op ds = some d → (∀ v H', Same H H' → Da G.K M H' v d → Q v H') → rl X vs H Q) :
    SE G k sc N e (fun ev => bnd (f ev) fun ss => lft ((dats ss).bind op)) := fun X W g tk => by
  refine pe_imp (mk X _ g (ha X W g tk)) fun σ H Q h => ?_
  obtain ⟨M, r, ev, rs, R, o, rs', e, w⟩ := h
  refine tAr_bnd R e w fun ss rs2 H2 vs R2 s2 d2 e2 w2 => ?_
  obtain ⟨d, e3, rfl, rfl⟩ := lft_some e2
  cases q : dats ss with
  | none => rw [q] at e3; cases e3
  | some ds => rw [q] at e3; exact hr X M H2 vs ds d Q g R2.ml (d2.dats q) e3 fun z H3 s3 d3 => w2 H3 (.of_same s3) (row_same R2.row s3) z d3
def dFn (op : List D → Option D) (f : Ev → Mn (List Slot)) (ev : Ev) : Mn D := bnd (f ev) fun ss => lft ((dats ss).bind op)
theorem e_blt {id : String} {x : Str} {e : Expr} {es : List Expr} {f : Ev → Mn (List Slot)} {op : List D → Option D} {rl : Cx → List V → Hp → VK → Prop} {p pos : Pos} (ha : SA G k sc N (e :: es) f) (cr : ∀ X, Gd G k sc N X → CallR X (.builtin id) (rl X))
    (hr : ∀ X M H vs ds d Q, Gd G k sc N X → Ml M H → DaL G.K M H vs ds → op ds = some d → (∀ v H', Same H H' → Da G.K M H' v d → Q v H') → rl X vs H Q)
    (hv : bootBuiltins x = some (.builtin id)) (hm : Mg0 G x) (hg : glB sc x = true) (hn : x ≠ "__name__") (hdb : (x == ("__debug__" : Str)) = false)
    (he : ∀ env, starEach (e :: es) env = (false, eval e env) :: starEach es env) (hpl : ∀ env, (backTo pos (starEach es env)).any (·.1) = false) : SE G k sc N (.Call (.Name x p) (e :: es) [] pos) (dFn op f) :=
  e_arg ha (fun X t g h => pe_callB (cr X g) (gl_of g hg) (by rw [g.hmg]; exact hm) hv h hn hdb (he _) (hpl _)) hr
theorem e_bty {T : String} {x : Str} {e : Expr} {es : List Expr} {f : Ev → Mn (List Slot)} {op : List D → Option D} {rl : Cx → List V → Hp → VK → Prop} {p pos : Pos} (ha : SA G k sc N (e :: es) f) (cr : ∀ X, Gd G k sc N X → CallR X (.type T) (rl X))
    (hr : ∀ X M H vs ds d Q, Gd G k sc N X → Ml M H → DaL G.K M H vs ds → op ds = some d → (∀ v H', Same H H' → Da G.K M H' v d → Q v H') → rl X vs H Q)
    (hv : bootBuiltins x = some (.type T)) (hm : Mg0 G x) (hg : glB sc x = true) (hn : x ≠ "__name__") (hdb : (x == ("__debug__" : Str)) = false)
    (he : ∀ env, starEach (e :: es) env = (false, eval e env) :: starEach es env) (hpl : ∀ env, (backTo pos (starEach es env)).any (·.1) = false) : SE G k sc N (.Call (.Name x p) (e :: es) [] pos) (dFn op f) :=
  e_arg ha (fun X t g h => pe_callTy (cr X g) (gl_of g hg) (by rw [g.hmg]; exact hm) hv h hn hdb (he _) (hpl _)) hr
def lenD : List D → Option D
  | [.tuple ds] => some (.int ds.length)
  | [.list ds] => some (.int ds.length)
  | [.str z] => if z.length ≤ sizeLine then some (.int z.length) else none
  | _ => none
theorem one_da {K : PySem.W.Frag} {M : Addr → Prop} {H : Hp} {vs : List V} {d : D} (h : DaL K M H vs [d]) : ∃ v, vs = [v] ∧ Da K M H v d := by
  cases h with
  | cons a t => cases t; exact ⟨_, rfl, a⟩
theorem two_da {K : PySem.W.Frag} {M : Addr → Prop} {H : Hp} {vs : List V} {d d' : D} (h : DaL K M H vs [d, d']) : ∃ v v', vs = [v, v'] ∧ Da K M H v d ∧ Da K M H v' d' := by
  cases h with
  | cons a t =>
    obtain ⟨v, e, q⟩ := one_da t
    subst e
    exact ⟨_, _, rfl, a, q⟩
theorem e_len {e : Expr} {f : Ev → Mn (List Slot)} {p pos : Pos} (ha : SA G k sc N [e] f) (hm : Mg0 G "len") (hg : glB sc "len" = true := by rfl) (he : ∀ env, starEach [e] env = (false, eval e env) :: starEach [] env := by intro _; rfl) :
    SE G k sc N (.Call (.Name "len" p) [e] [] pos) (dFn lenD f) :=
  e_blt ha (fun X g => call_len_seq.or call_len_str) (fun X M H vs ds d Q g ml h e hq => by
    unfold lenD at e
    split at e
    · obtain ⟨v, rfl, h1⟩ := one_da h
      cases e
      cases h1 with
      | tup h2 t => exact .inl ⟨_, _, rfl, .inr (by rw [g.hK]; exact h2), by rw [t.length]; exact hq _ H (.refl _) (.int _)⟩
    · obtain ⟨v, rfl, h1⟩ := one_da h
      cases e
      cases h1 with
      | lst h2 n t => exact .inl ⟨_, _, rfl, .inl (.of h2), by rw [t.length]; exact hq _ H (.refl _) (.int _)⟩
    · obtain ⟨v, rfl, h1⟩ := one_da h
      split at e
      · rename_i hl
        cases e
        cases h1 with
        | str z => exact .inr ⟨_, rfl, hl, hq _ H (.refl _) (.int _)⟩
      · cases e
    · cases e) PySem.boot_len hm hg (by decide) (by decide) he (fun _ => rfl)
def intD : List D → Option D
  | [.int i] => some (.int i)
  | [.bool b] => some (.int (if b then 1 else 0))
  | _ => none
theorem e_intc {e : Expr} {f : Ev → Mn (List Slot)} {p pos : Pos} (ha : SA G k sc N [e] f) (hm : Mg0 G "int") (hg : glB sc "int" = true := by rfl) (he : ∀ env, starEach [e] env = (false, eval e env) :: starEach [] env := by intro _; rfl) :
    SE G k sc N (.Call (.Name "int" p) [e] [] pos) (dFn intD f) :=
  e_bty ha (fun X g => call_int1) (fun X M H vs ds d Q g ml h e hq => by
    unfold intD at e
    split at e
    · obtain ⟨v, rfl, h1⟩ := one_da h
      cases e
      cases h1 with
      | int i => exact .inl ⟨_, rfl, hq _ H (.refl _) (.int _)⟩
    · obtain ⟨v, rfl, h1⟩ := one_da h
      cases e
      cases h1 with
      | bl b => exact .inr ⟨_, rfl, hq _ H (.refl _) (.int _)⟩
    · cases e) PyProof.Rows.boot_int hm hg (by decide) (by decide) he (fun _ => rfl)
def listD : List D → Option D
  | [.tuple ds] => some (.list ds)
  | [.list ds] => some (.list ds)
  | _ => none
theorem e_list {e : Expr} {f : Ev → Mn (List Slot)} {p pos : Pos} (ha : SA G k sc N [e] f) (hm : Mg0 G "list") (hg : glB sc "list" = true := by rfl) (he : ∀ env, starEach [e] env = (false, eval e env) :: starEach [] env := by intro _; rfl) :
    SE G k sc N (.Call (.Name "list" p) [e] [] pos) (dFn listD f) :=
  e_bty ha (fun X g => call_list_of) (fun X M H vs ds d Q g ml h e hq => by
    unfold listD at e
    split at e
    · obtain ⟨v, rfl, h1⟩ := one_da h
      cases e
      cases h1 with
      | tup h2 t => exact ⟨_, _, rfl, .inr (by rw [g.hK]; exact h2), fun l hl => hq _ _ (same_upd hl) (Da.newL ml hl t)⟩
    · obtain ⟨v, rfl, h1⟩ := one_da h
      cases e
      cases h1 with
      | lst h2 n t => exact ⟨_, _, rfl, .inl (.of h2), fun l hl => hq _ _ (same_upd hl) (Da.newL ml hl t)⟩
    · cases e) PyProof.Rows.boot_list hm hg (by decide) (by decide) he (fun _ => rfl)
def tupleD : List D → Option D
  | [.tuple ds] => some (.tuple ds)
  | [.list ds] => some (.tuple ds)
  | _ => none
theorem e_tuple {e : Expr} {f : Ev → Mn (List Slot)} {p pos : Pos} (ha : SA G k sc N [e] f) (hm : Mg0 G "tuple") (hg : glB sc "tuple" = true := by rfl) (he : ∀ env, starEach [e] env = (false, eval e env) :: starEach [] env := by intro _; rfl) :
    SE G k sc N (.Call (.Name "tuple" p) [e] [] pos) (dFn tupleD f) :=
  e_bty ha (fun X g => call_tuple_of) (fun X M H vs ds d Q g ml h e hq => by
    unfold tupleD at e
    split at e
    · obtain ⟨v, rfl, h1⟩ := one_da h
      cases e
      cases h1 with
      | tup h2 t => exact ⟨_, _, rfl, .inr ⟨by rw [g.hK]; exact h2, hq _ H (.refl _) (.tup h2 t)⟩⟩
    · obtain ⟨v, rfl, h1⟩ := one_da h
      cases e
      cases h1 with
      | lst h2 n t => exact ⟨_, _, rfl, .inl ⟨.of h2, fun l hl => hq _ _ (same_upd hl) (Da.newT ml hl t)⟩⟩
    · cases e) PyProof.Rows.boot_tuple hm hg (by decide) (by decide) he (fun _ => rfl)
/-- truth values alone -/
def bools : List D → Option (List Bool)
  | [] => some []
  | .bool b :: ds => (bools ds).map (b :: ·)
  | _ :: _ => none
theorem bools_da {K : PySem.W.Frag} {M : Addr → Prop} {H : Hp} : ∀ {vs : List V} {ds : List D} {bs : List Bool}, DaL K M H vs ds → bools ds = some bs → vs = bs.map V.bl
  | _, _, _, .nil, e => by cases e; rfl
  | _, _, _, .cons h t, e => by
    cases h with
    | bl b =>
      unfold bools at e
      cases q : bools _ with
      | none => rw [q] at e; cases e
      | some bs => rw [q] at e; cases e; rw [bools_da t q]; rfl
    | _ => cases e
def allD : List D → Option D
  | [.list ds] => (bools ds).map fun bs => .bool (bs.all id)
  | _ => none
def anyD : List D → Option D
  | [.list ds] => (bools ds).map fun bs => .bool (bs.any id)
  | _ => none
theorem e_all {e : Expr} {f : Ev → Mn (List Slot)} {p pos : Pos} (ha : SA G k sc N [e] f) (hm : Mg0 G "all") (hg : glB sc "all" = true := by rfl) (he : ∀ env, starEach [e] env = (false, eval e env) :: starEach [] env := by intro _; rfl) :
    SE G k sc N (.Call (.Name "all" p) [e] [] pos) (dFn allD f) :=
  e_blt ha (fun X g => cr_all g.calm) (fun X M H vs ds d Q g ml h e hq => by
    unfold allD at e
    split at e
    · rename_i ds'
      obtain ⟨v, rfl, h1⟩ := one_da h
      cases h1 with
      | lst h2 n t =>
        cases q : bools ds' with
        | none => rw [q] at e; cases e
        | some bs =>
          rw [q] at e; cases e
          have e2 := bools_da t q
          subst e2
          exact ⟨_, bs, rfl, .of h2, hq _ H (.refl _) (.bl _)⟩
    · cases e) PyProof.Rows.boot_all hm hg (by decide) (by decide) he (fun _ => rfl)
theorem e_any {e : Expr} {f : Ev → Mn (List Slot)} {p pos : Pos} (ha : SA G k sc N [e] f) (hm : Mg0 G "any") (hg : glB sc "any" = true := by rfl) (he : ∀ env, starEach [e] env = (false, eval e env) :: starEach [] env := by intro _; rfl) :
    SE G k sc N (.Call (.Name "any" p) [e] [] pos) (dFn anyD f) :=
  e_blt ha (fun X g => cr_any g.calm) (fun X M H vs ds d Q g ml h e hq => by
    unfold anyD at e
    split at e
    · rename_i ds'
      obtain ⟨v, rfl, h1⟩ := one_da h
      cases h1 with
      | lst h2 n t =>
        cases q : bools ds' with
        | none => rw [q] at e; cases e
        | some bs =>
          rw [q] at e; cases e
          have e2 := bools_da t q
          subst e2
          exact ⟨_, bs, rfl, .of h2, hq _ H (.refl _) (.bl _)⟩
    · cases e) PyProof.Rows.boot_any hm hg (by decide) (by decide) he (fun _ => rfl)
inductive Ty where
  | int | bool | str | tuple | list
def Ty.nm : Ty → String
  | .int => "int"
  | .bool => "bool"
  | .str => "str"
  | .tuple => "tuple"
  | .list => "list"
def tyS : D → String
  | .none => "NoneType"
  | .bool _ => "bool"
  | .int _ => "int"
  | .str _ => "str"
  | .list _ => "list"
  | .tuple _ => "tuple"
  | .dict [(.tuple _, .none)] => "tuple"
  | .dict _ => "dict"
def isA : D → Ty → Bool
  | .bool _, .bool => true
  | .bool _, .int => true
  | .int _, .int => true
  | .str _, .str => true
  | .list _, .list => true
  | .tuple _, .tuple => true
  | .dict [(.tuple _, .none)], .tuple => true
  | _, _ => false
def TyY (K : PySem.W.Frag) (H : Hp) (x : V) (t : Value) : Prop := TyX K H x t ∨ ∃ a, x = .ref a ∧ ((∃ ps, H a = some (dctO a ps)) ∨ ∃ kvs, H a = some (.dK kvs)) ∧ t = .type "dict"
section
variable {X : Cx} {pins : List (Addr × Obj)} {σ : L2.St} {H : Hp} {s : Shared}
theorem kit_y {x : V} {u t : Value} (I : Inv X pins σ H s) (rx : RelV x u) (ty : TyY X.K H x t) : ∃ P : Heap → Prop, PySem.W.KitX X.K u t P ∧ P s.heap ∧ u ≠ .builtin "__main__.__loader__#opaque" := by
  rcases ty with ty | ⟨a, rfl, ⟨ps, ea⟩ | ⟨kvs, ea⟩, rfl⟩
  · exact kit_of I rx ty
  · cases (show u = Value.ref a from rx)
    obtain ⟨⟨_, _, xs, _, o, es, ep, h1, h2, _⟩, _⟩ := (show ObjOk X.prog X.w H s.heap a (dctO a ps) from I.hok a _ ea)
    exact ⟨_, PySem.W.kitx_dict, ⟨o, h1, h2.1⟩, fun z => nomatch z⟩
  · cases (show u = Value.ref a from rx)
    obtain ⟨_, _, _, _, o, _, _, h1, h2, _⟩ := (show ObjOk X.prog X.w H s.heap a (.dK kvs) from I.hok a _ ea)
    exact ⟨_, PySem.W.kitx_dict, ⟨o, h1, h2.1⟩, fun z => nomatch z⟩
def rIsY (K : PySem.W.Frag) : List V → Hp → VK → Prop := fun xs H Q => ∃ (x c : V) (t u : Value) (b : Bool), xs = [x, c] ∧ ClsV c u ∧ TyY K H x t ∧ PySem.W.kitOne K t u = some b ∧ Q (.bl b) H
theorem call_isY : CallR X (.builtin "isinstance") (rIsY X.K) := by
  intro pins s σ H xs us Q I r h
  obtain ⟨x, c, t, u, b, rfl, k, ty, e, q⟩ := h
  obtain ⟨u1, u2, rfl, r1, r2⟩ := vals2 r
  have e2 := k.eq r2
  subst e2
  obtain ⟨P, Z, p, hx⟩ := kit_y I r1 ty
  exact PySem.W.kia_one Z I.kIn p e hx fun tk => ⟨.bl b, H, I.tok tk, rfl, q⟩
end
theorem tyS_rk : ∀ ps : List Rk, tyS (.dict (ps.map rkD)) = "dict"
  | [] => rfl
  | [_] => rfl
  | _ :: _ :: _ => rfl
theorem tyS_sk : ∀ ps : List (Str × D), tyS (.dict (ps.map skD)) = "dict"
  | [] => rfl
  | [_] => rfl
  | _ :: _ :: _ => rfl
theorem tyx_da {K : PySem.W.Frag} {M : Addr → Prop} {H : Hp} {x : V} {d : D} (h : Da K M H x d) : TyY K H x (.type (tyS d)) := by
  cases h with
  | dct h t n => exact .inr ⟨_, rfl, .inl ⟨_, h⟩, by rw [tyS_rk]⟩
  | txd h n l t => exact .inr ⟨_, rfl, .inr ⟨_, h⟩, by rw [tyS_sk]⟩
  | fzt h n t => exact .inl <| .fTuple h
  | non => exact .inl <| .base .non
  | bl b => exact .inl <| .base (.bl b)
  | int i => exact .inl <| .base (.int i)
  | str z => exact .inl <| .base (.str z)
  | lst h n t => exact .inl <| .base (.lst h)
  | tup h t =>
    rcases h with (h | ⟨o, h⟩) | ⟨o, its, n, h, c, _⟩
    · exact .inl <| .base (.tup h)
    · exact .inl <| .fTuple h
    · exact .inl <| .kTuple h c
theorem kit_isA (d : D) (t : Ty) : kitB (tyS d) t.nm = some (isA d t) := by
  cases d with
  | dict kvs =>
    have nt : tyS (.dict kvs) = "dict" → isA (.dict kvs) t = isA (.dict []) t → kitB (tyS (.dict kvs)) t.nm = some (isA (.dict kvs) t) := fun e2 e => by
      rw [e, e2]
      cases t <;> decide +kernel
    rcases kvs with _ | ⟨⟨k, v⟩, _ | ⟨q, r⟩⟩
    · exact nt rfl rfl
    · cases k with
      | tuple ds =>
        cases v with
        | none =>
          have e : isA (.dict [(.tuple ds, .none)]) t = isA (.tuple []) t := by cases t <;> rfl
          rw [e]; show kitB "tuple" _ = _
          cases t <;> decide +kernel
        | _ => exact nt rfl (by cases t <;> rfl)
      | _ => exact nt rfl (by cases t <;> rfl)
    · exact nt (by cases k <;> cases v <;> rfl) (by cases t <;> cases k <;> cases v <;> rfl)
  | none => cases t <;> decide +kernel
  | bool b =>
    have e : isA (.bool b) t = isA (.bool true) t := by cases t <;> rfl
    rw [e]; show kitB "bool" _ = _
    cases t <;> decide +kernel
  | int i =>
    have e : isA (.int i) t = isA (.int 0) t := by cases t <;> rfl
    rw [e]; show kitB "int" _ = _
    cases t <;> decide +kernel
  | str z =>
    have e : isA (.str z) t = isA (.str "") t := by cases t <;> rfl
    rw [e]; show kitB "str" _ = _
    cases t <;> decide +kernel
  | list ds =>
    have e : isA (.list ds) t = isA (.list []) t := by cases t <;> rfl
    rw [e]; show kitB "list" _ = _
    cases t <;> decide +kernel
  | tuple ds =>
    have e : isA (.tuple ds) t = isA (.tuple []) t := by cases t <;> rfl
    rw [e]; show kitB "tuple" _ = _
    cases t <;> decide +kernel
/-- a built-in class's name -/
theorem pe_tyn {X : Cx} {x : Str} {T : String} {p : Pos} (g : Gd G k sc N X) (hg : glB sc x = true) (hm : Mg0 G x) (hv : bootBuiltins x = some (.type T)) (hn : x ≠ "__name__") (hd : (x == ("__debug__" : Str)) = false) : PE X (.Name x p) (tC (.ty T)) :=
  pe_bltn (v := .ty T) (gl_of g hg) (by rw [g.hmg]; exact hm) hv rfl hn hd
def dIsi (ts : List Ty) (f : Ev → Mn D) (ev : Ev) : Mn D := bnd (f ev) fun d => pur (.bool (ts.any (isA d)))
theorem e_isi1 {e : Expr} {f : Ev → Mn D} {x : Str} {p1 p pos : Pos} (t : Ty) (ha : SE G k sc N e f) (hv : bootBuiltins x = some (.type t.nm)) (hm : Mg0 G "isinstance") (hmx : Mg0 G x) (hg : glB sc "isinstance" = true := by rfl) (hgx : glB sc x = true := by rfl) (hn : x ≠ "__name__" := by decide) (hd : (x == ("__debug__" : Str)) = false := by decide)
    (he : ∀ env, starEach [e, .Name x p1] env = (false, eval e env) :: starEach [.Name x p1] env := by intro _; rfl) :
    SE G k sc N (.Call (.Name "isinstance" p) [e, .Name x p1] [] pos) (dIsi [t] f) := fun X W g tk => by
  refine pe_imp (pe_callB call_isY (gl_of g hg) (by rw [g.hmg]; exact hm) PyProof.Rows.boot_isinstance (pa_cons (ha X W g tk) (pa_cons (pe_tyn g hgx hmx hv hn hd) pa_nil) (he _)) (by decide) (by decide) (he _) rfl) fun σ H Q h => ?_
  obtain ⟨M, r, ev, rs, R, o, rs', e, w⟩ := h
  refine tE_bnd R e w fun d rs1 H1 v R1 s1 d1 e1 w1 => ?_
  cases e1
  rw [g.hK]
  refine ⟨v, .ty t.nm, .type (tyS d), .type t.nm, isA d t, rfl, .ty _, tyx_da d1, kit_ty (kit_isA d t), ?_⟩
  have q := w1 H1 (.refl _) R1.row _ (.bl ([t].any (isA d)))
  simpa using q
end
end DL
namespace DL
open PySem PySem.Spec PyProof.Rows L2
variable [Xk]
section
variable {G : Gm} {k : Nat} {sc : Sx} {N : List Str}
variable {K : PySem.W.Frag} {M M' : Addr → Prop} {H H' H1 : Hp} {r : Rw}
mutual
theorem Da.ext (m : ∀ b, M' b → M b ∨ H b = none) : ∀ {v : V} {d : D}, Da K M H v d → Da K M' H v d
  | _, _, .non => .non
  | _, _, .bl b => .bl b
  | _, _, .int i => .int i
  | _, _, .str x => .str x
  | _, _, .lst h n t => .lst h (fun z => (m _ z).elim n fun q => by rw [h] at q; cases q) (DaL.ext m t)
  | _, _, .tup h t => .tup h (DaL.ext m t)
  | _, _, .dct h t n => .dct h t n
  | _, _, .txd h n l t => .txd h (fun z => (m _ z).elim n fun q => by rw [h] at q; cases q) l (DaL.ext m t)
  | _, _, .fzt h n t => .fzt h n (DaL.ext m t)
theorem DaL.ext (m : ∀ b, M' b → M b ∨ H b = none) : ∀ {vs : List V} {ds : List D}, DaL K M H vs ds → DaL K M' H vs ds
  | _, _, .nil => .nil
  | _, _, .cons h t => .cons (Da.ext m h) (DaL.ext m t)
end
mutual
/-- from M at H1 to M' behind it -/
theorem Da.on (ml : Ml M H1) (m : ∀ b, M' b → M b ∨ H1 b = none) (k : Kp M H1 H') : ∀ {v : V} {d : D}, Da K M H1 v d → Da K M' H' v d
  | _, _, .non => .non
  | _, _, .bl b => .bl b
  | _, _, .int i => .int i
  | _, _, .str x => .str x
  | _, _, .lst h n t => .lst (k _ _ n h) (fun z => (m _ z).elim n fun q => by rw [h] at q; cases q) (DaL.on ml m k t)
  | _, _, .tup h t => .tup (sqt_kp h ml k) (DaL.on ml m k t)
  | _, _, .dct h t n => .dct (dct_kp ml k h) (fun p z => ⟨sqt_kp (t p z).1 ml k, (t p z).2⟩) n
  | _, _, .txd h n l t => .txd (k _ _ n h) (fun z => (m _ z).elim n fun q => by rw [h] at q; cases q) l (DaL.on ml m k t)
  | _, _, .fzt h n t => .fzt (frz_kp h ml k) n (DaL.on ml m k t)
theorem DaL.on (ml : Ml M H1) (m : ∀ b, M' b → M b ∨ H1 b = none) (k : Kp M H1 H') : ∀ {vs : List V} {ds : List D}, DaL K M H1 vs ds → DaL K M' H' vs ds
  | _, _, .nil => .nil
  | _, _, .cons h t => .cons (Da.on ml m k h) (DaL.on ml m k t)
end
structure JOk (K : PySem.W.Frag) (M : Addr → Prop) (J : It) (H1 : Hp) (ds : List D) : Prop where
  go : ∀ H', Kp M H1 H' → ∀ (i : Nat) d, ds[i]? = some d → J.go i H'
  yld : ∀ M' H', Kp M H1 H' → (∀ b, M' b → M b ∨ H1 b = none) → ∀ (i : Nat) d x H'', ds[i]? = some d → J.yld i H' x H'' → Same H' H'' ∧ Da K M' H'' x d
  stop : ∀ H', Kp M H1 H' → J.stop ds.length H'
def tI (K : PySem.W.Frag) (mg : Str → Option Value) (W : WX) (f : Ev → Mn (List D)) : TI := fun σ H R =>
  ∃ M r ev rs, RelE K M r σ H ev rs ∧ ∃ o rs', f ev rs = some (o, rs') ∧ Wan K mg M r H rs' (fun cls dd H' => W cls dd σ H') (fun ds H' => Ml M H' → ∀ J, JOk K M J H' ds → R J H') o
def SI (G : Gm) (k : Nat) (sc : Sx) (N : List Str) (tg e : Expr) (f : Ev → Mn (List D)) : Prop := ∀ (X : Cx) (W : WX), Gd G k sc N X → Takes X W → PI X tg e (tI G.K G.mg W f)
theorem pi_imp {X : Cx} {tg e : Expr} {t t' : TI} (h : PI X tg e t) (i : ∀ σ H Q, t' σ H Q → t σ H Q) : PI X tg e t' := ⟨fun pins s σ H Q I q => h.run pins s σ H Q I (i σ H Q q)⟩
theorem jok_list {a : Addr} {xs : List V} {ds : List D} (ml : Ml M H1) (h : H1 a = some (.lst xs)) (n : ¬ M a) (t : DaL K M H1 xs ds) : JOk K M (Itl K a) H1 ds where
  go := fun H' kp i d e => by
    obtain ⟨v, h1, h2⟩ := t.get e
    exact ⟨xs, v, .of (kp _ _ n h), h1⟩
  yld := fun M' H' kp m i d x H'' e y => by
    obtain ⟨rfl, y⟩ := y
    obtain ⟨v, h1, h2⟩ := t.get e
    have q := y xs (.of (kp _ _ n h))
    rw [h1] at q
    cases q
    exact ⟨.refl _, h2.on ml m kp⟩
  stop := fun H' kp => ⟨xs, .of (kp _ _ n h), by rw [t.length]; exact Nat.le_refl _⟩
theorem jok_tup {a : Addr} {xs : List V} {ds : List D} (ml : Ml M H1) (h : SqT K H1 a xs) (t : DaL K M H1 xs ds) : JOk K M (Itt K a) H1 ds where
  go := fun H' kp i d e => by
    obtain ⟨v, h1, h2⟩ := t.get e
    exact ⟨xs, v, sqt_kp h ml kp, h1⟩
  yld := fun M' H' kp m i d x H'' e y => by
    obtain ⟨rfl, y⟩ := y
    obtain ⟨v, h1, h2⟩ := t.get e
    have q := y xs (sqt_kp h ml kp)
    rw [h1] at q
    cases q
    exact ⟨.refl _, h2.on ml m kp⟩
  stop := fun H' kp => ⟨xs, sqt_kp h ml kp, by rw [t.length]; exact Nat.le_refl _⟩
/-- a list or a tuple, as it comes -/
def iSeq (K : PySem.W.Frag) (te : TE) : TI := fun σ H R => te σ H fun x H1 => ∃ a, x = .ref a ∧ ((∃ xs, SqL K H1 a xs) ∧ R (Itl K a) H1 ∨ (∃ xs, SqT K H1 a xs) ∧ R (Itt K a) H1)
theorem pi_seq {X : Cx} {tg l : Expr} {te : TE} (hl : PE X l te) : PI X tg l (iSeq X.K te) := by
  refine ⟨fun pins s σ H R I h => thn (hl.run pins s σ H _ I h) fun v s1 hh => ?_⟩
  obtain ⟨x, H1, I1, r1, a, e, q⟩ := hh
  subst e; cases r1
  have fin : ∀ (J : It) (tn : Nat → Heap → Prop) (o : Obj), (∀ it, Turn X.prog X.w X.K tg J [it] it tn) → R J H1 → tn 0 (s1.heap.push o) → PIE X pins σ tg R (.ref s1.heap.objs.size) { s1 with heap := s1.heap.push o } := fun J tn o T qR st => by
    refine ⟨s1.heap.objs.size, [s1.heap.objs.size], tn, J, H1, rfl, I1.kept (t' := s1.toks) (fun b u e => Heap.get?_push_of_some _ e), T _, st, fun b hb => ?_, qR⟩
    rw [List.mem_singleton.mp hb]
    exact I1.fpOk (Nat.le_refl _) (I1.hok.fresh (Nat.le_refl _))
  rcases q with ⟨⟨xs, hq⟩, q⟩ | ⟨⟨xs, hq⟩, q⟩
  · obtain ⟨its, rv, p, hz⟩ := I1.list hq
    refine wpAny_pyIter_list p.isList ?_
    obtain ⟨it, hit⟩ : ∃ it, it = s1.heap.objs.size := ⟨_, rfl⟩
    refine ⟨s1.heap.objs.size, [s1.heap.objs.size], _, _, H1, rfl, I1.kept (t' := s1.toks) (fun b u e => Heap.get?_push_of_some _ e), turn_list a _, ⟨_, Heap.get?_push_size _ rfl, rfl, rfl⟩, fun b hb => ?_, q⟩
    rw [List.mem_singleton.mp hb]
    exact I1.fpOk (Nat.le_refl _) (I1.hok.fresh (Nat.le_refl _))
  · obtain ⟨its, rv, p, hz⟩ := I1.tuple hq
    refine wpAny_pyIter_tuple (show s1.heap.IsTuple a its.toArray from p) ?_
    refine ⟨s1.heap.objs.size, [s1.heap.objs.size], _, _, H1, rfl, I1.kept (t' := s1.toks) (fun b u e => Heap.get?_push_of_some _ e), turn_tuple a _, ⟨_, Heap.get?_push_size _ rfl, rfl, rfl⟩, fun b hb => ?_, q⟩
    rw [List.mem_singleton.mp hb]
    exact I1.fpOk (Nat.le_refl _) (I1.hok.fresh (Nat.le_refl _))
def itmD : D → Option (List D)
  | .list ds => some ds
  | .tuple ds => some ds
  | _ => none
def dItm (f : Ev → Mn D) (ev : Ev) : Mn (List D) := bnd (f ev) fun x => lft (itmD x)
theorem i_seq {tg e : Expr} {f : Ev → Mn D} (h : SE G k sc N e f) : SI G k sc N tg e (dItm f) := fun X W g tk => by
  refine pi_imp (pi_seq (h X W g tk)) fun σ H Q h => ?_
  obtain ⟨M, r, ev, rs, R, o, rs', e, w⟩ := h
  refine tE_bnd R e w fun x rs1 H1 v R1 s1 d1 e1 w1 => ?_
  obtain ⟨ds, e3, rfl, rfl⟩ := lft_some e1
  rw [g.hK]
  cases d1 with
  | lst h n t => cases e3; exact ⟨_, rfl, .inl ⟨⟨_, .of h⟩, w1 H1 (.refl _) R1.row R1.ml _ (jok_list R1.ml h n t)⟩⟩
  | tup h t => cases e3; exact ⟨_, rfl, .inr ⟨⟨_, h⟩, w1 H1 (.refl _) R1.row R1.ml _ (jok_tup R1.ml h t)⟩⟩
  | _ => cases e3
/-- range(n), range(a, b) -/
def rngD (a b : Int) : List D := (List.range (b - a).toNat).map fun i => .int (a + (i : Nat))
theorem rng_get {a b : Int} {i : Nat} {d : D} (h : (rngD a b)[i]? = some d) : i < (b - a).toNat ∧ d = .int (a + (i : Nat)) := by
  unfold rngD at h
  rw [List.getElem?_map] at h
  cases q : (List.range (b - a).toNat)[i]? with
  | none => rw [q] at h; cases h
  | some j =>
    rw [q] at h; cases h
    obtain ⟨h1, h2⟩ := List.getElem?_eq_some_iff.mp q
    rw [List.getElem_range] at h2
    subst h2
    exact ⟨by simpa using h1, rfl⟩
theorem jok_rng {a b : Int} : JOk K M (Itr a (b - a).toNat) H1 (rngD a b) where
  go := fun H' kp i d e => (rng_get e).1
  yld := fun M' H' kp m i d x H'' e y => by
    obtain ⟨rfl, rfl⟩ := y
    rw [(rng_get e).2]
    exact ⟨.refl _, .int _⟩
  stop := fun H' kp => by
    show (b - a).toNat ≤ (rngD a b).length
    unfold rngD
    rw [List.length_map, List.length_range]
    exact Nat.le_refl _
def rng1 : List D → Option (List D)
  | [.int j] => if -(2 ^ 62) ≤ j ∧ j < 2 ^ 62 then some (rngD 0 j) else none
  | _ => none
def dRng (op : List D → Option (List D)) (f : Ev → Mn (List Slot)) (ev : Ev) : Mn (List D) := bnd (f ev) fun ss => lft ((dats ss).bind op)
theorem i_range1 {tg a : Expr} {f : Ev → Mn (List Slot)} {p pos : Pos} (h : SA G k sc N [a] f) (hm : Mg0 G "range") (hg : glB sc "range" = true := by rfl) (hs : ∀ env, starEach [a] env = [(false, eval a env)] := by intro _; rfl) :
    SI G k sc N tg (.Call (.Name "range" p) [a] [] pos) (dRng rng1 f) := fun X W g tk => by
  refine pi_imp (pi_range1 (gl_of g hg) (by rw [g.hmg]; exact hm) (h X W g tk) (hs _)) fun σ H Q h => ?_
  obtain ⟨M, r, ev, rs, R, o, rs', e, w⟩ := h
  refine tAr_bnd R e w fun ss rs1 H1 vs R1 s1 d1 e1 w1 => ?_
  obtain ⟨ds, e3, rfl, rfl⟩ := lft_some e1
  cases q : dats ss with
  | none => rw [q] at e3; cases e3
  | some as =>
    rw [q] at e3
    replace e3 : rng1 as = some ds := e3
    unfold rng1 at e3
    split at e3
    · rename_i j
      split at e3
      · rename_i hj
        cases e3
        obtain ⟨v, rfl, h1⟩ := one_da (d1.dats q)
        cases h1
        have z := w1 H1 (.refl _) R1.row R1.ml (Itr 0 (j - 0).toNat) jok_rng
        rw [Int.sub_zero] at z
        exact ⟨j, rfl, hj.1, hj.2, z⟩
      · cases e3
    · cases e3
/-- zip(a, b) of two tuples or two lists; the target is a written tuple -/
def zipD : List D → Option (List D)
  | [.tuple xs, .tuple ys] => some ((xs.zip ys).map fun p => .tuple [p.1, p.2])
  | [.list xs, .list ys] => some ((xs.zip ys).map fun p => .tuple [p.1, p.2])
  | _ => none
theorem zip_get {xs ys : List D} {i : Nat} {d : D} (h : ((xs.zip ys).map fun p => PyData.tuple [p.1, p.2])[i]? = some d) : ∃ x y, xs[i]? = some x ∧ ys[i]? = some y ∧ d = .tuple [x, y] := by
  rw [List.getElem?_map] at h
  cases q : (xs.zip ys)[i]? with
  | none => rw [q] at h; cases h
  | some p =>
    rw [q] at h; cases h
    obtain ⟨h1, h2⟩ := List.getElem?_zip_eq_some.mp q
    exact ⟨p.1, p.2, h1, h2, rfl⟩
theorem zip_len {xs ys : List D} {vs ws : List V} (h1 : vs.length = xs.length) (h2 : ws.length = ys.length) : vs.length ≤ ((xs.zip ys).map fun p => PyData.tuple [p.1, p.2]).length ∨ ws.length ≤ ((xs.zip ys).map fun p => PyData.tuple [p.1, p.2]).length := by
  rw [List.length_map, List.length_zip]
  omega
theorem new_pair {H' H'' : Hp} {T : Addr} {x y : V} {dx dy : D} (n : H' T = none) (e : H'' = upd H' T (.tup [x, y])) (hx : Da K M' H' x dx) (hy : Da K M' H' y dy) : Same H' H'' ∧ Da K M' H'' (.ref T) (.tuple [dx, dy]) := by
  subst e
  have s := same_upd (o := .tup [x, y]) n
  exact ⟨s, .tup (.inl (.inl upd_same)) (.cons (hx.same s) (.cons (hy.same s) .nil))⟩
theorem DaL.get' {vs : List V} {ds : List D} {i : Nat} {v : V} {d : D} (h : DaL K M H vs ds) (e1 : vs[i]? = some v) (e2 : ds[i]? = some d) : Da K M H v d := by
  obtain ⟨u, h1, h2⟩ := h.get e2
  rw [e1] at h1; cases h1
  exact h2
theorem jok_zipT {a b : Addr} {vs ws : List V} {xs ys : List D} (ml : Ml M H1) (h : SqT K H1 a vs) (h' : SqT K H1 b ws) (t : DaL K M H1 vs xs) (t' : DaL K M H1 ws ys) :
    JOk K M (RZ.ItzT K a b) H1 ((xs.zip ys).map fun p => .tuple [p.1, p.2]) where
  go := fun H' kp i d e => by
    obtain ⟨x, y, e1, e2, rfl⟩ := zip_get e
    obtain ⟨v, h1, _⟩ := t.get e1
    obtain ⟨u, h2, _⟩ := t'.get e2
    exact ⟨vs, ws, v, u, sqt_kp h ml kp, sqt_kp h' ml kp, h1, h2⟩
  yld := fun M' H' kp m i d x H'' e y => by
    obtain ⟨dx, dy, e1, e2, rfl⟩ := zip_get e
    obtain ⟨T, v, u, rfl, n, e3, q1, q2⟩ := y
    exact new_pair n e3 ((t.get' (q1 _ (sqt_kp h ml kp)) e1).on ml m kp) ((t'.get' (q2 _ (sqt_kp h' ml kp)) e2).on ml m kp)
  stop := fun H' kp => ⟨vs, ws, sqt_kp h ml kp, sqt_kp h' ml kp, zip_len t.length t'.length⟩
theorem jok_zipL {a b : Addr} {vs ws : List V} {xs ys : List D} (ml : Ml M H1) (h : H1 a = some (.lst vs)) (n : ¬ M a) (h' : H1 b = some (.lst ws)) (n' : ¬ M b) (t : DaL K M H1 vs xs) (t' : DaL K M H1 ws ys) :
    JOk K M (Itz K a b) H1 ((xs.zip ys).map fun p => .tuple [p.1, p.2]) where
  go := fun H' kp i d e => by
    obtain ⟨x, y, e1, e2, rfl⟩ := zip_get e
    obtain ⟨v, h1, _⟩ := t.get e1
    obtain ⟨u, h2, _⟩ := t'.get e2
    exact ⟨vs, ws, v, u, .of (kp _ _ n h), .of (kp _ _ n' h'), h1, h2⟩
  yld := fun M' H' kp m i d x H'' e y => by
    obtain ⟨dx, dy, e1, e2, rfl⟩ := zip_get e
    obtain ⟨T, v, u, rfl, nn, e3, q1, q2⟩ := y
    exact new_pair nn e3 ((t.get' (q1 _ (.of (kp _ _ n h))) e1).on ml m kp) ((t'.get' (q2 _ (.of (kp _ _ n' h'))) e2).on ml m kp)
  stop := fun H' kp => ⟨vs, ws, .of (kp _ _ n h), .of (kp _ _ n' h'), zip_len t.length t'.length⟩
theorem i_zip {a b : Expr} {f : Ev → Mn (List Slot)} {es : List Expr} {j : Nat} {tp p pos : Pos} (h : SA G k sc N [a, b] f) (hm : Mg0 G "zip") (hg : glB sc "zip" = true := by rfl) (hs : ∀ env, starEach [a, b] env = (false, eval a env) :: starEach [b] env := by intro _; rfl) (hs2 : ∀ env, (backTo pos (starEach [b] env)).any (·.1) = false := by intro _; rfl) :
    SI G k sc N (.Tuple es j tp) (.Call (.Name "zip" p) [a, b] [] pos) (dRng zipD f) := fun X W g tk => by
  refine pi_imp (RZ.pi_zipA (gl_of g hg) (by rw [g.hmg]; exact hm) (h X W g tk) (hs _) (hs2 _)) fun σ H Q h => ?_
  obtain ⟨M, r, ev, rs, R, o, rs', e, w⟩ := h
  refine tAr_bnd R e w fun ss rs1 H1 vs R1 s1 d1 e1 w1 => ?_
  obtain ⟨ds, e3, rfl, rfl⟩ := lft_some e1
  cases q : dats ss with
  | none => rw [q] at e3; cases e3
  | some as =>
    rw [q] at e3
    replace e3 : zipD as = some ds := e3
    unfold zipD at e3
    rw [g.hK]
    split at e3
    · cases e3
      obtain ⟨v, v', rfl, h1, h2⟩ := two_da (d1.dats q)
      cases h1 with
      | tup q1 t1 =>
        cases h2 with
        | tup q2 t2 => exact ⟨_, _, _, _, rfl, .inr ⟨q1, q2, w1 H1 (.refl _) R1.row R1.ml _ (jok_zipT R1.ml q1 q2 t1 t2)⟩⟩
    · cases e3
      obtain ⟨v, v', rfl, h1, h2⟩ := two_da (d1.dats q)
      cases h1 with
      | lst q1 n1 t1 =>
        cases h2 with
        | lst q2 n2 t2 => exact ⟨_, _, _, _, rfl, .inl ⟨.of q1, .of q2, w1 H1 (.refl _) R1.row R1.ml _ (jok_zipL R1.ml q1 n1 q2 n2 t1 t2)⟩⟩
    · cases e3
/-- enumerate(xs) of a list -/
def enumD : List D → Option (List D)
  | [.list xs] => some (((List.range xs.length).zip xs).map fun p => .tuple [.int (p.1 : Nat), p.2])
  | _ => none
theorem enum_get {xs : List D} {i : Nat} {d : D} (h : (((List.range xs.length).zip xs).map fun p => PyData.tuple [.int (p.1 : Nat), p.2])[i]? = some d) : ∃ x, xs[i]? = some x ∧ d = .tuple [.int (i : Nat), x] := by
  rw [List.getElem?_map] at h
  cases q : ((List.range xs.length).zip xs)[i]? with
  | none => rw [q] at h; cases h
  | some p =>
    rw [q] at h; cases h
    obtain ⟨h1, h2⟩ := List.getElem?_zip_eq_some.mp q
    obtain ⟨h3, h4⟩ := List.getElem?_eq_some_iff.mp h1
    rw [List.getElem_range] at h4
    exact ⟨p.2, h2, by show PyData.tuple [.int (p.1 : Nat), p.2] = _; rw [← h4]⟩
theorem jok_enum {a : Addr} {vs : List V} {xs : List D} (ml : Ml M H1) (h : H1 a = some (.lst vs)) (n : ¬ M a) (t : DaL K M H1 vs xs) :
    JOk K M (Ite K a) H1 (((List.range xs.length).zip xs).map fun p => .tuple [.int (p.1 : Nat), p.2]) where
  go := fun H' kp i d e => by
    obtain ⟨x, e1, rfl⟩ := enum_get e
    obtain ⟨v, h1, _⟩ := t.get e1
    exact ⟨vs, v, .of (kp _ _ n h), h1⟩
  yld := fun M' H' kp m i d x H'' e y => by
    obtain ⟨dx, e1, rfl⟩ := enum_get e
    obtain ⟨T, v, rfl, nn, e3, q1⟩ := y
    exact new_pair nn e3 (.int _) ((t.get' (q1 _ (.of (kp _ _ n h))) e1).on ml m kp)
  stop := fun H' kp => ⟨vs, .of (kp _ _ n h), by rw [t.length, List.length_map, List.length_zip, List.length_range]; omega⟩
theorem i_enum {a : Expr} {f : Ev → Mn (List Slot)} {es : List Expr} {j : Nat} {tp p pos : Pos} (h : SA G k sc N [a] f) (hm : Mg0 G "enumerate") (hg : glB sc "enumerate" = true := by rfl) (hs : ∀ env, starEach [a] env = [(false, eval a env)] := by intro _; rfl) :
    SI G k sc N (.Tuple es j tp) (.Call (.Name "enumerate" p) [a] [] pos) (dRng enumD f) := fun X W g tk => by
  refine pi_imp (pi_enum (gl_of g hg) (by rw [g.hmg]; exact hm) (h X W g tk) (hs _)) fun σ H Q h => ?_
  obtain ⟨M, r, ev, rs, R, o, rs', e, w⟩ := h
  refine tAr_bnd R e w fun ss rs1 H1 vs R1 s1 d1 e1 w1 => ?_
  obtain ⟨ds, e3, rfl, rfl⟩ := lft_some e1
  cases q : dats ss with
  | none => rw [q] at e3; cases e3
  | some as =>
    rw [q] at e3
    replace e3 : enumD as = some ds := e3
    unfold enumD at e3
    rw [g.hK]
    split at e3
    · cases e3
      obtain ⟨v, rfl, h1⟩ := one_da (d1.dats q)
      cases h1 with
      | lst q1 n1 t1 => exact ⟨_, _, rfl, .of q1, w1 H1 (.refl _) R1.row R1.ml _ (jok_enum R1.ml q1 n1 t1)⟩
    · cases e3
inductive Tgt where
  | name (i : Nat)
  | tup (is : List Nat)
def Tgt.ix : Tgt → List Nat
  | .name i => [i]
  | .tup is => is
def Tgt.of : Tgt → D → Option (List D)
  | .name _, d => some [d]
  | .tup is, .tuple ds => if ds.length = is.length then some ds else none
  | .tup _, _ => none
def setV (σ : L2.St) : List Nat → List V → L2.St
  | i :: is, v :: vs => setV (σ.set i (some v)) is vs
  | _, _ => σ
def setE (ev : Ev) : List Nat → List D → Ev
  | i :: is, d :: ds => setE (ev.set i (.dat d)) is ds
  | _, _ => ev
def PGt (G : Gm) (k : Nat) (sc : Sx) (N : List Str) (tg : Expr) (t : Tgt) : Prop :=
  ∃ u : TG, (∀ (X : Cx), Gd G k sc N X → PG X tg u) ∧ ∀ M (σ : L2.St) H v d ds Q, Da G.K M H v d → t.of d = some ds → (∀ vs, DaL G.K M H vs ds → Q (setV σ t.ix vs) H) → u v σ H Q
def locB (sc : Sx) (x : Str) : Bool := match sc.sc.names.lookup x with
  | some .local => true
  | some .cell => sc.fc x
  | _ => false
theorem loc_of {X : Cx} {x : Str} (g : Gd G k sc N X) (h : locB sc x = true) : Loc X.env.scope x ∧ (X.fn x = true ∨ X.env.scope.names.lookup x = some .local) := by
  unfold locB at h
  rw [g.hsc]
  split at h
  · rename_i e; exact ⟨.inl e, .inr e⟩
  · rename_i e; exact ⟨.inr e, .inl (g.hfc x h)⟩
  · cases h
theorem pg_at {X : Cx} {i : Nat} {x : Str} {p : Pos} (g : Gd G k sc N X) (hi : N[i]? = some x) (hl : locB sc x = true) : PG X (.Name x p) (gName i) :=
  pg_name (by rw [g.hN]; exact g.nd) (by rw [g.hN]; exact hi) (loc_of g hl).1 (loc_of g hl).2
theorem g_name (i : Nat) {x : Str} {p : Pos} (hi : N[i]? = some x := by rfl) (hl : locB sc x = true := by rfl) : PGt G k sc N (.Name x p) (.name i) :=
  ⟨_, fun X g => pg_at g hi hl, fun M σ H v d ds Q hd e q => by cases e; exact q [v] (.cons hd .nil)⟩
/-- the names of a written tuple -/
inductive GNs (sc : Sx) (N : List Str) : List Expr → List Nat → Prop where
  | nil : GNs sc N [] []
  | cons {i : Nat} {x : Str} {p : Pos} {es : List Expr} {is : List Nat} (hi : N[i]? = some x) (hl : locB sc x = true) (t : GNs sc N es is) : GNs sc N (.Name x p :: es) (i :: is)
theorem gns_go : ∀ {es : List Expr} {is : List Nat}, GNs sc N es is → ∃ u : TGs, (∀ (X : Cx), Gd G k sc N X → PGs X es u ∧ (assignEach es X.env).length = is.length ∧ (assignEach es X.env).findIdx? (·.1) = none) ∧ ∀ (σ : L2.St) H vs Q, vs.length = is.length → Q (setV σ is vs) H → u vs σ H Q
  | _, _, .nil => ⟨_, fun X g => ⟨pgs_nil, rfl, rfl⟩, fun σ H vs Q e q => by
    cases vs with
    | nil => exact ⟨rfl, q⟩
    | cons v vs => cases e⟩
  | _, _, .cons (i := i) (x := x) (p := p) (es := es) (is := is) hi hl t => by
    obtain ⟨u, h1, h4⟩ := gns_go t
    refine ⟨gCons (gName i) u, fun X g => ?_, fun σ H vs Q e q => ?_⟩
    · obtain ⟨h1, h2, h3⟩ := h1 X g
      refine ⟨pgs_cons (pg_at g hi hl) h1 (by rfl), ?_, ?_⟩
      · show (assignEach es X.env).length + 1 = is.length + 1
        rw [h2]
      · show (List.findIdx? (·.1) ((false, assign (.Name x p) X.env) :: assignEach es X.env)) = none
        rw [List.findIdx?_cons]
        simp [h3]
    · cases vs with
      | nil => cases e
      | cons v vs => exact ⟨v, vs, rfl, h4 _ H vs Q (by simpa using e) q⟩
theorem g_tup (is : List Nat) {es : List Expr} {j : Nat} {p : Pos} (h : GNs sc N es is) : PGt G k sc N (.Tuple es j p) (.tup is) := by
  obtain ⟨u, h1, h4⟩ := gns_go (G := G) (k := k) h
  refine ⟨gTup G.K is.length u, fun X g => ?_, fun M σ H v d ds Q hd e q => ?_⟩
  · obtain ⟨h1, h2, h3⟩ := h1 X g
    rw [← g.hK]
    exact pg_tup g.calm h1 h2 h3
  · cases hd with
    | tup a t =>
      rename_i ad xs es'
      replace e : (if es'.length = is.length then some es' else none) = some ds := e
      split at e
      · rename_i hl
        cases e
        exact ⟨_, _, rfl, a, by rw [t.length]; exact hl, h4 σ H _ Q (by rw [t.length]; exact hl) (q _ t)⟩
      · cases e
    | _ => cases e
end
end DL
namespace DL
open PySem PySem.Spec PyProof.Rows L2
variable [Xk]
section
variable {G : Gm} {k : Nat} {sc : Sx} {N : List Str}
variable {K : PySem.W.Frag} {mg : Str → Option Value} {M M' : Addr → Prop} {H H' H1 : Hp} {r : Rw} {σ : L2.St} {ev : Ev} {rs rs' : RS} {W : WX}
theorem RelE.set1 {i : Nat} {v : V} {d : D} (R : RelE K M r σ H ev rs) (h : Da K M H v d) : RelE K M r (σ.set i (some v)) H (ev.set i (.dat d)) rs := by
  refine ⟨R.mr, R.ml, R.row, fun j s e => ?_, by rw [List.length_set, List.length_set]; exact R.len⟩
  by_cases hj : i = j
  · subst hj
    have hl : i < ev.length := by
      have := (List.getElem?_eq_some_iff.mp e).1
      rwa [List.length_set] at this
    rw [List.getElem?_set_self hl] at e
    cases e
    exact ⟨v, List.getElem?_set_self (Nat.lt_of_lt_of_le hl R.len), h⟩
  · rw [List.getElem?_set_ne hj] at e
    have q := R.slots j s e
    cases s with
    | hid => trivial
    | own _ => trivial
    | dat d' => obtain ⟨u, e1, e2⟩ := q; exact ⟨u, by rw [List.getElem?_set_ne hj]; exact e1, e2⟩
    | row => show (σ.set i (some v))[j]? = _; rw [List.getElem?_set_ne hj]; exact q
    | obj n => show (σ.set i (some v))[j]? = _; rw [List.getElem?_set_ne hj]; exact q
    | fns l => obtain ⟨u, e1, e2⟩ := q; exact ⟨u, by rw [List.getElem?_set_ne hj]; exact e1, e2⟩
theorem RelE.setL : ∀ {is : List Nat} {vs : List V} {ds : List D} {σ : L2.St} {ev : Ev}, RelE K M r σ H ev rs → DaL K M H vs ds → RelE K M r (setV σ is vs) H (setE ev is ds) rs
  | [], _, _, _, _, R, _ => R
  | _ :: _, _, _, _, _, R, .nil => R
  | i :: is, _, _, _, _, R, .cons h t => RelE.setL (is := is) (R.set1 h) t
def wipeE (ev : Ev) : List Nat → Ev
  | [] => ev
  | v :: vs => (wipeE ev vs).set v .hid
theorem RelE.hid1 {i : Nat} {o : Option V} (R : RelE K M r σ H ev rs) : RelE K M r (σ.set i o) H (ev.set i .hid) rs := by
  refine ⟨R.mr, R.ml, R.row, fun j s e => ?_, by rw [List.length_set, List.length_set]; exact R.len⟩
  by_cases hj : i = j
  · subst hj
    have hl : i < ev.length := by
      have := (List.getElem?_eq_some_iff.mp e).1
      rwa [List.length_set] at this
    rw [List.getElem?_set_self hl] at e
    cases e
    trivial
  · rw [List.getElem?_set_ne hj] at e
    have q := R.slots j s e
    cases s with
    | hid => trivial
    | own _ => trivial
    | dat d' => obtain ⟨u, e1, e2⟩ := q; exact ⟨u, by rw [List.getElem?_set_ne hj]; exact e1, e2⟩
    | row => show (σ.set i o)[j]? = _; rw [List.getElem?_set_ne hj]; exact q
    | obj n => show (σ.set i o)[j]? = _; rw [List.getElem?_set_ne hj]; exact q
    | fns l => obtain ⟨u, e1, e2⟩ := q; exact ⟨u, by rw [List.getElem?_set_ne hj]; exact e1, e2⟩
theorem RelE.wiped (R : RelE K M r σ H ev rs) : ∀ vs : List Nat, RelE K M r (wipe σ vs) H (wipeE ev vs) rs
  | [] => R
  | v :: vs => (RelE.wiped R vs).hid1
theorem wipe_get {σ : L2.St} {j : Nat} : ∀ {vs : List Nat}, j ∉ vs → (wipe σ vs)[j]? = σ[j]?
  | [], _ => rfl
  | v :: vs, h => by
    simp only [List.mem_cons, not_or] at h
    show ((wipe σ vs).set v none)[j]? = _
    rw [List.getElem?_set_ne (Ne.symm h.1), wipe_get h.2]
theorem wipe_in {σ : L2.St} {j : Nat} : ∀ {vs : List Nat}, j ∈ vs → j < σ.length → (wipe σ vs)[j]? = some none
  | v :: vs, h, hl => by
    show ((wipe σ vs).set v none)[j]? = _
    by_cases e : v = j
    · subst e
      exact List.getElem?_set_self (by rw [wipe_length]; exact hl)
    · rw [List.getElem?_set_ne e]
      refine wipe_in ?_ hl
      rcases List.mem_cons.mp h with q | q
      · exact absurd q.symm e
      · exact q
/-- stores within vs are wiped -/
theorem wipe_set {σ σ' : L2.St} {vs : List Nat} (hl : σ'.length = σ.length) (h : ∀ j, j ∉ vs → σ'[j]? = σ[j]?) : wipe σ' vs = wipe σ vs := by
  apply List.ext_getElem?
  intro j
  by_cases hj : j ∈ vs
  · by_cases hlt : j < σ.length
    · rw [wipe_in hj hlt, wipe_in hj (by rw [hl]; exact hlt)]
    · rw [List.getElem?_eq_none (by rw [wipe_length]; omega), List.getElem?_eq_none (by rw [wipe_length]; omega)]
  · rw [wipe_get hj, wipe_get hj, h j hj]
theorem setV_length : ∀ {is : List Nat} {vs : List V} {σ : L2.St}, (setV σ is vs).length = σ.length
  | [], _, _ => rfl
  | _ :: _, [], _ => rfl
  | i :: is, v :: vs, σ => by
    show (setV (σ.set i (some v)) is vs).length = _
    rw [setV_length, List.length_set]
theorem setV_out {j : Nat} : ∀ {is : List Nat} {vs : List V} {σ : L2.St}, j ∉ is → (setV σ is vs)[j]? = σ[j]?
  | [], _, _, _ => rfl
  | _ :: _, [], _, _ => rfl
  | i :: is, v :: vs, σ, h => by
    simp only [List.mem_cons, not_or] at h
    show (setV (σ.set i (some v)) is vs)[j]? = _
    rw [setV_out h.2, List.getElem?_set_ne (Ne.symm h.1)]
theorem wipe_turn {is own : List Nat} {vs : List V} (h : ∀ i ∈ is, i ∈ own) : wipe (setV (wipe σ own) is vs) own = wipe σ own := by
  refine wipe_set (by rw [setV_length, wipe_length]) fun j hj => ?_
  rw [setV_out fun z => hj (h j z), wipe_get hj]
def nox {α : Type} (m : Mn α) : Mn α := fun rs => match m rs with
  | some (.val a, rs') => some (.val a, rs')
  | _ => none
theorem nox_some {α : Type} {m : Mn α} {rs rs' : RS} {o : Out α} (h : nox m rs = some (o, rs')) : ∃ a, o = .val a ∧ m rs = some (.val a, rs') := by
  unfold nox at h
  split at h
  · rename_i e; cases h; exact ⟨_, rfl, e⟩
  · cases h
theorem bnd_nox {α β : Type} {m : Mn α} {f : α → Mn β} {rs rs' : RS} {o : Out β} (h : bnd (nox m) f rs = some (o, rs')) : ∃ a rs1, m rs = some (.val a, rs1) ∧ f a rs1 = some (o, rs') := by
  rcases bnd_some h with ⟨a, rs1, e1, e2⟩ | ⟨x, i, e1, _⟩
  · obtain ⟨b, eb, e3⟩ := nox_some e1
    cases eb
    exact ⟨a, rs1, e3, e2⟩
  · obtain ⟨b, eb, _⟩ := nox_some e1
    cases eb
def compGo (t : Tgt) (cond : Ev → Mn Bool) (elt : Ev → Mn D) (ev : Ev) : List D → Mn (List D)
  | [] => pur []
  | d :: ds => bnd (lft (t.of d)) fun es => bnd (nox (cond (setE ev t.ix es))) fun c =>
    if c = true then bnd (nox (elt (setE ev t.ix es))) fun x => bnd (compGo t cond elt ev ds) fun xs => pur (x :: xs) else compGo t cond elt ev ds
def dComp (own : List Nat) (src : Ev → Mn (List D)) (t : Tgt) (cond : Ev → Mn Bool) (elt : Ev → Mn D) (ev : Ev) : Mn D :=
  bnd (src ev) fun ds => bnd (compGo t cond elt (wipeE ev own) ds) fun out => lft (if out.length ≤ sizeLine then some (.list out) else none)
theorem compGo_val {t : Tgt} {cond : Ev → Mn Bool} {elt : Ev → Mn D} {ev : Ev} : ∀ {ds : List D} {rs rs' : RS} {o : Out (List D)}, compGo t cond elt ev ds rs = some (o, rs') → ∃ xs, o = .val xs
  | [], _, _, _, h => by cases h; exact ⟨_, rfl⟩
  | d :: ds, rs, rs', o, h => by
    obtain ⟨es, _, h⟩ := bnd_lft h
    obtain ⟨c, rs1, _, h⟩ := bnd_nox h
    split at h
    · obtain ⟨x, rs2, _, h⟩ := bnd_nox h
      rcases bnd_some h with ⟨a, rs3, e1, e2⟩ | ⟨x, i, e1, rfl⟩
      · cases e2; exact ⟨_, rfl⟩
      · obtain ⟨xs, e⟩ := compGo_val e1
        cases e
    · exact compGo_val h
theorem tI_bnd {β : Type} {fa : Ev → Mn (List D)} {kk : List D → Mn β} {o : Out β} {Vb : β → Hp → Prop} {Q1 : It → Hp → Prop} (R : RelE K M r σ H ev rs) (h : bnd (fa ev) kk rs = some (o, rs')) (w : Wan K mg M r H rs' (fun cls dd H' => W cls dd σ H') Vb o)
    (c : ∀ ds rs1 H1 J, RelE K M r σ H1 ev rs1 → Stp r H H1 → JOk K M J H1 ds → kk ds rs1 = some (o, rs') → Wan K mg M r H1 rs' (fun cls dd H' => W cls dd σ H') Vb o → Q1 J H1) : tI K mg W fa σ H Q1 := by
  rcases bnd_some h with ⟨x, rs1, e1, e2⟩ | ⟨x, i, e1, rfl⟩
  · refine ⟨M, r, ev, rs, R, .val x, rs1, e1, fun H1 s1 w1 m1 J j1 => ?_⟩
    exact c x rs1 H1 J (R.stp s1 w1) s1 j1 e2 (w.stp s1)
  · exact ⟨M, r, ev, rs, R, .exc x i, rs', e1, w.exc⟩
def Sx.blk (sc : Sx) (scope : Scope) : Sx := ⟨relS scope sc.sc, fun x => (scope.names.lookup x == some .cell) && !(x == ("" : Str))⟩
theorem Gd.blk {X : Cx} (g : Gd G k sc N X) (s : Shared) (H : Hp) (scope : Scope) (cl : List (Str × Addr)) (C : Addr) (fp : List Addr) : Gd G k (sc.blk scope) N (X.blk s H scope (compEnvC scope cl C X.env) fp) where
  hN := g.hN
  nd := g.nd
  hsc := by
    show relS scope X.env.scope = relS scope sc.sc
    rw [g.hsc]
  hfc := fun x h => (Bool.and_eq_true_iff.mp h).1
  calm := g.calm
  room := g.room
  hP := g.hP
  hw := g.hw
  hK := g.hK
  hmg := g.hmg
  hb := g.hb
  top := fun h => by
    have h2 := (Bool.and_eq_true_iff.mp h).2
    exact absurd h2 (by decide)
  lam := fun h => by
    have h2 := (Bool.and_eq_true_iff.mp h).2
    exact absurd h2 (by decide)
abbrev W0 : WX := fun _ _ _ _ => False
def SP1 (G : Gm) (k : Nat) (sc : Sx) (N : List Str) (ifs : List Expr) (f : Ev → Mn Bool) : Prop := ∀ (X : Cx) (W : WX), Gd G k sc N X → Takes X W → PTs X ifs (tT G.K G.mg W f)
def dYes (_ : Ev) : Mn Bool := pur true
theorem p_nil : SP1 G k sc N [] dYes := fun X W g tk => ⟨fun pins s σ H Q I h => by
  obtain ⟨M, r, ev, rs, R, o, rs', e, w⟩ := h
  cases e
  exact pts_nil.run pins s σ H Q I (w H (.refl H) R.row)⟩
theorem p_one {c : Expr} {f : Ev → Mn Bool} (h : ST G k sc N c f) : SP1 G k sc N [c] f := fun X W g tk => pts_one (h X W g tk)
/-- M and one new list -/
def And1 (M : Addr → Prop) (p : Addr) : Addr → Prop := fun b => M b ∨ b = p
theorem RelE.and1 {p : Addr} {oo : HO} (R : RelE K M r σ H ev rs) (hp : H p = none) (mo : mutO oo := by trivial) : RelE K (And1 M p) r σ (upd H p oo) ev rs := by
  have ne : ∀ b o, H b = some o → b ≠ p := fun b o e => ne_of_none e hp
  have R1 := R.new (o := oo) hp
  have ext : ∀ {v : V} {d : D}, Da K M H v d → Da K (And1 M p) (upd H p oo) v d := fun h => (h.ext fun b m => m.elim .inl fun e => .inr (by rw [e]; exact hp)).same (same_upd hp)
  refine ⟨fun b z => .inl (R.mr b z), fun b m => ?_, ?_, fun i s e => ?_, R.len⟩
  · rcases m with m | rfl
    · exact R.ml.upd hp b m
    · exact ⟨oo, upd_same, mo.x⟩
  · obtain ⟨⟨e1, e1', nk, ax⟩, e2⟩ := R.row
    refine ⟨⟨by rw [upd_ne (ne _ _ e1)]; exact e1, e1', nk, ax_same ax (same_upd hp)⟩, ?_⟩
    rcases e2 with ⟨h | ⟨o, h⟩, n⟩ | h
    · exact .inl ⟨.inl (by rw [upd_ne (ne _ _ h)]; exact h), fun z => z.elim n fun e => ne _ _ h e⟩
    · exact .inl ⟨.inr ⟨o, by rw [upd_ne (ne _ _ h)]; exact h⟩, fun z => z.elim n fun e => ne _ _ h e⟩
    · exact .inr h
  · have q := R.slots i s e
    cases s with
    | hid => trivial
    | own _ => trivial
    | row => exact q
    | obj _ => exact q
    | fns l => obtain ⟨v, e1, e2⟩ := q; exact ⟨v, e1, Xk.fstay _ _ _ _ e2 fun b o _ e => by rw [upd_ne (ne _ _ e)]; exact e⟩
    | dat d => obtain ⟨v, e1, e2⟩ := q; exact ⟨v, e1, ext e2⟩
theorem row_sub {K : PySem.W.Frag} {M M' : Addr → Prop} {H : Hp} {r : Rw} {rs : RS} (h : RowAt K M H r rs) (s : ∀ b, M' b → M b) : RowAt K M' H r rs := by
  obtain ⟨e1, e2⟩ := h
  exact ⟨e1, sqlm_sub e2 s⟩
/-- all that was tracked but the row and one more -/
def Same' (r : Rw) (p : Addr) (H H' : Hp) : Prop := ∀ b o, b ≠ p → ¬ Mt r b → H b = some o → H' b = some o
/-- a comprehension of one clause, as its rule wants it -/
theorem lc_imp {X : Cx} {W : WX} {fi : Ev → Mn (List D)} {t : Tgt} {fc : Ev → Mn Bool} {fe : Ev → Mn D} {own : List (Str × Nat)} {u : TG} (g : Gd G k sc N X) (hu2 : ∀ M (σ : L2.St) H v d ds Q, Da G.K M H v d → t.of d = some ds → (∀ vs, DaL G.K M H vs ds → Q (setV σ t.ix vs) H) → u v σ H Q) (hix : ∀ i ∈ t.ix, i ∈ own.map (·.2)) :
    ∀ σ H Q, tE G.K G.mg W (dComp (own.map (·.2)) fi t fc fe) σ H Q → tLc (tI G.K G.mg W fi) u (tT G.K G.mg W0 fc) (tE G.K G.mg W0 fe) (own.map (·.2)) σ H Q := fun σ H Q h => by
  obtain ⟨M, r, ev, rs, R, o, rs', e, w⟩ := h
  refine tI_bnd R e w fun ds rs1 H1 J R1 s1 jok e1 w1 => ?_
  intro P hP
  -- what the whole makes
  obtain ⟨out, eo⟩ : ∃ out, compGo t fc fe (wipeE ev (own.map (·.2))) ds rs1 = some (.val out, rs') ∧ o = .val (.list out) ∧ out.length ≤ sizeLine := by
    rcases bnd_some e1 with ⟨a, rs2, q1, q2⟩ | ⟨x, i, q1, _⟩
    · obtain ⟨d, q3, rfl, rfl⟩ := lft_some q2
      split at q3
      · rename_i hl; cases q3; exact ⟨a, q1, rfl, hl⟩
      · cases q3
    · obtain ⟨xs, q⟩ := compGo_val q1
      cases q
  obtain ⟨eg, rfl, hlen⟩ := eo
  have M1r : MR (And1 M P) r := fun b z => .inl (R.mr b z)
  refine ⟨fun i m H' => m = ds.length - i ∧ i ≤ ds.length ∧ ∃ acc accD rest rsi, H' P = some (.lst acc) ∧ DaL G.K (And1 M P) H' acc accD ∧ Same' r P H1 H' ∧ RelE G.K (And1 M P) r (wipe σ (own.map (·.2))) H' (wipeE ev (own.map (·.2))) rsi ∧ compGo t fc fe (wipeE ev (own.map (·.2))) (ds.drop i) rsi = some (.val rest, rs') ∧ accD ++ rest = out, ⟨_, rfl, Nat.zero_le _, [], [], out, rs1, upd_same, .nil, fun b o hb hr e => by rw [upd_ne hb]; exact e, (R1.wiped _).and1 hP, by rw [List.drop_zero]; exact eg, rfl⟩, ?_⟩
  rintro i m H2 ⟨rfl, hil, acc, accD, rest, rsi, hD, hacc, hsm, R2, hgo, happ⟩
  have kp : Kp M H1 H2 := fun b o n e => hsm b o (ne_of_none e hP) (fun z => n (R.mr _ z)) e
  by_cases hlt : i < ds.length
  · have hd := List.getElem?_eq_getElem hlt
    refine .inr ⟨jok.go H2 kp i _ hd, fun H' => ds.length - (i + 1) = ds.length - (i + 1) ∧ i + 1 ≤ ds.length ∧ ∃ acc accD rest rsi, H' P = some (.lst acc) ∧ DaL G.K (And1 M P) H' acc accD ∧ Same' r P H1 H' ∧ RelE G.K (And1 M P) r (wipe σ (own.map (·.2))) H' (wipeE ev (own.map (·.2))) rsi ∧ compGo t fc fe (wipeE ev (own.map (·.2))) (ds.drop (i + 1)) rsi = some (.val rest, rs') ∧ accD ++ rest = out, fun H' q => ⟨_, by omega, q⟩, fun x H3 hy => ?_⟩
    obtain ⟨sm3, dx⟩ := jok.yld (And1 M P) H2 kp (fun b z => z.elim .inl fun e => .inr (by rw [e]; exact hP)) i _ x H3 hd hy
    rw [List.drop_eq_getElem_cons hlt] at hgo
    obtain ⟨es, ht1, hgo⟩ := bnd_lft hgo
    obtain ⟨c, rs2, hc1, hgo⟩ := bnd_nox hgo
    have R3 : RelE G.K (And1 M P) r (wipe σ (own.map (·.2))) H3 (wipeE ev (own.map (·.2))) rsi := R2.stp (.of_same sm3) (row_same R2.row sm3)
    refine hu2 _ _ _ _ _ _ _ dx ht1 fun vs hvs => ?_
    refine ⟨wipe_turn hix, ?_⟩
    have R4 := R3.setL (is := t.ix) hvs
    refine ⟨_, _, _, rsi, R4, .val c, rs2, hc1, fun H5 s5 w5 => ?_⟩
    have R5 := R4.stp s5 w5
    have back : ∀ {H' : Hp} {rsx : RS}, Stp r H3 H' → RowAt G.K (And1 M P) H' r rsx → RelE G.K (And1 M P) r (wipe σ (own.map (·.2))) H' (wipeE ev (own.map (·.2))) rsx := fun s w => R3.stp s w
    have same5 : Same' r P H1 H5 := fun b o hb hr e => s5 b o hr (sm3 b o (hsm b o hb hr e))
    cases c with
    | false =>
      rw [if_neg (by decide)] at hgo
      show if false = true then _ else _
      rw [if_neg (by decide)]
      have kp5 : Kp (And1 M P) H2 H5 := ((Kp.of_same sm3).trans (s5.kp M1r))
      have rP : ¬ Mt r P := R1.row.fresh hP
      exact ⟨rfl, hlt, acc, accD, rest, rs2, s5 _ _ rP (sm3 _ _ hD), hacc.kp R2.ml kp5, same5, back s5 w5, hgo, happ⟩
    | true =>
      rw [if_pos rfl] at hgo
      show if true = true then _ else _
      rw [if_pos rfl]
      obtain ⟨y, rs3, hy1, hgo⟩ := bnd_nox hgo
      rcases bnd_some hgo with ⟨rest', rs4, q1, q2⟩ | ⟨_, _, q1, q2⟩
      · cases q2
        refine ⟨_, _, _, rs2, R5, .val y, rs3, hy1, fun H6 s6 w6 v dv => ?_⟩
        have rP : ¬ Mt r P := R1.row.fresh hP
        have s36 : Stp r H3 H6 := s5.trans s6
        have hD6 : H6 P = some (.lst acc) := s36 _ _ rP (sm3 _ _ hD)
        have kp6 : Kp (And1 M P) H2 H6 := ((Kp.of_same sm3).trans (s36.kp M1r))
        have ml6 : Ml (And1 M P) H6 := R5.ml.stp M1r s6 w6
        have acc6 : DaL G.K (And1 M P) H6 acc accD := hacc.kp R2.ml kp6
        have lacc : acc.length < sizeLine := by
          rw [acc6.length]
          have : accD.length + (y :: rest').length = out.length := by rw [← happ, List.length_append]
          simp only [List.length_cons] at this
          omega
        have k7 : Kp (And1 M P) H6 (upd H6 P (.lst (acc ++ [v]))) := fun b o n e => by rw [upd_ne fun z => n (.inr z)]; exact e
        have s7 : ∀ b o, b ≠ P → H6 b = some o → (upd H6 P (.lst (acc ++ [v]))) b = some o := fun b o n e => by rw [upd_ne n]; exact e
        have row7 : RowAt G.K (And1 M P) (upd H6 P (.lst (acc ++ [v]))) r rs3 := row_but w6 rP (fun o e => by rw [hD6] at e; cases e; trivial) s7 k7
        have R7 : RelE G.K (And1 M P) r (wipe σ (own.map (·.2))) (upd H6 P (.lst (acc ++ [v]))) (wipeE ev (own.map (·.2))) rs3 := by
          have R6 := back s36 w6
          refine ⟨R6.mr, fun b m => ?_, row7, fun j s e => (R6.slots j s e).kp R6.ml k7, R6.len⟩
          by_cases hb : b = P
          · exact ⟨.lst _, by rw [hb]; exact upd_same, trivial⟩
          · obtain ⟨xs, e, mu⟩ := R6.ml b m
            exact ⟨xs, s7 _ _ hb e, mu⟩
        refine ⟨acc, hD6, lacc, rfl, hlt, acc ++ [v], accD ++ [y], rest', rs3, upd_same, ?_, fun b o hb hr e => s7 _ _ hb (s36 b o hr (sm3 b o (hsm b o hb hr e))), R7, q1, by rw [List.append_assoc]; exact happ⟩
        exact DaL.kp ml6 k7 (acc6.append (.cons dv .nil))
      · cases q2
  · have ei : i = ds.length := by omega
    subst ei
    rw [List.drop_length] at hgo
    cases hgo
    rw [List.append_nil] at happ
    subst happ
    refine .inl ⟨jok.stop H2 kp, ?_⟩
    have s12 : Stp r H1 H2 := fun b o n e => hsm b o (ne_of_none e hP) n e
    exact w1 H2 s12 (row_sub R2.row fun b m => .inl m) _ (.lst hD (R1.ml.fresh hP) (hacc.sub fun b m => .inl m))
theorem e_lc {elt tg iter : Expr} {ifs : List Expr} {scope : Scope} {pos : Pos} {fi : Ev → Mn (List D)} {t : Tgt} {fc : Ev → Mn Bool} {fe : Ev → Mn D} (own : List (Str × Nat)) (hi : SI G k sc N tg iter fi) (ht : PGt G k (sc.blk scope) N tg t) (hc : SP1 G k (sc.blk scope) N ifs fc) (he : SE G k (sc.blk scope) N elt fe)
    (hb : blkC N sc.sc scope own = true := by decide +kernel) (hix : ∀ i ∈ t.ix, i ∈ own.map (·.2) := by decide) (hs : ∀ env x, foldedSetIterable iter env x = pure x := by intro _ _; rfl) :
    SE G k sc N (.ListComp elt [⟨tg, iter, ifs, 0⟩] scope pos) (dComp (own.map (·.2)) fi t fc fe) := fun X W g tk => by
  have ok : BlkOk X.N X.env.scope scope own := by
    rw [g.hN, g.hsc]
    exact blkOk_by hb
  have nd : X.N.Nodup := by rw [g.hN]; exact g.nd
  obtain ⟨u, hu1, hu2⟩ := ht
  refine pe_imp (pe_lc (own := own) g.calm nd (hi X W g tk) ok (fun s H C cl fp => hu1 _ (g.blk s H scope cl C fp)) (fun s H C cl fp => hc _ W0 (g.blk s H scope cl C fp) L2.takes0) (fun s H C cl fp => he _ W0 (g.blk s H scope cl C fp) L2.takes0) (hs _)) (lc_imp g hu2 hix)
end
end DL
namespace DL
open PySem PySem.Spec PyProof.Rows L2
variable [Xk]
inductive Res where
  | nx (ev : Ev)
  | ret (d : D)
  | bk (ev : Ev)
  | ct (ev : Ev)
  | exc (x : Str) (i : Option Int)
abbrev Ms := RS → Option (Res × RS)
def isOwn (ev : Ev) (i : Nat) : Prop := ∃ ds : Ow, ev[i]? = some (.own ds)
/-- the addresses of the frame's own lists beside M -/
def Av (M : Addr → Prop) (ev : Ev) (oa : Nat → Addr) : Addr → Prop := fun b => M b ∨ ∃ i, isOwn ev i ∧ b = oa i
structure RelS (K : PySem.W.Frag) (M : Addr → Prop) (r : Rw) (Pr : Addr → HO → Prop) (σ : L2.St) (H : Hp) (ev : Ev) (rs : RS) (oa : Nat → Addr) : Prop where
  e : RelE K (Av M ev oa) r σ H ev rs
  mr : MR M r
  prot : ∀ b o, Pr b o → H b = some o
  nr : ∀ b o, Mt r b → ¬ Pr b o
  pm : ∀ b, M b → ¬ Mt r b → ∃ o, Pr b o
  own : ∀ i (ds : Ow), ev[i]? = some (.own ds) → ∃ xs, σ[i]? = some (some (.ref (oa i))) ∧ H (oa i) = some (ds.ho xs) ∧ DaL K (Av M ev oa) H xs ds.ds ∧ (∀ o, ¬ Pr (oa i) o) ∧ ¬ Mt r (oa i)
  inj : ∀ i j, isOwn ev i → isOwn ev j → oa i = oa j → i = j
section
variable {K : PySem.W.Frag} {mg : Str → Option Value} {M : Addr → Prop} {H H' H1 : Hp} {r : Rw} {σ σ' : L2.St} {ev ev' : Ev} {rs rs' : RS} {W : WX} {Pr : Addr → HO → Prop} {oa : Nat → Addr}
/-- own lists, lent: they may be read as data, then nothing may be kept of them -/
def lendS : Slot → Slot
  | .own (.l ds) => .dat (.list ds)
  | .own (.d kvs) => if kvs ≠ [] ∧ (kvs.map (·.1)).Nodup then .dat (.dict (kvs.map skD)) else .hid
  | s => s
def lend (ev : Ev) : Ev := ev.map lendS
theorem lend_get {i : Nat} {s : Slot} (h : (lend ev)[i]? = some s) : ∃ t, ev[i]? = some t ∧ s = lendS t := by
  unfold lend at h
  rw [List.getElem?_map] at h
  cases q : ev[i]? with
  | none => rw [q] at h; cases h
  | some t => rw [q] at h; cases h; exact ⟨t, rfl, rfl⟩
theorem RelS.ownM (R : RelS K M r Pr σ H ev rs oa) {i : Nat} (h : isOwn ev i) : ¬ M (oa i) := fun m => by
  obtain ⟨ds, e⟩ := h
  obtain ⟨xs, _, _, _, np, nr⟩ := R.own i ds e
  obtain ⟨ys, q⟩ := R.pm _ m nr
  exact np _ q
theorem RelS.lent (R : RelS K M r Pr σ H ev rs oa) : RelE K M r σ H (lend ev) rs := by
  refine ⟨R.mr, fun b m => R.e.ml b (.inl m), row_sub R.e.row fun b m => .inl m, fun i s e => ?_, by unfold lend; rw [List.length_map]; exact R.e.len⟩
  obtain ⟨t, e1, rfl⟩ := lend_get e
  have q := R.e.slots i t e1
  cases t with
  | hid => trivial
  | row => exact q
  | obj _ => exact q
  | fns _ => exact q
  | dat d => obtain ⟨v, h1, h2⟩ := q; exact ⟨v, h1, h2.sub fun b m => .inl m⟩
  | own ds =>
    obtain ⟨xs, h1, h2, h3, _, _⟩ := R.own i ds e1
    cases ds with
    | l ds => exact ⟨_, h1, .lst h2 (R.ownM ⟨_, e1⟩) (h3.sub fun b m => .inl m)⟩
    | d kvs =>
      show SlotAt K M r σ H i (if kvs ≠ [] ∧ (kvs.map (·.1)).Nodup then .dat (.dict (kvs.map skD)) else .hid)
      split
      · rename_i c
        exact ⟨_, h1, .txd h2 (R.ownM ⟨_, e1⟩) c (h3.sub fun b m => .inl m)⟩
      · trivial
theorem lend_own (i : Nat) : ¬ isOwn (lend ev) i := fun ⟨ds, h⟩ => by
  obtain ⟨t, _, e⟩ := lend_get h
  cases t with
  | own o =>
    cases o with
    | l ds => cases e
    | d kvs =>
      replace e : DL.Slot.own ds = if kvs ≠ [] ∧ (kvs.map (·.1)).Nodup then .dat (.dict (kvs.map skD)) else .hid := e
      split at e <;> cases e
  | _ => cases e
theorem av_lend {b : Addr} (h : Av M (lend ev) oa b) : M b := h.elim id fun ⟨i, q, _⟩ => absurd q (lend_own i)
/-- own lists, given up: data from now on -/
theorem RelS.freeze (R : RelS K M r Pr σ H ev rs oa) : RelS K M r Pr σ H (lend ev) rs oa := by
  have L := R.lent
  refine ⟨⟨fun b z => .inl (R.mr b z), fun b m => L.ml b (av_lend m), ?_, fun i s e => ?_, L.len⟩, R.mr, R.prot, R.nr, R.pm, fun i ds e => absurd ⟨ds, e⟩ (lend_own i), fun i j h => absurd h (lend_own i)⟩
  · exact row_sub L.row fun b m => av_lend m
  · have q := L.slots i s e
    cases s with
    | hid => trivial
    | row => exact q
    | obj _ => exact q
    | fns _ => exact q
    | own _ => trivial
    | dat d => obtain ⟨v, h1, h2⟩ := q; exact ⟨v, h1, h2.sub fun b m => av_lend m⟩
theorem RelE.sub (R : RelE K M r σ H ev rs) {M' : Addr → Prop} (s : ∀ b, M' b → M b) (m : MR M' r) : RelE K M' r σ H ev rs := by
  refine ⟨m, fun b q => R.ml b (s b q), row_sub R.row s, fun i t e => ?_, R.len⟩
  have q := R.slots i t e
  cases t with
  | hid => trivial
  | own _ => trivial
  | row => exact q
  | obj _ => exact q
  | fns _ => exact q
  | dat d => obtain ⟨v, h1, h2⟩ := q; exact ⟨v, h1, h2.sub s⟩
/-- behind what keeps all but the row -/
theorem RelS.stp (R : RelS K M r Pr σ H ev rs oa) {M' : Addr → Prop} (s : Stp r H H') (w : RowAt K M' H' r rs') : RelS K M r Pr σ H' ev rs' oa := by
  have w2 : RowAt K (Av M ev oa) H' r rs' := ⟨w.1, sqlm_kp R.e.row.2 (s.kp R.e.mr)⟩
  refine ⟨R.e.stp s w2, R.mr, fun b o p => s b o (fun z => R.nr b o z p) (R.prot b o p), R.nr, R.pm, fun i ds e => ?_, R.inj⟩
  obtain ⟨xs, h1, h2, h3, h4, h5⟩ := R.own i ds e
  exact ⟨xs, h1, s _ _ h5 h2, h3.kp R.e.ml (s.kp R.e.mr), h4, h5⟩
def PrK (Pr : Addr → HO → Prop) (H : Hp) : Prop := ∀ b o, Pr b o → H b = some o
def WanS (K : PySem.W.Frag) (mg : Str → Option Value) (M : Addr → Prop) (r : Rw) (Pr : Addr → HO → Prop) (rs' : RS) (W : WX) (D : Ends) : Res → Prop
  | .nx ev => ∀ σ H oa, RelS K M r Pr σ H ev rs' oa → D.nx σ H
  | .bk ev => ∀ σ H oa, RelS K M r Pr σ H ev rs' oa → D.bk σ H
  | .ct ev => ∀ σ H oa, RelS K M r Pr σ H ev rs' oa → D.ct σ H
  | .ret d => ∀ v H, PrK Pr H → RowAt K M H r rs' → Da K M H v d → D.rt v H
  | .exc x i => ∀ cls dd σ H, PrK Pr H → RowAt K M H r rs' → ExA mg x i cls dd H → W cls dd σ H
def tS (K : PySem.W.Frag) (mg : Str → Option Value) (W : WX) (f : Ev → Ms) : TS := fun D σ H =>
  ∃ M r Pr ev rs oa, RelS K M r Pr σ H ev rs oa ∧ ∃ o rs', f ev rs = some (o, rs') ∧ WanS K mg M r Pr rs' W D o
theorem RelS.evE (R : RelS K M r Pr σ H ev rs oa) {M' : Addr → Prop} {ev' : Ev} (R' : RelE K M' r σ H ev' rs) (hM : ∀ b, M b → M' b) {f : Ev → Mn D} {o : Out D} {Q : VK} (e : f ev' rs = some (o, rs'))
    (cv : ∀ d, o = .val d → ∀ v H', RelS K M r Pr σ H' ev rs' oa → Stp r H H' → Da K M' H' v d → Q v H') (cx : ∀ x i, o = .exc x i → ∀ cls dd σ H, PrK Pr H → RowAt K M H r rs' → ExA mg x i cls dd H → W cls dd σ H) : tE K mg W f σ H Q := by
  refine ⟨M', r, ev', rs, R', o, rs', e, ?_⟩
  cases o with
  | val d => exact fun H' s w v dv => cv d rfl v H' (R.stp s w) s dv
  | exc x i => exact fun cls dd H' s w a => cx x i rfl cls dd σ H' (R.stp s w).prot (row_sub w hM) a
theorem RelS.evT (R : RelS K M r Pr σ H ev rs oa) {f : Ev → Mn Bool} {o : Out Bool} {Q : Bool → Hp → Prop} (e : f (lend ev) rs = some (o, rs'))
    (cv : ∀ b, o = .val b → ∀ H', RelS K M r Pr σ H' ev rs' oa → Q b H') (cx : ∀ x i, o = .exc x i → ∀ cls dd σ H, PrK Pr H → RowAt K M H r rs' → ExA mg x i cls dd H → W cls dd σ H) : tT K mg W f σ H Q := by
  refine ⟨M, r, lend ev, rs, R.lent, o, rs', e, ?_⟩
  cases o with
  | val d => exact fun H' s w => cv d rfl H' (R.stp s w)
  | exc x i => exact fun cls dd H' s w a => cx x i rfl cls dd σ H' (R.stp s w).prot w a
theorem isOwn_set {i j : Nat} {s : Slot} (hs : ∀ ds, s ≠ .own ds) (h : isOwn (ev.set i s) j) : isOwn ev j ∧ i ≠ j := by
  obtain ⟨ds, e⟩ := h
  by_cases hj : i = j
  · subst hj
    have hl : i < ev.length := by
      have := (List.getElem?_eq_some_iff.mp e).1
      rwa [List.length_set] at this
    rw [List.getElem?_set_self hl] at e
    exact absurd (Option.some.inj e) (hs ds)
  · rw [List.getElem?_set_ne hj] at e
    exact ⟨⟨ds, e⟩, hj⟩
theorem RelS.set1 (R : RelS K M r Pr σ H ev rs oa) {i : Nat} {v : V} {d : D} (h : Da K (Av M ev oa) H v d) : RelS K M r Pr (σ.set i (some v)) H (ev.set i (.dat d)) rs oa := by
  have nd : ∀ ds, Slot.dat d ≠ .own ds := fun ds e => by cases e
  have sub : ∀ b, Av M (ev.set i (.dat d)) oa b → Av M ev oa b := fun b m => m.elim .inl fun ⟨j, o, e⟩ => .inr ⟨j, (isOwn_set nd o).1, e⟩
  refine ⟨(R.e.set1 h).sub sub (fun b z => .inl (R.mr b z)), R.mr, R.prot, R.nr, R.pm, fun j ds e => ?_, fun j j' o o' => R.inj j j' (isOwn_set nd o).1 (isOwn_set nd o').1⟩
  obtain ⟨_, hj⟩ := isOwn_set nd ⟨ds, e⟩
  rw [List.getElem?_set_ne hj] at e
  obtain ⟨xs, h1, h2, h3, h4⟩ := R.own j ds e
  exact ⟨xs, by rw [List.getElem?_set_ne hj]; exact h1, h2, h3.sub sub, h4⟩
theorem RelS.setL : ∀ {is : List Nat} {vs : List V} {ds : List D} {σ : L2.St} {ev : Ev}, RelS K M r Pr σ H ev rs oa → DaL K (Av M ev oa) H vs ds → RelS K M r Pr (setV σ is vs) H (setE ev is ds) rs oa
  | [], _, _, _, _, R, _ => R
  | _ :: _, _, _, _, _, R, .nil => R
  | i :: is, _, _, σ, ev, R, .cons (d := d) h t => by
    refine RelS.setL (is := is) (R.set1 h) (t.sub fun b m => m.elim .inl fun ⟨j, o, e⟩ => .inr ⟨j, (isOwn_set (fun ds e => by cases e) o).1, e⟩)
theorem RelE.setAny {i : Nat} {o : Option V} {s : Slot} (hs : SlotAt K M r (σ.set i o) H i s) (R : RelE K M r σ H ev rs) : RelE K M r (σ.set i o) H (ev.set i s) rs := by
  refine ⟨R.mr, R.ml, R.row, fun j t e => ?_, by rw [List.length_set, List.length_set]; exact R.len⟩
  by_cases hj : i = j
  · subst hj
    have hl : i < ev.length := by
      have := (List.getElem?_eq_some_iff.mp e).1
      rwa [List.length_set] at this
    rw [List.getElem?_set_self hl] at e
    cases e
    exact hs
  · rw [List.getElem?_set_ne hj] at e
    have q := R.slots j t e
    cases t with
    | hid => trivial
    | own _ => trivial
    | dat d' => obtain ⟨u, e1, e2⟩ := q; exact ⟨u, by rw [List.getElem?_set_ne hj]; exact e1, e2⟩
    | row => show (σ.set i o)[j]? = _; rw [List.getElem?_set_ne hj]; exact q
    | obj n => show (σ.set i o)[j]? = _; rw [List.getElem?_set_ne hj]; exact q
    | fns l => obtain ⟨u, e1, e2⟩ := q; exact ⟨u, by rw [List.getElem?_set_ne hj]; exact e1, e2⟩
/-- a new own list at slot i -/
theorem RelS.newOwn (R : RelS K M r Pr σ H ev rs oa) {i : Nat} {p : Addr} {xs : List V} {ds : Ow} (hp : H p = none) (h : DaL K (Av M ev oa) H xs ds.ds) :
    RelS K M r Pr (σ.set i (some (.ref p))) (upd H p (ds.ho xs)) (ev.set i (.own ds)) rs (fun j => if j = i then p else oa j) := by
  have ne : ∀ {b o}, H b = some o → b ≠ p := fun e => ne_of_none e hp
  have own_ne : ∀ {j}, i ≠ j → isOwn (ev.set i (.own ds)) j → isOwn ev j := fun {j} hj ⟨es, e⟩ => ⟨es, by rw [List.getElem?_set_ne hj] at e; exact e⟩
  have sub : ∀ b, Av M (ev.set i (.own ds)) (fun j => if j = i then p else oa j) b → And1 (Av M ev oa) p b := fun b m => by
    rcases m with m | ⟨j, o, e⟩
    · exact .inl (.inl m)
    · by_cases hj : i = j
      · subst hj
        exact .inr (by simpa using e)
      · replace e : b = if j = i then p else oa j := e
        rw [if_neg (Ne.symm hj)] at e
        exact .inl (.inr ⟨j, own_ne hj o, e⟩)
  have big : RelE K (And1 (Av M ev oa) p) r (σ.set i (some (.ref p))) (upd H p (ds.ho xs)) (ev.set i (.own ds)) rs := (R.e.and1 hp (ds.mut xs)).setAny trivial
  have ext : ∀ {vs : List V} {es : List D}, DaL K (Av M ev oa) H vs es → DaL K (Av M (ev.set i (.own ds)) (fun j => if j = i then p else oa j)) (upd H p (ds.ho xs)) vs es := fun h => ((h.ext (M' := And1 (Av M ev oa) p) fun b m => m.elim .inl fun e => .inr (by rw [e]; exact hp)).same (same_upd hp)).sub sub
  have rp : ¬ Mt r p := R.e.row.fresh hp
  refine ⟨big.sub sub (fun b z => .inl (R.mr b z)), R.mr, fun b o q => same_upd hp b o (R.prot b o q), R.nr, R.pm, fun j es e => ?_, fun j j' o o' e => ?_⟩
  · by_cases hj : i = j
    · subst hj
      have hl : i < ev.length := by
        have := (List.getElem?_eq_some_iff.mp e).1
        rwa [List.length_set] at this
      rw [List.getElem?_set_self hl] at e
      cases e
      rw [if_pos rfl]
      refine ⟨xs, List.getElem?_set_self (Nat.lt_of_lt_of_le hl R.e.len), upd_same, ext h, fun o q => ?_, rp⟩
      have z := R.prot _ _ q
      rw [hp] at z; cases z
    · rw [List.getElem?_set_ne hj] at e
      obtain ⟨ys, h1, h2, h3, h4⟩ := R.own j es e
      rw [if_neg (Ne.symm hj)]
      exact ⟨ys, by rw [List.getElem?_set_ne hj]; exact h1, same_upd hp _ _ h2, ext h3, h4⟩
  · by_cases hj : i = j
    · by_cases hj' : i = j'
      · rw [← hj, ← hj']
      · obtain ⟨es, q⟩ := own_ne hj' o'
        obtain ⟨ys, _, h2, _⟩ := R.own j' es q
        simp only [hj, if_pos, if_neg (Ne.symm hj')] at e
        subst hj
        rw [if_neg (Ne.symm hj')] at e
        exact absurd e.symm (ne h2)
    · by_cases hj' : i = j'
      · obtain ⟨es, q⟩ := own_ne hj o
        obtain ⟨ys, _, h2, _⟩ := R.own j es q
        subst hj'
        simp only [if_pos, if_neg (Ne.symm hj)] at e
        exact absurd e (ne h2)
      · simp only [if_neg (Ne.symm hj), if_neg (Ne.symm hj')] at e
        exact R.inj j j' (own_ne hj o) (own_ne hj' o') e
/-- an own list changes -/
theorem RelS.mut (R : RelS K M r Pr σ H ev rs oa) {i : Nat} {ds es : Ow} {ys : List V} (hi : ev[i]? = some (.own ds)) (h : DaL K (Av M ev oa) H ys es.ds) : RelS K M r Pr σ (upd H (oa i) (es.ho ys)) (ev.set i (.own es)) rs oa := by
  obtain ⟨xs, g1, g2, g3, g4, g5⟩ := R.own i ds hi
  have hl : i < ev.length := (List.getElem?_eq_some_iff.mp hi).1
  have io : isOwn ev i := ⟨ds, hi⟩
  have kp : Kp (Av M ev oa) H (upd H (oa i) (es.ho ys)) := fun b o n e => by rw [upd_ne fun z => n (.inr ⟨i, io, z⟩)]; exact e
  have own_iff : ∀ {j}, isOwn (ev.set i (.own es)) j → isOwn ev j := fun {j} ⟨fs, e⟩ => by
    by_cases hj : i = j
    · rw [← hj]; exact io
    · rw [List.getElem?_set_ne hj] at e; exact ⟨fs, e⟩
  have sub : ∀ b, Av M (ev.set i (.own es)) oa b → Av M ev oa b := fun b m => m.elim .inl fun ⟨j, o, e⟩ => .inr ⟨j, own_iff o, e⟩
  have ml : Ml (Av M ev oa) (upd H (oa i) (es.ho ys)) := fun b m => by
    by_cases hb : b = oa i
    · exact ⟨es.ho ys, by rw [hb]; exact upd_same, (es.mut ys).x⟩
    · obtain ⟨zs, e, mu⟩ := R.e.ml b m
      exact ⟨zs, by rw [upd_ne hb]; exact e, mu⟩
  have big : RelE K (Av M ev oa) r σ (upd H (oa i) (es.ho ys)) (ev.set i (.own es)) rs := by
    refine ⟨R.e.mr, ml, row_but R.e.row g5 (fun o e => by rw [g2] at e; cases e; exact (ds.mut xs).t) (fun b o n e => by rw [upd_ne n]; exact e) kp, fun j t e => ?_, by rw [List.length_set]; exact R.e.len⟩
    by_cases hj : i = j
    · subst hj
      rw [List.getElem?_set_self hl] at e
      cases e
      trivial
    · rw [List.getElem?_set_ne hj] at e
      exact (R.e.slots j t e).kp R.e.ml kp
  refine ⟨big.sub sub (fun b z => .inl (R.mr b z)), R.mr, fun b o q => ?_, R.nr, R.pm, fun j fs e => ?_, fun j j' o o' => R.inj j j' (own_iff o) (own_iff o')⟩
  · rw [upd_ne fun z => g4 o (by rw [← z]; exact q)]
    exact R.prot b o q
  · by_cases hj : i = j
    · subst hj
      rw [List.getElem?_set_self hl] at e
      cases e
      exact ⟨ys, g1, upd_same, (h.kp R.e.ml kp).sub sub, g4, g5⟩
    · rw [List.getElem?_set_ne hj] at e
      obtain ⟨zs, h1, h2, h3, h4⟩ := R.own j fs e
      have ne : oa j ≠ oa i := fun z => hj (R.inj i j io ⟨fs, e⟩ z.symm)
      exact ⟨zs, h1, by rw [upd_ne ne]; exact h2, (h3.kp R.e.ml kp).sub sub, h4⟩
theorem RelS.mutL (R : RelS K M r Pr σ H ev rs oa) {i : Nat} {ds : Ow} {es : List D} {ys : List V} (hi : ev[i]? = some (.own ds)) (h : DaL K (Av M ev oa) H ys es) : RelS K M r Pr σ (upd H (oa i) (.lst ys)) (ev.set i (.own (.l es))) rs oa := R.mut (es := .l es) hi h
end
end DL
namespace DL
open PySem PySem.Spec PyProof.Rows L2
variable [Xk]
section
variable {G : Gm} {k : Nat} {sc : Sx} {N : List Str}
variable {K : PySem.W.Frag} {mg : Str → Option Value} {M : Addr → Prop} {H H' H1 : Hp} {r : Rw} {σ σ' : L2.St} {ev ev' : Ev} {rs rs' : RS} {W : WX} {Pr : Addr → HO → Prop} {oa : Nat → Addr}
def SS (G : Gm) (k : Nat) (sc : Sx) (N : List Str) (st : Stmt) (f : Ev → Ms) : Prop := ∀ (X : Cx) (W : WX), Gd G k sc N X → Takes X W → PassesOwn (model X.prog X.w) X.A X.env X.xe → PS X st (tS G.K G.mg W f)
def SB (G : Gm) (k : Nat) (sc : Sx) (N : List Str) (st : List Stmt) (f : Ev → Ms) : Prop := ∀ (X : Cx) (W : WX), Gd G k sc N X → Takes X W → PassesOwn (model X.prog X.w) X.A X.env X.xe → PSs X st (tS G.K G.mg W f)
def sNil (ev : Ev) : Ms := fun rs => some (.nx ev, rs)
def seqM (f g : Ev → Ms) (ev : Ev) : Ms := fun rs => match f ev rs with
  | some (.nx ev', rs') => g ev' rs'
  | q => q
theorem s_nil : SB G k sc N [] sNil := fun X W g tk po => pss_imp pss_nil fun D σ H h => by
  obtain ⟨M, r, Pr, ev, rs, oa, R, o, rs', e, w⟩ := h
  cases e
  exact w σ H oa R
theorem seqM_some {f g : Ev → Ms} {o : Res} (h : seqM f g ev rs = some (o, rs')) : (∃ ev1 rs1, f ev rs = some (.nx ev1, rs1) ∧ g ev1 rs1 = some (o, rs')) ∨ (f ev rs = some (o, rs') ∧ ∀ e, o ≠ .nx e) := by
  unfold seqM at h
  split at h
  · rename_i ev1 rs1 e; exact .inl ⟨ev1, rs1, e, h⟩
  · rename_i q hq
    refine .inr ⟨h, fun e1 e2 => ?_⟩
    subst e2
    exact hq _ _ h
theorem s_cons {st : Stmt} {rest : List Stmt} {f g : Ev → Ms} (h1 : SS G k sc N st f) (h2 : SB G k sc N rest g) : SB G k sc N (st :: rest) (seqM f g) := fun X W gd tk po => by
  refine pss_imp (pss_cons (h1 X W gd tk po) (h2 X W gd tk po)) fun D σ H h => ?_
  obtain ⟨M, r, Pr, ev, rs, oa, R, o, rs', e, w⟩ := h
  rcases seqM_some e with ⟨ev1, rs1, e1, e2⟩ | ⟨e1, hn⟩
  · exact ⟨M, r, Pr, ev, rs, oa, R, .nx ev1, rs1, e1, fun σ1 H1 oa1 R1 => ⟨M, r, Pr, ev1, rs1, oa1, R1, o, rs', e2, w⟩⟩
  · refine ⟨M, r, Pr, ev, rs, oa, R, o, rs', e1, ?_⟩
    cases o with
    | nx e' => exact absurd rfl (hn e')
    | ret d => exact w
    | bk e => exact w
    | ct e => exact w
    | exc x i => exact w
theorem s_one {st : Stmt} {f : Ev → Ms} (h1 : SS G k sc N st f) : SB G k sc N [st] f := fun X W gd tk po => pss_one (h1 X W gd tk po)
def bnS {α : Type} (m : Mn α) (f : α → Ms) : Ms := fun rs => match m rs with
  | none => none
  | some (.val a, rs') => f a rs'
  | some (.exc x i, rs') => some (.exc x i, rs')
theorem bnS_some {α : Type} {m : Mn α} {f : α → Ms} {o : Res} (h : bnS m f rs = some (o, rs')) : (∃ a rs1, m rs = some (.val a, rs1) ∧ f a rs1 = some (o, rs')) ∨ ∃ x i, m rs = some (.exc x i, rs') ∧ o = .exc x i := by
  unfold bnS at h
  split at h
  · cases h
  · rename_i a rs1 e; exact .inl ⟨a, rs1, e, h⟩
  · rename_i x i rs1 e; cases h; exact .inr ⟨x, i, e, rfl⟩
/-- own lists in sight: what is kept must be free of lists -/
def dyn (f : Ev → Mn D) (ev : Ev) : Mn D := fun rs => match f ev rs with
  | some q => some q
  | none => match f (lend ev) rs with
    | some (.val d, rs') => if noL d = true then some (.val d, rs') else none
    | _ => none
theorem RelS.dynE (R : RelS K M r Pr σ H ev rs oa) {f : Ev → Mn D} {o : Out D} {Q : VK} (e : dyn f ev rs = some (o, rs'))
    (cv : ∀ d, o = .val d → ∀ v H', RelS K M r Pr σ H' ev rs' oa → Stp r H H' → Da K (Av M ev oa) H' v d → Q v H') (cx : ∀ x i, o = .exc x i → ∀ cls dd σ H, PrK Pr H → RowAt K M H r rs' → ExA mg x i cls dd H → W cls dd σ H) : tE K mg W f σ H Q := by
  unfold dyn at e
  split at e
  · rename_i q eq
    cases e
    exact R.evE R.e (fun b m => .inl m) eq cv cx
  · split at e
    · rename_i d rs1 eq
      split at e
      · rename_i hn
        cases e
        exact R.evE R.lent (fun b m => m) eq (fun d' ed v H' R' s dv => cv d' ed v H' R' s (by cases ed; exact dv.any hn)) cx
      · cases e
    · cases e
def sSet (i : Nat) (f : Ev → Mn D) (ev : Ev) : Ms := bnS (dyn f ev) fun d rs => some (.nx (ev.set i (.dat d)), rs)
theorem s_set (i : Nat) {x : Str} {e : Expr} {p p' : Pos} {f : Ev → Mn D} (h : SE G k sc N e f) (hi : N[i]? = some x := by rfl) (hl : locB sc x = true := by rfl)
    (hs : ∀ env, env.scope = sc.sc → swapsWith e (some (.Name x p')) p.line env = pure false := by intro env h; first | rfl | (cases env; cases h; rfl)) : SS G k sc N (.Assign [.Name x p'] e p) (sSet i f) := fun X W g tk po => by
  refine ps_imp (ps_set (i := i) (by rw [g.hN]; exact g.nd) (by rw [g.hN]; exact hi) (loc_of g hl).1 (h X W g tk) (hs _ g.hsc) (loc_of g hl).2) fun D σ H h => ?_
  obtain ⟨M, r, Pr, ev, rs, oa, R, o, rs', e, w⟩ := h
  rcases bnS_some e with ⟨d, rs1, e1, e2⟩ | ⟨x, j, e1, rfl⟩
  · cases e2
    exact R.dynE e1 (fun d' ed v H' R' s dv => by cases ed; exact w _ _ oa (R'.set1 dv)) fun _ _ ed => by cases ed
  · exact R.dynE e1 (fun _ ed => by cases ed) fun y j ed => by cases ed; exact w
/-- a, b = e (e a tuple as data) -/
def sTgt (t : Tgt) (f : Ev → Mn D) (ev : Ev) : Ms := bnS (bnd (dyn f ev) fun d => lft (t.of d)) fun ds rs => some (.nx (setE ev t.ix ds), rs)
/-- a new list of the frame's own: x = [..] -/
def sOwn (i : Nat) (f : Ev → Mn (List Slot)) (ev : Ev) : Ms := bnS (bnd (f ev) fun ss => lft (if ss.length ≤ sizeLine then dats ss else none)) fun ds rs => some (.nx (ev.set i (.own ds)), rs)
theorem s_own (i : Nat) {x : Str} {es : List Expr} {p p' p2 : Pos} {f : Ev → Mn (List Slot)} (h : SA G k sc N es f) (hi : N[i]? = some x := by rfl) (hl : locB sc x = true := by rfl)
    (hs : ∀ env, env.scope = sc.sc → swapsWith (.List es p2) (some (.Name x p')) p.line env = pure false := by intro env h; first | rfl | (cases env; cases h; rfl)) : SS G k sc N (.Assign [.Name x p'] (.List es p2) p) (sOwn i f) := fun X W g tk po => by
  refine ps_imp (ps_set (i := i) (by rw [g.hN]; exact g.nd) (by rw [g.hN]; exact hi) (loc_of g hl).1 (pe_lst (h X W g tk)) (hs _ g.hsc) (loc_of g hl).2) fun D σ H h => ?_
  obtain ⟨M, r, Pr, ev, rs, oa, R, o, rs', e, w⟩ := h
  show tAr G.K G.mg W f σ H _
  rcases bnS_some e with ⟨ds, rs1, e1, e2⟩ | ⟨x, j, e1, rfl⟩
  · cases e2
    rcases bnd_some e1 with ⟨ss, rs2, e3, e4⟩ | ⟨_, _, _, e4⟩
    · obtain ⟨ds', e5, e6, rfl⟩ := lft_some e4
      cases e6
      split at e5
      · rename_i hl
        refine ⟨_, r, ev, rs, R.e, .val ss, _, e3, fun H1 s1 w1 vs hvs => ⟨by rw [hvs.length]; exact hl, fun q hq => ?_⟩⟩
        have R1 := R.stp s1 w1
        exact w _ _ _ (R1.newOwn (ds := .l _) hq (hvs.dats e5))
      · cases e5
    · cases e4
  · rcases bnd_some e1 with ⟨d, rs2, e3, e4⟩ | ⟨y, j', e3, e4⟩
    · obtain ⟨ds', e5, e6, rfl⟩ := lft_some e4
      cases e6
    · cases e4
      refine ⟨_, r, ev, rs, R.e, .exc x j, rs', e3, fun cls dd H' s w1 a => w cls dd σ H' (R.stp s w1).prot (row_sub w1 fun b m => .inl m) a⟩
/-- x += e, ints -/
def sAug (i : Nat) (f : Ev → Mn D) (op : Int → Int → Int) (ev : Ev) : Ms := bnS (bnd (lft (getE ev i)) fun a => bnd (f (lend ev)) fun b => lft (match a, b with
  | .int x, .int y => some (PyData.int (op x y))
  | _, _ => none)) fun d rs => some (.nx (ev.set i (.dat d)), rs)
def sRet (f : Ev → Mn D) (ev : Ev) : Ms := bnS (f (lend ev)) fun d rs => some (.ret d, rs)
theorem s_ret {e : Expr} {p : Pos} {f : Ev → Mn D} (h : SE G k sc N e f) : SS G k sc N (.Return (some e) p) (sRet f) := fun X W g tk po => by
  refine ps_imp (ps_ret (h X W g tk)) fun D σ H h => ?_
  obtain ⟨M, r, Pr, ev, rs, oa, R, o, rs', e, w⟩ := h
  rcases bnS_some e with ⟨d, rs1, e1, e2⟩ | ⟨x, j, e1, rfl⟩
  · cases e2
    refine ⟨M, r, lend ev, rs, R.lent, .val d, rs', e1, fun H' s w1 v dv => w v H' (R.stp s w1).prot w1 dv⟩
  · exact R.evE R.lent (fun b m => m) e1 (fun _ ed => by cases ed) fun y j ed => by cases ed; exact w
def sRetN (_ : Ev) : Ms := fun rs => some (.ret .none, rs)
def sBk (ev : Ev) : Ms := fun rs => some (.bk ev, rs)
def sCt (ev : Ev) : Ms := fun rs => some (.ct ev, rs)
def sDrop (f : Ev → Mn D) (ev : Ev) : Ms := bnS (f (lend ev)) fun _ rs => some (.nx ev, rs)
theorem s_expr {e : Expr} {p : Pos} {f : Ev → Mn D} (h : SE G k sc N e f) (hs : ∀ env, swapsWith e none p.line env = pure false := by intro _; rfl) : SS G k sc N (.Expr e p) (sDrop f) := fun X W g tk po => by
  refine ps_imp (ps_expr (h X W g tk) (hs _)) fun D σ H h => ?_
  obtain ⟨M, r, Pr, ev, rs, oa, R, o, rs', e, w⟩ := h
  rcases bnS_some e with ⟨d, rs1, e1, e2⟩ | ⟨x, j, e1, rfl⟩
  · cases e2
    exact R.evE R.lent (fun b m => m) e1 (fun d' ed v H' R' s dv => w _ _ oa R') fun _ _ ed => by cases ed
  · exact R.evE R.lent (fun b m => m) e1 (fun _ ed => by cases ed) fun y j ed => by cases ed; exact w
def sIf (t : Ev → Mn Bool) (f g : Ev → Ms) (ev : Ev) : Ms := bnS (t (lend ev)) fun c => if c = true then f ev else g ev
theorem s_if {c : Expr} {a b : List Stmt} {p : Pos} {t : Ev → Mn Bool} {f g : Ev → Ms} (hc : ST G k sc N c t) (ha : SB G k sc N a f) (hb : SB G k sc N b g) : SS G k sc N (.If c a b p) (sIf t f g) := fun X W gd tk po => by
  refine ps_imp (ps_if (hc X W gd tk) (ha X W gd tk po) (hb X W gd tk po)) fun D σ H h => ?_
  obtain ⟨M, r, Pr, ev, rs, oa, R, o, rs', e, w⟩ := h
  rcases bnS_some e with ⟨c, rs1, e1, e2⟩ | ⟨x, j, e1, rfl⟩
  · refine R.evT e1 (fun c' ec H' R' => ?_) fun _ _ ed => by cases ed
    cases ec
    cases c with
    | true => rw [if_pos rfl] at e2; rw [if_pos rfl]; exact ⟨M, r, Pr, ev, rs1, oa, R', o, rs', e2, w⟩
    | false => rw [if_neg (by decide)] at e2; rw [if_neg (by decide)]; exact ⟨M, r, Pr, ev, rs1, oa, R', o, rs', e2, w⟩
  · exact R.evT e1 (fun _ ed => by cases ed) fun y j ed => by cases ed; exact w
end
end DL
namespace DL
open PySem PySem.Spec PyProof.Rows L2
variable [Xk]
section
variable {G : Gm} {k : Nat} {sc : Sx} {N : List Str}
variable {K : PySem.W.Frag} {mg : Str → Option Value} {M : Addr → Prop} {H H' H1 : Hp} {r : Rw} {σ σ' : L2.St} {ev ev' : Ev} {rs rs' : RS} {W : WX} {Pr Pr' : Addr → HO → Prop} {oa : Nat → Addr}
theorem RelS.weak (R : RelS K M r Pr' σ H ev rs oa) (h : ∀ b o, Pr b o → Pr' b o) (pm : ∀ b, M b → ¬ Mt r b → ∃ o, Pr b o) : RelS K M r Pr σ H ev rs oa :=
  ⟨R.e, R.mr, fun b o p => R.prot b o (h b o p), fun b o z p => R.nr b o z (h _ o p), pm, fun i ds e => by
    obtain ⟨xs, h1, h2, h3, h4, h5⟩ := R.own i ds e
    exact ⟨xs, h1, h2, h3, fun o p => h4 o (h _ o p), h5⟩, R.inj⟩
/-- what stands at the loop's start is kept through it -/
def PrL (M : Addr → Prop) (r : Rw) (Pr : Addr → HO → Prop) (H : Hp) (ev : Ev) (oa : Nat → Addr) : Addr → HO → Prop := fun b o => Pr b o ∨ (H b = some o ∧ ¬ Av M ev oa b)
theorem RelS.loop (R : RelS K M r Pr σ H ev rs oa) : RelS K M r (PrL M r Pr H ev oa) σ H ev rs oa :=
  ⟨R.e, R.mr, fun b o p => p.elim (R.prot b o) fun q => q.1, fun b o z p => p.elim (R.nr b o z) fun q => q.2 (.inl (R.mr b z)), fun b m n => by
    obtain ⟨xs, p⟩ := R.pm b m n
    exact ⟨xs, .inl p⟩, fun i ds e => by
    obtain ⟨xs, h1, h2, h3, h4, h5⟩ := R.own i ds e
    exact ⟨xs, h1, h2, h3, fun o p => p.elim (h4 o) fun q => q.2 (.inr ⟨i, ⟨ds, e⟩, rfl⟩), h5⟩, R.inj⟩
def forGo (t : Tgt) (body : Ev → Ms) : List D → Ev → Ms
  | [], ev => fun rs => some (.nx ev, rs)
  | d :: ds, ev => fun rs => match t.of d with
    | none => none
    | some es => match body (setE ev t.ix es) rs with
      | some (.nx ev', rs') => forGo t body ds ev' rs'
      | some (.ct ev', rs') => forGo t body ds ev' rs'
      | some (.bk ev', rs') => some (.nx ev', rs')
      | some (.ret d, rs') => some (.ret d, rs')
      | some (.exc x i, rs') => some (.exc x i, rs')
      | none => none
def sFor (fz : Bool) (src : Ev → Mn (List D)) (t : Tgt) (body : Ev → Ms) (ev : Ev) : Ms := bnS (src (if fz = true then lend ev else ev)) fun ds => forGo t body ds (if fz = true then lend ev else ev)
theorem s_for (fz : Bool) {tg iter : Expr} {body : List Stmt} {p : Pos} {src : Ev → Mn (List D)} {t : Tgt} {f : Ev → Ms} (hi : SI G k sc N tg iter src) (ht : PGt G k sc N tg t) (hb : SB G k sc N body f) (hs : ∀ env x, foldedSetIterable iter env x = pure x := by intro _ _; rfl) :
    SS G k sc N (.For tg iter body [] p) (sFor fz src t f) := fun X W g tk po => by
  obtain ⟨u, hu1, hu2⟩ := ht
  refine ps_imp (ps_for po g.calm (hi X W g tk) (hu1 X g) (hb X W g tk po) (hs _)) fun D σ H h => ?_
  obtain ⟨M, r, Pr, ev0, rs, oa, R0, o, rs', e, w⟩ := h
  obtain ⟨ev, eev⟩ : ∃ ev, ev = if fz = true then lend ev0 else ev0 := ⟨_, rfl⟩
  have R : RelS G.K M r Pr σ H ev rs oa := by
    rw [eev]
    split
    · exact R0.freeze
    · exact R0
  unfold sFor at e
  rw [← eev] at e
  rcases bnS_some e with ⟨ds, rs1, e1, e2⟩ | ⟨x, j, e1, rfl⟩
  · refine ⟨_, r, ev, rs, R.e, .val ds, rs1, e1, fun H1 s1 w1 ml1 J jok => ?_⟩
    have R1 : RelS G.K M r Pr σ H1 ev rs1 oa := R.stp s1 w1
    refine ⟨fun i m σ H => m = ds.length - i ∧ i ≤ ds.length ∧ ∃ ev' rs2 oa', RelS G.K M r (PrL M r Pr H1 ev oa) σ H ev' rs2 oa' ∧ forGo t f (ds.drop i) ev' rs2 = some (o, rs'), ⟨_, rfl, Nat.zero_le _, ev, rs1, oa, R1.loop, e2⟩, ?_⟩
    rintro i m σ2 H2 ⟨rfl, hil, ev2, rs2, oa2, R2, hgo⟩
    have kp : Kp (Av M ev oa) H1 H2 := fun b o n q => R2.prot b o (.inr ⟨q, n⟩)
    by_cases hlt : i < ds.length
    · have hd := List.getElem?_eq_getElem hlt
      refine .inr ⟨jok.go H2 kp i _ hd, fun σ' H' => ds.length - (i + 1) = ds.length - (i + 1) ∧ i + 1 ≤ ds.length ∧ ∃ ev' rs2 oa', RelS G.K M r (PrL M r Pr H1 ev oa) σ' H' ev' rs2 oa' ∧ forGo t f (ds.drop (i + 1)) ev' rs2 = some (o, rs'), fun σ' H' q => ⟨_, by omega, q⟩, fun x H3 hy => ?_⟩
      obtain ⟨sm3, dx⟩ := jok.yld (Av M ev2 oa2) H2 kp (fun b z => by
        rcases z with z | ⟨j, ⟨es, ej⟩, eb⟩
        · exact .inl (.inl z)
        · obtain ⟨xs, _, _, _, np, _⟩ := R2.own j es ej
          by_cases ha : Av M ev oa b
          · exact .inl ha
          · cases q : H1 b with
            | none => exact .inr rfl
            | some o => exact absurd (.inr ⟨by rw [← eb]; exact q, by rw [← eb]; exact ha⟩) (np o)) i _ x H3 hd hy
      rw [List.drop_eq_getElem_cons hlt] at hgo
      have R3 : RelS G.K M r (PrL M r Pr H1 ev oa) σ2 H3 ev2 rs2 oa2 := R2.stp (M' := Av M ev2 oa2) (.of_same sm3) (row_same R2.e.row sm3)
      unfold forGo at hgo
      split at hgo
      · cases hgo
      · rename_i es ht1
        refine hu2 _ _ _ _ _ _ _ dx ht1 fun vs hvs => ?_
        have R4 := R3.setL (is := t.ix) hvs
        have prk : ∀ {H'}, PrK (PrL M r Pr H1 ev oa) H' → PrK Pr H' := fun q b o p => q b o (.inl p)
        cases hbd : f (setE ev2 t.ix es) rs2 with
        | none => rw [hbd] at hgo; cases hgo
        | some q =>
          obtain ⟨ro, rs3⟩ := q
          rw [hbd] at hgo
          refine ⟨M, r, _, _, rs2, oa2, R4, ro, rs3, hbd, ?_⟩
          cases ro with
          | nx ev' => exact fun σ' H' oa' R' => ⟨rfl, hlt, ev', rs3, oa', R', hgo⟩
          | ct ev' => exact fun σ' H' oa' R' => ⟨rfl, hlt, ev', rs3, oa', R', hgo⟩
          | bk ev' => cases hgo; exact fun σ' H' oa' R' => w σ' H' oa' (R'.weak (fun b o p => .inl p) R.pm)
          | ret d => cases hgo; exact fun v H' pk row da => w v H' (prk pk) row da
          | exc x i => cases hgo; exact fun cls dd σ' H' pk row a => w cls dd σ' H' (prk pk) row a
    · have ei : i = ds.length := by omega
      subst ei
      rw [List.drop_length] at hgo
      cases hgo
      exact .inl ⟨jok.stop H2 kp, w σ2 H2 oa2 (R2.weak (fun b o p => .inl p) R.pm)⟩
  · exact ⟨_, r, ev, rs, R.e, .exc x j, rs', e1, fun cls dd H' s w1 a => w cls dd σ H' (R.stp s w1).prot (row_sub w1 fun b m => .inl m) a⟩
def whileN (t : Ev → Mn Bool) (body : Ev → Ms) : Nat → Ev → Ms
  | 0, _ => fun _ => none
  | n + 1, ev => bnS (t (lend ev)) fun c => if c = true then (fun rs => match body ev rs with
      | some (.nx ev', rs') => whileN t body n ev' rs'
      | some (.ct ev', rs') => whileN t body n ev' rs'
      | some (.bk ev', rs') => some (.nx ev', rs')
      | some (.ret d, rs') => some (.ret d, rs')
      | some (.exc x i, rs') => some (.exc x i, rs')
      | none => none) else fun rs => some (.nx ev, rs)
theorem s_while (n : Nat) {c : Expr} {body : List Stmt} {p : Pos} {t : Ev → Mn Bool} {f : Ev → Ms} (hc : ST G k sc N c t) (hb : SB G k sc N body f) : SS G k sc N (.While c body [] p) (whileN t f n) := fun X W g tk po => by
  refine ps_imp (ps_while po (hc X W g tk) (hb X W g tk po)) fun D σ H h => ?_
  obtain ⟨M, r, Pr, ev, rs, oa, R, o, rs', e, w⟩ := h
  refine ⟨fun m σ H => ∃ ev rs oa, RelS G.K M r Pr σ H ev rs oa ∧ whileN t f m ev rs = some (o, rs'), ⟨n, ev, rs, oa, R, e⟩, ?_⟩
  rintro m σ2 H2 ⟨ev2, rs2, oa2, R2, e2⟩
  cases m with
  | zero => cases e2
  | succ m =>
    rcases bnS_some e2 with ⟨c, rs3, e3, e4⟩ | ⟨x, j, e3, rfl⟩
    · refine R2.evT e3 (fun c' ec H' R' => ?_) fun _ _ ed => by cases ed
      cases ec
      cases c with
      | false => rw [if_neg (by decide)] at e4; rw [if_neg (by decide)]; cases e4; exact w _ _ _ R'
      | true =>
        rw [if_pos rfl] at e4; rw [if_pos rfl]
        refine ⟨fun σ H => ∃ ev rs oa, RelS G.K M r Pr σ H ev rs oa ∧ whileN t f m ev rs = some (o, rs'), fun σ' H' q => ⟨m, Nat.lt_succ_self m, q⟩, ?_⟩
        cases hbd : f ev2 rs3 with
        | none => rw [hbd] at e4; cases e4
        | some q =>
          obtain ⟨ro, rs4⟩ := q
          rw [hbd] at e4
          refine ⟨M, r, Pr, ev2, rs3, oa2, R', ro, rs4, hbd, ?_⟩
          cases ro with
          | nx ev' => exact fun σ' H' oa' R' => ⟨ev', rs4, oa', R', e4⟩
          | ct ev' => exact fun σ' H' oa' R' => ⟨ev', rs4, oa', R', e4⟩
          | bk ev' => cases e4; exact w
          | ret d => cases e4; exact w
          | exc x i => cases e4; exact w
    · exact R2.evT e3 (fun _ ed => by cases ed) fun y j ed => by cases ed; exact w
def getO (ev : Ev) (i : Nat) : Option (List D) := match ev[i]? with
  | some (.own (.l ds)) => some ds
  | _ => none
theorem getO_some {i : Nat} {ds : List D} (h : getO ev i = some ds) : ev[i]? = some (.own ds) := by
  unfold getO at h
  split at h
  · rename_i e; cases h; exact e
  · cases h
def sApp (i : Nat) (f : Ev → Mn D) (ev : Ev) : Ms := bnS (bnd (lft (getO ev i)) fun ds => bnd (dyn f ev) fun d => lft (if ds.length < sizeLine then some (ds ++ [d]) else none)) fun es rs => some (.nx (ev.set i (.own es)), rs)
theorem pe_at {X : Cx} {i : Nat} {x : Str} {p : Pos} (g : Gd G k sc N X) (hi : N[i]? = some x) (hv : visB sc x = true) (hd : (x == ("__debug__" : Str)) = false) (hcd : (x == ("__classdict__" : Str)) = false) : PE X (.Name x p) (tVar i) :=
  pe_var (i := i) (by rw [g.hN]; exact hi) (by rw [g.hsc]; exact vis_of hv) hd hcd
theorem RelS.at1 (R : RelS K M r Pr σ H ev rs oa) {i : Nat} {ds : List D} (h : getO ev i = some ds) : ∃ xs, σ[i]? = some (some (.ref (oa i))) ∧ H (oa i) = some (.lst xs) ∧ DaL K (Av M ev oa) H xs ds ∧ ¬ Mt r (oa i) := by
  obtain ⟨xs, h1, h2, h3, _, h5⟩ := R.own i ds (getO_some h)
  exact ⟨xs, h1, h2, h3, h5⟩
theorem s_app (i : Nat) {x : Str} {e : Expr} {p1 p2 p3 p4 : Pos} {f : Ev → Mn D} (h : SE G k sc N e f) (hi : N[i]? = some x := by rfl) (hv : visB sc x = true := by rfl) (hd : (x == ("__debug__" : Str)) = false := by decide) (hcd : (x == ("__classdict__" : Str)) = false := by decide)
    (hs : ∀ env, swapsWith (.Call (.Attribute (.Name x p1) "append" p2) [e] [] p3) none p4.line env = pure false := by intro _; rfl) (h1 : ∀ env, starEach [e] env = (false, eval e env) :: starEach [] env := by intro _; rfl)
    (hf : ∀ env, ((backTo p3 (starEach [e] env)).all (fun x => !x.1) && (backToKw p3 (keywordEach [] env)).all (fun x => x.1.isSome) && decide (([e] : List Expr).length + ([] : List Keyword).length + (if ([] : List Keyword).isEmpty then 0 else 1) < 30)) = true := by intro _; rfl)
    (hl : (p2.endLine == p3.line) = true := by rfl) : SS G k sc N (.Expr (.Call (.Attribute (.Name x p1) "append" p2) [e] [] p3) p4) (sApp i f) := fun X W g tk po => by
  refine ps_imp (ps_expr (pe_bm PySem.F.plainAttrs_list PySem.F.slot_list_append PySem.F.type_list_append mt_append (pe_at g hi hv hd hcd) (pa_cons (h X W g tk) pa_nil (h1 _)) (by rfl) (hf _) hl (h1 _) (by rfl)) (hs _)) fun D σ H h => ?_
  obtain ⟨M, r, Pr, ev, rs, oa, R, o, rs', e, w⟩ := h
  have key : ∀ {ds : List DL.D} {o1 : Out (List DL.D)} {rs1 : RS}, getO ev i = some ds → (bnd (dyn f ev) fun d => lft (if ds.length < sizeLine then some (ds ++ [d]) else none)) rs = some (o1, rs1) →
      (∀ es, o1 = .val es → WanS G.K G.mg M r Pr rs1 W D (.nx (ev.set i (.own es)))) → (∀ x j, o1 = .exc x j → WanS G.K G.mg M r Pr rs1 W D (.exc x j)) →
      tDrop (tBM X.K "list" rAppend (tVar i) (tCons (tE G.K G.mg W f) tNil)) D σ H := fun {ds o1 rs1} hg hb cv cx => by
    obtain ⟨xs, a1, a2, a3, a5⟩ := R.at1 hg
    refine ⟨_, a1, .inl ⟨rfl, _, .of a2⟩, ?_⟩
    rcases bnd_some hb with ⟨d, rs2, e3, e4⟩ | ⟨y, j, e3, rfl⟩
    · obtain ⟨es, e5, rfl, rfl⟩ := lft_some e4
      split at e5
      · rename_i hlt
        cases e5
        refine R.dynE e3 (fun d' ed v H' R' s dv => ?_) fun _ _ ed => by cases ed
        cases ed
        obtain ⟨xs', b1, b2, b3, b5⟩ := R'.at1 hg
        rw [s _ _ a5 a2] at b2
        cases b2
        refine ⟨_, xs, v, rfl, rfl, s _ _ a5 a2, by rw [b3.length]; exact hlt, cv _ rfl _ _ oa (R'.mutL (getO_some hg) (b3.append (.cons dv .nil)))⟩
      · cases e5
    · exact R.dynE e3 (fun _ ed => by cases ed) fun y j ed => by cases ed; exact cx _ _ rfl
  rcases bnS_some e with ⟨es, rs1, e1, e2⟩ | ⟨y, j, e1, rfl⟩
  · cases e2
    obtain ⟨ds, hg, hb⟩ := bnd_lft e1
    exact key hg hb (fun _ q => by cases q; exact w) fun _ _ q => by cases q
  · obtain ⟨ds, hg, hb⟩ := bnd_lft e1
    exact key hg hb (fun _ q => by cases q) fun _ _ q => by cases q; exact w
/-- x.extend(e), e a list -/
def lstD : D → Option (List D)
  | .list ds => some ds
  | _ => none
def sExt (i : Nat) (f : Ev → Mn D) (ev : Ev) : Ms := bnS (bnd (lft (getO ev i)) fun ds => bnd (f ev) fun d => lft ((lstD d).bind fun es => if ds.length + es.length ≤ sizeLine then some (ds ++ es) else none)) fun es rs => some (.nx (ev.set i (.own es)), rs)
theorem s_ext (i : Nat) {x : Str} {e : Expr} {p1 p2 p3 p4 : Pos} {f : Ev → Mn D} (h : SE G k sc N e f) (hi : N[i]? = some x := by rfl) (hv : visB sc x = true := by rfl) (hd : (x == ("__debug__" : Str)) = false := by decide) (hcd : (x == ("__classdict__" : Str)) = false := by decide)
    (hs : ∀ env, swapsWith (.Call (.Attribute (.Name x p1) "extend" p2) [e] [] p3) none p4.line env = pure false := by intro _; rfl) (h1 : ∀ env, starEach [e] env = (false, eval e env) :: starEach [] env := by intro _; rfl)
    (hf : ∀ env, ((backTo p3 (starEach [e] env)).all (fun x => !x.1) && (backToKw p3 (keywordEach [] env)).all (fun x => x.1.isSome) && decide (([e] : List Expr).length + ([] : List Keyword).length + (if ([] : List Keyword).isEmpty then 0 else 1) < 30)) = true := by intro _; rfl)
    (hl : (p2.endLine == p3.line) = true := by rfl) : SS G k sc N (.Expr (.Call (.Attribute (.Name x p1) "extend" p2) [e] [] p3) p4) (sExt i f) := fun X W g tk po => by
  refine ps_imp (ps_expr (pe_bm PySem.F.plainAttrs_list PySem.F.slot_list_extend PySem.F.type_list_extend mt_extend (pe_at g hi hv hd hcd) (pa_cons (h X W g tk) pa_nil (h1 _)) (by rfl) (hf _) hl (h1 _) (by rfl)) (hs _)) fun D σ H h => ?_
  obtain ⟨M, r, Pr, ev, rs, oa, R, o, rs', e, w⟩ := h
  have key : ∀ {ds : List DL.D} {o1 : Out (List DL.D)} {rs1 : RS}, getO ev i = some ds → (bnd (f ev) fun d => lft ((lstD d).bind fun es => if ds.length + es.length ≤ sizeLine then some (ds ++ es) else none)) rs = some (o1, rs1) →
      (∀ es, o1 = .val es → WanS G.K G.mg M r Pr rs1 W D (.nx (ev.set i (.own es)))) → (∀ x j, o1 = .exc x j → WanS G.K G.mg M r Pr rs1 W D (.exc x j)) →
      tDrop (tBM X.K "list" rExtend (tVar i) (tCons (tE G.K G.mg W f) tNil)) D σ H := fun {ds o1 rs1} hg hb cv cx => by
    obtain ⟨xs, a1, a2, a3, a5⟩ := R.at1 hg
    refine ⟨_, a1, .inl ⟨rfl, _, .of a2⟩, ?_⟩
    rcases bnd_some hb with ⟨d, rs2, e3, e4⟩ | ⟨y, j, e3, rfl⟩
    · obtain ⟨es, e5, rfl, rfl⟩ := lft_some e4
      cases hd : lstD d with
      | none => rw [hd] at e5; cases e5
      | some fs =>
        rw [hd] at e5
        replace e5 : (if ds.length + fs.length ≤ sizeLine then some (ds ++ fs) else none) = some es := e5
        split at e5
        · rename_i hlt
          cases e5
          refine R.evE R.e (fun b m => .inl m) e3 (fun d' ed v H' R' s dv => ?_) fun _ _ ed => by cases ed
          cases ed
          obtain ⟨xs', b1, b2, b3, b5⟩ := R'.at1 hg
          rw [s _ _ a5 a2] at b2
          cases b2
          cases dv with
          | lst q1 q2 q3 =>
            cases hd
            refine ⟨_, _, xs, _, rfl, rfl, s _ _ a5 a2, q1, by rw [b3.length, q3.length]; exact hlt, cv _ rfl _ _ oa (R'.mutL (getO_some hg) (b3.append q3))⟩
          | _ => cases hd
        · cases e5
    · exact R.evE R.e (fun b m => .inl m) e3 (fun _ ed => by cases ed) fun y j ed => by cases ed; exact cx _ _ rfl
  rcases bnS_some e with ⟨es, rs1, e1, e2⟩ | ⟨y, j, e1, rfl⟩
  · cases e2
    obtain ⟨ds, hg, hb⟩ := bnd_lft e1
    exact key hg hb (fun _ q => by cases q; exact w) fun _ _ q => by cases q
  · obtain ⟨ds, hg, hb⟩ := bnd_lft e1
    exact key hg hb (fun _ q => by cases q) fun _ _ q => by cases q; exact w
/-- y = x.pop() -/
def sPop (j i : Nat) (ev : Ev) : Ms := bnS (lft ((getO ev i).bind fun ds => (ds[ds.length - 1]?).map fun d => (ds.dropLast, d))) fun q rs => some (.nx ((ev.set i (.own q.1)).set j (.dat q.2)), rs)
theorem DaL.get_last {vs : List V} {ds : List D} {d : D} (h : DaL K M H vs ds) (e : ds[ds.length - 1]? = some d) : ∃ v, vs[vs.length - 1]? = some v ∧ Da K M H v d := by
  rw [h.length]
  exact h.get e
structure ExcF (G : Gm) (x : Str) : Prop where
  ex : ∃ C, G.mg x = some (.ref C) ∧ PySem.W.excIn G.K C [.type "ValueError", .type "Exception", .type "BaseException", .type "object"] "ValueError.__new__" = true ∧ PySem.W.keepIn G.K (.ref C) = true ∧
    PySem.W.subIn G.K (.ref C) (.type "BaseException") = some true ∧ PySem.W.typeIn G.K (.ref C) = some (.type "type")
def sRaise (x : Str) (_ : Ev) : Ms := fun rs => some (.exc x none, rs)
theorem s_raise {x m : Str} {j : Nat} {p p2 pos pos2 : Pos} (F : ExcF G x) (hg : glB sc x = true := by rfl) (hdb : (x == ("__debug__" : Str)) = false := by decide) : SS G k sc N (.Raise (some (.Call (.Name x p) [.Constant (.str m) j p2] [] pos)) none pos2) (sRaise x) := fun X W g tk po => by
  obtain ⟨C, h1, h2, h3, h4, h5⟩ := F.ex
  refine ps_imp (ps_raise g.calm tk (pmk_own PySem.F.excBase_ValueError (by rw [g.hK]; exact h2) (by rw [g.hmg]; exact h1) (by rw [g.hK]; exact h3) (raises_own (by rw [g.hK]; exact h4) (by rw [g.hK]; exact h5)) (gl_of g hg) hdb)) fun D σ H h => ?_
  obtain ⟨M, r, Pr, ev, rs, oa, R, o, rs', e, w⟩ := h
  cases e
  exact w _ _ σ H R.prot (row_sub R.e.row fun b m => .inl m) ⟨⟨C, h1, rfl⟩, rfl⟩
end
section
variable {G : Gm} {k : Nat}
def dFun (n m : Nat) (f : Ev → Ms) (ss : List Slot) : Mn D := fun rs => if ss.length = n then (match f (ss ++ List.replicate (m - n) .hid) rs with
  | some (.nx _, rs') => some (.val .none, rs')
  | some (.ret d, rs') => some (.val d, rs')
  | some (.exc x i, rs') => some (.exc x i, rs')
  | _ => none) else none
theorem arg_slots {K : PySem.W.Frag} {M : Addr → Prop} {r : Rw} {H : Hp} : ∀ {vs : List V} {ss : List Slot} (j : Nat), ArgL K M r H vs ss → ∀ (i : Nat) s, ss[i]? = some s → ∀ σ : L2.St, (∀ i v, vs[i]? = some v → σ[j + i]? = some (some v)) → SlotAt K M r σ H (j + i) s
  | _, _, j, .nil, i, s, e, σ, _ => by simp at e
  | _, _, j, .dat h t, 0, s, e, σ, hσ => by
    simp at e; subst e
    exact ⟨_, hσ 0 _ rfl, h⟩
  | _, _, j, .row t, 0, s, e, σ, hσ => by
    simp at e; subst e
    exact hσ 0 _ rfl
  | _, _, j, .obj t, 0, s, e, σ, hσ => by
    simp at e; subst e
    exact hσ 0 _ rfl
  | _, _, j, .obj t, i + 1, s, e, σ, hσ => by
    have q := arg_slots (j + 1) t i s (by simpa using e) σ fun i' v h => by
      have z := hσ (i' + 1) v (by simpa using h)
      rwa [show j + (i' + 1) = j + 1 + i' by omega] at z
    rwa [show j + 1 + i = j + (i + 1) by omega] at q
  | _, _, j, .dat h t, i + 1, s, e, σ, hσ => by
    have q := arg_slots (j + 1) t i s (by simpa using e) σ fun i' v h => by
      have z := hσ (i' + 1) v (by simpa using h)
      rwa [show j + (i' + 1) = j + 1 + i' by omega] at z
    rwa [show j + 1 + i = j + (i + 1) by omega] at q
  | _, _, j, .row t, i + 1, s, e, σ, hσ => by
    have q := arg_slots (j + 1) t i s (by simpa using e) σ fun i' v h => by
      have z := hσ (i' + 1) v (by simpa using h)
      rwa [show j + (i' + 1) = j + 1 + i' by omega] at z
    rwa [show j + 1 + i = j + (i + 1) by omega] at q
theorem ArgL.noown {K : PySem.W.Frag} {M : Addr → Prop} {r : Rw} {H : Hp} : ∀ {vs : List V} {ss : List Slot}, ArgL K M r H vs ss → ∀ (i : Nat) (ds : Ow), ss[i]? ≠ some (.own ds)
  | _, _, .nil, i, ds, e => by simp at e
  | _, _, .dat h t, 0, ds, e => by simp at e
  | _, _, .row t, 0, ds, e => by simp at e
  | _, _, .obj t, 0, ds, e => by simp at e
  | _, _, .obj t, i + 1, ds, e => t.noown i ds (by simpa using e)
  | _, _, .dat h t, i + 1, ds, e => t.noown i ds (by simpa using e)
  | _, _, .row t, i + 1, ds, e => t.noown i ds (by simpa using e)
theorem fnok_of {x q : Str} {st : Stmt} {N ps : List Str} {f : Addr} {fd : FuncData} {den : Ev → Ms} (F : Fun G.K x q st f fd) (S : FnScope N ps (defScope st)) (h : SB G k ⟨defScope st, fun _ => true⟩ N (defBody st) den) (hl : N.contains ("<lambda>" : Str) = false) :
    FnOk G.P G.w G.K G.mg G.base (L2.CX G.P G.w) (k + 1) f fd ps (spF G ps.length (dFun ps.length N.length den)) := by
  refine F.okX S (fun vs H Q E h => h.1) fun cdv A outer s H vs Q E hr hsp => ?_
  have g : Gd G k ⟨defScope st, fun _ => true⟩ N (cxOf (L2.CX G.P G.w) G.P G.w G.K G.mg G.base N q (defScope st) f cdv A outer s H E) := ⟨rfl, S.nd, rfl, fun _ _ => rfl, rfl, hr, rfl, rfl, rfl, rfl, rfl, fun _ => rfl, fun _ z => by rw [hl] at z; cases z⟩
  refine ⟨_, h _ (fun cls d _ H => E cls d H) g (takes_of rfl rfl rfl rfl) (passes_of rfl), ?_⟩
  obtain ⟨hn, M, r, ss, rs, mr, ml, row, ar, o, rs', e, w⟩ := hsp
  have hl : ss.length = ps.length := by rw [← ar.length]; exact hn
  unfold dFun at e
  rw [if_pos hl] at e
  have lenN : ps.length ≤ N.length := by
    have q := congrArg List.length S.pre
    rw [List.length_take] at q
    omega
  have R : RelS G.K M r (fun b o => H b = some o ∧ ¬ Mt r b) (L2.start N vs) H (ss ++ List.replicate (N.length - ps.length) .hid) rs fun _ => 0 := by
    have no : ∀ i, ¬ isOwn (ss ++ List.replicate (N.length - ps.length) .hid) i := fun i ⟨ds, e⟩ => by
      by_cases hi : i < ss.length
      · rw [List.getElem?_append_left hi] at e
        exact ar.noown i ds e
      · rw [List.getElem?_append_right (by omega), List.getElem?_replicate] at e
        split at e <;> cases e
    have sub : ∀ b, Av M (ss ++ List.replicate (N.length - ps.length) .hid) (fun _ => 0) b → M b := fun b m => m.elim id fun ⟨i, q, _⟩ => absurd q (no i)
    refine ⟨RelE.sub (M := M) ⟨mr, ml, row, fun i s e => ?_, ?_⟩ sub (fun b z => .inl (mr b z)), mr, fun b o p => p.1, fun b o z p => p.2 z, fun b m n => ?_, fun i ds e => absurd ⟨ds, e⟩ (no i), fun i j q => absurd q (no i)⟩
    · by_cases hi : i < ss.length
      · rw [List.getElem?_append_left hi] at e
        have q := arg_slots 0 ar i s e (L2.start N vs) fun i' v h => by
          unfold L2.start
          have hi' : i' < vs.length := (List.getElem?_eq_some_iff.mp h).1
          rw [Nat.zero_add, List.getElem?_append_left (by rw [List.length_map]; exact hi'), List.getElem?_map, h]
          rfl
        rwa [Nat.zero_add] at q
      · rw [List.getElem?_append_right (by omega), List.getElem?_replicate] at e
        split at e
        · cases e; trivial
        · cases e
    · unfold L2.start
      rw [List.length_append, List.length_append, List.length_map, List.length_replicate, List.length_replicate, ar.length, hl]
      exact Nat.le_refl _
    · obtain ⟨xs, q, _⟩ := ml b m
      exact ⟨xs, q, n⟩
  have stp : ∀ {H'}, PrK (fun b o => H b = some o ∧ ¬ Mt r b) H' → Stp r H H' := fun p b o n q => p b o ⟨q, n⟩
  cases hden : den (ss ++ List.replicate (N.length - ps.length) .hid) rs with
  | none => rw [hden] at e; cases e
  | some q =>
    obtain ⟨ro, rs2⟩ := q
    rw [hden] at e
    refine ⟨M, r, _, _, rs, _, R, ro, rs2, hden, ?_⟩
    cases ro with
    | nx ev' => cases e; exact fun σ' H' oa' R' => w H' (stp R'.prot) (row_sub R'.e.row fun b m => .inl m) _ .non
    | ret d => cases e; exact fun v H' pk ro dv => w H' (stp pk) ro v dv
    | exc y i => cases e; exact fun cls dd σ' H' pk ro a => w cls dd H' (stp pk) ro a
    | bk ev' => cases e
    | ct ev' => cases e
theorem fo_of {x : Str} {st : Stmt} {N ps : List Str} {f : Addr} {fd : FuncData} {den : Ev → Ms} (hmg : G.mg x = some (.ref f)) (F : Fun G.K x x st f fd) (S : FnScope N ps (defScope st)) (bd : Binds G.K fd ps []) (h : SB G k ⟨defScope st, fun _ => true⟩ N (defBody st) den) (hl : N.contains ("<lambda>" : Str) = false) :
    FO G (k + 1) x ps.length (dFun ps.length N.length den) := ⟨f, fd, ps, hmg, F.kp, bd, rfl, fnok_of F S h hl⟩
end
end DL
namespace DL
open PySem PySem.Spec PyProof.Rows L2
variable [Xk]
section
variable {G : Gm} {k : Nat} {sc : Sx} {N : List Str}
def dBin (op : D → D → Option D) (fa fb : Ev → Mn D) (ev : Ev) : Mn D := bnd (fa ev) fun x => bnd (fb ev) fun y => lft (op x y)
def dUn (op : D → Option D) (fa : Ev → Mn D) (ev : Ev) : Mn D := bnd (fa ev) fun x => lft (op x)
def dCmpE (op : D → D → Option Bool) (fa fb : Ev → Mn D) (ev : Ev) : Mn D := bnd (fa ev) fun x => bnd (fb ev) fun y => lft ((op x y).map .bool)
def dCmp (op : D → D → Option Bool) (fa fb : Ev → Mn D) (ev : Ev) : Mn Bool := bnd (fa ev) fun x => bnd (fb ev) fun y => lft (op x y)
theorem E_ix {a b : Expr} {fa fb : Ev → Mn D} {p : Pos} (ha : SE G k sc N a fa) (hb : SE G k sc N b fb) (hs : ∀ o i, subscripted b false o i = operate [o, i] (getItem o i) := by intro _ _; rfl) : SE G k sc N (.Subscript a b p) (dBin ixD fa fb) := e_ix ha hb hs
theorem E_slLo {a b : Expr} {fa fb : Ev → Mn D} {p1 p2 : Pos} (ha : SE G k sc N a fa) (hb : SE G k sc N b fb) : SE G k sc N (.Subscript a (.Slice (some b) none none p1) p2) (dBin slLo fa fb) := e_slLo ha hb
theorem E_slHi {a b : Expr} {fa fb : Ev → Mn D} {p1 p2 : Pos} (ha : SE G k sc N a fa) (hb : SE G k sc N b fb) : SE G k sc N (.Subscript a (.Slice none (some b) none p1) p2) (dBin slHi fa fb) := e_slHi ha hb
theorem E_add {a b : Expr} {fa fb : Ev → Mn D} {p : Pos} (ha : SE G k sc N a fa) (hb : SE G k sc N b fb) : SE G k sc N (.BinOp a .Add b p) (dBin addD fa fb) := e_add ha hb
theorem E_sub {a b : Expr} {fa fb : Ev → Mn D} {p : Pos} (ha : SE G k sc N a fa) (hb : SE G k sc N b fb) : SE G k sc N (.BinOp a .Sub b p) (dBin subD fa fb) := e_sub ha hb
theorem E_neg {a : Expr} {fa : Ev → Mn D} {p : Pos} (ha : SE G k sc N a fa) : SE G k sc N (.UnaryOp .USub a p) (dUn negD fa) := e_neg ha
theorem E_cmp {a b : Expr} {fa fb : Ev → Mn D} {op : CmpOp} {f : D → D → Option Bool} {p : Pos} (c : CmpR G k sc N op f) (ha : SE G k sc N a fa) (hb : SE G k sc N b fb) (hm : behindInMarks op b = false := by first | exact nomark _ (by decide) (by decide) | rfl) : SE G k sc N (.Compare a [op] [b] p) (dCmpE f fa fb) := e_cmp c ha hb hm
theorem T_cmp {a b : Expr} {fa fb : Ev → Mn D} {op : CmpOp} {f : D → D → Option Bool} {p : Pos} (c : CmpR G k sc N op f) (ha : SE G k sc N a fa) (hb : SE G k sc N b fb) (hm : behindInMarks op b = false := by first | exact nomark _ (by decide) (by decide) | rfl) : ST G k sc N (.Compare a [op] [b] p) (dCmp f fa fb) := t_cmp c ha hb hm
def KTab := List (Str × D)
structure GlK (G : Gm) (x : Str) (t : KTab) : Prop where
  ex : ∃ d es n, G.mg x = some (.ref d) ∧ KDict G.K G.w d es n ∧ ∀ z : Str, (match t.lookup z with
    | some dd => ∃ u v, PySem.W.nsIn G.K d z = some (some u) ∧ RelV v u ∧ ∀ M H, Da G.K M H v dd
    | none => PySem.W.nsIn G.K d z = some none)
def kgetD (t : KTab) : D → Option D
  | .str z => t.lookup z
  | _ => none
def kinD (t : KTab) : D → Option Bool
  | .str z => some (t.lookup z).isSome
  | _ => none
def dKget (t : KTab) (fb : Ev → Mn D) (ev : Ev) : Mn D := bnd (fb ev) fun y => lft (kgetD t y)
def dKin (t : KTab) (fb : Ev → Mn D) (ev : Ev) : Mn Bool := bnd (fb ev) fun y => lft (kinD t y)
def dKnin (t : KTab) (fb : Ev → Mn D) (ev : Ev) : Mn Bool := bnd (fb ev) fun y => lft ((kinD t y).map (!·))
theorem E_kget {x : Str} {t : KTab} {b : Expr} {fb : Ev → Mn D} {p p2 : Pos} (h : GlK G x t) (hb : SE G k sc N b fb) (hg : glB sc x = true := by rfl) (hdb : (x == ("__debug__" : Str)) = false := by decide) (hs : ∀ o i, subscripted b false o i = operate [o, i] (getItem o i) := by intro _ _; rfl) :
    SE G k sc N (.Subscript (.Name x p) b p2) (dKget t fb) := by
  obtain ⟨d, es, n, h1, h2, h3⟩ := h.ex
  refine e_one (rl := fun X y H Q => rIxD X.K X.w (.ref d) y H Q) hb (fun X ta g h => pe_imp (pe_ix ix_kdict (pe_glob (v := .ref d) (gl_of g hg) (by rw [g.hmg]; exact h1) rfl hdb) h hs) fun σ H Q q => q) fun X M H y dy dd Q g ml hy e hq => ?_
  rw [g.hK, g.hw]
  cases hy with
  | str z =>
    have q := h3 z
    have e : t.lookup z = some dd := e
    rw [e] at q
    obtain ⟨u, v, q1, q2, q3⟩ := q
    exact ⟨d, z, v, rfl, rfl, ⟨es, n, u, h2.at_, h2.lit, q1, q2⟩, hq v H (.refl _) (q3 M H)⟩
  | _ => cases e
theorem T_kin {x : Str} {t : KTab} {b : Expr} {fb : Ev → Mn D} {p p2 : Pos} (h : GlK G x t) (hb : SE G k sc N b fb) (hg : glB sc x = true := by rfl) (hdb : (x == ("__debug__" : Str)) = false := by decide) (hm : behindInMarks .In (.Name x p) = false := by rfl) :
    ST G k sc N (.Compare b [.In] [.Name x p] p2) (dKin t fb) := fun X W g tk => by
  obtain ⟨d, es, n, h1, h2, h3⟩ := h.ex
  refine pt_imp (pt_cmpR (op_in_kd (by rw [g.hK, g.hw]; exact h2)) (hb X W g tk) (pe_glob (v := .ref d) (gl_of g hg) (by rw [g.hmg]; exact h1) rfl hdb) hm) fun σ H Q h => ?_
  obtain ⟨M, r, ev, rs, R, o, rs', e, w⟩ := h
  refine tE_bnd R e w fun y rs1 H1 v R1 s1 d1 e1 w1 => ?_
  obtain ⟨c, e3, rfl, rfl⟩ := lft_some e1
  rw [g.hK]
  cases d1 with
  | str z =>
    cases e3
    have q := h3 z
    cases hz : t.lookup z with
    | none =>
      rw [hz] at q
      exact ⟨z, _, rfl, rfl, q, false, rfl, by have := w1 H1 (.refl _) R1.row; rwa [hz] at this⟩
    | some dd =>
      rw [hz] at q
      obtain ⟨u, v, q1, q2, q3⟩ := q
      exact ⟨z, _, rfl, rfl, q1, true, rfl, by have := w1 H1 (.refl _) R1.row; rwa [hz] at this⟩
  | _ => cases e3
theorem T_knin {x : Str} {t : KTab} {b : Expr} {fb : Ev → Mn D} {p p2 : Pos} (h : GlK G x t) (hb : SE G k sc N b fb) (hg : glB sc x = true := by rfl) (hdb : (x == ("__debug__" : Str)) = false := by decide) (hm : behindInMarks .NotIn (.Name x p) = false := by rfl) :
    ST G k sc N (.Compare b [.NotIn] [.Name x p] p2) (dKnin t fb) := fun X W g tk => by
  obtain ⟨d, es, n, h1, h2, h3⟩ := h.ex
  refine pt_imp (pt_cmpR (op_notIn_kd (by rw [g.hK, g.hw]; exact h2)) (hb X W g tk) (pe_glob (v := .ref d) (gl_of g hg) (by rw [g.hmg]; exact h1) rfl hdb) hm) fun σ H Q h => ?_
  obtain ⟨M, r, ev, rs, R, o, rs', e, w⟩ := h
  refine tE_bnd R e w fun y rs1 H1 v R1 s1 d1 e1 w1 => ?_
  obtain ⟨c, e3, rfl, rfl⟩ := lft_some e1
  rw [g.hK]
  cases d1 with
  | str z =>
    have q := h3 z
    replace e3 : some (!(t.lookup z).isSome) = some c := e3
    cases hz : t.lookup z with
    | none =>
      rw [hz] at q e3
      cases e3
      exact ⟨z, _, rfl, rfl, q, true, rfl, w1 H1 (.refl _) R1.row⟩
    | some dd =>
      rw [hz] at q e3
      cases e3
      obtain ⟨u, v, q1, q2, q3⟩ := q
      exact ⟨z, _, rfl, rfl, q1, false, rfl, w1 H1 (.refl _) R1.row⟩
  | _ => cases e3
variable {K : PySem.W.Frag} {mg : Str → Option Value} {M : Addr → Prop} {H H' H1 : Hp} {r : Rw} {σ σ' : L2.St} {ev ev' : Ev} {rs rs' : RS} {W : WX} {Pr Pr' : Addr → HO → Prop} {oa : Nat → Addr}
def pSet (i : Nat) (f : Ev → Mn D) (ev : Ev) : Ms := bnS (f ev) fun d rs => some (.nx (ev.set i (.dat d)), rs)
theorem P_set (i : Nat) {x : Str} {e : Expr} {p p' : Pos} {f : Ev → Mn D} (h : SE G k sc N e f) (hi : N[i]? = some x := by rfl) (hl : locB sc x = true := by rfl)
    (hs : ∀ env, env.scope = sc.sc → swapsWith e (some (.Name x p')) p.line env = pure false := by intro env h; first | rfl | (cases env; cases h; rfl)) : SS G k sc N (.Assign [.Name x p'] e p) (pSet i f) := fun X W g tk po => by
  refine ps_imp (ps_set (i := i) (by rw [g.hN]; exact g.nd) (by rw [g.hN]; exact hi) (loc_of g hl).1 (h X W g tk) (hs _ g.hsc) (loc_of g hl).2) fun D σ H h => ?_
  obtain ⟨M, r, Pr, ev, rs, oa, R, o, rs', e, w⟩ := h
  rcases bnS_some e with ⟨d, rs1, e1, e2⟩ | ⟨x, j, e1, rfl⟩
  · cases e2
    exact R.evE R.e (fun b m => .inl m) e1 (fun d' ed v H' R' s dv => by cases ed; exact w _ _ oa (R'.set1 dv)) fun _ _ ed => by cases ed
  · exact R.evE R.e (fun b m => .inl m) e1 (fun _ ed => by cases ed) fun y j ed => by cases ed; exact w
def pTgt (t : Tgt) (f : Ev → Mn D) (ev : Ev) : Ms := bnS (bnd (f ev) fun d => lft (t.of d)) fun ds rs => some (.nx (setE ev t.ix ds), rs)
theorem P_tgt {t : Tgt} {tg e : Expr} {p : Pos} {f : Ev → Mn D} (h : SE G k sc N e f) (ht : PGt G k sc N tg t) (hs : ∀ env, swapsWithSole [tg] e p.line env = pure false := by intro _; rfl) (hw : ∀ env, env.scope = sc.sc → swappedStores [tg] e env = pure none := by intro env h; first | rfl | (cases env; cases h; rfl))
    (h1 : ∀ env, (assignEach [tg] env).map (·.2) = [assign tg env] := by intro _; rfl) : SS G k sc N (.Assign [tg] e p) (pTgt t f) := fun X W g tk po => by
  obtain ⟨u, hu1, hu2⟩ := ht
  refine ps_imp (ps_asg (h X W g tk) (hu1 X g) (hs _) (hw _ g.hsc) (h1 _)) fun D σ H h => ?_
  obtain ⟨M, r, Pr, ev, rs, oa, R, o, rs', e, w⟩ := h
  rcases bnS_some e with ⟨ds, rs1, e1, e2⟩ | ⟨x, j, e1, rfl⟩
  · cases e2
    rcases bnd_some e1 with ⟨d, rs2, e3, e4⟩ | ⟨_, _, _, e4⟩
    · obtain ⟨ds', e5, e6, rfl⟩ := lft_some e4
      cases e6
      exact R.evE R.e (fun b m => .inl m) e3 (fun d' ed v H' R' s dv => by cases ed; exact hu2 _ _ _ _ _ _ _ dv e5 fun vs hvs => w _ _ oa (R'.setL hvs)) fun _ _ ed => by cases ed
    · cases e4
  · rcases bnd_some e1 with ⟨d, rs2, e3, e4⟩ | ⟨y, j', e3, e4⟩
    · obtain ⟨ds', e5, e6, rfl⟩ := lft_some e4
      cases e6
    · cases e4
      exact R.evE R.e (fun b m => .inl m) e3 (fun _ ed => by cases ed) fun y j ed => by cases ed; exact w
/-- a, b = x, y with plain local names -/
def pPar (i j : Nat) (f : Ev → Mn (List Slot)) (ev : Ev) : Ms := bnS (bnd (f ev) fun ss => lft (dats ss)) fun ds rs => match ds with
  | [d, e] => some (.nx ((ev.set i (.dat d)).set j (.dat e)), rs)
  | _ => none
def plocB (sc : Sx) (x : Str) : Bool := match sc.sc.names.lookup x with
  | some .local => true
  | _ => false
theorem ploc_of {X : Cx} {x : Str} (g : Gd G k sc N X) (h : plocB sc x = true) : X.env.scope.names.lookup x = some .local := by
  unfold plocB at h
  rw [g.hsc]
  split at h
  · assumption
  · cases h
theorem P_par (i j : Nat) {x y : Str} {a b : Expr} {px py pt p pt2 : Pos} {kt k2 : Nat} {f : Ev → Mn (List Slot)} (h : SA G k sc N [a, b] f) (hi : N[i]? = some x := by rfl) (hj : N[j]? = some y := by rfl) (hij : i ≠ j := by decide) (hx : plocB sc x = true := by rfl) (hy : plocB sc y = true := by rfl)
    (hw : ∀ env, env.scope = sc.sc → swappedStores [.Tuple [.Name x px, .Name y py] kt pt] (.Tuple [a, b] k2 pt2) env = pure (some [x, y]) := by intro env h; first | rfl | (cases env; cases h; rfl))
    (hs : ∀ env, swapsWithSole [.Tuple [.Name x px, .Name y py] kt pt] (.Tuple [a, b] k2 pt2) p.line env = pure false := by intro _; rfl) :
    SS G k sc N (.Assign [.Tuple [.Name x px, .Name y py] kt pt] (.Tuple [a, b] k2 pt2) p) (pPar i j f) := fun X W g tk po => by
  refine ps_imp (ps_par (i := i) (j := j) g.calm (by rw [g.hN]; exact g.nd) (by rw [g.hN]; exact hi) (by rw [g.hN]; exact hj) hij (ploc_of g hx) (ploc_of g hy) (h X W g tk) (hw _ g.hsc) (hs _)) fun D σ H h => ?_
  obtain ⟨M, r, Pr, ev, rs, oa, R, o, rs', e, w⟩ := h
  rcases bnS_some e with ⟨ds, rs1, e1, e2⟩ | ⟨x, j, e1, rfl⟩
  · split at e2
    · rename_i d1 d2
      cases e2
      rcases bnd_some e1 with ⟨ss, rs2, e3, e4⟩ | ⟨_, _, _, e4⟩
      · obtain ⟨ds', e5, e6, rfl⟩ := lft_some e4
        cases e6
        refine ⟨_, r, ev, rs, R.e, .val ss, _, e3, fun H1 s1 w1 vs hvs => ?_⟩
        obtain ⟨v, v', rfl, h1, h2⟩ := two_da (hvs.dats e5)
        have R1 := R.stp s1 w1
        exact ⟨v, v', rfl, w _ _ oa ((R1.set1 h1).set1 (h2.sub fun b m => m.elim .inl fun ⟨j', o, e⟩ => .inr ⟨j', (isOwn_set (fun ds e => by cases e) o).1, e⟩))⟩
      · cases e4
    · cases e2
  · rcases bnd_some e1 with ⟨d, rs2, e3, e4⟩ | ⟨y, j', e3, e4⟩
    · obtain ⟨ds', e5, e6, rfl⟩ := lft_some e4
      cases e6
    · cases e4
      exact ⟨_, r, ev, rs, R.e, .exc x j, rs', e3, fun cls dd H' s w1 a => w cls dd σ H' (R.stp s w1).prot (row_sub w1 fun b m => .inl m) a⟩
def pRet (f : Ev → Mn D) (ev : Ev) : Ms := bnS (f ev) fun d rs => some (.ret d, rs)
theorem P_ret {e : Expr} {p : Pos} {f : Ev → Mn D} (h : SE G k sc N e f) : SS G k sc N (.Return (some e) p) (pRet f) := fun X W g tk po => by
  refine ps_imp (ps_ret (h X W g tk)) fun D σ H h => ?_
  obtain ⟨M, r, Pr, ev, rs, oa, R, o, rs', e, w⟩ := h
  rcases bnS_some e with ⟨d, rs1, e1, e2⟩ | ⟨x, j, e1, rfl⟩
  · cases e2
    exact R.evE R.e (fun b m => .inl m) e1 (fun d' ed v H' R' s dv => by cases ed; exact w v H' R'.prot (row_sub R'.e.row fun b m => .inl m) (dv.sub fun b m => .inl m)) fun _ _ ed => by cases ed
  · exact R.evE R.e (fun b m => .inl m) e1 (fun _ ed => by cases ed) fun y j ed => by cases ed; exact w
def pDrop (f : Ev → Mn D) (ev : Ev) : Ms := bnS (f ev) fun _ rs => some (.nx ev, rs)
theorem P_expr {e : Expr} {p : Pos} {f : Ev → Mn D} (h : SE G k sc N e f) (hs : ∀ env, swapsWith e none p.line env = pure false := by intro _; rfl) : SS G k sc N (.Expr e p) (pDrop f) := fun X W g tk po => by
  refine ps_imp (ps_expr (h X W g tk) (hs _)) fun D σ H h => ?_
  obtain ⟨M, r, Pr, ev, rs, oa, R, o, rs', e, w⟩ := h
  rcases bnS_some e with ⟨d, rs1, e1, e2⟩ | ⟨x, j, e1, rfl⟩
  · cases e2
    exact R.evE R.e (fun b m => .inl m) e1 (fun d' ed v H' R' s dv => w _ _ oa R') fun _ _ ed => by cases ed
  · exact R.evE R.e (fun b m => .inl m) e1 (fun _ ed => by cases ed) fun y j ed => by cases ed; exact w
def pIf (t : Ev → Mn Bool) (f g : Ev → Ms) (ev : Ev) : Ms := bnS (t ev) fun c => if c = true then f ev else g ev
theorem P_if {c : Expr} {a b : List Stmt} {p : Pos} {t : Ev → Mn Bool} {f g : Ev → Ms} (hc : ST G k sc N c t) (ha : SB G k sc N a f) (hb : SB G k sc N b g) : SS G k sc N (.If c a b p) (pIf t f g) := fun X W gd tk po => by
  refine ps_imp (ps_if (hc X W gd tk) (ha X W gd tk po) (hb X W gd tk po)) fun D σ H h => ?_
  obtain ⟨M, r, Pr, ev, rs, oa, R, o, rs', e, w⟩ := h
  rcases bnS_some e with ⟨c, rs1, e1, e2⟩ | ⟨x, j, e1, rfl⟩
  · refine ⟨_, r, ev, rs, R.e, .val c, rs1, e1, fun H' s w1 => ?_⟩
    have R' := R.stp s w1
    cases c with
    | true => rw [if_pos rfl] at e2; exact iteT ⟨M, r, Pr, ev, rs1, oa, R', o, rs', e2, w⟩
    | false => rw [if_neg (by decide)] at e2; exact iteF ⟨M, r, Pr, ev, rs1, oa, R', o, rs', e2, w⟩
  · exact ⟨_, r, ev, rs, R.e, .exc x j, rs', e1, fun cls dd H' s w1 a => w cls dd σ H' (R.stp s w1).prot (row_sub w1 fun b m => .inl m) a⟩
end
end DL
namespace DL
open PySem PySem.Spec PyProof.Rows L2
variable [Xk]
structure HasF (G : Gm) (x : Str) (st : Stmt) (ps : List Str) : Prop where
  ex : ∃ (f : Addr) (fd : FuncData), G.mg x = some (.ref f) ∧ Fun G.K x x st f fd ∧ Binds G.K fd ps []
section
variable {G : Gm} {k : Nat}
theorem fo_has {x : Str} {st : Stmt} {N ps : List Str} {den : Ev → Ms} (h : HasF G x st ps) (S : FnScope N ps (defScope st)) (b : SB G k ⟨defScope st, fun _ => true⟩ N (defBody st) den) (hl : N.contains ("<lambda>" : Str) = false := by rfl) : FO G (k + 1) x ps.length (dFun ps.length N.length den) := by
  obtain ⟨f, fd, h1, h2, h3⟩ := h.ex
  exact fo_of h1 h2 S h3 b hl
/-- nothing is said -/
theorem fo_zero {x : Str} {st : Stmt} {ps : List Str} {n : Nat} (h : HasF G x st ps) (hn : ps.length = n) : FO G k x n (fun _ _ => none) := by
  obtain ⟨f, fd, h1, h2, h3⟩ := h.ex
  have no : ∀ {vs H Q E}, ¬ spF G n (fun _ _ => none) vs H Q E := fun {vs H Q E} h => by
    obtain ⟨_, _, _, _, _, _, _, _, _, _, _, e, _⟩ := h
    cases e
  exact ⟨f, fd, ps, h1, h2.kp, h3, hn, ⟨fun vs H Q E q => absurd q no, fun A outer s H args us vs Q E _ _ _ _ q => absurd q no⟩⟩
end
mutual
inductive KDa (K : PySem.W.Frag) : Value → D → Prop
  | non : KDa K .none .none
  | bl (b : Bool) : KDa K (.bool b) (.bool b)
  | int (i : Int) (t : Tok) : KDa K (.int i t) (.int i)
  | str (x : Str) (t : Tok) : KDa K (.str x t) (.str x)
  | tup {a : Addr} {dd : Option Addr} {its : Array Value} {n : Nat} {sl : Array (Option Value)} {ds : List D} (h : K.lookup a = some ⟨.type "tuple", dd, .seq its n, sl⟩) (hs : its.size ≤ sizeLine) (t : KDaL K its.toList ds) : KDa K (.ref a) (.tuple ds)
inductive KDaL (K : PySem.W.Frag) : List Value → List D → Prop
  | nil : KDaL K [] []
  | cons {v : Value} {vs : List Value} {d : D} {ds : List D} (h : KDa K v d) (t : KDaL K vs ds) : KDaL K (v :: vs) (d :: ds)
end
mutual
theorem KDa.da {K : PySem.W.Frag} {M : Addr → Prop} {H : Hp} : ∀ {u : Value} {d : D}, KDa K u d → ∃ v, absV u = some v ∧ RelV v u ∧ Da K M H v d
  | _, _, .non => ⟨.non, rfl, rfl, .non⟩
  | _, _, .bl b => ⟨.bl b, rfl, rfl, .bl b⟩
  | _, _, .int i t => ⟨.int i, rfl, ⟨t, rfl⟩, .int i⟩
  | _, _, .str x t => ⟨.str x, rfl, ⟨t, rfl⟩, .str x⟩
  | _, _, .tup (a := a) h hs t => by
    obtain ⟨vs, r, q⟩ := KDaL.da (M := M) (H := H) t
    exact ⟨.ref a, rfl, rfl, .tup (.inr ⟨_, _, _, h, rfl, rfl, hs, r⟩) q⟩
theorem KDaL.da {K : PySem.W.Frag} {M : Addr → Prop} {H : Hp} : ∀ {us : List Value} {ds : List D}, KDaL K us ds → ∃ vs, Vals vs us ∧ DaL K M H vs ds
  | _, _, .nil => ⟨[], .nil, .nil⟩
  | _, _, .cons h t => by
    obtain ⟨v, _, r, q⟩ := KDa.da (M := M) (H := H) h
    obtain ⟨vs, rs, qs⟩ := KDaL.da (M := M) (H := H) t
    exact ⟨v :: vs, .cons r rs, .cons q qs⟩
end
theorem KDa.all {K : PySem.W.Frag} {u : Value} {d : D} (h : KDa K u d) : ∃ v, RelV v u ∧ ∀ M H, Da K M H v d := by
  obtain ⟨v, a, r, _⟩ := h.da (M := fun _ => False) (H := fun _ => none)
  refine ⟨v, r, fun M H => ?_⟩
  obtain ⟨v', a', _, q⟩ := h.da (M := M) (H := H)
  rw [a] at a'
  cases a'
  exact q
theorem GlD.mk' {G : Gm} {x : Str} {u : Value} {d : D} (h : G.mg x = some u) (q : KDa G.K u d) : GlD G x d := by
  obtain ⟨v, r, z⟩ := q.all
  exact ⟨u, v, h, r, z⟩
inductive KEs (K : PySem.W.Frag) : List DictEntry → KTab → Prop
  | nil : KEs K [] []
  | cons {h : Int} {x : Str} {t : Tok} {v : Value} {d : D} {es : List DictEntry} {tb : KTab} (hv : KDa K v d) (r : KEs K es tb) : KEs K (⟨h, .str x t, v⟩ :: es) ((x, d) :: tb)
theorem KEs.look {K : PySem.W.Frag} : ∀ {es : List DictEntry} {tb : KTab}, KEs K es tb → ∀ z : Str, (match List.lookup z tb with
    | some dd => ∃ e, es.find? (·.key.isStr z) = some e ∧ KDa K e.val dd
    | none => es.find? (·.key.isStr z) = none ∧ es.any (·.refKey) = false)
  | _, _, .nil, z => ⟨rfl, rfl⟩
  | _, _, .cons (h := h) (x := x) (t := t) (v := v) (d := d) (es := es) (tb := tb) hv r, z => by
    have ih := KEs.look r z
    have k1 : (⟨h, Value.str x t, v⟩ : DictEntry).key.isStr z = (x == z) := rfl
    have k2 : (⟨h, Value.str x t, v⟩ : DictEntry).refKey = false := rfl
    by_cases hz : z = x
    · subst hz
      have e1 : List.lookup z ((z, d) :: tb) = some d := by simp [List.lookup]
      rw [e1]
      exact ⟨⟨h, .str z t, v⟩, by rw [List.find?_cons, k1]; simp, hv⟩
    · have b1 : (z == x) = false := by simpa using hz
      have b2 : (x == z) = false := by simpa using Ne.symm hz
      have e1 : List.lookup z ((x, d) :: tb) = List.lookup z tb := by simp [List.lookup, b1]
      have e2 : (⟨h, Value.str x t, v⟩ :: es : List DictEntry).find? (·.key.isStr z) = es.find? (·.key.isStr z) := by rw [List.find?_cons, k1, b2]
      rw [e1, e2]
      cases q : List.lookup z tb with
      | some dd => rw [q] at ih; exact ih
      | none =>
        rw [q] at ih
        exact ⟨ih.1, by rw [List.any_cons, k2, ih.2]; rfl⟩
theorem GlK.mk' {G : Gm} {x : Str} {d : Addr} {es : Array DictEntry} {n : Nat} {tb : KTab} (h : G.mg x = some (.ref d)) (hl : G.K.lookup d = some ⟨.type "dict", none, .dict es n, #[]⟩) (lit : PySem.W.KeysLit G.w.params es.toList) (low : (d == sysModules) = false) (q : KEs G.K es.toList tb) : GlK G x tb := by
  refine ⟨d, es, n, h, ⟨hl, lit, low⟩, fun z => ?_⟩
  have q' := q.look z
  have un : PySem.W.nsIn G.K d z = (match es.toList.find? (·.key.isStr z) with
      | some e => some (some e.val)
      | none => if es.toList.any (·.refKey) then none else some none) := by
    unfold PySem.W.nsIn
    rw [hl]
    rfl
  cases hz : List.lookup z tb with
  | some dd =>
    rw [hz] at q'
    obtain ⟨e, e1, e2⟩ := q'
    obtain ⟨v, r, a⟩ := e2.all
    exact ⟨e.val, v, by rw [un, e1], r, a⟩
  | none =>
    rw [hz] at q'
    rw [un, q'.1, q'.2]
    rfl
theorem ExcF.mk' {G : Gm} {x : Str} {C : Addr} (h1 : G.mg x = some (.ref C)) (h2 : PySem.W.excIn G.K C [.type "ValueError", .type "Exception", .type "BaseException", .type "object"] "ValueError.__new__" = true) (h3 : PySem.W.keepIn G.K (.ref C) = true)
    (h4 : PySem.W.subIn G.K (.ref C) (.type "BaseException") = some true) (h5 : PySem.W.typeIn G.K (.ref C) = some (.type "type")) : ExcF G x := ⟨C, h1, h2, h3, h4, h5⟩
theorem HasF.mk' {G : Gm} {x : Str} {st : Stmt} {ps : List Str} {f : Addr} {oc kV doc pm cdv ct : Value} {od an : Option Addr} {osl : Array (Option Value)} (h1 : G.mg x = some (.ref f))
    (l : G.K.lookup f = some ⟨oc, od, .func (PySem.W.fnOf x x (defArgs st) (defBody st) (defScope st) .none kV doc pm an cdv ct), osl⟩) (c : PySem.W.codeIn G.K cdv x = true) (k : PySem.W.keepIn G.K (.ref f) = true)
    (b : ∀ (kV doc pm : Value) (an : Option Addr) (cdv ct : Value) (us : List Value), us.length = ps.length → bindArgs (PySem.W.fnOf x x (defArgs st) (defBody st) (defScope st) .none kV doc pm an cdv ct) ⟨us, []⟩ = pure (ps.zip us)) : HasF G x st ps := by
  have F := fun_mk (st := st) l c k
  exact ⟨f, _, h1, F, F.binds b⟩
end DL
namespace DL
open PySem PySem.Spec PyProof.Rows L2
variable [Xk]
def nxM (ev : Ev) : Ms := fun rs => some (.nx ev, rs)
def rtM (d : D) : Ms := fun rs => some (.ret d, rs)
def exM (x : Str) (i : Option Int) : Ms := fun rs => some (.exc x i, rs)
def exc {α : Type} (x : Str) (i : Option Int) : Mn α := fun rs => some (.exc x i, rs)
def stk {α : Type} : Mn α := fun _ => none
def stS : Ms := fun _ => none
def sq (m : Ms) (g : Ev → Ms) : Ms := fun rs => match m rs with
  | some (.nx ev', rs') => g ev' rs'
  | q => q
def fin (m : Ms) : Mn D := fun rs => match m rs with
  | some (.nx _, rs') => some (.val .none, rs')
  | some (.ret d, rs') => some (.val d, rs')
  | some (.exc x i, rs') => some (.exc x i, rs')
  | _ => none
section
variable {α β γ : Type} {ev : Ev} {f g : Ev → Ms}
@[simp] theorem bnd_pur (a : α) (k : α → Mn β) : bnd (pur a) k = k a := rfl
@[simp] theorem bnd_exc (x : Str) (i : Option Int) (k : α → Mn β) : bnd (exc x i) k = exc x i := rfl
@[simp] theorem bnd_stk (k : α → Mn β) : bnd stk k = stk := rfl
@[simp] theorem bnS_pur (a : α) (k : α → Ms) : bnS (pur a) k = k a := rfl
@[simp] theorem bnS_exc (x : Str) (i : Option Int) (k : α → Ms) : bnS (exc x i) k = exM x i := rfl
@[simp] theorem bnS_stk (k : α → Ms) : bnS stk k = stS := rfl
theorem bnd_bnd (m : Mn α) (k : α → Mn β) (h : β → Mn γ) : bnd (bnd m k) h = bnd m fun a => bnd (k a) h := by
  funext rs
  unfold bnd
  cases m rs with
  | none => rfl
  | some q =>
    obtain ⟨q1, q2⟩ := q
    cases q1 <;> rfl
theorem bnS_bnd (m : Mn α) (k : α → Mn β) (h : β → Ms) : bnS (bnd m k) h = bnS m fun a => bnS (k a) h := by
  funext rs
  unfold bnS bnd
  cases m rs with
  | none => rfl
  | some q =>
    obtain ⟨q1, q2⟩ := q
    cases q1 <;> rfl
@[simp] theorem lft_some' (a : α) : lft (some a) = pur a := rfl
@[simp] theorem lft_none : lft (none : Option α) = stk := rfl
@[simp] theorem bnd_ite (c : Prop) [Decidable c] (a b : Mn α) (k : α → Mn β) : bnd (if c then a else b) k = if c then bnd a k else bnd b k := by split <;> rfl
@[simp] theorem bnS_ite (c : Prop) [Decidable c] (a b : Mn α) (k : α → Ms) : bnS (if c then a else b) k = if c then bnS a k else bnS b k := by split <;> rfl
@[simp] theorem sq_nx (e : Ev) : sq (nxM e) g = g e := rfl
@[simp] theorem sq_rt (d : D) : sq (rtM d) g = rtM d := rfl
@[simp] theorem sq_ex (x : Str) (i : Option Int) : sq (exM x i) g = exM x i := rfl
@[simp] theorem sq_st : sq stS g = stS := rfl
@[simp] theorem sq_ite (c : Prop) [Decidable c] (a b : Ms) : sq (if c then a else b) g = if c then sq a g else sq b g := by split <;> rfl
theorem sq_bnS (m : Mn α) (k : α → Ms) : sq (bnS m k) g = bnS m fun a => sq (k a) g := by
  funext rs
  unfold sq bnS
  cases m rs with
  | none => rfl
  | some q =>
    obtain ⟨q1, q2⟩ := q
    cases q1 <;> rfl
@[simp] theorem fin_nx (e : Ev) : fin (nxM e) = pur .none := rfl
@[simp] theorem fin_rt (d : D) : fin (rtM d) = pur d := rfl
@[simp] theorem fin_ex (x : Str) (i : Option Int) : fin (exM x i) = exc x i := rfl
@[simp] theorem fin_st : fin stS = stk := rfl
@[simp] theorem fin_ite (c : Prop) [Decidable c] (a b : Ms) : fin (if c then a else b) = if c then fin a else fin b := by split <;> rfl
theorem fin_bnS (m : Mn α) (k : α → Ms) : fin (bnS m k) = bnd m fun a => fin (k a) := by
  funext rs
  unfold fin bnS bnd
  cases m rs with
  | none => rfl
  | some q =>
    obtain ⟨q1, q2⟩ := q
    cases q1 <;> rfl
theorem dFun_eq (n m : Nat) (f : Ev → Ms) (ss : List Slot) : dFun n m f ss = if ss.length = n then fin (f (ss ++ List.replicate (m - n) .hid)) else stk := by
  funext rs
  unfold dFun
  split
  · rfl
  · rfl
@[simp] theorem seqM_eq (f g : Ev → Ms) : seqM f g ev = sq (f ev) g := rfl
@[simp] theorem sNil_eq : sNil ev = nxM ev := rfl
@[simp] theorem pRet_eq (f : Ev → Mn D) : pRet f ev = bnS (f ev) rtM := rfl
@[simp] theorem sRet_eq (f : Ev → Mn D) : sRet f ev = bnS (f (lend ev)) rtM := rfl
@[simp] theorem sRetN_eq : sRetN ev = rtM .none := rfl
@[simp] theorem pSet_eq (i : Nat) (f : Ev → Mn D) : pSet i f ev = bnS (f ev) fun d => nxM (ev.set i (.dat d)) := rfl
@[simp] theorem pDrop_eq (f : Ev → Mn D) : pDrop f ev = bnS (f ev) fun _ => nxM ev := rfl
@[simp] theorem pIf_eq (t : Ev → Mn Bool) : pIf t f g ev = bnS (t ev) fun c => if c = true then f ev else g ev := rfl
@[simp] theorem sIf_eq (t : Ev → Mn Bool) : sIf t f g ev = bnS (t (lend ev)) fun c => if c = true then f ev else g ev := rfl
@[simp] theorem sRaise_eq (x : Str) : sRaise x ev = exM x none := rfl
@[simp] theorem pTgt_eq (t : Tgt) (f : Ev → Mn D) : pTgt t f ev = bnS (bnd (f ev) fun d => lft (t.of d)) fun ds => nxM (setE ev t.ix ds) := rfl
theorem pPar_eq (i j : Nat) (f : Ev → Mn (List Slot)) : pPar i j f ev = bnS (bnd (f ev) fun ss => lft (dats ss)) fun ds => match ds with
  | [d, e] => nxM ((ev.set i (.dat d)).set j (.dat e))
  | _ => stS := by
  unfold pPar
  congr 1
  funext ds
  rcases ds with _ | ⟨a, _ | ⟨b, _ | ⟨c, t⟩⟩⟩ <;> rfl
@[simp] theorem dVar_eq (i : Nat) : dVar i ev = lft (getE ev i) := rfl
@[simp] theorem dLit_eq (d : D) : dLit d ev = pur d := rfl
@[simp] theorem dNil_eq : dNil ev = pur [] := rfl
@[simp] theorem dCons_eq (f : Ev → Mn D) (g : Ev → Mn (List Slot)) : dCons f g ev = bnd (f ev) fun d => bnd (g ev) fun ss => pur (.dat d :: ss) := rfl
@[simp] theorem dRow_eq (i : Nat) (g : Ev → Mn (List Slot)) : dRow i g ev = if isRow ev[i]? = true then bnd (g ev) fun ss => pur (.row :: ss) else stk := rfl
@[simp] theorem dTup_eq (f : Ev → Mn (List Slot)) : dTup f ev = bnd (f ev) fun ss => lft (if ss.length ≤ sizeLine then (dats ss).map .tuple else none) := rfl
@[simp] theorem dLst_eq (f : Ev → Mn (List Slot)) : dLst f ev = bnd (f ev) fun ss => lft (if ss.length ≤ sizeLine then (dats ss).map .list else none) := rfl
@[simp] theorem dCl_eq (n : Nat) (φ : List Slot → Mn D) (f : Ev → Mn (List Slot)) : dCl n φ f ev = bnd (f ev) fun ss => if ss.length = n then φ ss else stk := rfl
@[simp] theorem dBin_eq (op : D → D → Option D) (fa fb : Ev → Mn D) : dBin op fa fb ev = bnd (fa ev) fun x => bnd (fb ev) fun y => lft (op x y) := rfl
@[simp] theorem dUn_eq (op : D → Option D) (fa : Ev → Mn D) : dUn op fa ev = bnd (fa ev) fun x => lft (op x) := rfl
@[simp] theorem dCmp_eq (op : D → D → Option Bool) (fa fb : Ev → Mn D) : dCmp op fa fb ev = bnd (fa ev) fun x => bnd (fb ev) fun y => lft (op x y) := rfl
@[simp] theorem dCmpE_eq (op : D → D → Option Bool) (fa fb : Ev → Mn D) : dCmpE op fa fb ev = bnd (fa ev) fun x => bnd (fb ev) fun y => lft ((op x y).map .bool) := rfl
@[simp] theorem dTru_eq (f : Ev → Mn D) : dTru f ev = bnd (f ev) fun x => lft (truD x) := rfl
@[simp] theorem dAnd_eq (fa fb : Ev → Mn Bool) : dAnd fa fb ev = bnd (fa ev) fun c => if c = true then fb ev else pur false := rfl
@[simp] theorem dOr_eq (fa fb : Ev → Mn Bool) : dOr fa fb ev = bnd (fa ev) fun c => if c = true then pur true else fb ev := rfl
@[simp] theorem dNot_eq (f : Ev → Mn Bool) : dNot f ev = bnd (f ev) fun c => pur (!c) := rfl
@[simp] theorem dAndV_eq (fa fb : Ev → Mn D) : dAndV fa fb ev = bnd (fa ev) fun x => bnd (lft (truD x)) fun c => if c = true then fb ev else pur x := rfl
@[simp] theorem dOrV_eq (fa fb : Ev → Mn D) : dOrV fa fb ev = bnd (fa ev) fun x => bnd (lft (truD x)) fun c => if c = true then pur x else fb ev := rfl
@[simp] theorem dNotV_eq (f : Ev → Mn D) : dNotV f ev = bnd (f ev) fun x => lft ((truD x).map fun c => .bool (!c)) := rfl
@[simp] theorem dIf_eq (t : Ev → Mn Bool) (fa fb : Ev → Mn D) : dIf t fa fb ev = bnd (t ev) fun c => if c = true then fa ev else fb ev := rfl
@[simp] theorem dChain_eq (p q : D → D → Option Bool) (fa fb fc : Ev → Mn D) : dChain p q fa fb fc ev = bnd (fa ev) fun x => bnd (fb ev) fun y => bnd (lft (p x y)) fun c => if c = true then bnd (fc ev) fun z => lft ((q y z).map .bool) else pur (.bool false) := rfl
@[simp] theorem dChainT_eq (p q : D → D → Option Bool) (fa fb fc : Ev → Mn D) : dChainT p q fa fb fc ev = bnd (fa ev) fun x => bnd (fb ev) fun y => bnd (lft (p x y)) fun c => if c = true then bnd (fc ev) fun z => lft (q y z) else pur false := rfl
@[simp] theorem dFn_eq (op : List D → Option D) (f : Ev → Mn (List Slot)) : dFn op f ev = bnd (f ev) fun ss => lft ((dats ss).bind op) := rfl
@[simp] theorem dIsi_eq (ts : List Ty) (f : Ev → Mn D) : dIsi ts f ev = bnd (f ev) fun d => pur (.bool (ts.any (isA d))) := rfl
@[simp] theorem dRng_eq (op : List D → Option (List D)) (f : Ev → Mn (List Slot)) : dRng op f ev = bnd (f ev) fun ss => lft ((dats ss).bind op) := rfl
@[simp] theorem dItm_eq (f : Ev → Mn D) : dItm f ev = bnd (f ev) fun x => lft (itmD x) := rfl
@[simp] theorem dKget_eq (t : KTab) (f : Ev → Mn D) : dKget t f ev = bnd (f ev) fun y => lft (kgetD t y) := rfl
@[simp] theorem dKin_eq (t : KTab) (f : Ev → Mn D) : dKin t f ev = bnd (f ev) fun y => lft (kinD t y) := rfl
@[simp] theorem dKnin_eq (t : KTab) (f : Ev → Mn D) : dKnin t f ev = bnd (f ev) fun y => lft ((kinD t y).map (!·)) := rfl
@[simp] theorem dYes_eq : dYes ev = pur true := rfl
@[simp] theorem dComp_eq (own : List Nat) (src : Ev → Mn (List D)) (t : Tgt) (c : Ev → Mn Bool) (e : Ev → Mn D) : dComp own src t c e ev = bnd (src ev) fun ds => bnd (compGo t c e (wipeE ev own) ds) fun out => lft (if out.length ≤ sizeLine then some (.list out) else none) := rfl
@[simp] theorem nox_pur (a : α) : nox (pur a) = pur a := rfl
@[simp] theorem nox_ite (c : Prop) [Decidable c] (a b : Mn α) : nox (if c then a else b) = if c then nox a else nox b := by split <;> rfl
@[simp] theorem nox_stk : nox (stk : Mn α) = stk := rfl
@[simp] theorem compGo_nil (t : Tgt) (c : Ev → Mn Bool) (e : Ev → Mn D) : compGo t c e ev [] = pur [] := rfl
@[simp] theorem compGo_cons (t : Tgt) (c : Ev → Mn Bool) (e : Ev → Mn D) (d : D) (ds : List D) : compGo t c e ev (d :: ds) = bnd (lft (t.of d)) fun es => bnd (nox (c (setE ev t.ix es))) fun b =>
    if b = true then bnd (nox (e (setE ev t.ix es))) fun x => bnd (compGo t c e ev ds) fun xs => pur (x :: xs) else compGo t c e ev ds := rfl
@[simp] theorem tgt_name (i : Nat) (d : D) : (Tgt.name i).of d = some [d] := rfl
@[simp] theorem tgt_tup (is : List Nat) (ds : List D) : (Tgt.tup is).of (.tuple ds) = if ds.length = is.length then some ds else none := rfl
@[simp] theorem tix_name (i : Nat) : (Tgt.name i).ix = [i] := rfl
@[simp] theorem tix_tup (is : List Nat) : (Tgt.tup is).ix = is := rfl
@[simp] theorem setE_nil (ds : List D) : setE ev [] ds = ev := rfl
@[simp] theorem setE_nil2 (is : List Nat) : setE ev is [] = ev := by cases is <;> rfl
@[simp] theorem setE_cons (i : Nat) (is : List Nat) (d : D) (ds : List D) : setE ev (i :: is) (d :: ds) = setE (ev.set i (.dat d)) is ds := rfl
@[simp] theorem wipe_nil : wipeE ev [] = ev := rfl
@[simp] theorem wipe_cons (v : Nat) (vs : List Nat) : wipeE ev (v :: vs) = (wipeE ev vs).set v .hid := rfl
@[simp] theorem getE_z (d : D) (r : Ev) : getE (.dat d :: r) 0 = some d := rfl
@[simp] theorem getE_s (s : Slot) (r : Ev) (i : Nat) : getE (s :: r) (i + 1) = getE r i := by unfold getE; rw [List.getElem?_cons_succ]
@[simp] theorem dats_nil : dats [] = some [] := rfl
@[simp] theorem dats_cons (d : D) (ss : List Slot) : dats (.dat d :: ss) = (dats ss).map (d :: ·) := rfl
@[simp] theorem isRow_row : isRow (some .row) = true := rfl
@[simp] theorem lend_nil : lend [] = [] := rfl
@[simp] theorem lend_cons (s : Slot) (r : Ev) : lend (s :: r) = lendS s :: lend r := rfl
@[simp] theorem lendS_d (d : D) : lendS (.dat d) = .dat d := rfl
@[simp] theorem lendS_h : lendS .hid = .hid := rfl
@[simp] theorem lendS_r : lendS .row = .row := rfl
@[simp] theorem lendS_o (ds : List D) : lendS (.own ds) = .dat (.list ds) := rfl
@[simp] theorem size_ok (n : Nat) (h : n ≤ 1000 := by decide) : n ≤ sizeLine := Nat.le_of_lt (small1000 h)
end
end DL
namespace DL
open PySem PySem.Spec PyProof.Rows L2
variable [Xk]
theorem ofString_inj {s t : String} (h : Str.ofString s = Str.ofString t) : s = t := by
  rw [Str.ofString_eq_toList, Str.ofString_eq_toList] at h
  have h1 : (s.toList.map Char.toNat).toArray = (t.toList.map Char.toNat).toArray := congrArg Str.cps h
  have h2 : s.toList.map Char.toNat = t.toList.map Char.toNat := by simpa using h1
  have inj : ∀ a b : Char, a.toNat = b.toNat → a = b := fun a b e => Char.ext (UInt32.toNat_inj.mp e)
  have go : ∀ {l m : List Char}, l.map Char.toNat = m.map Char.toNat → l = m := by
    intro l
    induction l with
    | nil => intro m h; cases m with
      | nil => rfl
      | cons b m => simp at h
    | cons a l ih => intro m h; cases m with
      | nil => simp at h
      | cons b m =>
        simp only [List.map_cons, List.cons.injEq] at h
        rw [inj a b h.1, ih h.2]
  exact String.ext (go h2)
@[simp] theorem beqS (s t : String) : (Str.ofString s == Str.ofString t) = (s == t) := by
  by_cases h : s = t
  · subst h; simp
  · have h2 : Str.ofString s ≠ Str.ofString t := fun e => h (ofString_inj e)
    have e1 : (s == t) = false := by simpa using h
    have e2 : (Str.ofString s == Str.ofString t) = false := by simpa using h2
    rw [e1, e2]
@[simp] theorem eqS (s t : String) : (Str.ofString s = Str.ofString t) = (s = t) := by
  apply propext
  exact ⟨ofString_inj, fun h => by rw [h]⟩
theorem strOk_of (s : String) : PyData.strOk (Str.ofString s) = true := by
  rw [Str.ofString_eq_toList]
  unfold PyData.strOk
  simp only [List.all_toArray, List.all_eq_true, List.mem_map, decide_eq_true_eq]
  rintro x ⟨c, _, rfl⟩
  have h : c.val.toNat.isValidChar := c.valid
  unfold Nat.isValidChar at h
  show c.val.toNat < 1114112
  omega
@[simp] theorem lay_str (s : String) : PyData.canLay0 (.str (Str.ofString s)) = true := by simp [PyData.canLay0, strOk_of]
theorem sh_none : SeqAt.shaped .none = true := by simp [SeqAt.shaped, PyData.canLay0, PyData.depth]
theorem sh_bool (b : Bool) : SeqAt.shaped (.bool b) = true := by simp [SeqAt.shaped, PyData.canLay0, PyData.depth]
theorem sh_int (i : Int) : SeqAt.shaped (.int i) = true := by simp [SeqAt.shaped, PyData.canLay0, PyData.depth]
@[simp] theorem eq_ss (s t : String) : eqD (.str (Str.ofString s)) (.str (Str.ofString t)) = some (s == t) := by simp [eqD, SeqAt.shaped, PyData.depth, PyData.eqv]
@[simp] theorem ne_ss (s t : String) : neD (.str (Str.ofString s)) (.str (Str.ofString t)) = some (!(s == t)) := by simp [neD, SeqAt.shaped, PyData.depth, PyData.eqv]
@[simp] theorem eq_ii (i j : Int) : eqD (.int i) (.int j) = some (i == j) := by simp [eqD, sh_int, PyData.eqv]
@[simp] theorem ne_ii (i j : Int) : neD (.int i) (.int j) = some (!(i == j)) := by simp [neD, sh_int, PyData.eqv]
@[simp] theorem eq_bb (i j : Bool) : eqD (.bool i) (.bool j) = some (i == j) := by simp [eqD, sh_bool, PyData.eqv]
@[simp] theorem ne_bb (i j : Bool) : neD (.bool i) (.bool j) = some (!(i == j)) := by simp [neD, sh_bool, PyData.eqv]
@[simp] theorem eq_nn : eqD .none .none = some true := by simp [eqD, sh_none, PyData.eqv]
@[simp] theorem eq_ni (j : Int) : eqD .none (.int j) = some false := by simp [eqD, sh_none, sh_int, PyData.eqv]
@[simp] theorem eq_in (j : Int) : eqD (.int j) .none = some false := by simp [eqD, sh_none, sh_int, PyData.eqv]
@[simp] theorem eq_nb (j : Bool) : eqD .none (.bool j) = some false := by simp [eqD, sh_none, sh_bool, PyData.eqv]
@[simp] theorem eq_bn (j : Bool) : eqD (.bool j) .none = some false := by simp [eqD, sh_none, sh_bool, PyData.eqv]
@[simp] theorem ev_ss (s t : String) : PyData.eqv (.str (Str.ofString s)) (.str (Str.ofString t)) = (s == t) := by simp [PyData.eqv]
@[simp] theorem ev_ii (i j : Int) : PyData.eqv (.int i) (.int j) = (i == j) := by simp [PyData.eqv]
@[simp] theorem ev_bb (i j : Bool) : PyData.eqv (.bool i) (.bool j) = (i == j) := by simp [PyData.eqv]
@[simp] theorem ev_nn : PyData.eqv .none .none = true := by simp [PyData.eqv]
@[simp] theorem ev_ns (t : Str) : PyData.eqv .none (.str t) = false := by simp [PyData.eqv]
@[simp] theorem ev_sn (t : Str) : PyData.eqv (.str t) .none = false := by simp [PyData.eqv]
@[simp] theorem ev_ni (t : Int) : PyData.eqv .none (.int t) = false := by simp [PyData.eqv]
@[simp] theorem ev_in (t : Int) : PyData.eqv (.int t) .none = false := by simp [PyData.eqv]
@[simp] theorem ev_is (i : Int) (t : Str) : PyData.eqv (.int i) (.str t) = false := by simp [PyData.eqv]
@[simp] theorem ev_si (i : Int) (t : Str) : PyData.eqv (.str t) (.int i) = false := by simp [PyData.eqv]
@[simp] theorem ev_nb (t : Bool) : PyData.eqv .none (.bool t) = false := by simp [PyData.eqv]
@[simp] theorem ev_bn (t : Bool) : PyData.eqv (.bool t) .none = false := by simp [PyData.eqv]
theorem in_tup (x : D) (ds : List D) (hx : inD.flatD x = true) (hd : ds.all inD.flatD = true) : inD x (.tuple ds) = some (ds.any fun z => PyData.eqv z x) := by simp [inD, hx, hd]
theorem atI_z (a : D) (l : List D) : atI (a :: l) 0 = some a := atI_nat (j := 0) rfl
theorem atI_1 (a b : D) (l : List D) : atI (a :: b :: l) 1 = some b := atI_nat (j := 1) rfl
theorem atI_2 (a b c : D) (l : List D) : atI (a :: b :: c :: l) 2 = some c := atI_nat (j := 2) rfl
theorem atI_3 (a b c d : D) (l : List D) : atI (a :: b :: c :: d :: l) 3 = some d := atI_nat (j := 3) rfl
theorem atI_4 (a b c d e : D) (l : List D) : atI (a :: b :: c :: d :: e :: l) 4 = some e := atI_nat (j := 4) rfl
@[simp] theorem ix_t0 (a : D) (l : List D) : ixD (.tuple (a :: l)) (.int 0) = some a := atI_z a l
@[simp] theorem ix_t1 (a b : D) (l : List D) : ixD (.tuple (a :: b :: l)) (.int 1) = some b := atI_1 a b l
@[simp] theorem ix_t2 (a b c : D) (l : List D) : ixD (.tuple (a :: b :: c :: l)) (.int 2) = some c := atI_2 a b c l
@[simp] theorem ix_t3 (a b c d : D) (l : List D) : ixD (.tuple (a :: b :: c :: d :: l)) (.int 3) = some d := atI_3 a b c d l
@[simp] theorem ix_t4 (a b c d e : D) (l : List D) : ixD (.tuple (a :: b :: c :: d :: e :: l)) (.int 4) = some e := atI_4 a b c d e l
@[simp] theorem ix_l0 (a : D) (l : List D) : ixD (.list (a :: l)) (.int 0) = some a := atI_z a l
@[simp] theorem ix_l1 (a b : D) (l : List D) : ixD (.list (a :: b :: l)) (.int 1) = some b := atI_1 a b l
@[simp] theorem ix_l2 (a b c : D) (l : List D) : ixD (.list (a :: b :: c :: l)) (.int 2) = some c := atI_2 a b c l
@[simp] theorem ix_l3 (a b c d : D) (l : List D) : ixD (.list (a :: b :: c :: d :: l)) (.int 3) = some d := atI_3 a b c d l
theorem cut_from (ds : List D) (k : Nat) : cutL ds (some (k : Int)) none = ds.drop k := by
  unfold cutL
  rw [HT.sIx_nat, HT.sIx_none]
  by_cases h : k ≤ ds.length
  · rw [Nat.min_eq_left h]
    apply List.take_of_length_le
    rw [List.length_drop]; exact Nat.le_refl _
  · have h' : ds.length ≤ k := by omega
    rw [Nat.min_eq_right h', List.drop_length, List.drop_eq_nil_of_le h']
    simp
@[simp] theorem sl_t1 (ds : List D) : slLo (.tuple ds) (.int 1) = some (.tuple (ds.drop 1)) := by
  show some (PyData.tuple (cutL ds (some ((1 : Nat) : Int)) none)) = _
  rw [cut_from]
@[simp] theorem sl_l1 (ds : List D) : slLo (.list ds) (.int 1) = some (.list (ds.drop 1)) := by
  show some (PyData.list (cutL ds (some ((1 : Nat) : Int)) none)) = _
  rw [cut_from]
end DL
namespace DL
open PySem PySem.Spec PyProof.Rows L2
variable [Xk]
def bkM (ev : Ev) : Ms := fun rs => some (.bk ev, rs)
def ctM (ev : Ev) : Ms := fun rs => some (.ct ev, rs)
/-- a turn's end, then the loop goes on -/
def wl (m : Ms) (k : Ev → Ms) : Ms := fun rs => match m rs with
  | some (.nx ev', rs') => k ev' rs'
  | some (.ct ev', rs') => k ev' rs'
  | some (.bk ev', rs') => some (.nx ev', rs')
  | some (.ret d, rs') => some (.ret d, rs')
  | some (.exc x i, rs') => some (.exc x i, rs')
  | none => none
def dynM (m n : Mn D) : Mn D := fun rs => match m rs with
  | some q => some q
  | none => match n rs with
    | some (.val d, rs') => if noL d = true then some (.val d, rs') else none
    | _ => none
section
variable {α β γ : Type} {ev : Ev} {f g : Ev → Ms} {k : Ev → Ms}
@[simp] theorem sq_bk (e : Ev) : sq (bkM e) g = bkM e := rfl
@[simp] theorem sq_ct (e : Ev) : sq (ctM e) g = ctM e := rfl
@[simp] theorem sBk_eq : sBk ev = bkM ev := rfl
@[simp] theorem sCt_eq : sCt ev = ctM ev := rfl
@[simp] theorem wl_nx (e : Ev) : wl (nxM e) k = k e := rfl
@[simp] theorem wl_ct (e : Ev) : wl (ctM e) k = k e := rfl
@[simp] theorem wl_bk (e : Ev) : wl (bkM e) k = nxM e := rfl
@[simp] theorem wl_rt (d : D) : wl (rtM d) k = rtM d := rfl
@[simp] theorem wl_ex (x : Str) (i : Option Int) : wl (exM x i) k = exM x i := rfl
@[simp] theorem wl_st : wl stS k = stS := rfl
@[simp] theorem wl_ite (c : Prop) [Decidable c] (a b : Ms) : wl (if c then a else b) k = if c then wl a k else wl b k := by split <;> rfl
theorem whileN_s (t : Ev → Mn Bool) (b : Ev → Ms) (n : Nat) : whileN t b (n + 1) ev = bnS (t (lend ev)) fun c => if c = true then wl (b ev) (whileN t b n) else nxM ev := rfl
@[simp] theorem forGo_nil (t : Tgt) (b : Ev → Ms) : forGo t b [] ev = nxM ev := rfl
@[simp] theorem forGo_cons (t : Tgt) (b : Ev → Ms) (d : D) (ds : List D) : forGo t b (d :: ds) ev = bnS (lft (t.of d)) fun es => wl (b (setE ev t.ix es)) (forGo t b ds) := by
  funext rs
  show (match t.of d with | none => none | some es => _) = _
  cases t.of d <;> rfl
theorem sFor_f (src : Ev → Mn (List D)) (t : Tgt) (b : Ev → Ms) : sFor false src t b ev = bnS (src ev) fun ds => forGo t b ds ev := rfl
@[simp] theorem dyn_eq (h : Ev → Mn D) : dyn h ev = dynM (h ev) (h (lend ev)) := rfl
@[simp] theorem dynM_pur (d : D) (n : Mn D) : dynM (pur d) n = pur d := rfl
@[simp] theorem dynM_stk (d : D) : dynM stk (pur d) = if noL d = true then pur d else stk := by
  funext rs
  show (if noL d = true then _ else _) = _
  split <;> rfl
@[simp] theorem sSet_eq (i : Nat) (h : Ev → Mn D) : sSet i h ev = bnS (dyn h ev) fun d => nxM (ev.set i (.dat d)) := rfl
@[simp] theorem sTgt_eq (t : Tgt) (h : Ev → Mn D) : sTgt t h ev = bnS (bnd (dyn h ev) fun d => lft (t.of d)) fun ds => nxM (setE ev t.ix ds) := rfl
@[simp] theorem sOwn_eq (i : Nat) (h : Ev → Mn (List Slot)) : sOwn i h ev = bnS (bnd (h ev) fun ss => lft (if ss.length ≤ sizeLine then dats ss else none)) fun ds => nxM (ev.set i (.own ds)) := rfl
@[simp] theorem sDrop_eq (h : Ev → Mn D) : sDrop h ev = bnS (h (lend ev)) fun _ => nxM ev := rfl
@[simp] theorem sApp_eq (i : Nat) (h : Ev → Mn D) : sApp i h ev = bnS (bnd (lft (getO ev i)) fun ds => bnd (dyn h ev) fun d => lft (if ds.length < sizeLine then some (ds ++ [d]) else none)) fun es => nxM (ev.set i (.own es)) := rfl
@[simp] theorem sExt_eq (i : Nat) (h : Ev → Mn D) : sExt i h ev = bnS (bnd (lft (getO ev i)) fun ds => bnd (h ev) fun d => lft ((lstD d).bind fun es => if ds.length + es.length ≤ sizeLine then some (ds ++ es) else none)) fun es => nxM (ev.set i (.own es)) := rfl
@[simp] theorem sPop_eq (j i : Nat) : sPop j i ev = bnS (lft ((getO ev i).bind fun ds => (ds[ds.length - 1]?).map fun d => (ds.dropLast, d))) fun q => nxM ((ev.set i (.own q.1)).set j (.dat q.2)) := rfl
def augD (op : Int → Int → Int) (a b : D) : Option D := match a, b with
  | .int x, .int y => some (PyData.int (op x y))
  | _, _ => none
@[simp] theorem sAug_eq (i : Nat) (h : Ev → Mn D) (op : Int → Int → Int) : sAug i h op ev = bnS (bnd (lft (getE ev i)) fun a => bnd (h (lend ev)) fun b => lft (augD op a b)) fun d => nxM (ev.set i (.dat d)) := rfl
@[simp] theorem augD_i (op : Int → Int → Int) (x y : Int) : augD op (.int x) (.int y) = some (.int (op x y)) := rfl
@[simp] theorem getO_z (ds : List D) (r : Ev) : getO (.own ds :: r) 0 = some ds := rfl
@[simp] theorem getO_s (s : Slot) (r : Ev) (i : Nat) : getO (s :: r) (i + 1) = getO r i := by unfold getO; rw [List.getElem?_cons_succ]
@[simp] theorem getE_own (ds : List D) (r : Ev) : getE (.own ds :: r) 0 = none := rfl
@[simp] theorem lstD_l (ds : List D) : lstD (.list ds) = some ds := rfl
end
end DL
namespace DL
open PySem PySem.Spec PyProof.Rows L2
variable [Xk]
def tk (m : Int) (rs : RS) : Int × RS :=
  if 0 < rs.c then (rs.c % m, { rs with c := rs.c / m })
  else if rs.ns.length ≤ rs.a then
    let b := (rs.b * 48271 + 11) % 2147483647
    ((b / 7) % m, { rs with a := rs.a + 1, b := b })
  else
    let cell := rs.ns.getD rs.a 0
    let b := (rs.b * 48271 + cell + 11) % 2147483647
    (cell % m, { rs with a := rs.a + 1, b := b, c := if 10 ^ 18 ≤ cell then cell / m else rs.c })
def tkF : List Slot → Mn D := fun ss rs => match ss with
  | [.row, .dat (.int m)] => if 0 < m ∧ m < 1073741824 then some (.val (.int (tk m rs).1), (tk m rs).2) else none
  | _ => none
theorem tk_range (m : Int) (rs : RS) (h : 0 < m) : 0 ≤ (tk m rs).1 ∧ (tk m rs).1 < m := by
  unfold tk
  split
  · exact ⟨Int.emod_nonneg _ (by omega), Int.emod_lt_of_pos _ h⟩
  · split
    · exact ⟨Int.emod_nonneg _ (by omega), Int.emod_lt_of_pos _ h⟩
    · exact ⟨Int.emod_nonneg _ (by omega), Int.emod_lt_of_pos _ h⟩
theorem tk_x (m : Int) (rs : RS) : (tk m rs).2.x = rs.x := by
  unfold tk
  split
  · rfl
  · split <;> rfl
/-- the row's heap, written -/
def rowV (r : Rw) (rs : RS) : List V := [.ref r.sc, .int (rs.a : Int), .int rs.b, .int rs.c]
theorem stp_upd {r : Rw} {H : Hp} {o : HO} : Stp r H (upd H r.a o) := fun b u n e => by rw [upd_ne fun z => n (.inl z)]; exact e
theorem row_put {K : PySem.W.Frag} {M : Addr → Prop} {H : Hp} {r : Rw} {rs rs' : RS} (mr : MR M r) (h : RowAt K M H r rs) (en : rs'.ns = rs.ns) (ex : rs'.x = rs.x) : RowAt K M (upd H r.a (.lst (rowV r rs'))) r rs' := by
  obtain ⟨⟨e, e', nk, ax⟩, q⟩ := h
  refine ⟨⟨upd_same, en.trans e', nk, ?_⟩, sqlm_kp q (stp_upd.kp mr)⟩
  rw [ex]
  exact ax_but ax nk (fun o z => by rw [e] at z; cases z; trivial) fun b o n z => by rw [upd_ne n]; exact z
end DL
namespace DL
open PySem PySem.Spec PyProof.Rows L2
variable [Xk]
section
variable {G : Gm} {k : Nat} {sc : Sx} {N : List Str} {X : Cx}
def nnD : D → Bool
  | .none => false
  | _ => true
theorem nnD_ne {d : D} (h : nnD d = true) : d ≠ .none := fun e => by subst e; cases h
def okLt (x y : D) : Bool := (PySem.W.alike x y && nnD x && decide (min x.depth y.depth ≤ 60)) && (x.plain && y.plain)
theorem okLt_pl {x y : D} (h : okLt x y = true) : x.plain = true ∧ y.plain = true := by
  unfold okLt at h
  exact Bool.and_eq_true_iff.mp (Bool.and_eq_true_iff.mp h).2
theorem okLt_un {x y : D} (h : okLt x y = true) : PySem.W.alike x y = true ∧ x ≠ .none ∧ min x.depth y.depth ≤ 60 := by
  unfold okLt at h
  simp only [Bool.and_eq_true, decide_eq_true_eq] at h
  exact ⟨h.1.1.1, nnD_ne h.1.1.2, h.1.2⟩
def rLtX (K : PySem.W.Frag) (f : D → D → Bool) : R2 := fun x y H Q => ∃ dx dy, Dp K H x dx ∧ Dp K H y dy ∧ okLt dx dy = true ∧ Q (.bl (f dx dy)) H
theorem op_gtX (hu : X.A.units + 65 < cLine) : OpR X (compareOp .Gt) (rLtX X.K fun x y => PySem.W.dataLt y x) := by
  intro pins s σ H x y v u Q I rx ry h
  obtain ⟨dx, dy, hx, hy, ok, q⟩ := h
  obtain ⟨ha, hn, hd⟩ := okLt_un ok
  obtain ⟨as, r1⟩ := Dp.reads I dx x v hx rx
  obtain ⟨bs, r2⟩ := Dp.reads I dy y u hy ry
  exact PySem.W.gt_data r1 r2 ha hn (by omega) ⟨.bl _, H, I, rfl, q⟩
def gtxD (x y : D) : Option Bool := if okLt x y = true then some (PySem.W.dataLt y x) else none
theorem c_gtx (hk : 1 ≤ k := by decide) : CmpR G k sc N .Gt gtxD := fun X g => ⟨_, op_gtX (units65 g hk), fun M H x y dx dy b Q ml hx hy e q => by
  unfold gtxD at e
  split at e
  · rename_i ok; cases e; rw [g.hK]; exact ⟨dx, dy, hx.dp (okLt_pl ok).1, hy.dp (okLt_pl ok).2, ok, q⟩
  · cases e⟩
def isTup1 : D → Bool
  | .tuple (_ :: _) => true
  | _ => false
def noTN : D → Bool
  | .none => false
  | .tuple _ => false
  | _ => true
def okSort (ds : List D) : Bool := ((ds.all fun d => ds.all fun e => PySem.W.alike d e) && (ds.all isTup1 || ds.all noTN) && ds.all fun d => decide (d.depth ≤ 60)) && PyData.plainAll ds
theorem okSort_pl {ds : List D} (h : okSort ds = true) : PyData.plainAll ds = true := by
  unfold okSort at h
  exact (Bool.and_eq_true_iff.mp h).2
theorem okSort_un {ds : List D} (h : okSort ds = true) : PySem.W.AllAlike ds ∧ PySem.W.Sortable ds ∧ ∀ d ∈ ds, d.depth ≤ 60 := by
  unfold okSort at h
  simp only [Bool.and_eq_true, Bool.or_eq_true, List.all_eq_true, decide_eq_true_eq] at h
  obtain ⟨⟨⟨h1, h2⟩, h3⟩, _⟩ := h
  refine ⟨fun d hd e he => h1 d hd e he, ?_, h3⟩
  rcases h2 with h2 | h2
  · refine .inl fun d hd => ?_
    have q := h2 d hd
    cases d with
    | tuple xs => cases xs with
      | nil => cases q
      | cons x r => exact ⟨x, r, rfl⟩
    | _ => cases q
  · refine .inr fun d hd => ?_
    have q := h2 d hd
    cases d with
    | none => cases q
    | tuple xs => cases q
    | _ => exact ⟨(fun z => by cases z), (fun xs z => by cases z)⟩
def srtD (ds : List D) : List D := ds.mergeSort (PySem.W.dataLe false fun d : D => d)
def sortedD : List D → Option D
  | [.list ds] => if okSort ds = true then some (.list (srtD ds)) else none
  | _ => none
def rSortX (K : PySem.W.Frag) : List V → Hp → VK → Prop := fun vs H Q => ∃ (a : Addr) (xs : List V) (ds : List D), vs = [.ref a] ∧ SqL K H a xs ∧ DpAll K H xs ds ∧ okSort ds = true ∧
  ∀ p, H p = none → Q (.ref p) (upd H p (.lst (((xs.zip ds).mergeSort (PySem.W.dataLe false Prod.snd)).map Prod.fst)))
theorem each_rel : ∀ {xs : List V} {us : List Value} {ds : List D}, Vals xs us → xs.length = ds.length → PySem.W.EachIs (fun v (b : V × D) => RelV b.1 v) us (xs.zip ds)
  | _, _, ds, .nil, _ => by simp; exact .nil
  | _, _, [], .cons h t, e => by simp at e
  | _, _, d :: ds, .cons h t, e => by
    simp only [List.zip_cons_cons]
    exact .cons h (each_rel t (by simpa using e))
theorem each_reads {pins : List (Addr × Obj)} {σ : L2.St} {H : Hp} {s : Shared} (I : Inv X pins σ H s) : ∀ {xs : List V} {us : List Value} {ds : List D}, Vals xs us → DpAll X.K H xs ds → PySem.W.EachIs (fun v (b : V × D) => ∃ as, Reads s.heap v b.2 as) us (xs.zip ds)
  | _, _, _, .nil, .nil => by simp; exact .nil
  | _, _, _, .cons h t, .cons h2 t2 => by
    simp only [List.zip_cons_cons]
    exact .cons (Dp.reads I _ _ _ h2 h) (each_reads I t t2)
theorem vals_each : ∀ {us : List Value} {L : List (V × D)}, PySem.W.EachIs (fun v (b : V × D) => RelV b.1 v) us L → Vals (L.map Prod.fst) us
  | _, _, .nil => .nil
  | _, _, .cons h t => .cons h (vals_each t)
theorem dpall_len {K : PySem.W.Frag} {H : Hp} : ∀ {xs : List V} {ds : List D}, DpAll K H xs ds → xs.length = ds.length
  | _, _, .nil => rfl
  | _, _, .cons _ t => congrArg (· + 1) (dpall_len t)
theorem zip_snd : ∀ {xs : List V} {ds : List D}, xs.length = ds.length → (xs.zip ds).map Prod.snd = ds
  | [], [], _ => rfl
  | x :: xs, d :: ds, e => by
    simp only [List.zip_cons_cons, List.map_cons]
    rw [zip_snd (by simpa using e)]
  | [], _ :: _, e => by simp at e
  | _ :: _, [], e => by simp at e
theorem cr_sortedX (hu : X.A.units + 65 < cLine) : CallR X (.builtin "sorted") (rSortX X.K) := by
  intro pins s σ H vs us Q I r h
  obtain ⟨a, xs, ds, rfl, hs, hd, ok, q⟩ := h
  obtain ⟨its, rv, hl, hz⟩ := I.list hs
  rw [Vals.ref1 r]
  obtain ⟨hal, hk, hdp⟩ := okSort_un ok
  have hlen := dpall_len hd
  have hsnd := zip_snd hlen
  have hzl : (xs.zip ds).length = xs.length := by rw [List.length_zip, hlen, Nat.min_self]
  refine PySem.W.sorted_data (enc := Prod.snd) hl.isList (each_rel rv hlen) (each_reads I rv hd) (by rw [hsnd]; exact hal) (by rw [hsnd]; exact hk) (by rw [hzl]; exact hz) (fun b hb => ?_) fun out ho eo => ?_
  · have m : b.2 ∈ ds := by rw [← hsnd]; exact List.mem_map.mpr ⟨b, hb, rfl⟩
    have := hdp _ m
    omega
  · obtain ⟨ep, he'⟩ := PyProof.Rows.sortedAll_at s.heap its out.toArray
    have hlen2 : (((xs.zip ds).mergeSort (PySem.W.dataLe false Prod.snd)).map Prod.fst).length ≤ sizeLine := by
      rw [List.length_map, List.length_mergeSort, hzl]; exact hz
    exact ⟨.ref _, upd H (s.heap.objs.size + 1) (.lst (((xs.zip ds).mergeSort (PySem.W.dataLe false Prod.snd)).map Prod.fst)), I.laid (t' := s.toks) (fun _ _ => PyProof.Rows.sortedAll_old) (Nat.le_succ _) ⟨hlen2, out, ep, vals_each eo, he'⟩, rfl, q _ (I.hok.fresh (Nat.le_succ _))⟩
theorem dal_pairs {K : PySem.W.Frag} {M : Addr → Prop} {H : Hp} : ∀ {L : List (V × D)}, (∀ p ∈ L, Da K M H p.1 p.2) → DaL K M H (L.map Prod.fst) (L.map Prod.snd)
  | [], _ => .nil
  | p :: L, h => .cons (h p (List.mem_cons_self)) (dal_pairs fun q hq => h q (List.mem_cons_of_mem _ hq))
theorem pairs_dal {K : PySem.W.Frag} {M : Addr → Prop} {H : Hp} : ∀ {xs : List V} {ds : List D}, DaL K M H xs ds → ∀ p ∈ xs.zip ds, Da K M H p.1 p.2
  | _, _, .nil, p, h => by simp at h
  | _, _, .cons h t, p, hp => by
    simp only [List.zip_cons_cons] at hp
    cases hp with
    | head => exact h
    | tail _ z => exact pairs_dal t p z
theorem e_sorted (hk : 1 ≤ k) {e : Expr} {f : Ev → Mn (List Slot)} {p pos : Pos} (ha : SA G k sc N [e] f) (hm : Mg0 G "sorted") (hg : glB sc "sorted" = true := by rfl) (he : ∀ env, starEach [e] env = (false, eval e env) :: starEach [] env := by intro _; rfl) :
    SE G k sc N (.Call (.Name "sorted" p) [e] [] pos) (dFn sortedD f) :=
  e_blt ha (fun X g => cr_sortedX (units65 g hk)) (fun X M H vs ds d Q g ml h e hq => by
    unfold sortedD at e
    split at e
    · rename_i ds'
      obtain ⟨v, rfl, h1⟩ := one_da h
      split at e
      · rename_i ok
        cases e
        cases h1 with
        | lst h2 n t =>
          rename_i xs
          refine ⟨_, _, _, rfl, .of h2, by rw [g.hK]; exact t.dp (okSort_pl ok), ok, fun p hp => hq _ _ (same_upd hp) (Da.newL ml hp ?_)⟩
          have e1 : srtD ds' = ((List.zip xs ds').mergeSort (PySem.W.dataLe false Prod.snd)).map Prod.snd := by
            unfold srtD
            have q := PySem.W.sort_maps (r := PySem.W.dataLe false Prod.snd) (s := PySem.W.dataLe false fun d : D => d) (Prod.snd : V × D → D) (l := xs.zip ds') (fun a _ b _ => rfl)
            rw [q, zip_snd t.length]
          rw [e1]
          exact dal_pairs fun q hq => pairs_dal t q (List.mem_mergeSort.mp hq)
      · cases e
    · cases e) (by decide +kernel) hm hg (by decide) (by decide) he (fun _ => rfl)
def intsD : List D → Option (List Int)
  | [] => some []
  | .int i :: ds => (intsD ds).map (i :: ·)
  | _ :: _ => none
theorem ints_da {K : PySem.W.Frag} {M : Addr → Prop} {H : Hp} : ∀ {vs : List V} {ds : List D} {ns : List Int}, DaL K M H vs ds → intsD ds = some ns → vs = ns.map V.int
  | _, _, _, .nil, e => by cases e; rfl
  | _, _, _, .cons h t, e => by
    cases h with
    | int i =>
      unfold intsD at e
      cases q : intsD _ with
      | none => rw [q] at e; cases e
      | some ns => rw [q] at e; cases e; rw [ints_da t q]; rfl
    | _ => cases e
def sumD : List D → Option D
  | [.list ds] => (intsD ds).map fun ns => .int ns.sum
  | _ => none
theorem e_sum {e : Expr} {f : Ev → Mn (List Slot)} {p pos : Pos} (ha : SA G k sc N [e] f) (hm : Mg0 G "sum") (hg : glB sc "sum" = true := by rfl) (he : ∀ env, starEach [e] env = (false, eval e env) :: starEach [] env := by intro _; rfl) :
    SE G k sc N (.Call (.Name "sum" p) [e] [] pos) (dFn sumD f) :=
  e_blt ha (fun X g => cr_sum g.calm) (fun X M H vs ds d Q g ml h e hq => by
    unfold sumD at e
    split at e
    · rename_i ds'
      obtain ⟨v, rfl, h1⟩ := one_da h
      cases h1 with
      | lst h2 n t =>
        cases q : intsD ds' with
        | none => rw [q] at e; cases e
        | some ns =>
          rw [q] at e; cases e
          have e2 := ints_da t q
          subst e2
          exact ⟨_, ns, rfl, .of h2, hq _ H (.refl _) (.int _)⟩
    · cases e) (by decide +kernel) hm hg (by decide) (by decide) he (fun _ => rfl)
end
end DL
namespace DL
open PySem PySem.Spec PyProof.Rows L2
variable [Xk]
section
variable {G : Gm} {k : Nat} {sc : Sx} {N : List Str} {X : Cx}
def okCnt (ds : List D) (d : D) : Bool := PyData.plainAll ds && d.plain && decide (min (PyData.depthAll ds) d.depth ≤ 60)
theorem okCnt_pl {ds : List D} {d : D} (h : okCnt ds d = true) : (PyData.list ds).plain = true ∧ d.plain = true := by
  unfold okCnt at h
  simp only [Bool.and_eq_true] at h
  exact ⟨h.1.1, h.1.2⟩
def cntD : D → D → Option D
  | .list ds, d => if okCnt ds d = true then some (.int (ds.countP fun z => PyData.eqv z d)) else none
  | _, _ => none
def rCntX (K : PySem.W.Frag) : V → List V → Hp → VK → Prop := fun x xs H Q => ∃ (a : Addr) (y : V) (ds : List D) (d : D), x = .ref a ∧ xs = [y] ∧ Dp K H (.ref a) (.list ds) ∧ Dp K H y d ∧ okCnt ds d = true ∧ Q (.int (ds.countP fun z => PyData.eqv z d)) H
theorem mt_cntX (hu : X.A.units + 65 < cLine) : MtR X "list.count" (rCntX X.K) := by
  intro pins s σ H x xs v us Q I rx rxs h
  obtain ⟨a, y, ds, d, rfl, rfl, hl, hy, ok, q⟩ := h
  cases rx
  cases rxs with
  | cons ry rt =>
    rename_i uy ut
    cases rt
    unfold okCnt at ok
    simp only [Bool.and_eq_true, decide_eq_true_eq] at ok
    obtain ⟨bs, r1⟩ := Dp.reads I d y uy hy ry
    cases hl with
    | lst hs ha =>
      obtain ⟨its, rv, pl, hlen⟩ := I.list hs
      obtain ⟨as, h4⟩ := Dp.readsAll I ds _ its ha rv
      exact PySem.SeqAt.count_list_data (vs := its.toArray) pl.isList (show ReadsAll s.heap its.toArray.toList ds as from h4) r1 ok.1.1 ok.1.2 (by omega) ⟨.int _, H, I.tok _, ⟨_, rfl⟩, q⟩
def isLst : D → Bool
  | .list _ => true
  | _ => false
def dMtL (op : D → D → Option D) (fo fe : Ev → Mn D) (ev : Ev) : Mn D := bnd (fo ev) fun x => if isLst x = true then bnd (fe ev) fun y => lft (op x y) else fun _ => none
@[simp] theorem dMtL_eq (op : D → D → Option D) (fo fe : Ev → Mn D) (ev : Ev) : dMtL op fo fe ev = bnd (fo ev) fun x => if isLst x = true then bnd (fe ev) fun y => lft (op x y) else stk := rfl
theorem e_count (hk : 1 ≤ k) {o e : Expr} {fo fe : Ev → Mn D} {ap cp : Pos} (ho : SE G k sc N o fo) (he : SE G k sc N e fe) (hbase : ∀ env, attributeBase o "count" env (eval o env) = eval o env := by intro _; rfl)
    (hfew : ∀ env, ((backTo cp (starEach [e] env)).all (fun x => !x.1) && (backToKw cp (keywordEach [] env)).all (fun x => x.1.isSome) && decide ([e].length + ([] : List Keyword).length + (if ([] : List Keyword).isEmpty then 0 else 1) < 30)) = true := by intro _; rfl)
    (hline : (ap.endLine == cp.line) = true := by rfl) (hs : ∀ env, starEach [e] env = (false, eval e env) :: starEach [] env := by intro _; rfl) (hpl : ∀ env, (backTo cp (starEach [] env)).any (·.1) = false := by intro _; rfl) :
    SE G k sc N (.Call (.Attribute o "count" ap) [e] [] cp) (dMtL cntD fo fe) := fun X W g tk => by
  refine pe_imp (pe_bm PySem.F.plainAttrs_list PySem.F.slot_list_count PySem.F.type_list_count (mt_cntX (units65 g hk)) (ho X W g tk) (pa_cons (he X W g tk) pa_nil (hs _)) (hbase _) (hfew _) hline (hs _) (hpl _)) fun σ H Q h => ?_
  obtain ⟨M, r, ev, rs, R, o, rs', e, w⟩ := h
  refine tE_bnd R e w fun x rs1 H1 v R1 s1 d1 e1 w1 => ?_
  cases x with
  | list ds =>
    cases d1 with
    | lst h1 n1 t1 =>
      have e1 : bnd (fe ev) (fun y => lft (cntD (.list ds) y)) rs1 = some (o, rs') := e1
      refine ⟨.inl ⟨rfl, _, .of h1⟩, tE_bnd R1 e1 w1 fun y rs2 H2 u R2 s2 d2 e2 w2 => ?_⟩
      obtain ⟨d, e3, rfl, rfl⟩ := lft_some e2
      have e3 : (if okCnt ds y = true then some (PyData.int (ds.countP fun z => PyData.eqv z y)) else none) = some d := e3
      split at e3
      · rename_i ok
        cases e3
        have d1' : Da G.K M H2 _ (.list ds) := (Da.lst h1 n1 t1).kp R1.ml (s2.kp R.mr)
        exact ⟨_, u, ds, y, rfl, rfl, by rw [g.hK]; exact d1'.dp (okCnt_pl ok).1, by rw [g.hK]; exact d2.dp (okCnt_pl ok).2, ok, w2 H2 (.refl _) R2.row _ (.int _)⟩
      · cases e3
  | _ => cases e1
def repL (n : Nat) (xs : List D) : List D := (List.replicate n xs).flatten
def mulxD : D → D → Option D
  | .int i, .int j => if (-(2 ^ 64) < i ∧ i < 2 ^ 64) ∨ (-(2 ^ 64) < j ∧ j < 2 ^ 64) then some (.int (i * j)) else none
  | .list xs, .int n => if -(2 ^ 63) ≤ n ∧ n < 2 ^ 63 ∧ xs.length * n.toNat ≤ sizeLine then some (.list (repL n.toNat xs)) else none
  | .tuple xs, .int n => if xs ≠ [] ∧ 2 ≤ n ∧ n ≤ 1000 ∧ xs.length ≤ 1000 then some (.tuple (repL n.toNat xs)) else none
  | _, _ => none
theorem DaL.rep {K : PySem.W.Frag} {M : Addr → Prop} {H : Hp} {vs : List V} {ds : List D} (h : DaL K M H vs ds) : ∀ n : Nat, DaL K M H (List.replicate n vs).flatten (repL n ds)
  | 0 => .nil
  | n + 1 => by
    unfold repL
    rw [List.replicate_succ, List.replicate_succ, List.flatten_cons, List.flatten_cons]
    exact h.append (h.rep n)
theorem e_mulx {a b : Expr} {fa fb : Ev → Mn D} {p : Pos} (ha : SE G k sc N a fa) (hb : SE G k sc N b fb) : SE G k sc N (.BinOp a .Mult b p) (dBin mulxD fa fb) := by
  refine e_bin ha hb (fun X ta tb g h1 h2 => pe_op (op_mul.or (op_rep.or op_repT)) h1 h2) fun X M H x y dx dy d Q g ml hx hy e hq => ?_
  cases hx with
  | int i =>
    cases hy with
    | int j =>
      have e : (if (-(2 ^ 64) < i ∧ i < 2 ^ 64) ∨ (-(2 ^ 64) < j ∧ j < 2 ^ 64) then some (PyData.int (i * j)) else none) = some d := e
      split at e
      · rename_i hl; cases e; exact .inl ⟨i, j, rfl, rfl, hl, hq _ H (.refl _) (.int _)⟩
      · cases e
    | _ => cases e
  | lst h n t =>
    cases hy with
    | int j =>
      rename_i a xs ds
      have e : (if -(2 ^ 63) ≤ j ∧ j < 2 ^ 63 ∧ ds.length * j.toNat ≤ sizeLine then some (PyData.list (repL j.toNat ds)) else none) = some d := e
      split at e
      · rename_i hl
        cases e
        exact .inr (.inl ⟨_, _, _, rfl, rfl, h, hl.1, hl.2.1, by rw [t.length]; exact hl.2.2, fun p hp => hq _ _ (same_upd hp) (Da.newL ml hp (t.rep _))⟩)
      · cases e
    | _ => cases e
  | tup h t =>
    cases hy with
    | int j =>
      rename_i a xs ds
      have e : (if ds ≠ [] ∧ 2 ≤ j ∧ j ≤ 1000 ∧ ds.length ≤ 1000 then some (PyData.tuple (repL j.toNat ds)) else none) = some d := e
      split at e
      · rename_i hl
        cases e
        refine .inr (.inr ⟨_, _, _, rfl, rfl, by rw [g.hK]; exact h, fun z => ?_, hl.2.1, hl.2.2.1, by rw [t.length]; exact hl.2.2.2, fun p hp => hq _ _ (same_upd hp) (Da.newT ml hp (t.rep _))⟩)
        subst z
        cases t
        exact hl.1 rfl
      · cases e
    | _ => cases e
  | _ => cases hy <;> cases e
section
end
end
end DL
namespace DL
open PySem PySem.Spec PyProof.Rows L2
variable [Xk]
def isLT : HO → Prop
  | .lst _ => True
  | .tup _ => True
  | .frz _ (.lst _) => True
  | .frz _ (.tup _) => True
  | .ext _ => True
  | .dK kvs => kvs ≠ []
  | _ => False
theorem tk_ne {K : PySem.W.Frag} {M : Addr → Prop} {H : Hp} {kvs : List (Str × D)} {xs : List V} (l : kvs ≠ [] ∧ (kvs.map (·.1)).Nodup) (t : DaL K M H xs (kvs.map (·.2))) : tkV (kvs.map (·.1)) xs ≠ [] := by
  cases kvs with
  | nil => exact absurd rfl l.1
  | cons k ks =>
    cases t with
    | cons h t => exact List.cons_ne_nil _ _
def KpLT (H H' : Hp) : Prop := ∀ b o, isLT o → H b = some o → H' b = some o
section
variable {K : PySem.W.Frag} {M : Addr → Prop} {H H' : Hp} {r : Rw} {rs : RS}
theorem sqt_lt (x : KpLT H H') {a : Addr} {xs : List V} (h : SqT K H a xs) : SqT K H' a xs := by
  rcases h with (h | ⟨o, h⟩) | h
  · exact .inl (.inl (x _ _ trivial h))
  · exact .inl (.inr ⟨o, x _ _ trivial h⟩)
  · exact .inr h
mutual
theorem Da.lt (x : KpLT H H') : ∀ {v : V} {d : D}, Da K M H v d → Da K M H' v d
  | _, _, .non => .non
  | _, _, .bl b => .bl b
  | _, _, .int i => .int i
  | _, _, .str z => .str z
  | _, _, .lst h n t => .lst (x _ _ trivial h) n (DaL.lt x t)
  | _, _, .tup h t => .tup (sqt_lt x h) (DaL.lt x t)
  | _, _, .dct h t n => .dct (x _ _ trivial h) (fun p z => ⟨sqt_lt x (t p z).1, (t p z).2⟩) n
  | _, _, .txd h n l t => .txd (x _ _ (tk_ne l t) h) n l (DaL.lt x t)
  | _, _, .fzt h n t => .fzt (x _ _ trivial h) n (DaL.lt x t)
theorem DaL.lt (x : KpLT H H') : ∀ {vs : List V} {ds : List D}, DaL K M H vs ds → DaL K M H' vs ds
  | _, _, .nil => .nil
  | _, _, .cons h t => .cons (Da.lt x h) (DaL.lt x t)
end
/-- pairs: a text, a datum -/
inductive KvL (K : PySem.W.Frag) (M : Addr → Prop) (H : Hp) : List (V × V) → List (Str × D) → Prop
  | nil : KvL K M H [] []
  | cons {x : Str} {v : V} {d : D} {vs : List (V × V)} {ps : List (Str × D)} : Da K M H v d → KvL K M H vs ps → KvL K M H ((.str x, v) :: vs) ((x, d) :: ps)
theorem KvL.lt (x : KpLT H H') : ∀ {vs : List (V × V)} {ps : List (Str × D)}, KvL K M H vs ps → KvL K M H' vs ps
  | _, _, .nil => .nil
  | _, _, .cons h t => .cons (h.lt x) (t.lt x)
def lookL : List (Str × D) → Str → Option D
  | [], _ => none
  | (x, d) :: ps, z => if x = z then some d else lookL ps z
end
def dDisp : List (Str × (Ev → Mn D)) → Ev → Mn (List (Str × D))
  | [], _ => pur []
  | (x, f) :: r, ev => bnd (f ev) fun d => bnd (dDisp r ev) fun ps => pur ((x, d) :: ps)
def dDGet (kfs : List (Str × (Ev → Mn D))) (fw : Ev → Mn D) (ev : Ev) : Mn D := bnd (dDisp kfs ev) fun ps => bnd (fw ev) fun w => lft (match w with
  | .str z => lookL ps z
  | _ => none)
@[simp] theorem dDisp_nil (ev : Ev) : dDisp [] ev = pur [] := rfl
@[simp] theorem dDisp_cons (x : Str) (f : Ev → Mn D) (r : List (Str × (Ev → Mn D))) (ev : Ev) : dDisp ((x, f) :: r) ev = bnd (f ev) fun d => bnd (dDisp r ev) fun ps => pur ((x, d) :: ps) := rfl
section
variable {G : Gm} {k : Nat} {sc : Sx} {N : List Str}
inductive SPr (G : Gm) (k : Nat) (sc : Sx) (N : List Str) : List (Option Expr) → List Expr → List (Str × (Ev → Mn D)) → Prop
  | nil : SPr G k sc N [] [] []
  | cons {x : Str} {j : Nat} {p : Pos} {ks : List (Option Expr)} {v : Expr} {vs : List Expr} {f : Ev → Mn D} {r : List (Str × (Ev → Mn D))} : SE G k sc N v f → SPr G k sc N ks vs r → SPr G k sc N (some (.Constant (.str x) j p) :: ks) (v :: vs) ((x, f) :: r)
theorem SPr.len : ∀ {ks : List (Option Expr)} {vs : List Expr} {r : List (Str × (Ev → Mn D))}, SPr G k sc N ks vs r → ks.length = r.length ∧ vs.length = r.length ∧ ks.all (·.isSome) = true
  | _, _, _, .nil => ⟨rfl, rfl, rfl⟩
  | _, _, _, .cons h t => ⟨congrArg (· + 1) t.len.1, congrArg (· + 1) t.len.2.1, by simp [t.len.2.2]⟩
end
end DL
namespace DL
open PySem PySem.Spec PyProof.Rows L2
variable [Xk]
section
variable {G : Gm} {k : Nat} {sc : Sx} {N : List Str}
def dStuck (_ : Ev) : Mn D := fun _ => none
def sStuck (_ : Ev) : Ms := fun _ => none
@[simp] theorem dStuck_eq (ev : Ev) : dStuck ev = stk := rfl
@[simp] theorem sStuck_eq (ev : Ev) : sStuck ev = stS := rfl
end
end DL
namespace DL
open PySem PySem.Spec PyProof.Rows L2
variable [Xk]
section
variable {G : Gm} {k : Nat} {sc : Sx} {N : List Str}
def nestD (n : Nat) : D → Option (List D)
  | .tuple [d, .tuple es] => if es.length = n then some (d :: es) else none
  | _ => none
def pTgN (i : Nat) (js : List Nat) (f : Ev → Mn D) (ev : Ev) : Ms := bnS (bnd (f ev) fun d => lft (nestD js.length d)) fun ds rs => some (.nx (setE ev (i :: js) ds), rs)
@[simp] theorem pTgN_eq (i : Nat) (js : List Nat) (f : Ev → Mn D) (ev : Ev) : pTgN i js f ev = bnS (bnd (f ev) fun d => lft (nestD js.length d)) fun ds => nxM (setE ev (i :: js) ds) := rfl
end
end DL
namespace DL
open PySem PySem.Spec PyProof.Rows L2
variable [Xk]
abbrev NoX : Value → Shared → Prop := fun _ _ => False
abbrev Go := (Shared → Prop) → Shared → Prop
def goIn (p : Program) (w : World) (A : Around) (elt : Expr) (env : Env) (acc : Value) : Go := fun Rr s =>
  wpAny (model p w) A (eval elt env) (fun x s1 => wpAny (model p w) A (call (.builtin "list.append") [acc, x]) (fun _ s2 => Rr s2) NoX s1) NoX s
section
variable {p : Program} {w : World} {A : Around} {elt t0 i0 : Expr} {ifs0 : List Expr} {k : Nat} {env : Env} {acc : Value} {gs : List Comprehension} {scope : Scope} {pos : Pos}
def turnIn (t0 i0 : Expr) (ifs0 : List Expr) (elt e : Expr) (k : Nat) (it acc : Value) (env : Env) : Sem PySem.Fin := do
  standAt i0.pos
  match ← pyNext it with
  | none => pure (.done .next)
  | some v =>
    letOwnedTupleGo t0 it v
    assign t0 env v
    let mut ok := true
    for c in ifs0 do
      if ok then ok ← isTrue c env (eval c env)
    if ok then
      (do let _ ← call (.builtin "list.append") [acc, ← eval elt env])
    again (.compLoop e k it acc env)
theorem nox_mono {α : Type} {t : Sem α} {Q Q' : α → Shared → Prop} {E : Value → Shared → Prop} {s : Shared} (h : wpAny (model p w) A t Q NoX s) (hQ : ∀ a s, Q a s → Q' a s) : wpAny (model p w) A t Q' E s := wpAny_mono h hQ fun _ _ z => z.elim
end
section
variable {p : Program} {w : World} {A : Around} {elt : Expr} {scope : Scope} {pos : Pos} {env : Env} {acc : Value} {g0 g1 g2 : Comprehension} {t i i' : Expr} {ifs ifs' : List Expr} {t' : Expr} {gs : List Comprehension}
theorem in1 (it : Value) : compTurn (.ListComp elt [g0, ⟨t, i, ifs, 0⟩] scope pos) 1 it acc env = turnIn t i ifs elt (.ListComp elt [g0, ⟨t, i, ifs, 0⟩] scope pos) 1 it acc env := by rfl
end
end DL
namespace DL
open PySem PySem.Spec PyProof.Rows L2
variable [Xk]
def gnGo (rest : Ev → Mn (List D)) (t : Tgt) (cond : Ev → Mn Bool) (ev : Ev) : List D → Mn (List D)
  | [] => pur []
  | d :: ds => bnd (lft (t.of d)) fun es => bnd (nox (cond (setE ev t.ix es))) fun c =>
      bnd (if c = true then nox (rest (setE ev t.ix es)) else pur []) fun xs => bnd (nox (gnGo rest t cond ev ds)) fun ys => pur (xs ++ ys)
def dLast (elt : Ev → Mn D) (ev : Ev) : Mn (List D) := bnd (nox (elt ev)) fun x => pur [x]
def dMid (src : Ev → Mn (List D)) (vs : List Nat) (rest : Ev → Mn (List D)) (t : Tgt) (cond : Ev → Mn Bool) (ev : Ev) : Mn (List D) := bnd (nox (src ev)) fun ds => gnGo rest t cond (wipeE ev vs) ds
def dCompN (own : List Nat) (src : Ev → Mn (List D)) (rest : Ev → Mn (List D)) (t : Tgt) (cond : Ev → Mn Bool) (ev : Ev) : Mn D :=
  bnd (src ev) fun ds => bnd (gnGo rest t cond (wipeE ev own) ds) fun out => lft (if out.length ≤ sizeLine then some (.list out) else none)
section
variable {G : Gm} {k : Nat} {sc : Sx} {N : List Str}
/-- within the loops: the list that grows stands at P -/
structure Lp (Y : Cx) (G : Gm) (M : Addr → Prop) (r : Rw) (P : Addr) (pins : List (Addr × Obj)) (σ : L2.St) (ev : Ev) (H : Hp) (rs : RS) (got : List D) (s : Shared) : Prop where
  inv : Inv Y pins σ H s
  rel : RelE G.K (And1 M P) r σ H ev rs
  acc : ∃ xs, H P = some (.lst xs) ∧ DaL G.K (And1 M P) H xs got
/-- the rest of a turn keeps to what it gives -/
def Body (Y : Cx) (G : Gm) (M : Addr → Prop) (r : Rw) (P : Addr) (den : Ev → Mn (List D)) (vs : List Nat) (go : Go) : Prop :=
  ∀ pins σ ev H rs got s xs rs' (Rr : Shared → Prop), Lp Y G M r P pins σ ev H rs got s → den ev rs = some (.val xs, rs') → got.length + xs.length ≤ sizeLine →
    (∀ s' H', Lp Y G M r P pins (wipe σ vs) (wipeE ev vs) H' rs' (got ++ xs) s' → Same' r P H H' → Rr s') → go Rr s
variable {Y : Cx} {M : Addr → Prop} {r : Rw} {P : Addr}
theorem body_in {elt : Expr} {fe : Ev → Mn D} (he : PE Y elt (tE G.K G.mg W0 fe)) (hx : Y.xe = NoX) (hP : ¬ Mt r P) (mr : MR M r) : Body Y G M r P (dLast fe) [] (goIn Y.prog Y.w Y.A elt Y.env (.ref P)) := by
  intro pins σ ev H rs got s xs rs' Rr L h hz hR
  obtain ⟨y, rs1, e1, h⟩ := bnd_nox h
  cases h
  obtain ⟨acc, hA, hD⟩ := L.acc
  have z := he.run pins s σ H (fun v H5 => Da G.K (And1 M P) H5 v y ∧ Stp r H H5 ∧ RowAt G.K (And1 M P) H5 r rs') L.inv ⟨_, r, ev, rs, L.rel, .val y, rs', e1, fun H5 s5 w5 v dv => ⟨dv, s5, w5⟩⟩
  rw [hx] at z
  refine nox_mono z fun u s1 q => ?_
  obtain ⟨v, H5, I5, rv, dv, s5, w5⟩ := q
  have m1 : MR (And1 M P) r := fun b z => .inl (mr b z)
  have ml5 : Ml (And1 M P) H5 := L.rel.ml.stp m1 s5 w5
  have hA5 : H5 P = some (.lst acc) := s5 _ _ hP hA
  have acc5 : DaL G.K (And1 M P) H5 acc got := hD.kp L.rel.ml (s5.kp m1)
  have la : acc.length < sizeLine := by
    rw [acc5.length]
    simp only [List.length_cons, List.length_nil] at hz
    omega
  refine app_ok (X := Y) I5 hA5 la rv fun s6 I6 => ?_
  have k6 : Kp (And1 M P) H5 (upd H5 P (.lst (acc ++ [v]))) := fun b o n e => by rw [upd_ne fun q => n (.inr q)]; exact e
  have t6 : ∀ b o, b ≠ P → H5 b = some o → (upd H5 P (.lst (acc ++ [v]))) b = some o := fun b o n e => by rw [upd_ne n]; exact e
  have row6 : RowAt G.K (And1 M P) (upd H5 P (.lst (acc ++ [v]))) r rs' := row_but w5 hP (fun o e => by rw [hA5] at e; cases e; trivial) t6 k6
  refine hR s6 _ ⟨I6, ?_, acc ++ [v], upd_same, ?_⟩ fun b o n m e => t6 b o n (s5 b o m e)
  · have R5 : RelE G.K (And1 M P) r σ H5 ev rs' := L.rel.stp s5 w5
    refine ⟨R5.mr, fun b q => ?_, row6, fun j t e => (R5.slots j t e).kp ml5 k6, R5.len⟩
    by_cases hb : b = P
    · exact ⟨.lst _, by rw [hb]; exact upd_same, trivial⟩
    · obtain ⟨ys, e, mu⟩ := R5.ml b q
      exact ⟨ys, t6 _ _ hb e, mu⟩
  · exact DaL.kp ml5 k6 (acc5.append (.cons dv .nil))
end
end DL
namespace DL
open PySem PySem.Spec PyProof.Rows L2
section
end
end DL
namespace DL
open PySem PySem.Spec PyProof.Rows L2
section
end
end DL
noncomputable section
namespace HM
open PySem PySem.W PySem.Calls PyProof.Rows HandSHeadRun
abbrev Fr : Type := Ctx × (Result → Sem Fin) × Pos
def mk (den : Code → Sem Fin) (stg : Setting) : Nat → List Fr → Ctx → Sem Fin → SharedT → Pos → Option (Flow × SharedT × Pos)
  | 0, _, _, _, _, _ => none
  | n + 1, fs, Γ, t, s, p => match t with
    | .pure (.done f) => (match fs with
      | [] => some (f, s, p)
      | g :: r => mk den stg n r g.1 (g.2.1 (.ok f)) s g.2.2)
    | .pure (.again c) => (match fs with
      | [] => none
      | _ :: _ => (match c.quiet with
        | true => mk den stg n fs (Γ.goto c) (den c) s p
        | false => none))
    | .raise e => (match fs with
      | [] => none
      | g :: r => mk den stg n r g.1 (g.2.1 (.error e)) s g.2.2)
    | .rule _ k => mk den stg n fs Γ (k ()) s p
    | .at p' k => mk den stg n fs Γ (k ()) s p'
    | .load a _ k => (match getT s a with
      | some o => mk den stg n fs Γ (k o) s p
      | none => none)
    | .update a _ f k => (match Nat.blt a s.n with
      | true => (match s.tree.get a with
        | some o => (match alive o with
          | some _ => mk den stg n fs Γ (k ()) ⟨s.tree.set a f, s.n, s.life, s.gens, s.drawn, s.toks, s.os⟩ p
          | none => none)
        | none => none)
      | false => none)
    | .loadIfAlive a k => mk den stg n fs Γ (k (getT s a)) s p
    | .point _ k => mk den stg n fs Γ (k ()) s p
    | .alloc o k => (match ((s.tree.ins s.n o).get s.n).isSome with
      | true => frS ⟨s.tree.ins s.n o, s.n + 1, s.life, s.gens, s.drawn, s.toks, s.os⟩ fun s' => mk den stg n fs Γ (k s.n) s' p
      | false => none)
    | .fresh k => frS ⟨s.tree, s.n, s.life, s.gens, s.drawn, s.toks + 1, s.os⟩ fun s' => mk den stg n fs Γ (k s.toks) s' p
    | .ask k => mk den stg n fs Γ (k stg) s p
    | .call c h _ _ k => mk den stg n ((Γ, k, p) :: fs) (Γ.enter c h p) (den c) s p
    | .handled own k => mk den stg n fs Γ (k (match own with
      | true => Γ.own
      | false => Γ.handled)) s p
    | .stack k => mk den stg n fs Γ (k ((Γ.code, p) :: Γ.below)) s p
    | .thread k => mk den stg n fs Γ (k 0) s p
    | _ => none
section
variable {M : Model} {Q : Fin → Pos → Shared → Prop} {E : Value → Pos → Shared → Prop}
/-- what the tree and the calls on the list come to -/
def Wf (M : Model) (Q : Fin → Pos → Shared → Prop) (E : Value → Pos → Shared → Prop) : List Fr → Ctx → Sem Fin → Pos → Shared → Prop
  | [], Γ, t, p, s => Sem.wp M Γ t Q E p s
  | g :: r, Γ, t, p, s => Sem.wp M Γ t (Sem.finPost M Γ fun x s' => Wf M Q E r g.1 (g.2.1 x) g.2.2 s') (fun e _ s' => Wf M Q E r g.1 (g.2.1 (.error e)) g.2.2 s') p s
theorem Wf.lift {fs : List Fr} {Γ : Ctx} {t t' : Sem Fin} {p p' : Pos} {s s' : Shared}
    (h : ∀ (Q : Fin → Pos → Shared → Prop) (E : Value → Pos → Shared → Prop), Sem.wp M Γ t' Q E p' s' → Sem.wp M Γ t Q E p s) (x : Wf M Q E fs Γ t' p' s') : Wf M Q E fs Γ t p s := by
  cases fs with
  | nil => exact h _ _ x
  | cons g r => exact h _ _ x
theorem Wf.call {fs : List Fr} {Γ : Ctx} {c : Code} {hd : Option Value} {gd : Bool} {l : List Value} {k : Result → Sem Fin} {p : Pos} {s : Shared}
    (x : Wf M Q E ((Γ, k, p) :: fs) (Γ.enter c hd p) (M.den c) p s) : Wf M Q E fs Γ (.call c hd gd l k) p s := by
  cases fs with
  | nil =>
    show Sem.wp M Γ (.call c hd gd l k) Q E p s
    rw [Sem.wp_call, wpCode_iff_wp]
    exact x
  | cons g r =>
    show Sem.wp M Γ (.call c hd gd l k) _ _ p s
    rw [Sem.wp_call, wpCode_iff_wp]
    exact x
theorem mk_ok : ∀ {n : Nat} {fs : List Fr} {Γ : Ctx} {t : Sem Fin} {s s' : SharedT} {p p' : Pos} {f : Flow},
    mk M.den ⟨M.prog, M.w.params⟩ n fs Γ t s p = some (f, s', p') → Q (.done f) p' s'.abs → Wf M Q E fs Γ t p s.abs
  | 0, _, _, _, _, _, _, _, _, h, _ => by cases h
  | n + 1, fs, Γ, t, s, s', p, p', f, h, q => by
    unfold mk at h
    cases t with
    | pure x =>
      cases x with
      | done g =>
        cases fs with
        | nil =>
          cases h
          show Sem.wp M Γ (.pure (.done f)) Q E p s.abs
          rw [Sem.wp_pure]
          exact q
        | cons y r =>
          show Sem.wp M Γ (Sem.pure (PySem.Fin.done g)) _ _ p s.abs
          rw [Sem.wp_pure]
          exact mk_ok (n := n) h q
      | again c =>
        cases fs with
        | nil => cases h
        | cons y r =>
          cases hc : c.quiet with
          | false => simp only [hc] at h; cases h
          | true =>
            simp only [hc] at h
            show Sem.wp M Γ (Sem.pure (PySem.Fin.again c)) _ _ p s.abs
            rw [Sem.wp_pure]
            refine ⟨hc, ?_⟩
            rw [wpCode_iff_wp]
            exact mk_ok (n := n) (fs := y :: r) (Γ := Γ.goto c) h q
    | raise e =>
      cases fs with
      | nil => cases h
      | cons y r =>
        show Sem.wp M Γ (Sem.raise e : Sem PySem.Fin) _ _ p s.abs
        rw [Sem.wp_raise]
        exact mk_ok (n := n) h q
    | rule tag k => exact Wf.lift (fun Q E z => by rw [Sem.wp_rule]; exact z) (mk_ok (n := n) h q)
    | «at» p1 k => exact Wf.lift (fun Q E z => by rw [Sem.wp_at]; exact z) (mk_ok (n := n) h q)
    | load a part k =>
      cases g : getT s a with
      | none => simp only [g] at h; cases h
      | some o =>
        simp only [g] at h
        exact Wf.lift (fun Q E z => by rw [Sem.wp_load]; exact ⟨o, (getT_eq s a).symm.trans g, z⟩) (mk_ok (n := n) h q)
    | update a part u k =>
      cases b : Nat.blt a s.n with
      | false => simp only [b] at h; cases h
      | true =>
        have lt : a < s.n := Nat.le_of_ble_eq_true b
        cases g : s.tree.get a with
        | none => simp only [b, g] at h; cases h
        | some o =>
          cases al : alive o with
          | none => simp only [b, g, al] at h; cases h
          | some o' =>
            simp only [b, g, al] at h
            refine Wf.lift (fun Q E z => ?_) (mk_ok (n := n) h q)
            rw [Sem.wp_update]
            refine ⟨by rw [show s.abs.heap.get? a = alive o from abs_get lt g, al]; rfl, ?_⟩
            have e : (SharedT.abs ⟨s.tree.set a u, s.n, s.life, s.gens, s.drawn, s.toks, s.os⟩) = { s.abs with heap := s.abs.heap.update a u } := by
              show (⟨absHeap (s.tree.set a u) s.n s.life, _, _, _, _⟩ : Shared) = _
              rw [absHeap_set g]
              rfl
            rw [e] at z
            exact z
    | loadIfAlive a k => exact Wf.lift (fun Q E z => by rw [Sem.wp_loadIfAlive, ← getT_eq s a]; exact z) (mk_ok (n := n) h q)
    | point l k => exact Wf.lift (fun Q E z => by rw [Sem.wp_point]; exact z) (mk_ok (n := n) h q)
    | alloc o k =>
      cases g : ((s.tree.ins s.n o).get s.n).isSome with
      | false => simp only [g] at h; cases h
      | true =>
        simp only [g, frS_eq] at h
        refine Wf.lift (fun Q E z => ?_) (mk_ok (n := n) h q)
        rw [Sem.wp_alloc]
        have e : (SharedT.abs ⟨s.tree.ins s.n o, s.n + 1, s.life, s.gens, s.drawn, s.toks, s.os⟩) = { s.abs with heap := s.abs.heap.push o } := by
          show (⟨absHeap (s.tree.ins s.n o) (s.n + 1) s.life, _, _, _, _⟩ : Shared) = _
          rw [absHeap_ins g]
          rfl
        have e2 : s.abs.heap.objs.size = s.n := absHeap_size s.tree s.n s.life
        rw [e] at z
        rw [e2]
        exact z
    | fresh k =>
      simp only [frS_eq] at h
      exact Wf.lift (fun Q E z => by rw [Sem.wp_fresh]; exact z) (mk_ok (n := n) h q)
    | ask k => exact Wf.lift (fun Q E z => by rw [Sem.wp_ask]; exact z) (mk_ok (n := n) h q)
    | call c hd gd l k => exact Wf.call (mk_ok (n := n) h q)
    | handled own k =>
      refine Wf.lift (fun Q E z => ?_) (mk_ok (n := n) h q)
      rw [Sem.wp_handled]
      cases own with
      | true => exact z
      | false => exact z
    | stack k => exact Wf.lift (fun Q E z => by rw [Sem.wp_stack]; exact z) (mk_ok (n := n) h q)
    | thread k => exact Wf.lift (fun Q E z => by rw [Sem.wp_thread]; exact z) (mk_ok (n := n) h q)
    | _ => cases h
/-- a tree of values, of flows as a tree of ends -/
def asV (t : Sem Value) : Sem Fin := t.bind fun v => .pure (.done (.ret v))
def asF (t : Sem Flow) : Sem Fin := t.bind fun f => .pure (.done f)
theorem run_F {n : Nat} {Γ : Ctx} {t : Sem Flow} {s s' : SharedT} {p p' : Pos} {f : Flow} {Q : Flow → Pos → Shared → Prop} (h : mk M.den ⟨M.prog, M.w.params⟩ n [] Γ (asF t) s p = some (f, s', p')) (q : Q f p' s'.abs) : Sem.wp M Γ t Q E p s.abs := by
  have z : Sem.wp M Γ (asF t) (fun x p' s' => ∃ f, x = .done f ∧ Q f p' s') E p s.abs := mk_ok (fs := []) h ⟨f, rfl, q⟩
  unfold asF at z
  rw [show t.bind (fun f => (.pure (.done f) : Sem Fin)) = (t >>= fun f => (.pure (.done f) : Sem Fin)) from rfl, Sem.wp_bind'] at z
  refine Sem.wp_mono M Γ t (fun a p2 s2 x => ?_) (fun _ _ _ x => x) p s.abs z
  rw [Sem.wp_pure] at x
  obtain ⟨g, e, x⟩ := x
  cases e
  exact x
theorem run_V {n : Nat} {Γ : Ctx} {t : Sem Value} {s s' : SharedT} {p p' : Pos} {v : Value} {Q : Value → Pos → Shared → Prop} (h : mk M.den ⟨M.prog, M.w.params⟩ n [] Γ (asV t) s p = some (.ret v, s', p')) (q : Q v p' s'.abs) : Sem.wp M Γ t Q E p s.abs := by
  have z : Sem.wp M Γ (asV t) (fun x p' s' => ∃ v, x = .done (.ret v) ∧ Q v p' s') E p s.abs := mk_ok (fs := []) h ⟨v, rfl, q⟩
  unfold asV at z
  rw [show t.bind (fun f => (.pure (.done (.ret f)) : Sem Fin)) = (t >>= fun f => (.pure (.done (.ret f)) : Sem Fin)) from rfl, Sem.wp_bind'] at z
  refine Sem.wp_mono M Γ t (fun a p2 s2 x => ?_) (fun _ _ _ x => x) p s.abs z
  rw [Sem.wp_pure] at x
  obtain ⟨g, e, x⟩ := x
  cases e
  exact x
end
end HM
noncomputable section
namespace HM
open PySem PySem.W PySem.Calls PyProof.Rows HandSHeadRun
abbrev Γ0 : Ctx := ⟨.builtin "claim.caller" {}, none, none, [], none⟩
theorem forget_nil {a b : Shared} (h : a.forget = b.forget) (g : b.gens = #[]) : a = b := by
  obtain ⟨h1, g1, d1, t1, o1⟩ := a
  obtain ⟨h2, g2, d2, t2, o2⟩ := b
  have g' : g2 = #[] := g
  subst g'
  simp only [Shared.forget, Shared.mk.injEq] at h
  obtain ⟨e1, e2, e3, e4, e5⟩ := h
  have e : g1 = #[] := by
    have z : (g1.map GenState.forget).size = 0 := by rw [e2]; simp
    rw [Array.size_map] at z
    exact Array.eq_empty_of_size_eq_zero z
  subst e1 e3 e4 e5 e
  rfl
/-- a tree of the caller's that comes to an end: the thread is run so far -/
theorem ran_of {p : Program} {w : World} {t : Sem PySem.Fin} {s0 : Shared} {G : Shared → Prop} (hz : s0.asleep) (hg : ∀ s', G s' → s'.gens = #[])
    (h : Sem.wp (model p w) Γ0 t (fun a _ s' => (∃ f, a = .done f) ∧ G s') (fun _ _ _ => False) default s0) :
    ∃ s1, G s1 ∧ ∃ n t1, schedN (denote table) p w n (.single s0 ⟨t, .builtin "claim.caller" {}, default, []⟩) = .running (.single s1 t1) ∧ through t1 = true := by
  have h1 := wp_reaches_first (M := model p w) (c := .builtin "claim.caller" {}) (t := t) (p := default) (s := s0) h
  obtain ⟨n, s', σ, p', leaf, hr, hσ, hl, _⟩ := h1
  have h2 : Sem.wp (model p w) Γ0 t (Sem.finPost (model p w) Γ0 fun r s' => True ∧ leftWithCleanup s'.gens = false) (fun e _ s' => True ∧ leftWithCleanup s'.gens = false) default s0 := by
    refine Sem.wp_mono _ _ t (fun a p2 s2 x => ?_) (fun _ _ _ x => x.elim) default s0 h
    obtain ⟨⟨f, rfl⟩, x⟩ := x
    exact ⟨trivial, by rw [hg _ x]; first | decide | simp [leftWithCleanup]⟩
  obtain ⟨m, r, s2, hm, _⟩ := (wp_iff_halts (M := model p w) t (fun _ _ => True) default s0).mp h2
  obtain ⟨s3, hn, hf, hc⟩ := runNI_real (denote table) p w hm (outcomeOf_ends r)
  have quiet : ∀ k s4, PySem.runN (denote table) p w k s0 ⟨t, .builtin "claim.caller" {}, default, []⟩ ≠ .halted (.unsupported "lifetime:generator-with-cleanup-left-suspended") s4 := by
    intro k s4 hk
    have a := runN_mono (denote table) p w m k _ _ _ _ hn
    have b := runN_mono (denote table) p w k m _ _ _ _ hk
    rw [Nat.add_comm, b] at a
    injection a with a1 _
    have o := outcomeOf_ends r
    rw [← a1] at o
    cases o
  have sq := schedN_eq_runN (denote table) p w s0 ⟨t, .builtin "claim.caller" {}, default, []⟩ hz ⟨hc, quiet⟩ n
  rcases hl with ⟨a, rfl, ⟨f, rfl⟩, x⟩ | ⟨e, _, x⟩
  · obtain rfl := forget_nil hσ (hg _ x)
    exact ⟨σ, x, n, _, sq.trans (congrArg Run.lift hr), rfl⟩
  · exact x.elim
/-- what the top's end must show -/
structure Shows (p q : Program) (loose : List Str) (Xt : Shared → Bool) (H : Hook) (w : World) (os : OsState) (s : Shared) : Prop where
  looks : looksF p (boot_heap w.params) s = true
  seen : openSeen q loose (importedModules p.main.body) Xt true s = openGood q loose
  obs : H.obs s = H.val w
  life : s.heap.life = (boot_heap w.params).life
  os : s.os = os
  kept : ∀ b o, b ≠ mainNs → b ≠ cStatics → bootAnn w ≠ some (.ref b) → (boot_heap w.params).get? b = some o → s.heap.get? b = some o
abbrev bootS (w : World) (os : OsState) : Shared := ⟨boot_heap w.params, #[], boot_drawn, boot_toks, os⟩
theorem behind_of {p q : Program} {loose : List Str} {Xt : Shared → Bool} {XP : (Str → Option Value) → Heap → Prop} {H : Hook} {w : World} (e : opening p = plainProg p.main.scope.names) (f : ∀ s, fenceModules? p s = some s)
    (hX : ∀ s, Xt s = true → XP (s.heap.nsMap mainGlobals) s.heap) (hch : chainsOk q = true)
    (run : ∀ os, Sem.wp (model p w) Γ0 (topStub p).cur (fun a _ s' => (∃ f, a = .done f) ∧ Shows p q loose Xt H w os s') (fun _ _ _ => False) default (bootS w os)) :
    (∃ s, AfterRun (opening p) w s) ∧ ∀ s, AfterRun (opening p) w s → ∃ s0, fenceModules? p s = some s0 ∧ s0.gens = #[] ∧ ∃ s1, TopRan p w s0 s1 ∧ s1.asleep ∧ s1.gens = #[] ∧ s1.heap.isNs mainGlobals = true ∧
      Ground q loose [] XP w s1 (s1.heap.nsMap mainGlobals) (s1.heap.nsMap builtinsNs) s1.heap ∧ H.says w s1.heap := by
  obtain ⟨⟨h, gs, d, k, os⟩, a, a'⟩ := Option.map_eq_some_iff.mp (boot_open (N := 600) e rfl f w)
  obtain ⟨rfl, rfl, rfl, rfl⟩ : h = boot_heap w.params ∧ gs = Array.mk [] ∧ d = boot_drawn ∧ k = boot_toks := by simpa using a'
  rw [← table_eq_tree] at a
  obtain ⟨s, b, c⟩ := Option.bind_eq_some_iff.mp a
  have A := AfterImport.of_importEnds b
  refine ⟨⟨s, A⟩, fun s' hs' => ?_⟩
  obtain rfl : s' = s := AfterImport.unique hs' A
  have z : (bootS w os).asleep := Shared.asleep_of_life (fence_lifeW c) A.life
  have gn : ∀ s1, Shows p q loose Xt H w os s1 → s1.gens = #[] := fun s1 x => by
    obtain ⟨_, g, _⟩ := ground_of_open (w := w) hX hch x.seen
    exact Array.eq_empty_of_size_eq_zero (beq_iff_eq.mp g)
  obtain ⟨s1, x, ran⟩ := ran_of (t := (topStub p).cur) z gn (run os)
  obtain ⟨G, _, g1, g2, g3, g4, g5⟩ := ground_of_open (w := w) hX hch x.seen
  obtain ⟨l1, l4⟩ := Bool.and_eq_true_iff.mp (show (staticsOk (importedModules p.main.body) (boot_heap w.params) s1.heap && namesBound p s1.heap && gensDone s1 && laidKept (boot_heap w.params) s1.heap) = true from x.looks)
  obtain ⟨l1, l3⟩ := Bool.and_eq_true_iff.mp l1
  obtain ⟨l1, l2⟩ := Bool.and_eq_true_iff.mp l1
  refine ⟨bootS w os, c, rfl, s1, ⟨ran, x.life, Shared.rest_eq x.os, fun b o hb hn => ?_, g2, statics_of_ok l1, g3, g4, g5, gens_of_done l3, names_of_bound l2, laid_of_kept l4⟩, Shared.asleep_of_life x.life z, gn _ x, g1, G, H.of w s1 x.obs⟩
  exact x.kept b o (fun y => hn (.inl y)) (fun y => hn (.inr (.inl y))) (fun y => hn (.inr (.inr ((Pin.globalOf_eq (boot_ns w.params) _).trans y)))) hb
/-- the law, over what stands behind the top -/
theorem holds_behind {r : OpenRow} {q : Program} {loose : List Str} {H : Hook} {d : DefRec} {kwd : List (Str × PySem.Expr)}
    (beh : ∀ w, (∃ s, AfterRun (opening r.prog) w s) ∧ ∀ s, AfterRun (opening r.prog) w s → ∃ s0, fenceModules? r.prog s = some s0 ∧ s0.gens = #[] ∧ ∃ s1, TopRan r.prog w s0 s1 ∧ s1.asleep ∧ s1.gens = #[] ∧
      s1.heap.isNs mainGlobals = true ∧ Ground q loose [] (fun m h => XL q [] m h ∧ RecFacts r.toRowW.records h) w s1 (s1.heap.nsMap mainGlobals) (s1.heap.nsMap builtinsNs) s1.heap ∧ H.says w s1.heap)
    (hdef : defOf q r.name = some (d, kwd)) (hp : r.prog.theDef r.name = some (d.params, d.body, d.scope)) (hk : kwWritten? d.params.kwonlyargs d.params.kw_defaults = some kwd)
    (hwr : (!r.writes || r.records.isEmpty) = true) (k1 : r.wellSaid = true) (ok : (chainsOk q && opensWell r.prog && (frees r.toRowW && r.within.isEmpty)) = true) (hb : r.prog.bare) (hw : r.toRowW.promised)
    (call : WalkO q loose (XL q []) H.says r.toRowW d kwd fun f vs => PySem.call f vs) : r.Holds := by
  refine ⟨k1, hw, ?_⟩
  obtain ⟨ok1, within⟩ := Bool.and_eq_true_iff.mp ok
  obtain ⟨_, well⟩ := Bool.and_eq_true_iff.mp ok1
  obtain ⟨within, noin⟩ := Bool.and_eq_true_iff.mp within
  obtain ⟨hsame, hu, ha, hap, hm⟩ := frees_parts within
  refine ⟨⟨hb, well, by show r.makers.map _ = []; rw [hm]; rfl⟩, hw.witness, fun w => ⟨(beh w).1, fun s' hs' => ?_⟩⟩
  obtain ⟨s0, hf, g0, s, T, z, gens, ns, G1, Y⟩ := (beh w).2 s' hs'
  have RF := G1.X.2
  have GX : Ground q loose [] (XL q []) w s (s.heap.nsMap mainGlobals) (s.heap.nsMap builtinsNs) s.heap := ⟨G1.T, G1.B, G1.D, G1.TE, G1.TD, G1.W, G1.X.1, G1.cls, G1.has, G1.apart, G1.once, G1.K⟩
  have GR : Ground q loose r.toRowW.records (XL q []) w s _ _ s.heap := RF.ground GX
  refine ⟨s0, hf, g0, s, T, fun n hn => ?_, RF.1, RF.2.1, ?_⟩
  · have en : n = r.name := by
      split at hn <;> simp_all
    subst en
    exact pinned_of_view ns GX hdef hp hk
  refine ClaimW.callFrom_of_specG (c := r.toRowW.claim) (tree := fun vs => do match ← nsGet mainNs r.name with
      | some f => do ret (← PySem.call f vs)
      | none => unsupported "claim.caller:no-such-global") z gens fun args pre lay ord hord => ?_
  obtain ⟨⟨vs, s1⟩, laid⟩ := Option.isSome_iff_exists.mp (layAllW_isSome (P := w.params) (ord := ord) GR.has args r.toRowW.args s (pre_splitW pre).1)
  have keeps := layAllW_keeps _ _ _ laid
  have rest := layAllW_rest _ _ _ laid
  obtain ⟨as, reads, inn, old⟩ := reads_layAllW hord _ _ _ laid lay s1.heap (fun _ _ e => e)
  have L : Laid r.toRowW.records w s s1 args vs as := ⟨⟨ord, hord, laid⟩, reads, inn, old, keeps, rest.1.trans gens, rest.2.2.1⟩
  have G2 := GR.keeps XL.keeps keeps
  obtain ⟨a, o, pm, cd, doc, dV, kV, h1, h2, h3, h4, h5⟩ := G2.fn hdef
  have W := call w s s1 _ _ G2 (H.keeps w _ _ Y keeps) a o pm cd doc dV kV h2 h3 h4 h5 (defOf_name hdef ▸ h1) L.gens args vs as pre lay L.reads L.well (L.low G1.low)
  have ids := ident_freeW hu ha hap
  have none_in : r.toRowW.claim.within = [] := List.isEmpty_iff.mp noin
  have fin : ∀ x s', GoodWG r.toRowW.claim (classAt s.heap) (ExcName.means s.heap) args s1 x s' → _ := fun x s' g => g.laid (c := r.toRowW.claim) hsame none_in ids L
  refine ⟨vs, s1, laid, wpAny_bind (wpAny_nsGet G2.T.g ?_)⟩
  have hr : s1.heap.nsMap mainGlobals = s1.heap.nsMap mainGlobals := rfl
  rw [h1]
  refine wpAny_bind (wpAny_mono W (fun v s' g => wpAny_pure ⟨_, rfl, ?_⟩) fun e s' g => ?_)
  · have y := fin _ _ g
    exact ⟨y.1, y.2.1, y.2.2, fun _ => ⟨namesKept_of T ns _ keeps g.2.1.old, noTable hwr ‹_›⟩⟩
  · have y := fin _ _ g
    exact ⟨y.1, y.2.1, y.2.2, fun _ => ⟨namesKept_of T ns _ keeps g.2.1.old, noTable hwr ‹_›⟩⟩
end HM
noncomputable section
namespace HM
open PySem PySem.W PySem.Calls PyProof.Rows HandSHeadRun
abbrev tk (p : Program) (w : World) : HeapKind p w (List L2.Key) := tupleKind (L2.mixKind p w)
abbrev sks (ks : List Str) : List L2.Key := ks.map Sum.inr
section
variable {p : Program} {w : World} {A : Around} {E : Value → Shared → Prop} {s : Shared}
theorem dictSet_new {d a : Addr} {o : Obj} {es : Array DictEntry} {ep : Nat} {xs : List (List L2.Key × Addr × Value)} {k : List L2.Key} {v : Value} {Q : Unit → Shared → Prop} (hu : (tk p w).room A) (hkey : (tk p w).is s.heap k a)
    (ho : s.heap.get? d = some o) (hd : o.data = .dict es ep) (he : es.toList = xs.map (entryOfKey (tk p w))) (his : ∀ x ∈ xs, (tk p w).is s.heap x.1 x.2.1) (hn : (xs.map (·.1)).Nodup) (hno : ¬ k ∈ xs.map (·.1)) (hz : xs.length ≤ 1000)
    (h : Q () { s with heap := s.heap.update d (Obj.mapDictKeys fun l => l.push ⟨(tk p w).hash k, .ref a, v⟩), toks := s.toks + (tk p w).draws k }) :
    wpAny (model p w) A (dictSet d (.ref a) v) Q E s := by
  have hes : es.size ≤ sizeLine := by
    have e := size_of_entries he
    rw [sizeLine_eq]
    omega
  unfold dictSet
  refine wpAny_holding ?_
  refine wpAny_bind ((tk p w).pyHash hu hkey ?_)
  unfold dictSetHashed
  refine wpAny_holding ?_
  refine wpAny_bind (wpAny_dictFind_heap (s := { s with toks := s.toks + (tk p w).draws k }) hu hkey ho hd he his hn ?_ ?_)
  · intro _
    exact wpAny_bind (wpAny_rule (wpAny_updateDictKeys (hz := hes) (s := { s with toks := s.toks + (tk p w).draws k }) ho hd h))
  · intro j y hj
    exact absurd (List.mem_map.mpr ⟨_, List.mem_of_getElem? hj, rfl⟩) hno
end
def strsB : List Str → List Value → Bool
  | [], [] => true
  | x :: xs, .str y _ :: vs => decide (x = y) && strsB xs vs
  | _, _ => false
theorem strsB_ok {p : Program} {w : World} : ∀ {ks : List Str} {vs : List Value}, strsB ks vs = true → PySem.ItemsAre (L2.mixKind p w) (sks ks) vs
  | [], [], _ => .nil
  | x :: xs, v :: vs, h => by
    cases v with
    | str y t =>
      obtain ⟨h1, h2⟩ := Bool.and_eq_true_iff.mp (show (decide (x = y) && strsB xs vs) = true from h)
      have e : x = y := of_decide_eq_true h1
      subst e
      exact .cons (L2.kV_is (P := p) (w := w) (k := Sum.inr x) (u := .str x t) ⟨t, rfl⟩) (strsB_ok h2)
    | _ => cases h
  | [], _ :: _, h => by cases h
  | _ :: _, [], h => by cases h
def keyB (s : SharedT) (ks : List Str) (a : Addr) : Bool := match getT s a with
  | some ⟨.type T, _, .seq its _, _⟩ => (match decide (T = "tuple") with
    | true => strsB ks its.toList
    | false => false)
  | _ => false
theorem keyB_ok {p : Program} {w : World} {s : SharedT} {ks : List Str} {a : Addr} (h : keyB s ks a = true) : (tk p w).is s.abs.heap (sks ks) a := by
  unfold keyB at h
  cases g : getT s a with
  | none => rw [g] at h; cases h
  | some o =>
    rw [g] at h
    obtain ⟨c, d, dt, sl⟩ := o
    cases c with
    | type T =>
      cases dt with
      | seq its n =>
        cases e : decide (T = "tuple") with
        | false => simp only [e] at h; cases h
        | true =>
          simp only [e] at h
          have eT : T = "tuple" := of_decide_eq_true e
          subst eT
          exact ⟨_, its, n, (getT_eq s a).symm.trans g, rfl, rfl, strsB_ok h⟩
      | _ => cases h
    | _ => cases h
def put (s : SharedT) (d : Addr) (e : DictEntry) (n : Nat) : SharedT := ⟨s.tree.set d (Obj.mapDictKeys fun l => l.push e), s.n, s.life, s.gens, s.drawn, s.toks + n, s.os⟩
theorem put_abs {s : SharedT} {d : Addr} {e : DictEntry} {n : Nat} {o : Obj} (g : s.tree.get d = some o) : (put s d e n).abs = { s.abs with heap := s.abs.heap.update d (Obj.mapDictKeys fun l => l.push e), toks := s.abs.toks + n } := by
  show (⟨absHeap (s.tree.set d _) s.n s.life, _, _, _, _⟩ : Shared) = _
  rw [absHeap_set g]
  rfl
abbrev Xs : Type := List (List Str × Addr × Value)
abbrev Ob2 : Type := Option Obj × Option Obj
def dicO (hh : List L2.Key → Int) (xs : Xs) (ep : Nat) : Obj := ⟨.type "dict", none, .dict (xs.map fun x => (⟨hh (sks x.1), .ref x.2.1, x.2.2⟩ : DictEntry)).toArray ep, #[]⟩
/-- what the rounds do; on the way what they lean on: the dict as it stands beside what it should be, the keys' tuples, a new key -/
def rounds (den : Code → Sem PySem.Fin) (stg : Setting) (Γ : Ctx) (hh : List L2.Key → Int) (d : Addr) : List (Sem Value × Sem Value × List Str) → Xs → SharedT → List Ob2 → Bool → Option (SharedT × Xs × List Ob2 × Bool)
  | [], xs, s, ob, b => some (s, xs, ob, b)
  | x :: r, xs, s, ob, b => (match mk den stg 200 [] Γ (asV x.1) s default with
    | some (.ret (.ref a), s1, p1) => (match mk den stg 200 [] Γ (asV x.2.1) s1 p1 with
      | some (.ret v, s2, _) => frS (put s2 d ⟨hh (sks x.2.2), .ref a, v⟩ (x.2.2.length + 1)) fun s3 =>
          rounds den stg Γ hh d r (xs ++ [(x.2.2, a, v)]) s3 ((s2.tree.get d, some (dicO hh xs xs.length)) :: ob)
            (b && (keyB s2 x.2.2 a && ((xs.all fun y => keyB s2 y.1 y.2.1) && (Nat.blt d s2.n && !(xs.any fun y => decide (y.1 = x.2.2))))))
      | _ => none)
    | _ => none)
/-- the position is of no matter to a tree that begins by standing somewhere -/
def Stands (t : Sem Value) : Prop := ∃ q k, t = .at q k
theorem Stands.wp {t : Sem Value} (h : Stands t) {M : Model} {Γ : Ctx} {Q : Value → Pos → Shared → Prop} {E : Value → Pos → Shared → Prop} {p p' : Pos} {s : Shared} (x : Sem.wp M Γ t Q E p' s) : Sem.wp M Γ t Q E p s := by
  obtain ⟨q, k, rfl⟩ := h
  rw [Sem.wp_at] at x ⊢
  exact x
section
variable {p : Program} {w : World} {Γ : Ctx} {A : Around} {d : Addr}
theorem inj_sks : ∀ {a b : List Str}, sks a = sks b → a = b
  | [], [], _ => rfl
  | [], _ :: _, h => by cases h
  | _ :: _, [], h => by cases h
  | x :: a, y :: b, h => by
    injection h with h1 h2
    injection h1 with h1
    rw [h1, inj_sks h2]
theorem rounds_b {den : Code → Sem PySem.Fin} {stg : Setting} {hh : List L2.Key → Int} : ∀ {l : List (Sem Value × Sem Value × List Str)} {xs xs' : Xs} {s s' : SharedT} {ob ob' : List Ob2} {b : Bool},
    rounds den stg Γ hh d l xs s ob b = some (s', xs', ob', true) → b = true ∧ ∀ y ∈ ob, y ∈ ob'
  | [], xs, xs', s, s', ob, ob', b, h => by
    cases h
    exact ⟨rfl, fun _ z => z⟩
  | x :: r, xs, xs', s, s', ob, ob', b, h => by
    unfold rounds at h
    split at h
    · split at h
      · rw [frS_eq] at h
        obtain ⟨h1, h2⟩ := rounds_b h
        exact ⟨(Bool.and_eq_true_iff.mp h1).1, fun y z => h2 y (List.mem_cons_of_mem _ z)⟩
      · cases h
    · cases h
theorem rounds_ok (hu : (tk p w).room A) (hΓ : Γ.In A) {C : PUnit → Pos → Shared → Prop} {E : Value → Pos → Shared → Prop} :
    ∀ {l : List (Sem Value × Sem Value × List Str)} {xs xs' : Xs} {s s' : SharedT} {ob ob' : List Ob2} {b : Bool}, rounds (denote table) ⟨p, w.params⟩ Γ (tk p w).hash d l xs s ob b = some (s', xs', ob', true) →
      (∀ y ∈ ob', y.1 = y.2) → (∀ x ∈ l, Stands x.1) → (xs.map (·.1)).Nodup → xs.length + l.length ≤ 1000 → (∀ pp, C PUnit.unit pp s'.abs) → ∀ pp,
      Sem.wp (model p w) Γ (forIn (l.map fun x => (x.1, x.2.1)) PUnit.unit fun (x : Sem Value × Sem Value) (_ : PUnit) => (do
        let kv ← x.1
        let vv ← holding [kv] x.2
        holding [kv, vv] (dictSet d kv vv)
        pure (ForInStep.yield PUnit.unit) : Sem (ForInStep PUnit))) C E pp s.abs
  | [], xs, xs', s, s', ob, ob', b, h, _, _, _, _, hC, pp => by
    cases h
    rw [List.map_nil, List.forIn_nil, Sem.wp_pure']
    exact hC pp
  | x :: r, xs, xs', s, s', ob, ob', b, h, hob, hst, hn, hz, hC, pp => by
    unfold rounds at h
    split at h
    · rename_i a s1 p1 h1
      split at h
      · rename_i v s2 p2 h2
        rw [frS_eq] at h
        obtain ⟨hb, hmem⟩ := rounds_b h
        obtain ⟨_, hb⟩ := Bool.and_eq_true_iff.mp hb
        obtain ⟨k1, hb⟩ := Bool.and_eq_true_iff.mp hb
        obtain ⟨k2, hb⟩ := Bool.and_eq_true_iff.mp hb
        obtain ⟨k3, k4⟩ := Bool.and_eq_true_iff.mp hb
        have lt : d < s2.n := Nat.le_of_ble_eq_true k3
        have hg : s2.tree.get d = some (dicO (tk p w).hash xs xs.length) := hob _ (hmem _ (List.mem_cons_self))
        have hget : s2.abs.heap.get? d = some (dicO (tk p w).hash xs xs.length) := abs_get lt hg
        have hnew : ¬ x.2.2 ∈ xs.map (·.1) := fun m => by
          obtain ⟨y, hy, e⟩ := List.mem_map.mp m
          have z : (xs.any fun y => decide (y.1 = x.2.2)) = true := List.any_eq_true.mpr ⟨y, hy, by rw [e]; exact decide_eq_true rfl⟩
          rw [z] at k4
          cases k4
        rw [List.map_cons, List.forIn_cons]
        refine (Sem.wp_bind' ..).mpr ?_
        refine (Sem.wp_bind' ..).mpr ?_
        refine (hst x (List.mem_cons_self)).wp (p' := default) (run_V (M := model p w) h1 ?_)
        refine (Sem.wp_bind' ..).mpr ?_
        rw [Sem.wp_holding]
        refine run_V (M := model p w) h2 ?_
        refine (Sem.wp_bind' ..).mpr ?_
        rw [Sem.wp_holding]
        have key : wpAny (model p w) A (dictSet d (.ref a) v) (fun _ t => t = (put s2 d ⟨(tk p w).hash (sks x.2.2), .ref a, v⟩ (x.2.2.length + 1)).abs) (fun _ _ => False) s2.abs := by
          refine dictSet_new (xs := xs.map fun y => (sks y.1, y.2.1, y.2.2)) hu (keyB_ok k1) hget rfl ?_ ?_ ?_ ?_ (by rw [List.length_map]; omega) ?_
          · show (xs.map _).toArray.toList = _
            rw [List.map_map]
            rfl
          · intro y hy
            obtain ⟨z, hz, rfl⟩ := List.mem_map.mp hy
            exact keyB_ok (List.all_eq_true.mp k2 z hz)
          · have e : (xs.map fun y => (sks y.1, y.2.1, y.2.2)).map (·.1) = (xs.map (·.1)).map sks := by rw [List.map_map, List.map_map]; rfl
            rw [e]
            exact List.Pairwise.map _ (fun a b hab e => hab (inj_sks e)) hn
          · intro m
            obtain ⟨y, hy, e⟩ := List.mem_map.mp m
            obtain ⟨z, hz, rfl⟩ := List.mem_map.mp hy
            exact hnew (List.mem_map.mpr ⟨z, hz, inj_sks e⟩)
          · rw [put_abs hg]
            have e : (tk p w).draws (sks x.2.2) = x.2.2.length + 1 := by
              show (sks x.2.2).length + 1 = _
              rw [List.length_map]
            rw [e]
        refine Sem.wp_mono _ _ _ (fun _ p3 t ht => ?_) (fun _ _ _ z => z.elim) p2 s2.abs (key Γ p2 hΓ)
        subst ht
        rw [Sem.wp_pure']
        show Sem.wp _ _ _ _ _ _ _
        refine rounds_ok hu hΓ h hob (fun y hy => hst y (List.mem_cons_of_mem _ hy)) ?_ (by simp only [List.length_append, List.length_cons, List.length_nil] at hz ⊢; omega) hC p3
        rw [List.map_append, List.nodup_append]
        refine ⟨hn, by simp, fun a ha b hb e => ?_⟩
        rw [List.map_cons, List.map_nil, List.mem_singleton] at hb
        rw [e, hb] at ha
        exact hnew ha
      · cases h
    · cases h
end
end HM
noncomputable section
namespace HM
open PySem PySem.W PySem.Calls PyProof.Rows HandSHeadRun
abbrev Pr2 : Type := Sem Value × Sem Value
theorem gather (f : (Option (Sem Value) × Sem Value) → (Option Addr × List Pr2) → Sem (ForInStep (Option Addr × List Pr2))) (hf : ∀ (p : Pr2) (run : List Pr2), run.length + 1 < 17 → f (some p.1, p.2) (none, run) = pure (.yield (none, run ++ [p])))
    (tail : List (Option (Sem Value) × Sem Value)) : ∀ (items run : List Pr2), run.length + items.length < 17 → forIn ((items.map fun p => (some p.1, p.2)) ++ tail) ((none : Option Addr), run) f = forIn tail ((none : Option Addr), run ++ items) f
  | [], run, _ => by simp
  | p :: rest, run, h => by
    rw [List.map_cons, List.cons_append, List.forIn_cons, hf p run (by simp at h; omega), pure_bind]
    have e := gather f hf tail rest (run ++ [p]) (by simp at h ⊢; omega)
    simpa using e
theorem display17 {M : Model} {Γ : Ctx} {Q : Value → Pos → Shared → Prop} {E : Value → Pos → Shared → Prop} {pp : Pos} {s : Shared} (ps : List Pr2) (x : Pr2) (h16 : ps.length = 16)
    (h : Sem.wp M Γ (subDict (ps ++ [x])) (fun d p' s' => Q (.ref d) p' s') E pp s) : Sem.wp M Γ (dictDisplay ((ps ++ [x]).map fun p => (some p.1, p.2))) Q E pp s := by
  unfold dictDisplay
  dsimp only
  rw [List.map_append, gather _ (fun p run h => by
    have hne : ((run ++ [(p.1, p.2)]).length == 17) = false := by simp; omega
    simp only [hne, Bool.false_eq_true, if_false]) _ ps [] (by simp; omega)]
  have e17 : ((ps ++ [(x.1, x.2)]).length == 17) = true := by simp; omega
  have ne : (ps ++ [(x.1, x.2)]).isEmpty = false := by simp
  rw [List.map_cons, List.map_nil, List.forIn_cons]
  simp only [e17, ne, if_true, Bool.false_eq_true, if_false, List.forIn_nil, Sem.wp_bind', Sem.wp_pure', List.isEmpty_nil, List.nil_append]
  exact h
/-- the dict made and filled, more than fifteen pairs -/
theorem subDict_long {p : Program} {w : World} {Γ : Ctx} {A : Around} {E : Value → Pos → Shared → Prop} {Q : Addr → Pos → Shared → Prop} {l : List (Sem Value × Sem Value × List Str)} {s s' : SharedT} {xs' : Xs} {ob' : List Ob2} (hu : (tk p w).room A) (hΓ : Γ.In A)
    (g : ((s.tree.ins s.n ⟨.type "dict", none, .dict #[] 0, #[]⟩).get s.n).isSome = true)
    (h : rounds (denote table) ⟨p, w.params⟩ Γ (tk p w).hash s.n l [] ⟨s.tree.ins s.n ⟨.type "dict", none, .dict #[] 0, #[]⟩, s.n + 1, s.life, s.gens, s.drawn, s.toks, s.os⟩ [] true = some (s', xs', ob', true))
    (hob : ∀ y ∈ ob', y.1 = y.2) (hst : ∀ x ∈ l, Stands x.1) (h15 : 15 < l.length) (hz : l.length ≤ 1000) (hQ : ∀ pp, Q s.n pp s'.abs) (pp : Pos) : Sem.wp (model p w) Γ (subDict (l.map fun x => (x.1, x.2.1))) Q E pp s.abs := by
  unfold subDict
  refine (Sem.wp_bind' ..).mpr ?_
  show Sem.wp _ _ (.alloc _ .pure) _ _ _ _
  rw [Sem.wp_alloc, Sem.wp_pure]
  have e2 : s.abs.heap.objs.size = s.n := absHeap_size s.tree s.n s.life
  rw [e2]
  have e : ({ s.abs with heap := s.abs.heap.push { cls := .type "dict", data := .dict #[] } } : Shared) = SharedT.abs ⟨s.tree.ins s.n ⟨.type "dict", none, .dict #[] 0, #[]⟩, s.n + 1, s.life, s.gens, s.drawn, s.toks, s.os⟩ := by
    show _ = (⟨absHeap (s.tree.ins s.n _) (s.n + 1) s.life, _, _, _, _⟩ : Shared)
    rw [absHeap_ins g]
    rfl
  rw [e]
  refine (Sem.wp_bind' ..).mpr ?_
  rw [Sem.wp_holding, if_neg (by rw [List.length_map]; omega)]
  refine (Sem.wp_bind' ..).mpr ?_
  show Sem.wp _ _ (.rule _ .pure) _ _ _ _
  rw [Sem.wp_rule, Sem.wp_pure]
  refine (Sem.wp_bind' ..).mpr ?_
  refine rounds_ok hu hΓ h hob hst List.nodup_nil (by simpa using hz) (fun p2 => ?_) pp
  rw [Sem.wp_pure', Sem.wp_pure']
  exact hQ p2
/-- a display of seventeen pairs, given a name -/
theorem exec_dict {p : Program} {w : World} {Γ : Ctx} {A : Around} {env : Env} {tg : PySem.Expr} {keys : List (Option PySem.Expr)} {values : List PySem.Expr} {pos pos2 : Pos} {E : Value → Pos → Shared → Prop} {Q : Flow → Pos → Shared → Prop} {l : List (Sem Value × Sem Value × List Str)} {s s' : SharedT} {xs' : Xs}
    {ob' : List Ob2} (hu : (tk p w).room A) (hΓ : Γ.In A) (hshape : (evalEachOpt keys env).zip ((evalEach values env).map fun v => do let x ← v; standAt pos2; pure x) = l.map fun x => (some x.1, x.2.1))
    (hsw : swapsWithSole [tg] (.Dict keys values pos2) pos.line env = pure false) (g : ((s.tree.ins s.n ⟨.type "dict", none, .dict #[] 0, #[]⟩).get s.n).isSome = true)
    (h : rounds (denote table) ⟨p, w.params⟩ Γ (tk p w).hash s.n l [] ⟨s.tree.ins s.n ⟨.type "dict", none, .dict #[] 0, #[]⟩, s.n + 1, s.life, s.gens, s.drawn, s.toks, s.os⟩ [] true = some (s', xs', ob', true))
    (hob : ∀ y ∈ ob', y.1 = y.2) (hst : ∀ x ∈ l, Stands x.1) (h17 : l.length = 17)
    (hQ : ∀ pp, Sem.wp (model p w) Γ (do assignStores env (.ref s.n) (← swappedStores [tg] (.Dict keys values pos2) env) ((assignEach [tg] env).map (·.2))) Q E pp s'.abs) (pp : Pos) :
    Sem.wp (model p w) Γ (exec (.Assign [tg] (.Dict keys values pos2) pos) env) Q E pp s.abs := by
  rw [arm_exec_Assign]
  refine (Sem.wp_bind' ..).mpr ?_
  show Sem.wp _ _ (.at _ .pure) _ _ _ _
  rw [Sem.wp_at, Sem.wp_pure, hsw]
  refine (Sem.wp_bind' ..).mpr ?_
  rw [Sem.wp_pure', if_neg (by decide)]
  refine (Sem.wp_bind' ..).mpr ?_
  rw [arm_eval_Dict]
  refine (Sem.wp_bind' ..).mpr ?_
  show Sem.wp _ _ (.at _ .pure) _ _ _ _
  rw [Sem.wp_at, Sem.wp_pure, hshape]
  obtain ⟨ps, x, e, h16⟩ : ∃ ps x, l = ps ++ [x] ∧ ps.length = 16 := by
    have ne : l ≠ [] := fun z => by rw [z] at h17; cases h17
    refine ⟨l.dropLast, l.getLast ne, (List.dropLast_concat_getLast ne).symm, ?_⟩
    rw [List.length_dropLast, h17]
  have z : (l.map fun x => (some x.1, x.2.1)) = ((ps.map fun x => (x.1, x.2.1)) ++ [(x.1, x.2.1)]).map fun (p : Pr2) => (some p.1, p.2) := by
    rw [e]
    simp
  have z2 : (ps.map fun x => (x.1, x.2.1)) ++ [(x.1, x.2.1)] = l.map fun x => (x.1, x.2.1) := by
    rw [e]
    simp
  rw [z]
  refine display17 _ _ (by rw [List.length_map]; exact h16) ?_
  rw [z2]
  exact subDict_long hu hΓ g h hob hst (by omega) (by omega) (fun p2 => hQ p2) pos2
end HM
noncomputable section
namespace HM
open PySem PySem.W PySem.Calls PyProof.Rows HandSHeadRun
section
variable {M : Model} {Γ : Ctx} {env : Env}
theorem execs_app : ∀ {l r : List Stmt} {Q : Flow → Pos → Shared → Prop} {E : Value → Pos → Shared → Prop} {p : Pos} {s : Shared},
    Sem.wp M Γ (execs l env) (fun f p' s' => f = .next ∧ Sem.wp M Γ (execs r env) Q E p' s') E p s → Sem.wp M Γ (execs (l ++ r) env) Q E p s
  | [], r, Q, E, p, s, h => by
    rw [show execs [] env = (Sem.pure Flow.next : Sem Flow) from rfl, Sem.wp_pure] at h
    exact h.2
  | x :: l, r, Q, E, p, s, h => by
    have e : ∀ m : List Stmt, execs (x :: m) env = (exec x env >>= fun f => match f with
      | .next => execs m env
      | f => pure f) := fun _ => rfl
    rw [List.cons_append, e, Sem.wp_bind']
    rw [e, Sem.wp_bind'] at h
    refine Sem.wp_mono M Γ _ (fun f p' s' z => ?_) (fun _ _ _ z => z) p s h
    cases f with
    | next => exact execs_app z
    | _ =>
      have z2 := (Sem.wp_pure' ..).mp z
      cases z2.1
end
abbrev envOf (p : Program) (cv : Value) (fa : Addr) : Env := { scope := p.main.scope, locals := mainNs, globals := mainNs, cells := [], code := cv, frame := some fa }
abbrev dNew : Obj := ⟨.type "dict", none, .dict #[] 0, #[]⟩
/-- the top's pieces as trees -/
structure Parts where
  code : Sem Value
  frame : Value → Sem Value
  start : Env → Sem Flow
  ahead : Env → Sem Flow
  pairs : Env → List (Sem Value × Sem Value × List Str)
  behind : Env → Addr → Sem Flow
def full (den : Code → Sem PySem.Fin) (p : Program) (w : World) (hh : List L2.Key → Int) (T : Parts) (N : Nat) (s0 : SharedT) (pX : Pos) : Option (SharedT × List Ob2 × Bool) :=
  match mk den ⟨p, w.params⟩ N [] Γ0 (asV T.code) s0 default with
  | some (.ret cv, s1, p1) => (match mk den ⟨p, w.params⟩ N [] Γ0 (asV (T.frame cv)) s1 p1 with
    | some (.ret (.ref fa), s2, p2) => (match mk den ⟨p, w.params⟩ N [] (Γ0.enter (.body (behindTheImports p) (envOf p cv fa)) none p2) (asF (T.start (envOf p cv fa))) s2 p2 with
      | some (.next, s3, p3) => (match mk den ⟨p, w.params⟩ N [] (Γ0.enter (.body (behindTheImports p) (envOf p cv fa)) none p2) (asF (T.ahead (envOf p cv fa))) s3 p3 with
        | some (.next, s4, p4) => (match ((s4.tree.ins s4.n dNew).get s4.n).isSome with
          | true => frS ⟨s4.tree.ins s4.n dNew, s4.n + 1, s4.life, s4.gens, s4.drawn, s4.toks, s4.os⟩ fun s5 =>
            (match rounds den ⟨p, w.params⟩ (Γ0.enter (.body (behindTheImports p) (envOf p cv fa)) none p2) hh s4.n (T.pairs (envOf p cv fa)) [] s5 [] true with
            | some (s6, xs, ob, b) => (match mk den ⟨p, w.params⟩ N [] (Γ0.enter (.body (behindTheImports p) (envOf p cv fa)) none p2) (asF (T.behind (envOf p cv fa) s4.n)) s6 pX with
              | some (.next, s7, _) => some (s7, ob, b)
              | _ => none)
            | none => none)
          | false => none)
        | _ => none)
      | _ => none)
    | _ => none)
  | _ => none
abbrev A1 : Around := { handled := none, depth := 100000, frames := none, guards := none, units := 1000 }
/-- the pieces are those of the program: l1, a display of seventeen pairs with a name, l2 -/
structure PartsOk (p : Program) (T : Parts) (l1 l2 : List Stmt) (tg : PySem.Expr) (keys : List (Option PySem.Expr)) (values : List PySem.Expr) (pos pos2 : Pos) : Prop where
  body : behindTheImports p = l1 ++ .Assign [tg] (.Dict keys values pos2) pos :: l2
  code : T.code = moduleCode p.main
  frame : ∀ cv, T.frame cv = (newBodyFrame cv mainNs mainNs).bind fun a => .pure (.ref a)
  start : ∀ env, T.start env = (blockStart (behindTheImports p) env).bind fun _ => .pure .next
  ahead : ∀ env, T.ahead env = execs l1 env
  shape : ∀ env, (evalEachOpt keys env).zip ((evalEach values env).map fun v => do let x ← v; standAt pos2; pure x) = (T.pairs env).map fun x => (some x.1, x.2.1)
  stands : ∀ env, ∀ x ∈ T.pairs env, Stands x.1
  len : ∀ env, (T.pairs env).length = 17
  behind : ∀ env d, T.behind env d = ((do assignStores env (.ref d) (← swappedStores [tg] (.Dict keys values pos2) env) ((assignEach [tg] env).map (·.2))) : Sem Flow).bind fun f => match f with
    | .next => execs l2 env
    | f => .pure f
  sole : ∀ env, swapsWithSole [tg] (.Dict keys values pos2) pos.line env = pure false
theorem top_wp {p : Program} {w : World} {T : Parts} {l1 l2 : List Stmt} {tg : PySem.Expr} {keys : List (Option PySem.Expr)} {values : List PySem.Expr} {pos pos2 : Pos} {N : Nat} {s0 : SharedT} {G : Shared → Prop} (ok : PartsOk p T l1 l2 tg keys values pos pos2)
    (hin : ∀ cv fa p2, (Γ0.enter (.body (behindTheImports p) (envOf p cv fa)) none p2).In A1) (hu : A1.units < cLine)
    (h : ∀ pX, ∃ s7 ob, full (denote table) p w (tk p w).hash T N s0 pX = some (s7, ob, true) ∧ (∀ y ∈ ob, y.1 = y.2) ∧ G s7.abs) :
    Sem.wp (model p w) Γ0 (topStub p).cur (fun a _ s' => (∃ f, a = .done f) ∧ G s') (fun _ _ _ => False) default s0.abs := by
  obtain ⟨s7, ob, hf, _⟩ := h default
  unfold full at hf
  split at hf
  case h_2 => cases hf
  case h_1 =>
  rename_i cv s1 p1 h1
  split at hf
  case h_2 => cases hf
  case h_1 =>
  rename_i fa s2 p2 h2
  split at hf
  case h_2 => cases hf
  case h_1 =>
  rename_i s3 p3 h3
  split at hf
  case h_2 => cases hf
  case h_1 =>
  rename_i s4 p4 h4
  split at hf
  case h_2 => cases hf
  case h_1 =>
  rename_i h5
  rw [frS_eq] at hf
  split at hf
  case h_2 => cases hf
  case h_1 =>
  rename_i s6 xs ob0 b h6
  have all : ∀ pX, ∃ s7 p8, mk (denote table) ⟨p, w.params⟩ N [] (Γ0.enter (.body (behindTheImports p) (envOf p cv fa)) none p2) (asF (T.behind (envOf p cv fa) s4.n)) s6 pX = some (.next, s7, p8) ∧ (∀ y ∈ ob0, y.1 = y.2) ∧ b = true ∧ G s7.abs := by
    intro pX
    obtain ⟨s8, ob8, g1, g2, g3⟩ := h pX
    unfold full at g1
    simp only [h1, h2, h3, h4, h5, frS_eq, h6] at g1
    split at g1
    case h_2 => cases g1
    case h_1 =>
    rename_i s9 p9 h9
    cases g1
    exact ⟨_, _, h9, g2, rfl, g3⟩
  show Sem.wp (model p w) Γ0 (moduleCode p.main >>= fun code => newBodyFrame code mainNs mainNs >>= fun frame => run (.body (behindTheImports p) (envOf p code frame)) >>= fun _ => (ret .none : Sem PySem.Fin)) _ _ default s0.abs
  rw [ok.code] at h1
  refine (Sem.wp_bind' ..).mpr (run_V (M := model p w) h1 ?_)
  rw [ok.frame] at h2
  refine (Sem.wp_bind' ..).mpr ?_
  have fr : Sem.wp (model p w) Γ0 ((newBodyFrame cv mainNs mainNs).bind fun a => .pure (.ref a) : Sem Value) (fun v p' s' => v = .ref fa ∧ p' = p2 ∧ s' = s2.abs) (fun _ _ _ => False) p1 s1.abs := run_V (M := model p w) h2 ⟨rfl, rfl, rfl⟩
  have fr2 : Sem.wp (model p w) Γ0 (newBodyFrame cv mainNs mainNs >>= fun a => (.pure (.ref a) : Sem Value)) (fun v p' s' => v = .ref fa ∧ p' = p2 ∧ s' = s2.abs) (fun _ _ _ => False) p1 s1.abs := fr
  rw [Sem.wp_bind'] at fr2
  refine Sem.wp_mono _ _ _ (fun a p' s' z => ?_) (fun _ _ _ z => z) p1 s1.abs fr2
  rw [Sem.wp_pure] at z
  obtain ⟨za, rfl, rfl⟩ := z
  cases za
  refine (Sem.wp_bind' ..).mpr ?_
  show Sem.wp _ _ (.call _ _ _ _ _) _ _ _ _
  rw [Sem.wp_call, wpCode_iff_wp]
  show Sem.wp (model p w) (Γ0.enter (.body (behindTheImports p) (envOf p cv fa)) none p') (((blockStart (behindTheImports p) (envOf p cv fa)) >>= fun _ => ((execs (behindTheImports p) (envOf p cv fa)).onRaise (leaving (envOf p cv fa))) >>= fun f => (Sem.pure (PySem.Fin.done f) : Sem PySem.Fin))) _ _ p' s2.abs
  rw [ok.start] at h3
  have st : Sem.wp (model p w) (Γ0.enter (.body (behindTheImports p) (envOf p cv fa)) none p') ((blockStart (behindTheImports p) (envOf p cv fa)) >>= fun _ => (Sem.pure Flow.next : Sem Flow)) (fun f pp s' => pp = p3 ∧ s' = s3.abs) (fun _ _ _ => False) p' s2.abs := run_F (M := model p w) h3 ⟨rfl, rfl⟩
  rw [Sem.wp_bind'] at st
  refine (Sem.wp_bind' ..).mpr (Sem.wp_mono _ _ _ (fun a pp s' z => ?_) (fun _ _ _ z => z.elim) _ _ st)
  rw [Sem.wp_pure] at z
  obtain ⟨rfl, rfl⟩ := z
  refine (Sem.wp_bind' ..).mpr ?_
  have eb : execs (behindTheImports p) (envOf p cv fa) = execs (l1 ++ .Assign [tg] (.Dict keys values pos2) pos :: l2) (envOf p cv fa) := by rw [ok.body]
  rw [Sem.wp_onRaise, eb]
  rw [ok.ahead] at h4
  refine execs_app (run_F (M := model p w) h4 ⟨rfl, ?_⟩)
  have e : ∀ (x : Stmt) (m : List Stmt), execs (x :: m) (envOf p cv fa) = (exec x (envOf p cv fa) >>= fun f => match f with
      | .next => execs m (envOf p cv fa)
      | f => pure f) := fun _ _ => rfl
  rw [e]
  refine (Sem.wp_bind' ..).mpr ?_
  obtain ⟨_, _, _, hob, hb, _⟩ := all default
  subst hb
  refine exec_dict (A := A1) hu (hin cv fa p') (ok.shape _) (ok.sole _) h5 h6 hob (ok.stands _) (ok.len _) (fun pX => ?_) p4
  obtain ⟨s8, p8, h8, _, _, hG⟩ := all pX
  rw [ok.behind] at h8
  have bh : Sem.wp (model p w) (Γ0.enter (.body (behindTheImports p) (envOf p cv fa)) none p') (((do assignStores (envOf p cv fa) (.ref s4.n) (← swappedStores [tg] (.Dict keys values pos2) (envOf p cv fa)) ((assignEach [tg] (envOf p cv fa)).map (·.2))) : Sem Flow) >>= fun f => match f with
    | .next => execs l2 (envOf p cv fa)
    | f => .pure f) (fun f _ s' => f = .next ∧ s' = s8.abs) (fun _ _ _ => False) pX s6.abs := run_F (M := model p w) h8 ⟨rfl, rfl⟩
  rw [Sem.wp_bind'] at bh
  refine Sem.wp_mono _ _ _ (fun f pp s' z => ?_) (fun _ _ _ z => z.elim) pX s6.abs bh
  have fin : ∀ (f : Flow) (pp : Pos) (s' : Shared), (f = .next ∧ s' = s8.abs) → Sem.wp (model p w) (Γ0.enter (.body (behindTheImports p) (envOf p cv fa)) none p') (Sem.pure (PySem.Fin.done f)) (Sem.finPost (model p w) (Γ0.enter (.body (behindTheImports p) (envOf p cv fa)) none p') fun x s' => Sem.wp (model p w) Γ0 ((match x with
      | .ok f => .pure f
      | .error e => .raise e : Sem Flow)) (fun _ p3 s3 => Sem.wp (model p w) Γ0 (ret .none : Sem PySem.Fin) (fun a _ s' => (∃ f, a = .done f) ∧ G s') (fun _ _ _ => False) p3 s3) (fun _ _ _ => False) p' s') (fun e _ s' => False) pp s' := by
    rintro f pp s' ⟨rfl, rfl⟩
    rw [Sem.wp_pure]
    simp only [Sem.finPost]
    rw [Sem.wp_pure]
    unfold ret
    rw [Sem.wp_pure']
    exact ⟨⟨_, rfl⟩, hG⟩
  cases f with
  | next =>
    refine Sem.wp_mono _ _ _ (fun f pp s' y => ?_) (fun _ _ _ y => y.elim) pp s' z
    exact Sem.wp_mono _ _ _ (fun _ _ _ q => q) (fun _ _ _ q => q.elim) pp s' (fin f pp s' y)
  | _ =>
    have z2 := (Sem.wp_pure' ..).mp z
    cases z2.1
end HM
noncomputable section
namespace HM
open PySem PySem.W PySem.Calls PyProof.Rows HandSHeadRun
/-- the texts of a tuple that is written out -/
def strsOf : PySem.Expr → List Str
  | .Tuple es _ _ => es.filterMap fun e => match e with
    | .Constant (.str x) _ _ => some x
    | _ => none
  | _ => []
def isTup : PySem.Expr → Bool
  | .Tuple _ _ _ => true
  | _ => false
/-- the pairs of a display, by any reading of expressions -/
def pairsBy (ev : PySem.Expr → Env → Sem Value) (pos2 : Pos) (env : Env) : List (Option PySem.Expr) → List PySem.Expr → List (Sem Value × Sem Value × List Str)
  | some k :: ks, v :: vs => (ev k env, (ev v env).bind (fun x => (standAt pos2).bind fun _ => .pure x), strsOf k) :: pairsBy ev pos2 env ks vs
  | _, _ => []
theorem pairs_cons {ev : PySem.Expr → Env → Sem Value} {pos2 : Pos} {env : Env} {k v : PySem.Expr} {ks : List (Option PySem.Expr)} {vs : List PySem.Expr} :
    pairsBy ev pos2 env (some k :: ks) (v :: vs) = (ev k env, (ev v env).bind (fun x => (standAt pos2).bind fun _ => .pure x), strsOf k) :: pairsBy ev pos2 env ks vs := by
  rw [pairsBy]
theorem pairs_shape {env : Env} {pos2 : Pos} : ∀ {ks : List (Option PySem.Expr)} {vs : List PySem.Expr}, ks.all (fun k => match k with
      | some k => isTup k
      | none => false) = true → ks.length = vs.length →
    (evalEachOpt ks env).zip ((evalEach vs env).map fun v => do let x ← v; standAt pos2; pure x) = (pairsBy eval pos2 env ks vs).map (fun x => (some x.1, x.2.1)) ∧ (∀ x ∈ pairsBy eval pos2 env ks vs, Stands x.1) ∧ (pairsBy eval pos2 env ks vs).length = ks.length
  | [], [], _, _ => ⟨rfl, fun _ m => (nomatch m), rfl⟩
  | [], _ :: _, _, h => by cases h
  | k :: ks, [], _, h => by cases h
  | none :: ks, v :: vs, h, _ => by simp at h
  | some k :: ks, v :: vs, h, hl => by
    simp only [List.all_cons, Bool.and_eq_true] at h
    obtain ⟨h1, h2⟩ := h
    obtain ⟨i1, i2, i3⟩ := pairs_shape (env := env) (pos2 := pos2) h2 (by simpa using hl)
    refine ⟨?_, fun x m => ?_, ?_⟩
    · rw [show evalEachOpt (some k :: ks) env = some (eval k env) :: evalEachOpt ks env from rfl, show evalEach (v :: vs) env = eval v env :: evalEach vs env from rfl, List.map_cons, List.zip_cons_cons, i1, pairs_cons, List.map_cons]
      rfl
    · rw [pairs_cons] at m
      rcases List.mem_cons.mp m with e | m
      · subst e
        cases k with
        | Tuple es c q => exact ⟨q, _, rfl⟩
        | _ => cases h1
      · exact i2 x m
    · rw [pairs_cons, List.length_cons, List.length_cons, i3]
/-- the pieces of a program, by any reading -/
structure Rd1 where
  mc : Module → Sem Value
  nb : Value → Addr → Addr → Sem Addr
  bs : List Stmt → Env → Sem Unit
  ex : List Stmt → Env → Sem Flow
  ev : PySem.Expr → Env → Sem Value
  sw : List PySem.Expr → PySem.Expr → Env → Sem (Option (List Str))
  as : Env → Value → Option (List Str) → List (Value → Sem Unit) → Sem Flow
  ae : List PySem.Expr → Env → List (Bool × (Value → Sem Unit))
def partsBy (r : Rd1) (p : Program) (l1 l2 : List Stmt) (tg : PySem.Expr) (keys : List (Option PySem.Expr)) (values : List PySem.Expr) (pos2 : Pos) : Parts where
  code := r.mc p.main
  frame := fun cv => (r.nb cv mainNs mainNs).bind fun a => .pure (.ref a)
  start := fun env => (r.bs (behindTheImports p) env).bind fun _ => .pure .next
  ahead := fun env => r.ex l1 env
  pairs := fun env => pairsBy r.ev pos2 env keys values
  behind := fun env d => ((r.sw [tg] (.Dict keys values pos2) env).bind fun sw => r.as env (.ref d) sw ((r.ae [tg] env).map (·.2))).bind fun f => match f with
    | .next => r.ex l2 env
    | f => .pure f
/-- the model's own readings; the library's twins of them -/
def rd0 : Rd1 := ⟨fun m => moduleCode m, fun c a b => newBodyFrame c a b, blockStart, execs, eval, swappedStores, assignStores, assignEach⟩
def rdQ : Rd1 := ⟨fun m => PySem.W.Fast.tw17154629097778926822 m m.file none, fun c a b => PySem.W.Fast.tw12822647523644345616 c a b builtinsNs, PySem.W.Fast.tw1066825118222455980, PySem.W.Fast.tw12563942051412417395, PySem.W.Fast.tw14044960220447912780, PySem.W.Fast.tw4016559146275205325,
  PySem.W.Fast.tw2470068587113613483, PySem.W.Fast.tw15628205474173192105⟩
theorem rd_eq : rd0 = rdQ := by
  unfold rd0 rdQ
  rw [← PySem.W.Fast.te17154629097778926822, ← PySem.W.Fast.te12822647523644345616, ← PySem.W.Fast.te1066825118222455980, ← PySem.W.Fast.te12563942051412417395, ← PySem.W.Fast.te14044960220447912780, ← PySem.W.Fast.te4016559146275205325, ← PySem.W.Fast.te2470068587113613483,
    ← PySem.W.Fast.te15628205474173192105]
theorem parts_ok {p : Program} {l1 l2 : List Stmt} {tg : PySem.Expr} {keys : List (Option PySem.Expr)} {values : List PySem.Expr} {pos pos2 : Pos} (body : behindTheImports p = l1 ++ .Assign [tg] (.Dict keys values pos2) pos :: l2)
    (hk : keys.all (fun k => match k with
      | some k => isTup k
      | none => false) = true) (hl : keys.length = 17) (hv : keys.length = values.length) (sole : ∀ env, swapsWithSole [tg] (.Dict keys values pos2) pos.line env = pure false) : PartsOk p (partsBy rd0 p l1 l2 tg keys values pos2) l1 l2 tg keys values pos pos2 where
  body := body
  code := rfl
  frame := fun _ => rfl
  start := fun _ => rfl
  ahead := fun _ => rfl
  shape := fun env => (pairs_shape hk hv).1
  stands := fun env => (pairs_shape hk hv).2.1
  len := fun env => (pairs_shape hk hv).2.2.trans hl
  behind := fun _ _ => rfl
  sole := sole
theorem full_eq {p : Program} {w : World} {hh : List L2.Key → Int} {l1 l2 : List Stmt} {tg : PySem.Expr} {keys : List (Option PySem.Expr)} {values : List PySem.Expr} {pos2 : Pos} {N : Nat} {s0 : SharedT} {pX : Pos} :
    full (denote table) p w hh (partsBy rd0 p l1 l2 tg keys values pos2) N s0 pX = full (denQ tabQ) p w hh (partsBy rdQ p l1 l2 tg keys values pos2) N s0 pX := by
  rw [rd_eq, table_eq_tree, denQ_eq, tabQ_eq]
/-- from the boot -/
def fromBoot {α : Type} (w : World) (os : OsState) (k : SharedT → Option α) : Option α := match putAll (boot_heap w.params).objs.toList .nil 0 with
  | some (t, n) => frNat n fun n0 => k (bootT w os (t, n0))
  | none => none
theorem fromBoot_ok {α : Type} {w : World} {os : OsState} {k : SharedT → Option α} {x : α} (h : fromBoot w os k = some x) : ∃ s0 : SharedT, s0.abs = bootS w os ∧ k s0 = some x ∧ (∀ k2 : SharedT → Option α, fromBoot w os k2 = k2 s0) ∧ ∀ {β : Type} (k2 : SharedT → Option β), fromBoot w os k2 = k2 s0 := by
  unfold fromBoot at h ⊢
  cases e : putAll (boot_heap w.params).objs.toList .nil 0 with
  | none =>
    rw [e] at h
    cases h
  | some r =>
    obtain ⟨t, n⟩ := r
    rw [e] at h
    have h1 : (frNat n fun n0 => k (bootT w os (t, n0))) = some x := h
    rw [frNat_eq] at h1
    refine ⟨bootT w os (t, n), ?_, h1, fun k2 => ?_, fun k2 => ?_⟩
    · have eh := putAll_heap e
      show (⟨absHeap t n (boot_heap w.params).life, #[], boot_drawn, boot_toks, os⟩ : Shared) = _
      rw [eh]
    · show (frNat n fun n0 => k2 (bootT w os (t, n0))) = _
      rw [frNat_eq]
    · show (frNat n fun n0 => k2 (bootT w os (t, n0))) = _
      rw [frNat_eq]
end HM
noncomputable section
namespace HM
open PySem PySem.W PySem.Calls PyProof.Rows HandSHeadRun DL
inductive Fc where
  | no (x : Str)
  | ex (x : Str)
  | con (x : Str) (d : D)
  | fn (x : Str)
  | tz (x : Str)
def all2 {α β : Type} (f : α → β → Bool) : List α → List β → Bool
  | [], [] => true
  | a :: r, b :: t => f a b && all2 f r t
  | _, _ => false
def kdaB (K : PySem.W.Frag) : Nat → Value → D → Bool
  | 0, _, _ => false
  | n + 1, u, d => match u, d with
    | .none, .none => true
    | .bool b, .bool c => decide (b = c)
    | .int i _, .int j => decide (i = j)
    | .str x _, .str y => decide (x = y)
    | .ref a, .tuple ds => (match K.lookup a with
      | some ⟨.type T, _, .seq its _, _⟩ => decide (T = "tuple") && (Nat.ble its.size 1000 && all2 (kdaB K n) its.toList ds)
      | _ => false)
    | _, _ => false
theorem kda_ok {K : PySem.W.Frag} : ∀ {n : Nat} {u : Value} {d : D}, kdaB K n u d = true → KDa K u d
  | 0, _, _, h => by cases h
  | n + 1, u, d, h => by
    have all : ∀ {us : List Value} {ds : List D}, all2 (kdaB K n) us ds = true → KDaL K us ds := by
      intro us
      induction us with
      | nil =>
        intro ds q
        cases ds with
        | nil => exact .nil
        | cons _ _ => cases q
      | cons u us ih =>
        intro ds q
        cases ds with
        | nil => cases q
        | cons d ds =>
          obtain ⟨q1, q2⟩ := Bool.and_eq_true_iff.mp (show (kdaB K n u d && all2 (kdaB K n) us ds) = true from q)
          exact .cons (kda_ok q1) (ih q2)
    unfold kdaB at h
    split at h
    · exact .non
    · have e := of_decide_eq_true h
      subst e
      exact .bl _
    · have e := of_decide_eq_true h
      subst e
      exact .int _ _
    · have e := of_decide_eq_true h
      subst e
      exact .str _ _
    · split at h
      · rename_i T dd its m sl e
        obtain ⟨h1, h2⟩ := Bool.and_eq_true_iff.mp h
        obtain ⟨h2, h3⟩ := Bool.and_eq_true_iff.mp h2
        have eT : T = "tuple" := of_decide_eq_true h1
        subst eT
        have hz : its.size ≤ sizeLine := by
          have := Nat.le_of_ble_eq_true h2
          rw [sizeLine_eq]
          omega
        exact .tup e hz (all h3)
      · cases h
    · cases h
def Fc.ok (K : PySem.W.Frag) : Fc → Bool
  | .no x => He.eqO (PySem.W.nsIn K mainGlobals x) (some none)
  | .ex x => (He.Fa.glo x).ok K && (He.Fa.exc x).ok K
  | .con x d => (match PySem.W.nsIn K mainGlobals x with
    | some (some u) => kdaB K 9 u d
    | _ => false)
  | .fn x => (He.Fa.glo x).ok K && ((He.Fa.keep x).ok K && (He.Fa.code (x, none) x).ok K)
  | .tz x => (match PySem.W.nsIn K mainGlobals x with
    | some (some (.ref a)) => (match K.lookup a with
      | some ⟨.type T, none, _, _⟩ => decide (T = "tuple")
      | _ => false)
    | _ => false)
/-- a dict whose keys are tuples of texts, as it was written -/
def KTab2 : Type := List (List Str × D)
def ketB (K : PySem.W.Frag) : List DictEntry → KTab2 → Bool := all2 fun e q => (match e.key with
  | .ref a => (match K.lookup a with
    | some ⟨.type T, _, .seq its _, _⟩ => decide (T = "tuple") && (Nat.ble its.size 1000 && (strsB q.1 its.toList && kdaB K 9 e.val q.2))
    | _ => false)
  | _ => false)
def kesB (K : PySem.W.Frag) : List DictEntry → KTab → Bool := all2 fun e q => (match e.key with
  | .str x _ => decide (x = q.1) && kdaB K 9 e.val q.2
  | _ => false)
theorem kes_ok {K : PySem.W.Frag} : ∀ {es : List DictEntry} {tb : KTab}, kesB K es tb = true → KEs K es tb
  | [], [], _ => .nil
  | [], _ :: _, h => by cases h
  | _ :: _, [], h => by cases h
  | ⟨hh, key, v⟩ :: es, (y, d) :: tb, h => by
    obtain ⟨h1, h2⟩ := Bool.and_eq_true_iff.mp h
    cases key with
    | str x t =>
      obtain ⟨h3, h4⟩ := Bool.and_eq_true_iff.mp h1
      have e : x = y := of_decide_eq_true h3
      subst e
      exact .cons (kda_ok h4) (kes_ok h2)
    | _ => cases h1
def dicAt (K : PySem.W.Frag) (x : Str) : Option (Array DictEntry) := match K.lookup (He.ga K x) with
  | some ⟨.type T, none, .dict es _, sl⟩ => (match decide (T = "dict") && (sl.isEmpty && !((He.ga K x) == sysModules)) with
    | true => some es
    | false => none)
  | _ => none
/-- a dict of the module whose values are its functions -/
def kefB (K : PySem.W.Frag) : List DictEntry → List (Str × Str) → Bool := all2 fun e q => (match e.key with
  | .str x _ => decide (x = q.1) && ((He.Fa.glo q.2).ok K && (match e.val with
    | .ref a => a == He.ga K q.2
    | _ => false))
  | _ => false)
/-- what is looked at -/
structure Spec1 where
  facts : List Fc
  fns : List He.FnD
  tds : List (Str × KTab)
  tts : List (Str × KTab2)
  tfs : List (Str × List (Str × Str))
abbrev Al1 : Type := Bool × List He.FnV × List (Option (List (Option (Str × Int)))) × List (Option (List Int))
def obsK (F : Spec1) (K : PySem.W.Frag) : Al1 :=
  (F.facts.all (Fc.ok K) && (F.tds.all (fun q => (He.Fa.glo q.1).ok K && (match dicAt K q.1 with
    | some es => kesB K es.toList q.2
    | none => false)) && F.tts.all (fun q => (He.Fa.glo q.1).ok K && (match dicAt K q.1 with
    | some es => ketB K es.toList q.2
    | none => false)) && F.tfs.all (fun q => (He.Fa.glo q.1).ok K && (match dicAt K q.1 with
    | some es => kefB K es.toList q.2
    | none => false))),
   F.fns.map (fun d => He.fnObs K d.at_), F.tds.map (fun q => (dicAt K q.1).map fun es => es.toList.map He.keyOf) ++ F.tfs.map (fun q => (dicAt K q.1).map fun es => es.toList.map He.keyOf), F.tts.map fun q => (dicAt K q.1).map fun es => es.toList.map (·.hash))
def valK (F : Spec1) (p : Program) (w : World) : Al1 :=
  (true, F.fns.map He.FnD.val, F.tds.map (fun q => some (He.keysIn w.params (q.2.map (·.1)))) ++ F.tfs.map (fun q => some (He.keysIn w.params (q.2.map (·.1)))), F.tts.map fun q => some (q.2.map fun z => (tk p w).hash (sks z.1)))
def addrs (n0 n : Nat) : List Addr := mainGlobals :: cStatics :: List.range' n0 (n - n0)
/-- the boot's objects that must stay -/
def keptL (n0 : Nat) (g : Addr → Option Obj) : List (Option Obj) := (List.range n0).map fun b => match b == mainNs || b == cStatics with
  | true => none
  | false => g b
theorem kept_ok {n0 : Nat} {g g' : Addr → Option Obj} (e : keptL n0 g = keptL n0 g') {b : Addr} (hb : b < n0) (h1 : b ≠ mainNs) (h2 : b ≠ cStatics) : g b = g' b := by
  have q := congrArg (fun l => l[b]?) e
  simp only [keptL, List.getElem?_map, List.getElem?_range hb, Option.map_some, Option.some.injEq] at q
  have z : (b == mainNs || b == cStatics) = false := by simp [h1, h2]
  rw [z] at q
  exact q
end HM
noncomputable section
namespace DL
open PySem PySem.Spec PyProof.Rows L2
variable [Xk]
abbrev KTab3 : Type := List (List Str × D)
structure KE2 (G : Gm) (e : DictEntry) (q : List Str × D) : Prop where
  ex : ∃ (a : Addr) (dd : Option Addr) (its : Array Value) (n : Nat) (sl : Array (Option Value)), e.key = .ref a ∧ G.K.lookup a = some ⟨.type "tuple", dd, .seq its n, sl⟩ ∧ HM.strsB q.1 its.toList = true
  val : KDa G.K e.val q.2
  hash : e.hash = (HM.tk G.P G.w).hash (HM.sks q.1)
inductive KEs2 (G : Gm) : List DictEntry → KTab3 → Prop
  | nil : KEs2 G [] []
  | cons {e : DictEntry} {q : List Str × D} {es : List DictEntry} {t : KTab3} (h : KE2 G e q) (r : KEs2 G es t) : KEs2 G (e :: es) (q :: t)
structure GlT (G : Gm) (x : Str) (t : KTab3) : Prop where
  ex : ∃ (d : Addr) (es : Array DictEntry) (n : Nat), G.mg x = some (.ref d) ∧ G.K.lookup d = some ⟨.type "dict", none, .dict es n, #[]⟩ ∧ (d == sysModules) = false ∧ KEs2 G es.toList t
  nd : (t.map (·.1)).Nodup
def strsOf : List D → Option (List Str)
  | [] => some []
  | .str x :: r => (strsOf r).map (x :: ·)
  | _ => none
def tgetD (t : KTab3) : D → Option D
  | .tuple ds => (strsOf ds).bind fun ks => t.lookup ks
  | _ => none
def tninD (t : KTab3) : D → Option Bool
  | .tuple ds => (strsOf ds).map fun ks => !(t.lookup ks).isSome
  | _ => none
def dTget (t : KTab3) (fb : Ev → Mn D) (ev : Ev) : Mn D := bnd (fb ev) fun y => lft (tgetD t y)
def dTnin (t : KTab3) (fb : Ev → Mn D) (ev : Ev) : Mn Bool := bnd (fb ev) fun y => lft (tninD t y)
/-- the entries as the dict's rule wants them -/
theorem KEs2.rows {G : Gm} {h : Heap} (kin : G.K.In h) : ∀ {es : List DictEntry} {t : KTab3}, KEs2 G es t → ∃ xs : List (List Key × Addr × Value), es = xs.map (entryOfKey (HM.tk G.P G.w)) ∧ (∀ x ∈ xs, (HM.tk G.P G.w).is h x.1 x.2.1) ∧ xs.map (·.1) = t.map (fun q => HM.sks q.1) ∧
      ∀ ks : List Str, (match List.lookup ks t with
        | some dd => ∃ p : Addr × Value, atKey xs (HM.sks ks) = some p ∧ KDa G.K p.2 dd
        | none => atKey xs (HM.sks ks) = none)
  | _, _, .nil => ⟨[], rfl, (fun _ m => by cases m), rfl, fun ks => rfl⟩
  | _, _, .cons (e := e) (q := q) (t := t) he r => by
    obtain ⟨xs, h1, h2, h3, h4⟩ := r.rows kin
    obtain ⟨⟨a, dd, its, n, sl, k1, k2, k3⟩, kv, kh⟩ := he
    refine ⟨(HM.sks q.1, a, e.val) :: xs, ?_, ?_, ?_, ?_⟩
    · rw [List.map_cons, h1]
      congr 1
      obtain ⟨eh, ek, ev⟩ := e
      cases k1
      cases kh
      rfl
    · intro x hx
      rcases List.mem_cons.mp hx with rfl | hx
      · exact ⟨_, its, n, kin _ _ k2, rfl, rfl, HM.strsB_ok k3⟩
      · exact h2 x hx
    · rw [List.map_cons, List.map_cons, h3]
    · intro ks
      by_cases hk : ks = q.1
      · subst hk
        have e1 : List.lookup q.1 (q :: t) = some q.2 := by
          obtain ⟨q1, q2⟩ := q
          simp [List.lookup]
        rw [e1]
        exact ⟨(a, e.val), by simp [atKey], kv⟩
      · have e1 : List.lookup ks (q :: t) = List.lookup ks t := by
          obtain ⟨q1, q2⟩ := q
          have b1 : (ks == q1) = false := by simpa using hk
          simp [List.lookup, b1]
        have e2 : atKey ((HM.sks q.1, a, e.val) :: xs) (HM.sks ks) = atKey xs (HM.sks ks) := by
          have ne : ¬ HM.sks q.1 = HM.sks ks := fun z => hk (HM.inj_sks z).symm
          simp [atKey, List.find?_cons, ne]
        rw [e1]
        have q' := h4 ks
        cases hl : List.lookup ks t with
        | some dd => rw [hl] at q'; rw [e2]; exact q'
        | none => rw [hl] at q'; rw [e2]; exact q'
theorem nodup_sks : ∀ {l : List (List Str)}, l.Nodup → (l.map HM.sks).Nodup := fun h => List.Pairwise.map _ (fun a b hab e => hab (HM.inj_sks e)) h
variable {G : Gm} {k : Nat} {sc : Sx} {N : List Str}
/-- the key that stands in the heap -/
theorem strs_items {P : Program} {w : World} {K : PySem.W.Frag} {M : Addr → Prop} {H : Hp} : ∀ {xs : List V} {ds : List D} {its : List Value} {ks : List Str}, DaL K M H xs ds → Vals xs its → strsOf ds = some ks → ItemsAre (mixKind P w) (HM.sks ks) its
  | _, _, _, ks, .nil, .nil, e => by cases e; exact .nil
  | _, _, _, ks, .cons h t, .cons r rs, e => by
    cases h with
    | str x =>
      replace e : (strsOf _).map (x :: ·) = some ks := e
      obtain ⟨ks', e1, rfl⟩ := Option.map_eq_some_iff.mp e
      exact .cons (kV_is (k := Sum.inr x) r) (strs_items t rs e1)
    | _ => cases e
theorem key_at {X : Cx} {pins : List (Addr × Obj)} {σ : L2.St} {H : Hp} {s : Shared} {M : Addr → Prop} {b : Addr} {xs : List V} {ds : List D} {ks : List Str} (I : Inv X pins σ H s) (h : SqT X.K H b xs) (t : DaL X.K M H xs ds) (e : strsOf ds = some ks) : (HM.tk X.prog X.w).is s.heap (HM.sks ks) b := by
  obtain ⟨its, rv, ⟨o, h1, h2, n, h3⟩, hz⟩ := I.tuple h
  refine ⟨o, its.toArray, n, h1, h2, h3, ?_⟩
  simpa using strs_items (P := X.prog) (w := X.w) t rv e
theorem dict_at {X : Cx} {pins : List (Addr × Obj)} {σ : L2.St} {H : Hp} {s : Shared} {x : Str} {t : KTab3} (g : Gd G k sc N X) (h : GlT G x t) (I : Inv X pins σ H s) : ∃ (d : Addr) (xs : List (List Key × Addr × Value)), G.mg x = some (.ref d) ∧ (d == sysModules) = false ∧ s.heap.DictOfH (HM.tk X.prog X.w) d xs ∧ ∀ ks : List Str, (match List.lookup ks t with
        | some dd => ∃ p : Addr × Value, atKey xs (HM.sks ks) = some p ∧ KDa G.K p.2 dd
        | none => atKey xs (HM.sks ks) = none) := by
  obtain ⟨d, es, n, h1, h2, h3, h4⟩ := h.ex
  have kin : G.K.In s.heap := by rw [← g.hK]; exact I.kIn
  obtain ⟨xs, a1, a2, a3, a4⟩ := h4.rows kin
  refine ⟨d, xs, h1, h3, ?_, a4⟩
  rw [g.hP, g.hw]
  refine ⟨_, es, n, kin _ _ h2, ⟨rfl, rfl, rfl⟩, rfl, a1, a2, ?_⟩
  rw [a3]
  have := nodup_sks h.nd
  rwa [List.map_map] at this
def rTget (G : Gm) (d : Addr) (t : KTab3) (M : Addr → Prop) : R2 := fun x y H Q => x = .ref d ∧ ∃ b xs ds ks dd, y = .ref b ∧ SqT G.K H b xs ∧ DaL G.K M H xs ds ∧ strsOf ds = some ks ∧ List.lookup ks t = some dd ∧ ∀ v, (∀ M H, Da G.K M H v dd) → Q v H
theorem E_tget {x : Str} {t : KTab3} {b : Expr} {fb : Ev → Mn D} {p p2 : Pos} (h : GlT G x t) (hb : SE G k sc N b fb) (hg : glB sc x = true := by rfl) (hdb : (x == ("__debug__" : Str)) = false := by decide) (hs : ∀ o i, subscripted b false o i = operate [o, i] (getItem o i) := by intro _ _; rfl) :
    SE G k sc N (.Subscript (.Name x p) b p2) (dTget t fb) := by
  obtain ⟨d, _, _, hd, _⟩ := h.ex
  refine e_one (rl := fun X y H Q => ∃ M, rTget G d t M (.ref d) y H Q) hb (fun X ta g hta => pe_imp (pe_ix (r := fun x y H Q => ∃ M, rTget G d t M x y H Q) ?_ (pe_glob (v := .ref d) (gl_of g hg) (by rw [g.hmg]; exact hd) rfl hdb) hta hs) fun σ H Q q => q) fun X M H y dy dd Q g ml hy e hq => ?_
  · intro value slice pins s σ H x y v u Q I rx ry ⟨M, e1, b, xs, ds, ks, dd, e2, q1, q2, q3, q4, q5⟩ hs'
    subst e1
    subst e2
    cases (show v = Value.ref d from rx)
    cases (show u = Value.ref b from ry)
    obtain ⟨d', zs, h1, h2, h3, h4⟩ := dict_at g h I
    rw [hd] at h1
    cases h1
    have z := h4 ks
    rw [q4] at z
    obtain ⟨p, z1, z2⟩ := z
    obtain ⟨v, r, a⟩ := z2.all
    refine tail_any h3.typeIs slot_dict_getitem.lookup (wpAny_getItem_heap (tupleKind_room_in1 (by have := g.room.un; omega)) (key_at I (by rw [g.hK]; exact q1) (by rw [g.hK]; exact q2) q3) h3 z1 ?_) hs'
    exact ⟨v, H, I.tok _, r, q5 v a⟩
  · cases hy with
    | tup h1 h2 =>
      obtain ⟨ks, e1, e2⟩ := Option.bind_eq_some_iff.mp (show (strsOf _).bind (fun ks => List.lookup ks t) = some dd from e)
      exact ⟨M, rfl, _, _, _, ks, dd, rfl, h1, h2, e1, e2, fun v a => hq v H (.refl _) (a M H)⟩
    | _ => cases e
def rTnin (G : Gm) (d : Addr) (t : KTab3) (M : Addr → Prop) : R2 := fun x y H Q => y = .ref d ∧ ∃ b xs ds ks, x = .ref b ∧ SqT G.K H b xs ∧ DaL G.K M H xs ds ∧ strsOf ds = some ks ∧ Q (.bl (!(List.lookup ks t).isSome)) H
theorem T_tnin {x : Str} {t : KTab3} {b : Expr} {fb : Ev → Mn D} {p p2 : Pos} (h : GlT G x t) (hb : SE G k sc N b fb) (hg : glB sc x = true := by rfl) (hdb : (x == ("__debug__" : Str)) = false := by decide) (hm : behindInMarks .NotIn (.Name x p) = false := by rfl) :
    ST G k sc N (.Compare b [.NotIn] [.Name x p] p2) (dTnin t fb) := fun X W g tk => by
  obtain ⟨d, _, _, hd, _⟩ := h.ex
  have op : OpR X (compareOp .NotIn) (fun x y H Q => ∃ M, rTnin G d t M x y H Q) := by
    intro pins s σ H x y v u Q I rx ry ⟨M, e1, b, xs, ds, ks, e2, q1, q2, q3, q5⟩
    subst e1
    subst e2
    cases (show u = Value.ref d from ry)
    cases (show v = Value.ref b from rx)
    obtain ⟨d', zs, h1, h2, h3, h4⟩ := dict_at g h I
    rw [hd] at h1
    cases h1
    have z := h4 ks
    refine wpAny_notIn_heap (tupleKind_room_in1 (by have := g.room.un; omega)) (key_at I (by rw [g.hK]; exact q1) (by rw [g.hK]; exact q2) q3) h2 h3 ?_
    have e : (atKey zs (HM.sks ks)).isSome = (List.lookup ks t).isSome := by
      cases hl : List.lookup ks t with
      | some dd => rw [hl] at z; obtain ⟨p, z1, z2⟩ := z; rw [z1]; rfl
      | none => rw [hl] at z; rw [z]; rfl
    rw [e]
    exact ⟨.bl (!(List.lookup ks t).isSome), H, I.tok _, rfl, q5⟩
  refine pt_imp (pt_cmpR op (hb X W g tk) (pe_glob (v := .ref d) (gl_of g hg) (by rw [g.hmg]; exact hd) rfl hdb) hm) fun σ H Q h => ?_
  obtain ⟨M, r, ev, rs, R, o, rs', e, w⟩ := h
  refine tE_bnd R e w fun y rs1 H1 v R1 s1 d1 e1 w1 => ?_
  obtain ⟨c, e3, rfl, rfl⟩ := lft_some e1
  cases d1 with
  | tup h1 h2 =>
    obtain ⟨ks, e1, e2⟩ := Option.map_eq_some_iff.mp (show (strsOf _).map (fun ks => !(List.lookup ks t).isSome) = some c from e3)
    exact ⟨M, rfl, _, _, _, ks, rfl, h1, h2, e1, _, rfl, by rw [e2]; exact w1 H1 (.refl _) R1.row⟩
  | _ => cases e3
end DL
noncomputable section
namespace DL
open PySem PySem.Spec PyProof.Rows L2
variable [Xk]
variable {G : Gm} {k : Nat} {sc : Sx} {N : List Str}
/-- a, b = x.pop(): the last item, a tuple, in two names -/
def popT (t : Tgt) (i : Nat) (ev : Ev) : Option (List D × List D) := (getO ev i).bind fun ds => (ds[ds.length - 1]?).bind fun d => (t.of d).map fun es => (ds.dropLast, es)
def sPopT (t : Tgt) (i : Nat) (ev : Ev) : Ms := bnS (lft (popT t i ev)) fun q rs => some (.nx (setE (ev.set i (.own q.1)) t.ix q.2), rs)
theorem s_popT (t : Tgt) (i : Nat) {x : Str} {tg : Expr} {p1 p2 p3 p4 : Pos} (ht : PGt G k sc N tg t) (hi : N[i]? = some x := by rfl) (hv : visB sc x = true := by rfl) (hd : (x == ("__debug__" : Str)) = false := by decide) (hcd : (x == ("__classdict__" : Str)) = false := by decide)
    (hs : ∀ env, swapsWithSole [tg] (.Call (.Attribute (.Name x p1) "pop" p2) [] [] p3) p4.line env = pure false := by intro _; rfl) (hw : ∀ env, env.scope = sc.sc → swappedStores [tg] (.Call (.Attribute (.Name x p1) "pop" p2) [] [] p3) env = pure none := by intro env h; first | rfl | (cases env; cases h; rfl))
    (h1 : ∀ env, (assignEach [tg] env).map (·.2) = [assign tg env] := by intro _; rfl) (hl : (p2.endLine == p3.line) = true := by rfl) :
    SS G k sc N (.Assign [tg] (.Call (.Attribute (.Name x p1) "pop" p2) [] [] p3) p4) (sPopT t i) := fun X W g tk po => by
  obtain ⟨u, hu1, hu2⟩ := ht
  refine ps_imp (ps_asg (pe_bm0 PySem.F.plainAttrs_list PySem.F.slot_list_pop PySem.F.type_list_pop mt_pop (pe_at g hi hv hd hcd) (by rfl) hl) (hu1 X g) (hs _) (hw _ g.hsc) (h1 _)) fun D σ H h => ?_
  obtain ⟨M, r, Pr, ev, rs, oa, R, o, rs', e, w⟩ := h
  rcases bnS_some e with ⟨q, rs1, e1, e2⟩ | ⟨_, _, e1, rfl⟩
  · cases e2
    obtain ⟨q', e3, e4, rfl⟩ := lft_some e1
    cases e4
    obtain ⟨ds, hg, e5⟩ := Option.bind_eq_some_iff.mp e3
    obtain ⟨d, hz, e6⟩ := Option.bind_eq_some_iff.mp e5
    obtain ⟨es, he, e7⟩ := Option.map_eq_some_iff.mp e6
    cases e7
    obtain ⟨xs, a1, a2, a3, a5⟩ := R.at1 hg
    obtain ⟨v, hv, dv⟩ := a3.get_last hz
    refine ⟨_, a1, .inl ⟨rfl, _, .of a2⟩, _, xs, v, rfl, rfl, a2, hv, ?_⟩
    have R' := R.mutL (getO_some hg) a3.dropLast
    have io : isOwn ev i := ⟨ds, getO_some hg⟩
    have kp : Kp (Av M ev oa) H (upd H (oa i) (.lst xs.dropLast)) := fun b o n e => by rw [upd_ne fun z => n (.inr ⟨i, io, z⟩)]; exact e
    have sub : ∀ b, Av M (ev.set i (.own ds.dropLast)) oa b → Av M ev oa b := fun b m => m.elim .inl fun ⟨j', ⟨fs, o⟩, e⟩ => by
      by_cases hj : i = j'
      · subst hj; exact .inr ⟨i, io, e⟩
      · rw [List.getElem?_set_ne hj] at o; exact .inr ⟨j', ⟨fs, o⟩, e⟩
    exact hu2 _ _ _ _ _ _ _ ((dv.kp R.e.ml kp).sub sub) he fun vs hvs => w _ _ oa (R'.setL hvs)
  · obtain ⟨_, _, e4, _⟩ := lft_some e1
    cases e4
end DL
namespace DL
open PySem PySem.Spec PyProof.Rows L2
variable [Xk]
theorem meets_enumT {v : Value} {o : Obj} {Hh : Heap → Prop} (B : Begins v o Hh) :
    Meets (Builtin.«enumerate.__new__» ⟨[.type "enumerate", v], []⟩) (fun _ Rr s => Hh s.heap ∧ Rr (.ok (.ret (.ref (s.heap.push o).objs.size))) { s with heap := (s.heap.push o).push { cls := .type "enumerate", data := .fields #[.none, .bool false, .ref s.heap.objs.size, rawInt 0, .none, .none] } }) :=
  .of_wp fun prog w A Rr s h => by
    obtain ⟨hp, g0, d0, tk0, os0⟩ := s
    obtain ⟨b1, h⟩ := h
    have hsub0 := sub_enumerate
    have itr : ∀ {A' : Around} {E' : Value → Shared → Prop} {Q' : Value → Shared → Prop}, Q' (.ref hp.objs.size) ⟨hp.push o, g0, d0, tk0, os0⟩ → wpAny (model prog w) A' (pyIter v) Q' E' ⟨hp, g0, d0, tk0, os0⟩ := fun q => B.iter prog w _ _ ⟨hp, g0, d0, tk0, os0⟩ _ b1 q
    wp_walk using itr
    refine wpAny_stack_any fun st0 => wpAny_pure ?_
    split
    · rename_i c0 _ _ _ _ _
      cases (c0 == Value.type "enumerate")
      · wp_walk using itr
        exact ⟨_, rfl, h⟩
      · wp_walk using itr
        exact ⟨_, rfl, h⟩
    · wp_walk using itr
      exact ⟨_, rfl, h⟩
theorem call_enumT {prog : Program} {w : World} {A : Around} {E : Value → Shared → Prop} {s : Shared} {v : Value} {o : Obj} {Hh : Heap → Prop} {Q : Value → Shared → Prop} (B : Begins v o Hh) (b1 : Hh s.heap)
    (h : ∀ h', IsEnum h' (s.heap.objs.size + 1) s.heap.objs.size 0 .none → h'.get? s.heap.objs.size = some o → (∀ b ob, s.heap.get? b = some ob → h'.get? b = some ob) → Q (.ref (s.heap.objs.size + 1)) { s with heap := h' }) :
    wpAny (model prog w) A (call (.type "enumerate") [v]) Q E s := by
  refine callType_new F.called_enumerate (by decide) (F.typeCall_enumerate_1 _) (F.newCall_enumerate_1 _) (fun ob => F.args_object_init_2 ob _) F.entry_enumerate_new (meets_enumT B) ⟨b1, ?_⟩
  have sz1 : (s.heap.push o).objs.size = s.heap.objs.size + 1 := Heap.size_push ..
  show _ ∧ _
  rw [sz1]
  generalize hE : ({ cls := .type "enumerate", data := .fields #[.none, .bool false, .ref s.heap.objs.size, rawInt 0, .none, .none] } : Obj) = oE
  have fE : oE.isFreed = false := by rw [← hE]; rfl
  have he0 := Heap.get?_push_size (s.heap.push o) (o := oE) fE
  rw [sz1] at he0
  have he : IsEnum ((s.heap.push o).push oE) (s.heap.objs.size + 1) s.heap.objs.size 0 .none := by rw [IsEnum, he0, ← hE]
  exact ⟨⟨_, he, rfl⟩, h _ he (Heap.get?_push_of_some _ (Heap.get?_push_size _ B.free)) fun b ob x => Heap.get?_push_of_some _ (Heap.get?_push_of_some _ x)⟩
/-- the tuple at a, each item in a new pair with its number -/
def IteT (K : PySem.W.Frag) (a : Addr) : It :=
  ⟨fun i H => ∃ (ys : List V) (y : V), SqT K H a ys ∧ ys[i]? = some y,
   fun i H v H' => ∃ T y, v = .ref T ∧ H T = none ∧ H' = upd H T (.tup [.int (i : Nat), y]) ∧ ∀ ys, SqT K H a ys → ys[i]? = some y,
   fun i H => ∃ ys : List V, SqT K H a ys ∧ ys.length = i⟩
theorem turn_enumT {P : Program} {w : World} {K : PySem.W.Frag} {elts : List Expr} {kk : Nat} {tpos : Pos} (a e it : Addr) :
    Turn P w K (.Tuple elts kk tpos) (IteT K a) [e, it] e (fun i h => (∃ old, IsEnum h e it ((i : Nat) : Int) old) ∧ h.IsTupleIter it a i ∧ e ≠ it ∧ e ≠ a ∧ a ≠ it) where
  mem := by simp
  obj := fun i h st b hb => by
    obtain ⟨⟨old, en⟩, ⟨o, ho, hc, hd⟩, _⟩ := st
    rcases (show b = e ∨ b = it by simpa using hb) with z | z
    · rw [z]; exact ⟨_, en, fun v q => nomatch q⟩
    · rw [z]; exact ⟨o, ho, fun v q => by rw [hd] at q; cases q⟩
  keep := fun i h h' st kp => let ⟨⟨old, en⟩, ti, ne⟩ := st; ⟨⟨old, kp e (by simp) _ en⟩, ti.at fun o q => kp it (by simp) o q, ne⟩
  item := by
    intro X hP hw hK hc i pins s σ H E I hf st hg
    subst hP hw hK
    obtain ⟨⟨old, en⟩, ti, n1, n2, n3⟩ := st
    obtain ⟨ys, y, hq, hy⟩ := hg
    obtain ⟨its, rv, p, hz⟩ := I.tuple hq
    obtain ⟨u, hu, ru⟩ := rv.get hy
    have el : e < s.heap.objs.size := Heap.lt_size en
    have il : it < s.heap.objs.size := by obtain ⟨_, q, _⟩ := ti; exact Heap.lt_size q
    have lt : i < its.toArray.size := by
      have := (List.getElem?_eq_some_iff.mp hu).1
      simpa using this
    have pt : s.heap.IsTuple a its.toArray := p
    have DD : Draws X.prog X.w X.A.in1 it [it, a] its.toArray.size (fun i v => its.toArray[i]? = some v) (fun i h => h.IsTupleIter it a i ∧ h.IsTuple a its.toArray) := Draws.tuple (show X.A.in1.handled = none from I.ok.hd hc) it a n3 its.toArray
    refine wpAny_pyNext_enum_itemD DD en ⟨ti, pt⟩ lt n1 (by simp [n1, n2]) fun x h' tk hx ho st' hT hsz hk => ?_
    have ex : x = u := by
      have hx' : its.toArray[i]? = some x := hx
      have hu' : its.toArray[i]? = some u := by simpa using hu
      rw [hx'] at hu'; cases hu'; rfl
    subst ex
    refine ⟨_, rfl, wpAny_letOwnedTupleGo_enum (s := { s with heap := h', toks := tk + 1 }) ho fun h'' en' sb => ?_⟩
    have hT2 : h''.get? s.heap.objs.size = some { cls := .type "tuple", data := .seq #[.int i tk, x] } := (sb.2 _ (Nat.ne_of_gt el)).trans hT
    have new : ObjOk X.prog X.w (upd H s.heap.objs.size (.tup [.int (i : Nat), y])) h'' s.heap.objs.size (.tup [.int (i : Nat), y]) := ⟨by show 2 ≤ sizeLine; decide, [.int i tk, x], .cons ⟨_, rfl⟩ (.cons ru .nil), ⟨_, hT2, rfl, _, rfl⟩⟩
    have I1 : Inv X pins σ (upd H s.heap.objs.size (.tup [.int (i : Nat), y])) { s with heap := h'', toks := tk + 1 } :=
      I.turnedNew (ch := [e, it]) (fun b ob hb q => (sb.2 b (fun z => hb (by simp [z]))).trans (hk b ob (fun z => hb (by simp [z])) (fun z => hb (by simp [z])) q)) hf (Nat.le_refl _) new
    refine ⟨.ref s.heap.objs.size, _, I1, rfl, ⟨_, y, rfl, I.hok.fresh (Nat.le_refl _), rfl, fun zs hzs => by rw [I.tuple_inj hzs hq]; exact hy⟩, ⟨⟨x, ?_⟩, st'.1.at fun o q => (sb.2 it (Ne.symm n1)).trans q, n1, n2, n3⟩, fun b hb => ?_⟩
    · rw [show ((i + 1 : Nat) : Int) = (i : Int) + 1 by omega]; exact en'
    · have lb : b < s.heap.objs.size := by
        rcases (show b = e ∨ b = it by simpa using hb) with z | z
        · rw [z]; exact el
        · rw [z]; exact il
      rw [upd_ne (Nat.ne_of_lt lb)]
      exact (hf b hb).1
  done := by
    intro X hP hw hK hc i pins s σ H E I hf st hg
    subst hP hw hK
    obtain ⟨⟨old, en⟩, ti, n1, n2, n3⟩ := st
    obtain ⟨ys, hq, hy⟩ := hg
    obtain ⟨its, rv, p, hz⟩ := I.tuple hq
    obtain ⟨f0, f1, f2, f3, f4, f5⟩ := hf it (by simp)
    have pt : s.heap.IsTuple a its.toArray := p
    have ln : i = its.toArray.size := by
      have := rv.length
      simp; omega
    subst ln
    have DD : Draws X.prog X.w X.A.in1 it [it, a] its.toArray.size (fun i v => its.toArray[i]? = some v) (fun i h => h.IsTupleIter it a i ∧ h.IsTuple a its.toArray) := Draws.tuple (show X.A.in1.handled = none from I.ok.hd hc) it a n3 its.toArray
    exact wpAny_pyNext_enum_endD DD en ⟨ti, pt⟩ fun h' eb => ⟨rfl, I.turned (t' := s.toks) (fun b o hb q => eb b o hb q) f0 f1 f3 f4 f5⟩
  self := fun A i s Q E st h => let ⟨⟨_, en⟩, _⟩ := st; wpAny_pyIter_enum en h
def iEnumT (K : PySem.W.Frag) (ta : TA) : TI := fun σ H R => ta σ H fun vs H1 => ∃ a ys, vs = [.ref a] ∧ SqT K H1 a ys ∧ R (IteT K a) H1
theorem pi_enumT {X : Cx} {e : Expr} {ta : TA} {p pos tpos : Pos} {elts : List Expr} {kk : Nat} (hg : Gl X "enumerate") (hm : X.mg "enumerate" = none) (ha : PA X [e] ta) (hs : starEach [e] X.env = [(false, eval e X.env)] := by rfl) :
    PI X (.Tuple elts kk tpos) (.Call (.Name "enumerate" p) [e] [] pos) (iEnumT X.K ta) := by
  refine ⟨fun pins s σ H R I h => ?_⟩
  refine Call_ (ld_blt I hg hm boot_enumerate (PyProof.Rows.callWith_type1 (thn (ha.run pos pins s σ H _ I h) fun us s1 ⟨vs, H1, I1, r1, q1⟩ => ?_) hs rfl))
  obtain ⟨a, ys, ex, hq, q⟩ := q1
  subst ex
  cases r1 with
  | cons r rr =>
    cases rr
    cases r
    obtain ⟨its, rv, pp, hz⟩ := I1.tuple hq
    have pt : s1.heap.IsTuple a its.toArray := pp
    have la : a < s1.heap.objs.size := by obtain ⟨_, z, _⟩ := pt; exact Heap.lt_size z
    refine call_enumT (begins_tuple a its.toArray) pt fun h' en ti hk => wpAny_pyIter_enum en ?_
    have I2 : Inv X pins σ H1 { s1 with heap := h' } := I1.kept (t' := s1.toks) hk
    refine ⟨s1.heap.objs.size + 1, [s1.heap.objs.size + 1, s1.heap.objs.size], _, _, H1, rfl, I2, turn_enumT a (s1.heap.objs.size + 1) s1.heap.objs.size, ⟨⟨.none, en⟩, ⟨_, ti, rfl, rfl⟩, Nat.succ_ne_self _, Nat.ne_of_gt (Nat.lt_succ_of_lt la), Nat.ne_of_lt la⟩, fun b hb => ?_, q⟩
    have lb : s1.heap.objs.size ≤ b := by
      rcases (show b = s1.heap.objs.size + 1 ∨ b = s1.heap.objs.size by simpa using hb) with z | z
      · rw [z]; exact Nat.le_add_right _ _
      · rw [z]; exact Nat.le_refl _
    exact I1.fpOk lb (I1.hok.fresh lb)
section
variable {K : PySem.W.Frag} {M M' : Addr → Prop} {H H1 H' : Hp} {G : Gm} {k : Nat} {sc : Sx} {N : List Str}
def enumTD : List D → Option (List D)
  | [.tuple xs] => some (((List.range xs.length).zip xs).map fun p => .tuple [.int (p.1 : Nat), p.2])
  | _ => none
theorem jok_enumT {a : Addr} {vs : List V} {xs : List D} (ml : Ml M H1) (h : SqT K H1 a vs) (t : DaL K M H1 vs xs) :
    JOk K M (IteT K a) H1 (((List.range xs.length).zip xs).map fun p => .tuple [.int (p.1 : Nat), p.2]) where
  go := fun H' kp i d e => by
    obtain ⟨x, e1, rfl⟩ := enum_get e
    obtain ⟨v, h1, _⟩ := t.get e1
    exact ⟨vs, v, sqt_kp h ml kp, h1⟩
  yld := fun M' H' kp m i d x H'' e y => by
    obtain ⟨dx, e1, rfl⟩ := enum_get e
    obtain ⟨T, v, rfl, nn, e3, q1⟩ := y
    exact new_pair nn e3 (.int _) ((t.get' (q1 _ (sqt_kp h ml kp)) e1).on ml m kp)
  stop := fun H' kp => ⟨vs, sqt_kp h ml kp, by rw [t.length, List.length_map, List.length_zip, List.length_range]; omega⟩
theorem i_enumT {a : Expr} {f : Ev → Mn (List Slot)} {es : List Expr} {j : Nat} {tp p pos : Pos} (h : SA G k sc N [a] f) (hm : Mg0 G "enumerate") (hg : glB sc "enumerate" = true := by rfl) (hs : ∀ env, starEach [a] env = [(false, eval a env)] := by intro _; rfl) :
    SI G k sc N (.Tuple es j tp) (.Call (.Name "enumerate" p) [a] [] pos) (dRng enumTD f) := fun X W g tk => by
  refine pi_imp (pi_enumT (gl_of g hg) (by rw [g.hmg]; exact hm) (h X W g tk) (hs _)) fun σ H Q h => ?_
  obtain ⟨M, r, ev, rs, R, o, rs', e, w⟩ := h
  refine tAr_bnd R e w fun ss rs1 H1 vs R1 s1 d1 e1 w1 => ?_
  obtain ⟨ds, e3, rfl, rfl⟩ := lft_some e1
  obtain ⟨as, q, e4⟩ := Option.bind_eq_some_iff.mp e3
  rw [g.hK]
  unfold enumTD at e4
  split at e4
  · cases e4
    obtain ⟨v, rfl, h1⟩ := one_da (d1.dats q)
    cases h1 with
    | tup q1 t1 => exact ⟨_, _, rfl, q1, w1 H1 (.refl _) R1.row R1.ml _ (jok_enumT R1.ml q1 t1)⟩
  · cases e4
end
end DL
namespace DL
open PySem PySem.Spec PyProof.Rows L2
end DL
namespace DL
open PySem PySem.Spec PyProof.Rows L2
variable [Xk]
section
variable {ev : Ev}
@[simp] theorem dTget_eq (t : KTab3) (f : Ev → Mn D) : dTget t f ev = bnd (f ev) fun y => lft (tgetD t y) := rfl
@[simp] theorem dTnin_eq (t : KTab3) (f : Ev → Mn D) : dTnin t f ev = bnd (f ev) fun y => lft (tninD t y) := rfl
@[simp] theorem sPopT_eq (t : Tgt) (i : Nat) : sPopT t i ev = bnS (lft (popT t i ev)) fun q => nxM (setE (ev.set i (.own q.1)) t.ix q.2) := rfl
@[simp] theorem dLast_eq (e : Ev → Mn D) : dLast e ev = bnd (nox (e ev)) fun x => pur [x] := rfl
@[simp] theorem dMid_eq (src : Ev → Mn (List D)) (vs : List Nat) (rest : Ev → Mn (List D)) (t : Tgt) (c : Ev → Mn Bool) : dMid src vs rest t c ev = bnd (nox (src ev)) fun ds => gnGo rest t c (wipeE ev vs) ds := rfl
@[simp] theorem dCompN_eq (own : List Nat) (src rest : Ev → Mn (List D)) (t : Tgt) (c : Ev → Mn Bool) : dCompN own src rest t c ev = bnd (src ev) fun ds => bnd (gnGo rest t c (wipeE ev own) ds) fun out => lft (if out.length ≤ sizeLine then some (.list out) else none) := rfl
@[simp] theorem gnGo_nil (rest : Ev → Mn (List D)) (t : Tgt) (c : Ev → Mn Bool) : gnGo rest t c ev [] = pur [] := rfl
end
end DL
namespace DL
open PySem PySem.Spec PyProof.Rows L2
variable [Xk]
section
variable {G : Gm} {k : Nat} {sc : Sx} {N : List Str}
/-- x = [.. for ..] on one line, x a plain local -/
theorem P_setLc (i : Nat) {x : Str} {elt tg iter : Expr} {ifs : List Expr} {scope : Scope} {pos p p' : Pos} {fi : Ev → Mn (List D)} {t : Tgt} {fc : Ev → Mn Bool} {fe : Ev → Mn D} (own : List (Str × Nat)) (hi0 : SI G k sc N tg iter fi) (ht : PGt G k (sc.blk scope) N tg t) (hc : SP1 G k (sc.blk scope) N ifs fc) (he : SE G k (sc.blk scope) N elt fe)
    (hb : blkC N sc.sc scope own = true := by decide +kernel) (hix : ∀ i ∈ t.ix, i ∈ own.map (·.2) := by decide) (hi : N[i]? = some x := by rfl) (hl : plocB sc x = true := by rfl) (hkind : sc.sc.kind = .function := by rfl) (hline : (p'.line == pos.line) = true := by rfl) (hno : (scope.names.any fun (n, k) => n == x && (k == .local || k == .cell)) = false := by decide +kernel)
    (hs : ∀ env x, foldedSetIterable iter env x = pure x := by intro _ _; rfl) :
    SS G k sc N (.Assign [.Name x p'] (.ListComp elt [⟨tg, iter, ifs, 0⟩] scope pos) p) (pSet i (dComp (own.map (·.2)) fi t fc fe)) := fun X W g tk po => by
  have ok : BlkOk X.N X.env.scope scope own := by
    rw [g.hN, g.hsc]
    exact blkOk_by hb
  have nd : X.N.Nodup := by rw [g.hN]; exact g.nd
  obtain ⟨u, hu1, hu2⟩ := ht
  have pl : X.env.scope.names.lookup x = some .local := ploc_of g hl
  refine ps_imp (ps_setLc (i := i) (own := own) g.calm nd (by rw [g.hN]; exact hi) pl (sw_true (by rw [g.hsc]; exact hkind) pl hline hno) (hi0 X W g tk) ok (fun s H C cl fp => hu1 _ (g.blk s H scope cl C fp)) (fun s H C cl fp => hc _ W0 (g.blk s H scope cl C fp) L2.takes0) (fun s H C cl fp => he _ W0 (g.blk s H scope cl C fp) L2.takes0) (hs _)) fun D σ H h => ?_
  refine lc_imp (W := W) g hu2 hix _ _ _ ?_
  obtain ⟨M, r, Pr, ev, rs, oa, R, o, rs', e, w⟩ := h
  rcases bnS_some e with ⟨d, rs1, e1, e2⟩ | ⟨x, j, e1, rfl⟩
  · cases e2
    exact R.evE R.e (fun b m => .inl m) e1 (fun d' ed v H' R' s dv => by cases ed; exact w _ _ oa (R'.set1 dv)) fun _ _ ed => by cases ed
  · exact R.evE R.e (fun b m => .inl m) e1 (fun _ ed => by cases ed) fun y j ed => by cases ed; exact w
end
end DL
namespace DL
open PySem PySem.Spec PyProof.Rows L2
section
end
section
end
end DL
namespace DL
open PySem PySem.Spec PyProof.Rows L2
section
end
end DL
namespace DL
open PySem PySem.Spec PyProof.Rows L2
section
end
section
end
end DL
namespace DL
open PySem PySem.Spec PyProof.Rows L2
variable [Xk]
section
end
/-- what the data say of a dict -/
def IsDc (K : PySem.W.Frag) (H : Hp) (a : Addr) (ps : List Rk) : Prop := H a = some (dctO a ps) ∧ (∀ p ∈ ps, SqT K H p.2.1 (p.1.map lfV) ∧ p.1.all lfN = true) ∧ (ps.map (·.1)).Nodup
section
end
section
end
/-- the leaves of a flat tuple without texts -/
def lvs : List D → Option (List Leaf)
  | [] => some []
  | .none :: ds => (lvs ds).map (.none :: ·)
  | .int i :: ds => (lvs ds).map (.num i :: ·)
  | _ :: _ => none
/-- the keys of a dict, its values -/
def kvP : List (D × D) → Option (List (List Leaf × Int))
  | [] => some []
  | (.tuple ds, .int i) :: r => (lvs ds).bind fun ks => (kvP r).map ((ks, i) :: ·)
  | _ :: _ => none
def getKv (kv : List (List Leaf × Int)) (ks : List Leaf) : Option Int := (kv.find? fun p => decide (p.1 = ks)).map (·.2)
def getKD (x y z : D) : Option D := match x, y with
  | .dict kvs, .tuple ds => (kvP kvs).bind fun kv => (lvs ds).map fun ks => ((getKv kv ks).map PyData.int).getD z
  | _, _ => none
def isDct : D → Bool
  | .dict ((.str _, _) :: _) => false
  | .dict ((_, .none) :: _) => false
  | .dict _ => true
  | _ => false
def dGetK (fo fe ff : Ev → Mn D) (ev : Ev) : Mn D := bnd (fo ev) fun x => if isDct x = true then bnd (fe ev) fun y => bnd (ff ev) fun z => lft (getKD x y z) else fun _ => none
section
end
end DL
namespace DL
open PySem PySem.Spec PyProof.Rows L2
section
end
section
end
end DL
namespace DL
open PySem PySem.Spec PyProof.Rows L2
variable [Xk]
abbrev Kc := List Leaf × Int
def stK (kv : List Kc) (k : List Leaf) (i : Int) : List Kc := if (getKv kv k).isSome then kv.map (fun p => if p.1 = k then (p.1, i) else p) else kv ++ [(k, i)]
def addK (kv : List Kc) (k : List Leaf) : List Kc := stK kv k ((getKv kv k).getD 0 + 1)
def cntK (rows : List (List Leaf)) : List Kc := rows.foldl addK []
def strip (p : Rk) : Kc := (p.1, p.2.2)
def kcD (p : Kc) : D × D := (.tuple (p.1.map lfD), .int p.2)
end DL
namespace DL
open PySem PySem.Spec PyProof.Rows L2
variable [Xk]
section
variable {G : Gm} {k : Nat} {sc : Sx}
/-- the loop's state: i rows are counted -/
structure CntAt (K : PySem.W.Frag) (H0 : Hp) (a : Addr) (rows : List (List Leaf)) (i : Nat) (σ : L2.St) (H : Hp) (ps : List Rk) : Prop where
  same : Same H0 H
  at_ : H a = some (dctO a ps)
  keys : ∀ p ∈ ps, SqT K H0 p.2.1 (p.1.map lfV) ∧ p.1.all lfN = true
  nd : (ps.map (·.1)).Nodup
  is : ps.map strip = cntK (rows.take i)
  len : ps.length ≤ i
  var : σ[1]? = some (some (.ref a))
  sz : 2 < σ.length
theorem CntAt.dc {K : PySem.W.Frag} {H0 : Hp} {a : Addr} {rows : List (List Leaf)} {i : Nat} {σ : L2.St} {H : Hp} {ps : List Rk} (c : CntAt K H0 a rows i σ H ps) : IsDc K H a ps :=
  ⟨c.at_, fun p hp => ⟨sqt_same c.same (c.keys p hp).1, (c.keys p hp).2⟩, c.nd⟩
theorem CntAt.da {K : PySem.W.Frag} {M : Addr → Prop} {H0 : Hp} {a : Addr} {rows : List (List Leaf)} {σ : L2.St} {H : Hp} {ps : List Rk} (c : CntAt K H0 a rows rows.length σ H ps) : Da K M H (.ref a) (.dict ((cntK rows).map kcD)) := by
  have e : (cntK rows).map kcD = ps.map rkD := by
    rw [← List.take_length (l := rows), ← c.is, List.map_map]
    rfl
  rw [e]
  exact .dct c.at_ c.dc.2.1 c.nd
end
end DL
namespace DL
open PySem PySem.Spec PyProof.Rows L2
section
end
end DL
namespace DL
open PySem PySem.Spec PyProof.Rows L2
variable [Xk]
section
variable {G : Gm} {k : Nat} {sc : Sx} {N : List Str}
def dStar (f : Ev → Mn D) (g : Ev → Mn (List Slot)) (ev : Ev) : Mn (List Slot) := bnd (f ev) fun x => bnd (lft (itmD x)) fun ds => bnd (g ev) fun ss => pur (ds.map .dat ++ ss)
end
end DL
namespace DL
open PySem PySem.Spec PyProof.Rows L2
variable [Xk]
section
variable {prog : Program} {w : World} {A : Around} {E : Value → Shared → Prop} {s : Shared} {z TI TO i1 i2 T : Addr} {f : Bool} {oT : Obj} {fp1 fp2 : List Addr} {n1 n2 i : Nat} {P1 P2 : Nat → Value → Prop} {St1 St2 : Nat → Heap → Prop}
theorem zh_item {Q : Value → Shared → Prop} (S : ZipSep2 z TI TO i1 i2 fp1 fp2) (D1 : Draws prog w A i1 fp1 n1 P1 St1) (D2 : Draws prog w A i2 fp2 n2 P2 St2) (hz : IsZipHeld s.heap z TI TO T f) (hT : s.heap.get? T = some oT) (hTI : IsTupOf2 s.heap TI (.ref i1) (.ref i2)) (q1 : St1 i s.heap) (q2 : St2 i s.heap) (b1 : i < n1) (b2 : i < n2)
    (hQ : ∀ x y h' tk, P1 i x → P2 i y → IsZipHeld h' z TI TO T true → St1 (i + 1) h' → St2 (i + 1) h' → IsTupOf2 h' s.heap.objs.size x y → (∀ c o, c ≠ z → c ≠ i1 → c ≠ i2 → s.heap.get? c = some o → h'.get? c = some o) → Q (.ref s.heap.objs.size) { s with heap := h', toks := tk }) :
    wpAny (model prog w) A (Builtin.«zip.__next__» ⟨[.ref z], []⟩) (fun fin s' => ∃ v, fin = .done (.ret v) ∧ Q v s') E s := by
  obtain ⟨hp, g, d, tk0, os⟩ := s
  (show wpAny _ _ (field (.ref z) 2 >>= _) _ _ _); refine wpAny_bind (wpAny_field hz rfl (x := .bool false) rfl ?_)
  (show wpAny _ _ (field (.ref z) 3 >>= _) _ _ _); refine wpAny_bind (wpAny_field hz rfl (x := .ref TI) rfl (wpAny_bind (wpAny_seqItems hTI rfl ?_)))
  (show wpAny _ _ (Builtin.SmallTypes.ownedTupleIsFree (.ref z) >>= _) _ _ _); refine wpAny_bind (wpAny_tupleHeld_zip hz hT fun u1 z1 k1 => ?_)
  (simp only [Bool.false_eq_true, if_false]); refine wpAny_bind ?_
  replace k1 : Heap.SameBut z hp u1 := k1
  (rw [← Array.forIn_toList]); (simp only [List.forIn_cons, List.forIn_nil]); refine wpAny_bind (wpAny_bind (wpAny_holding ?_))
  show wpAny _ _ (Builtin.SmallTypes.nextOf (.ref i1) >>= _) _ _ ⟨u1, g, d, tk0, os⟩
  refine wpAny_bind (D1.item i _ _ _ b1 (D1.over q1 k1 S.zf1) fun x u2 tk1 hx st1 k2 => wpAny_pure (wpAny_pure (wpAny_bind (wpAny_bind (wpAny_holding ?_)))))
  replace k2 : Heap.SameBut i1 u1 u2 := k2
  show wpAny _ _ (Builtin.SmallTypes.nextOf (.ref i2) >>= _) _ _ ⟨u2, g, d, tk1, os⟩
  refine wpAny_bind (D2.item i _ _ _ b2 (D2.over (D2.over q2 k1 S.zf2) k2 S.sep1_2) fun y u3 tk2 hy st2 k3 => wpAny_pure (wpAny_pure (wpAny_pure ?_)))
  replace k3 : Heap.SameBut i2 u2 u3 := k3
  (show wpAny _ _ (newTuple [x, y] >>= _) _ _ ⟨u3, g, d, tk2, os⟩); refine wpAny_bind (wpAny_newTuple ?_)
  have e1 : u3.objs.size = hp.objs.size := by rw [k3.1, k2.1, k1.1]
  have z3 : IsZipHeld u3 z TI TO T true := k3.extBut _ _ S.zi2 (k2.extBut _ _ S.zi1 z1)
  have kk : ∀ c o, c ≠ z → c ≠ i1 → c ≠ i2 → hp.get? c = some o → u3.get? c = some o := fun c o a1 a2 a3 e => k3.extBut _ _ a3 (k2.extBut _ _ a2 (k1.extBut _ _ a1 e))
  have hp1 : IsTupOf2 (u3.push { cls := .type "tuple", data := .seq #[x, y] }) u3.objs.size x y := Heap.get?_push_size _ rfl
  rw [e1] at hp1
  refine wpAny_pure ⟨_, rfl, ?_⟩
  show Q (.ref u3.objs.size) _
  rw [e1]
  exact hQ x y _ tk2 hx hy (Heap.get?_push_of_some _ z3) (D1.frame _ _ _ (D1.over st1 k3 S.sep2_1) fun b _ o e => Heap.get?_push_of_some _ e) (D2.frame _ _ _ st2 fun b _ o e => Heap.get?_push_of_some _ e) hp1 fun c o a1 a2 a3 e => Heap.get?_push_of_some _ (kk c o a1 a2 a3 e)
theorem zh_end {Q : Fin → Shared → Prop} (S : ZipSep2 z TI TO i1 i2 fp1 fp2) (D1 : Draws prog w A i1 fp1 n1 P1 St1) (D2 : Draws prog w A i2 fp2 n2 P2 St2) (hz : IsZipHeld s.heap z TI TO T f) (hT : s.heap.get? T = some oT) (hTI : IsTupOf2 s.heap TI (.ref i1) (.ref i2)) (q1 : St1 i s.heap) (q2 : St2 i s.heap) (c1 : i = n1) (c2 : i ≤ n2)
    (hE : ∀ h' tk e, (∀ c o, c ≠ z → c ≠ i1 → c ≠ i2 → s.heap.get? c = some o → h'.get? c = some o) → (∃ o, h'.get? e = some o ∧ o.cls = .type "StopIteration") → E (.ref e) { s with heap := h', toks := tk }) :
    wpAny (model prog w) A (Builtin.«zip.__next__» ⟨[.ref z], []⟩) Q E s := by
  obtain ⟨hp, g, d, tk0, os⟩ := s
  (show wpAny _ _ (field (.ref z) 2 >>= _) _ _ _); refine wpAny_bind (wpAny_field hz rfl (x := .bool false) rfl ?_)
  (show wpAny _ _ (field (.ref z) 3 >>= _) _ _ _); refine wpAny_bind (wpAny_field hz rfl (x := .ref TI) rfl (wpAny_bind (wpAny_seqItems hTI rfl ?_)))
  (show wpAny _ _ (Builtin.SmallTypes.ownedTupleIsFree (.ref z) >>= _) _ _ _); refine wpAny_bind (wpAny_tupleHeld_zip hz hT fun u1 z1 k1 => ?_)
  (simp only [Bool.false_eq_true, if_false]); refine wpAny_bind ?_
  replace k1 : Heap.SameBut z hp u1 := k1
  (rw [← Array.forIn_toList]); (simp only [List.forIn_cons, List.forIn_nil]); refine wpAny_bind (wpAny_bind (wpAny_holding ?_))
  show wpAny _ _ (Builtin.SmallTypes.nextOf (.ref i1) >>= _) _ _ ⟨u1, g, d, tk0, os⟩
  refine wpAny_bind (D1.done ⟨u1, g, d, tk0, os⟩ _ _ (by rw [← c1]; exact D1.over q1 k1 S.zf1) fun q e hq he => ?_)
  exact hE q tk0 e (fun c o a1 a2 a3 x => hq _ _ a2 (k1.extBut _ _ a1 x)) he
theorem zh_pyNext {Q : Option Value → Shared → Prop} (S : ZipSep2 z TI TO i1 i2 fp1 fp2) (D1 : Draws prog w A.in1 i1 fp1 n1 P1 St1) (D2 : Draws prog w A.in1 i2 fp2 n2 P2 St2) (hz : IsZipHeld s.heap z TI TO T f) (hT : s.heap.get? T = some oT) (hTI : IsTupOf2 s.heap TI (.ref i1) (.ref i2)) (q1 : St1 i s.heap) (q2 : St2 i s.heap) (b1 : i < n1) (b2 : i < n2)
    (hQ : ∀ x y h' tk, P1 i x → P2 i y → IsZipHeld h' z TI TO T true → St1 (i + 1) h' → St2 (i + 1) h' → IsTupOf2 h' s.heap.objs.size x y → (∀ c o, c ≠ z → c ≠ i1 → c ≠ i2 → s.heap.get? c = some o → h'.get? c = some o) → Q (some (.ref s.heap.objs.size)) { s with heap := h', toks := tk }) : wpAny (model prog w) A (pyNext (.ref z)) Q E s := by
  have ty : s.TypeIs (.ref z) "zip" := ⟨_, hz, rfl⟩
  unfold pyNext
  exact wpAny_bind (wpAny_attempt (wpAny_callSpecial?_slot (name := Str.ofString "__next__") ty F.slot_zip_next (wpAny_call_entry F.slot_zip_next ty F.entry_zip_next (zh_item S D1 D2 hz hT hTI q1 q2 b1 b2 fun x y h' tk a1 a2 a3 a4 a5 a6 a7 => wpAny_pure (hQ x y h' tk a1 a2 a3 a4 a5 a6 a7)) (F.args_zip_next_1 _))))
theorem zh_pyEnd {Q : Option Value → Shared → Prop} (S : ZipSep2 z TI TO i1 i2 fp1 fp2) (D1 : Draws prog w A.in1 i1 fp1 n1 P1 St1) (D2 : Draws prog w A.in1 i2 fp2 n2 P2 St2) (hz : IsZipHeld s.heap z TI TO T f) (hT : s.heap.get? T = some oT) (hTI : IsTupOf2 s.heap TI (.ref i1) (.ref i2)) (q1 : St1 i s.heap) (q2 : St2 i s.heap) (c1 : i = n1) (c2 : i ≤ n2)
    (hQ : ∀ h' tk, (∀ c o, c ≠ z → c ≠ i1 → c ≠ i2 → s.heap.get? c = some o → h'.get? c = some o) → Q none { s with heap := h', toks := tk }) : wpAny (model prog w) A (pyNext (.ref z)) Q E s := by
  have ty : s.TypeIs (.ref z) "zip" := ⟨_, hz, rfl⟩
  unfold pyNext
  refine wpAny_bind (wpAny_attempt (wpAny_callSpecial?_slot (name := Str.ofString "__next__") ty F.slot_zip_next (wpAny_call_entry F.slot_zip_next ty F.entry_zip_next (zh_end S D1 D2 hz hT hTI q1 q2 c1 c2 fun h' tk e hk he => ?_) (F.args_zip_next_1 _))))
  obtain ⟨o, ho, hc⟩ := he
  exact wpAny_bind (wpAny_isInstance (T := "StopIteration") (b := true) ⟨o, ho, hc⟩ isSubtype_stop (wpAny_pure (hQ _ _ hk)))
end
/-- zip(l, t) as the pairs of dict(..): a list and a tuple of one length, not empty -/
theorem zipLT {prog : Program} {w : World} (N l1 l2 : Addr) (xs ys : Array Value) (hl1 : l1 < N) (hl2 : l2 < N) (hs : xs.size = ys.size) (hn : 0 < xs.size) :
    PairArg prog w "zip" (N + 4) [N + 4, N + 2, N + 3, N, N + 1, l1, l2] [N + 4, N + 3, N, N + 1] xs.size (fun i k v => xs[i]? = some k ∧ ys[i]? = some v)
      (fun h => IsZip h (N + 4) (N + 2) (N + 3) .none ∧ IsTupOf2 h (N + 2) (.ref N) (.ref (N + 1)) ∧ (∃ a b, IsTupOf2 h (N + 3) a b) ∧ h.IsListIter N l1 0 ∧ h.IsTupleIter (N + 1) l2 0 ∧ h.IsList l1 xs ∧ h.IsTuple l2 ys) where
  type := fun s ok => ⟨_, ok.1, rfl⟩
  notDict := by decide
  keep := fun h h' ok hk => by
    obtain ⟨a1, a2, ⟨a, b, a3⟩, a4, a5, a6, a7⟩ := ok
    exact ⟨hk _ _ a1, hk _ _ a2, ⟨a, b, hk _ _ a3⟩, a4.at fun o e => hk _ o e, a5.at fun o e => hk _ o e, a6.at fun o e => hk _ o e, a7.at fun o e => hk _ o e⟩
  there := fun h ok b hb => by
    obtain ⟨a1, a2, ⟨a, c, a3⟩, ⟨o1, a4, _⟩, ⟨o2, a5, _⟩, ⟨o3, a6, _⟩, ⟨o4, a7, _⟩⟩ := ok
    simp only [List.mem_cons, List.not_mem_nil, or_false] at hb
    rcases hb with e | e | e | e | e | e | e <;> rw [e] <;> first | exact ⟨_, a1⟩ | exact ⟨_, a2⟩ | exact ⟨_, a3⟩ | exact ⟨_, a4⟩ | exact ⟨_, a5⟩ | exact ⟨_, a6⟩ | exact ⟨_, a7⟩
  sub := fun b hb => by
    simp only [List.mem_cons, List.not_mem_nil, or_false] at hb ⊢
    rcases hb with e | e | e | e <;> simp [e]
  noKeys := fun A s Q E hA ok h => getAttrOr_miss_zip ok.1 rfl rfl rfl zip_no_keys (by decide +kernel) hA h
  iter := fun A s d Q E hA ok hd hdf h => by
    obtain ⟨hz, hTI, ⟨a, b, hTO⟩, h1, h2, g1, g2⟩ := ok
    simp only [List.mem_cons, List.not_mem_nil, or_false, not_or] at hdf
    obtain ⟨dz, dTI, dTO, di1, di2, dl1, dl2⟩ := hdf
    have S : ZipSep2 (N + 4) (N + 2) (N + 3) N (N + 1) (N :: [l1]) ((N + 1) :: [l2]) := zip_sep2 (fun b hb => by rw [List.mem_singleton.mp hb]; exact hl1) (fun b hb => by rw [List.mem_singleton.mp hb]; exact hl2)
    have D1 : Draws prog w A.in1 N [N, l1] xs.size (fun i v => xs[i]? = some v) (fun i h => h.IsListIter N l1 i ∧ h.IsList l1 xs) := .list (A := A.in1) hA N l1 (Nat.ne_of_lt hl1) xs
    have D2 : Draws prog w A.in1 (N + 1) [N + 1, l2] ys.size (fun i v => ys[i]? = some v) (fun i h => h.IsTupleIter (N + 1) l2 i ∧ h.IsTuple l2 ys) := .tuple (A := A.in1) hA (N + 1) l2 (Nat.ne_of_lt (Nat.lt_succ_of_lt hl2)) ys
    refine wpAny_pyIter_zip hz (h (N + 4) [N + 4, N + 3, N, N + 1] (fun i h => IsTupOf2 h (N + 2) (.ref N) (.ref (N + 1)) ∧ (h.IsListIter N l1 i ∧ h.IsList l1 xs) ∧ (h.IsTupleIter (N + 1) l2 i ∧ h.IsTuple l2 ys) ∧
      ((i = 0 ∧ IsZip h (N + 4) (N + 2) (N + 3) .none ∧ ∃ a b, IsTupOf2 h (N + 3) a b) ∨ ∃ T f oT, IsZipHeld h (N + 4) (N + 2) (N + 3) T f ∧ h.get? T = some oT ∧ T ≠ N + 4 ∧ T ≠ N ∧ T ≠ N + 1 ∧ T ≠ d)) s.heap s.toks ?_
      ⟨hTI, ⟨h1, g1⟩, ⟨h2, g2⟩, .inl ⟨rfl, hz, a, b, hTO⟩⟩ (fun _ _ e => e) fun b hb => .inl hb)
    exact {
      off := fun hm => by
        simp only [List.mem_cons, List.not_mem_nil, or_false] at hm
        rcases hm with e | e | e | e <;> first | exact dz e | exact dTO e | exact di1 e | exact di2 e
      frame := fun i u1 u2 st hk => by
        obtain ⟨k1, ⟨k2, k3⟩, ⟨k4, k5⟩, k6⟩ := st
        refine ⟨hk _ _ (Ne.symm dTI) k1, ⟨k2.at fun o e => hk _ o (Ne.symm di1) e, k3.at fun o e => hk _ o (Ne.symm dl1) e⟩, ⟨k4.at fun o e => hk _ o (Ne.symm di2) e, k5.at fun o e => hk _ o (Ne.symm dl2) e⟩, ?_⟩
        rcases k6 with ⟨i0, k6, a, b, k7⟩ | ⟨T, f, oT, k6, hT, r1, r2, r3, r4⟩
        · exact .inl ⟨i0, hk _ _ (Ne.symm dz) k6, a, b, hk _ _ (Ne.symm dTO) k7⟩
        · exact .inr ⟨T, f, oT, hk _ _ (Ne.symm dz) k6, hk _ _ r4 hT, r1, r2, r3, r4⟩
      item := fun i s1 Q1 E1 hi st hds hQ => by
        obtain ⟨k1, k2, k4, k6⟩ := st
        have lt : ∀ {c o}, s1.heap.get? c = some o → s1.heap.objs.size ≠ c := fun e => Nat.ne_of_gt (Heap.lt_size e)
        have n1 : s1.heap.objs.size ≠ N := let ⟨_, e, _⟩ := k2.1; lt e
        have n2 : s1.heap.objs.size ≠ N + 1 := let ⟨_, e, _⟩ := k4.1; lt e
        rcases k6 with ⟨i0, k6, a, b, k7⟩ | ⟨T, f, oT, k6, hT, r1, r2, r3, r4⟩
        · refine wpAny_pyNext_zipD2_item S D1 D2 k6 k1 k7 k2 k4 hi (by omega) fun x y h' tk p1 p2 c1 c2 c3 c4 c5 c6 c7 => ?_
          exact hQ _ x y h' tk ⟨p1, p2⟩ (.inl ⟨_, c5, rfl, _, rfl⟩) ⟨c7 _ _ S.TIz S.TITO S.TIi1 S.TIi2 k1, c3, c4, .inr ⟨_, false, _, c1, c5, lt k6, n1, n2, Nat.ne_of_gt hds⟩⟩
            fun c o hc e => c7 c o (fun x => hc (by simp [x])) (fun x => hc (by simp [x])) (fun x => hc (by simp [x])) (fun x => hc (by simp [x])) e
        · refine zh_pyNext S D1 D2 k6 hT k1 k2 k4 hi (by omega) fun x y h' tk p1 p2 c1 c3 c4 c5 c7 => ?_
          exact hQ _ x y h' tk ⟨p1, p2⟩ (.inl ⟨_, c5, rfl, _, rfl⟩) ⟨c7 _ _ S.TIz S.TIi1 S.TIi2 k1, c3, c4, .inr ⟨T, true, oT, c1, c7 _ _ r1 r2 r3 hT, r1, r2, r3, r4⟩⟩
            fun c o hc e => c7 c o (fun x => hc (by simp [x])) (fun x => hc (by simp [x])) (fun x => hc (by simp [x])) e
      done := fun s1 Q1 E1 st hQ => by
        obtain ⟨k1, k2, k4, k6⟩ := st
        rcases k6 with ⟨i0, _⟩ | ⟨T, f, oT, k6, hT, r1, r2, r3, r4⟩
        · omega
        · exact zh_pyEnd S D1 D2 k6 hT k1 k2 k4 rfl (by omega) fun h' tk hk => hQ h' tk fun c o hc e => hk c o (fun x => hc (by simp [x])) (fun x => hc (by simp [x])) (fun x => hc (by simp [x])) e }
end DL
namespace DL
open PySem PySem.Spec PyProof.Rows L2
variable [Xk]
section
variable {X : Cx} {pins : List (Addr × Obj)} {σ : L2.St} {H : Hp} {s : Shared}
theorem strs_vals : ∀ {ks : List Str} {us : List Value}, Vals (ks.map V.str) us → us.length = ks.length ∧ ∀ (i : Nat) u, us[i]? = some u → ∃ k, ks[i]? = some k ∧ RelV (.str k) u
  | [], _, r => by rw [List.map_nil] at r; cases r; exact ⟨rfl, fun i u e => by simp at e⟩
  | k :: ks, _, r => by
    rw [List.map_cons] at r
    cases r with
    | cons h q =>
      obtain ⟨e1, e2⟩ := strs_vals q
      refine ⟨by rw [List.length_cons, List.length_cons, e1], fun i u e => ?_⟩
      cases i with
      | zero => simp at e; subst e; exact ⟨k, rfl, h⟩
      | succ i =>
        obtain ⟨k', h1, h2⟩ := e2 i u (by simpa using e)
        exact ⟨k', by simpa using h1, h2⟩
def kvZ : List Str → List Value → List (Key × Value)
  | k :: ks, u :: us => (.inr k, u) :: kvZ ks us
  | _, _ => []
theorem kvZ_kv : ∀ {ks : List Str} {xs : List V} {us : List Value}, Vals xs us → ks.length = xs.length → KV (tkV ks xs) (kvZ ks us)
  | [], _, _, _, _ => .nil
  | k :: ks, _, _, .nil, e => nomatch e
  | k :: ks, _, _, .cons r t, e => .cons ⟨rfl, r⟩ (kvZ_kv t (Nat.succ.inj e))
theorem kvZ_keys : ∀ {ks : List Str} {us : List Value}, ks.length = us.length → (kvZ ks us).map (·.1) = ks.map Sum.inr
  | [], _, _ => by simp [kvZ]
  | k :: ks, [], e => nomatch e
  | k :: ks, u :: us, e => congrArg _ (kvZ_keys (Nat.succ.inj e))
theorem kvZ_get : ∀ {ks : List Str} {us : List Value} (i : Nat) k v, ks[i]? = some k → us[i]? = some v → (kvZ ks us)[i]? = some (.inr k, v)
  | [], us, i, k, v, e, _ => by simp at e
  | _ :: _, [], i, k, v, _, e => by simp at e
  | a :: ks, u :: us, 0, k, v, e1, e2 => by simp at e1 e2; subst e1; subst e2; rfl
  | a :: ks, u :: us, i + 1, k, v, e1, e2 => kvZ_get (ks := ks) (us := us) i k v (by simpa using e1) (by simpa using e2)
def tDz (X : Cx) (t : TA) : TE := fun σ H Q => t σ H fun vs H1 => ∃ (l1 l2 : Addr) (ks : List Str) (xs : List V), vs = [.ref l1, .ref l2] ∧ SqL X.K H1 l1 (ks.map V.str) ∧ SqT X.K H1 l2 xs ∧ ks.length = xs.length ∧ ks ≠ [] ∧ ks.Nodup ∧ ∀ p, H1 p = none → Q (.ref p) (upd H1 p (.dK (tkV ks xs)))
theorem pe_dz (hc : X.calm = true) {a b : Expr} {p p2 q q2 : Pos} {t : TA} (hg : Gl X "dict") (hm : X.mg "dict" = none) (hg2 : Gl X "zip") (hm2 : X.mg "zip" = none) (hv : bootBuiltins "dict" = some (.type "dict")) (hv2 : bootBuiltins "zip" = some (.type "zip")) (ha : PA X [a, b] t)
    (he : starEach [.Call (.Name "zip" p2) [a, b] [] q2] X.env = (false, eval (.Call (.Name "zip" p2) [a, b] [] q2) X.env) :: starEach [] X.env) (hpl : (backTo q (starEach [] X.env)).any (·.1) = false) (he2 : starEach [a, b] X.env = (false, eval a X.env) :: starEach [b] X.env) (hpl2 : (backTo q2 (starEach [b] X.env)).any (·.1) = false) :
    PE X (.Call (.Name "dict" p) [.Call (.Name "zip" p2) [a, b] [] q2] [] q) (tDz X t) := by
  refine ⟨fun pins s σ H Q I h => ?_⟩
  refine wpAny_Call_Name_kw (ld_blt I hg hm hv ?_ (by decide) (by decide))
  refine PyProof.Rows.callWith_type1 ?_ he hpl
  rw [he]
  show wpAny _ _ (spliced ((false, eval (.Call (.Name "zip" p2) [a, b] [] q2) X.env) :: backTo q (starEach [] X.env))) _ _ s
  refine Calls.spliced_cons ?_
  refine wpAny_Call_Name_kw (ld_blt I hg2 hm2 hv2 ?_ (by decide) (by decide))
  refine PyProof.Rows.callWith_type1 (thn (ha.run q2 pins s σ H _ I h) fun us s1 ⟨vs, H1, I1, r1, l1, l2, ks, xs, evs, hl1, hl2, hlen, hne, hnd, qq⟩ => ?_) he2 hpl2
  subst evs
  obtain ⟨u1, u2, rfl, ru1, ru2⟩ := vals2 r1
  cases (show u1 = Value.ref l1 from ru1)
  cases (show u2 = Value.ref l2 from ru2)
  obtain ⟨is1, rv1, pl, hz1⟩ := I1.list hl1
  obtain ⟨is2, rv2, it2, hz2⟩ := I1.tuple hl2
  obtain ⟨n1, sv⟩ := strs_vals rv1
  have n2 : is2.length = xs.length := rv2.length.symm
  have kpos : 0 < ks.length := List.length_pos_iff.mpr hne
  have lt1 : l1 < s1.heap.objs.size := by obtain ⟨o, n, e, _⟩ := pl; exact Heap.lt_size e
  have lt2 : l2 < s1.heap.objs.size := by obtain ⟨o, e, _⟩ := it2; exact Heap.lt_size e
  refine zip_begins2 (begins_list l1 is1.toArray) (begins_tuple l2 is2.toArray) pl.isList it2 fun h1 z1 z2 z3 z4 z5 z6 z7 => ?_
  refine Calls.spliced_nil ?_
  refine call_dict_pairs (s := { s1 with heap := h1 }) (knd := mixKind X.prog X.w) (kvs := kvZ ks is2) (zipLT s1.heap.objs.size l1 l2 is1.toArray is2.toArray lt1 lt2 (by simp; omega) (by simp; omega)) (I.ok.hd hc) ⟨z1, z2, ⟨_, _, z3⟩, ⟨_, z4, rfl, rfl⟩, ⟨_, z5, rfl, rfl⟩, ?_, ?_⟩ ⟨?_, fun i key v e => ?_⟩ ?_ fun h2 tk hd hk => ?_
  · obtain ⟨o, e, r⟩ := pl.isList; exact ⟨o, z7 _ _ e, r⟩
  · obtain ⟨o, e, r⟩ := it2; exact ⟨o, z7 _ _ e, r⟩
  · have := congrArg List.length (kvZ_keys (ks := ks) (us := is2) (by omega))
    simp at this ⊢
    omega
  · obtain ⟨e1, e2⟩ := e
    obtain ⟨k, e3, e4⟩ := sv i key (by simpa using e1)
    exact ⟨.inr k, kvZ_get i k v e3 (by simpa using e2), kV_is (k := .inr k) e4⟩
  · have : ks.length ≤ sizeLine := by simpa using hz1
    simp
    omega
  · have hm : (h1.objs.size == sysModules) = false := beq_eq_false_iff_ne.mpr (Nat.ne_of_gt (Nat.lt_of_lt_of_le I1.big (by omega)))
    have nd : ((kvZ ks is2).map (·.1)).Nodup := by
      rw [kvZ_keys (by omega)]
      exact List.Pairwise.map _ (fun a b n z => n (Sum.inr.inj z)) hnd
    rw [merged_nil_of_nodup _ nd] at hd
    have kp : ∀ b u, s1.heap.get? b = some u → h2.get? b = some u := fun b u e => hk b u (fun m => by
      have lt := Heap.lt_size e
      simp only [List.mem_cons, List.not_mem_nil, or_false] at m
      have ge : s1.heap.objs.size ≤ b := by
        rcases m with m | m | m | m <;> rw [m] <;> first | exact Nat.le_add_right _ _ | exact Nat.le_refl _
      exact absurd lt (Nat.not_lt.mpr ge)) (z7 b u e)
    have hz' : (tkV ks xs).length ≤ sizeLine := by
      have : ks.length ≤ sizeLine := by simpa using hz1
      rw [(kvZ_kv (ks := ks) rv2 hlen).length]
      have := congrArg List.length (kvZ_keys (ks := ks) (us := is2) (by omega))
      simp at this
      omega
    exact ⟨.ref _, _, I1.laid (a := h1.objs.size) (t' := tk) kp (show s1.heap.objs.size ≤ h1.objs.size by rw [z6]; exact Nat.le_add_right _ _) (show ObjOk X.prog X.w _ h2 _ (.dK (tkV ks xs)) from ⟨hz', hm, _, kvZ_kv rv2 hlen, hd⟩), rfl, qq _ (I1.hok.fresh (show s1.heap.objs.size ≤ h1.objs.size by rw [z6]; exact Nat.le_add_right _ _))⟩
end
end DL
namespace DL
open PySem PySem.Spec PyProof.Rows L2
variable [Xk]
section
variable {G : Gm} {k : Nat} {sc : Sx} {N : List Str}
theorem strs_da {K : PySem.W.Frag} {M : Addr → Prop} {H : Hp} : ∀ {ds : List D} {ks : List Str} {vs : List V}, strsOf ds = some ks → DaL K M H vs ds → vs = ks.map V.str
  | [], ks, vs, e, h => by cases h; cases e; rfl
  | d :: ds, ks, _, e, .cons h t => by
    cases h with
    | str x =>
      obtain ⟨k2, e2, rfl⟩ := Option.map_eq_some_iff.mp (show (strsOf ds).map (x :: ·) = some ks from e)
      rw [strs_da e2 t]
      rfl
    | _ => cases e
def dzD : List D → Option D
  | [.list a, .tuple b] => (strsOf a).bind fun ks => if ks ≠ [] ∧ ks.Nodup ∧ ks.length = b.length then some (.dict ((ks.zip b).map skD)) else none
  | _ => none
theorem e_dz {a b : Expr} {p p2 q q2 : Pos} {f : Ev → Mn (List Slot)} (ha : SA G k sc N [a, b] f) (hm : Mg0 G "dict") (hm2 : Mg0 G "zip") (hg : glB sc "dict" = true := by rfl) (hg2 : glB sc "zip" = true := by rfl)
    (he : ∀ env, starEach [.Call (.Name "zip" p2) [a, b] [] q2] env = (false, eval (.Call (.Name "zip" p2) [a, b] [] q2) env) :: starEach [] env := by intro _; rfl) (hpl : ∀ env, (backTo q (starEach [] env)).any (·.1) = false := by intro _; rfl)
    (he2 : ∀ env, starEach [a, b] env = (false, eval a env) :: starEach [b] env := by intro _; rfl) (hpl2 : ∀ env, (backTo q2 (starEach [b] env)).any (·.1) = false := by intro _; rfl) :
    SE G k sc N (.Call (.Name "dict" p) [.Call (.Name "zip" p2) [a, b] [] q2] [] q) (dFn dzD f) := by
  refine e_arg (rl := fun X vs H1 Q => ∃ (l1 l2 : Addr) (ks : List Str) (xs : List V), vs = [.ref l1, .ref l2] ∧ SqL X.K H1 l1 (ks.map V.str) ∧ SqT X.K H1 l2 xs ∧ ks.length = xs.length ∧ ks ≠ [] ∧ ks.Nodup ∧ ∀ p, H1 p = none → Q (.ref p) (upd H1 p (.dK (tkV ks xs)))) ha
    (fun X t g h => pe_dz g.calm (gl_of g hg) (by rw [g.hmg]; exact hm) (gl_of g hg2) (by rw [g.hmg]; exact hm2) PyProof.Rows.boot_dict PyProof.Rows.boot_zip h (he _) (hpl _) (he2 _) (hpl2 _)) fun X M H vs ds d Q g ml h e hq => ?_
  unfold dzD at e
  split at e
  case h_2 => cases e
  rename_i as bs
  obtain ⟨v, v', rfl, h1, h2⟩ := two_da h
  obtain ⟨ks, e1, e2⟩ := Option.bind_eq_some_iff.mp e
  split at e2
  case isFalse => cases e2
  rename_i c
  obtain ⟨c1, c2, c3⟩ := c
  cases e2
  cases h1 with
  | lst l1 n1 t1 =>
    cases h2 with
    | tup l2 t2 =>
      rename_i xs _ ys
      have ex := strs_da e1 t1
      subst ex
      have k1 : (ks.zip bs).map (·.1) = ks := List.map_fst_zip (by omega)
      have k2 : (ks.zip bs).map (·.2) = bs := List.map_snd_zip (by omega)
      refine ⟨_, _, ks, ys, rfl, .inl (.of l1), by rw [g.hK]; exact l2, by rw [t2.length]; exact c3, c1, c2, fun p hp => ?_⟩
      refine hq _ _ (same_upd hp) (.txd (xs := ys) (by rw [k1]; exact upd_same) (ml.fresh hp) ⟨fun z => c1 (by rw [← k1, z]; rfl), by rw [k1]; exact c2⟩ ?_)
      rw [k2]
      exact t2.kp ml (.of_same (same_upd hp))
variable {K : PySem.W.Frag} {mg : Str → Option Value} {M : Addr → Prop} {H H' H1 : Hp} {r : Rw} {σ σ' : L2.St} {ev ev' : Ev} {rs rs' : RS} {W : WX} {Pr : Addr → HO → Prop} {oa : Nat → Addr}
end
end DL
namespace DL
open PySem PySem.Spec PyProof.Rows L2
variable [Xk]
section
variable {G : Gm} {k : Nat} {sc : Sx} {N : List Str}
/-- the targets x[..], x[..] -/
inductive PTs (G : Gm) (k : Nat) (sc : Sx) (N : List Str) (x : Str) : List Expr → List (Ev → Mn D) → Prop
  | nil : PTs G k sc N x [] []
  | cons {ke : Expr} {p1 p2 : Pos} {fk : Ev → Mn D} {es : List Expr} {fks : List (Ev → Mn D)} (h : SE G k sc N ke fk) (t : PTs G k sc N x es fks)
    (ha : ∀ env v, assign (.Subscript (.Name x p1) ke p2) env v = (do
      let ov ← holding [v] (eval (.Name x p1) env); let iv ← holding [v, ov] (eval ke env); standAt p2; holding [v, ov, iv] (setItem ov iv v); release [v, ov, iv] []) := by intro _ _; rfl)
    (hs : ∀ env, (assignEach (.Subscript (.Name x p1) ke p2 :: es) env).map (·.2) = assign (.Subscript (.Name x p1) ke p2) env :: (assignEach es env).map (·.2) := by intro _; rfl) : PTs G k sc N x (.Subscript (.Name x p1) ke p2 :: es) (fk :: fks)
def dKinE (t : KTab) (fb : Ev → Mn D) (ev : Ev) : Mn D := bnd (fb ev) fun y => lft ((kinD t y).map .bool)
theorem E_kin {x : Str} {t : KTab} {b : Expr} {fb : Ev → Mn D} {p p2 : Pos} (h : GlK G x t) (hb : SE G k sc N b fb) (hg : glB sc x = true := by rfl) (hdb : (x == ("__debug__" : Str)) = false := by decide) (hm : behindInMarks .In (.Name x p) = false := by rfl) :
    SE G k sc N (.Compare b [.In] [.Name x p] p2) (dKinE t fb) := fun X W g tk => by
  obtain ⟨d, es, n, h1, h2, h3⟩ := h.ex
  refine pe_imp (pe_cmpR (op_in_kd (by rw [g.hK, g.hw]; exact h2)) (hb X W g tk) (pe_glob (v := .ref d) (gl_of g hg) (by rw [g.hmg]; exact h1) rfl hdb) hm) fun σ H Q h => ?_
  obtain ⟨M, r, ev, rs, R, o, rs', e, w⟩ := h
  refine tE_bnd R e w fun y rs1 H1 v R1 s1 d1 e1 w1 => ?_
  obtain ⟨c, e3, rfl, rfl⟩ := lft_some e1
  rw [g.hK]
  cases d1 with
  | str z =>
    cases e3
    have q := h3 z
    cases hz : t.lookup z with
    | none =>
      rw [hz] at q
      exact ⟨z, _, rfl, rfl, q, by have := w1 H1 (.refl _) R1.row _ (.bl _); rwa [hz] at this⟩
    | some dd =>
      rw [hz] at q
      obtain ⟨u, v, q1, q2, q3⟩ := q
      exact ⟨z, _, rfl, rfl, q1, by have := w1 H1 (.refl _) R1.row _ (.bl _); rwa [hz] at this⟩
  | _ => cases e3
end
section
end
end DL
namespace DL
open PySem PySem.Spec PyProof.Rows L2
variable [Xk]
inductive KEf (mg : Str → Option Value) : List DictEntry → List (Str × Str) → Prop
  | nil : KEf mg [] []
  | cons {h : Int} {x f : Str} {t : Tok} {a : Addr} {es : List DictEntry} {tb : List (Str × Str)} (hv : mg f = some (.ref a)) (r : KEf mg es tb) : KEf mg (⟨h, .str x t, .ref a⟩ :: es) ((x, f) :: tb)
theorem KEf.look {mg : Str → Option Value} : ∀ {es : List DictEntry} {tb : List (Str × Str)}, KEf mg es tb → ∀ z f, tb.lookup z = some f → ∃ e a, es.find? (·.key.isStr z) = some e ∧ e.val = .ref a ∧ mg f = some (.ref a)
  | _, _, .nil, z, f, e => by cases e
  | _, _, .cons (h := h) (x := x) (f := f') (t := t) (a := a) (es := es) (tb := tb) hv r, z, f, e => by
    have k1 : (⟨h, Value.str x t, .ref a⟩ : DictEntry).key.isStr z = (x == z) := rfl
    by_cases hz : z = x
    · subst hz
      have e1 : List.lookup z ((z, f') :: tb) = some f' := by simp [List.lookup]
      rw [e1] at e
      cases e
      exact ⟨(⟨h, .str z t, .ref a⟩ : DictEntry), a, by rw [List.find?_cons, k1]; simp, rfl, hv⟩
    · have b1 : (z == x) = false := by simpa using hz
      have b2 : (x == z) = false := by simpa using Ne.symm hz
      have e1 : List.lookup z ((x, f') :: tb) = List.lookup z tb := by simp [List.lookup, b1]
      rw [e1] at e
      obtain ⟨q, a', h1, h2, h3⟩ := r.look z f e
      exact ⟨q, a', by rw [List.find?_cons, k1, b2]; exact h1, h2, h3⟩
section
end
section
end
end DL
namespace PW
open PySem PySem.Spec PyProof.Rows L2 DL
def c_WORDS : D := (.tuple [(.tuple [(.str "bag"), (.str "set")]), (.tuple [(.str "maximum"), (.str "sum")]), (.tuple [(.str "count"), (.str "kind")]), (.tuple [(.str "none"), (.str "unknown"), (.str "value")]), (.tuple [(.str "null"), (.str "zero")])])
def c_DUPLICATES : D := (.int 0)
def c_NULLS : D := (.int 3)
def c_GREATEST_VALUE : D := (.int 9)
def c_ROW_LENGTH : D := (.int 2)
def c_MOST_ROWS : D := (.int 12)
def c_MOST_TUPLES : D := (.int 20)
def c_TABLE_NAMES : D := (.tuple [(.str "A"), (.str "B"), (.str "C")])
def k_GREATEST : KTab := [("column", (.int 1)), ("number", (.int 9)), ("place", (.int 1))]
def k_SIDES : KTab := [("idempotent union", (.tuple [(.tuple [(.str "union"), (.str "A"), (.str "A")]), (.str "A")])), ("absorbing union", (.tuple [(.tuple [(.str "union"), (.str "A"), (.tuple [(.str "intersection"), (.str "A"), (.str "B")])]), (.str "A")])), ("absorbing intersection", (.tuple [(.tuple [(.str "intersection"), (.str "A"), (.tuple [(.str "union"), (.str "A"), (.str "B")])]), (.str "A")])), ("intersection by difference", (.tuple [(.tuple [(.str "intersection"), (.str "A"), (.str "B")]), (.tuple [(.str "difference"), (.str "A"), (.tuple [(.str "difference"), (.str "A"), (.str "B")])])])), ("difference of union", (.tuple [(.tuple [(.str "difference"), (.str "A"), (.tuple [(.str "union"), (.str "B"), (.str "C")])]), (.tuple [(.str "difference"), (.tuple [(.str "difference"), (.str "A"), (.str "B")]), (.str "C")])])), ("union less part", (.tuple [(.tuple [(.str "difference"), (.tuple [(.str "union"), (.str "A"), (.str "B")]), (.str "B")]), (.tuple [(.str "difference"), (.str "A"), (.str "B")])])), ("add and take", (.tuple [(.tuple [(.str "difference"), (.tuple [(.str "union"), (.str "A"), (.str "B")]), (.str "B")]), (.str "A")])), ("intersection over union", (.tuple [(.tuple [(.str "intersection"), (.str "A"), (.tuple [(.str "union"), (.str "B"), (.str "C")])]), (.tuple [(.str "union"), (.tuple [(.str "intersection"), (.str "A"), (.str "B")]), (.tuple [(.str "intersection"), (.str "A"), (.str "C")])])])), ("union over intersection", (.tuple [(.tuple [(.str "union"), (.str "A"), (.tuple [(.str "intersection"), (.str "B"), (.str "C")])]), (.tuple [(.str "intersection"), (.tuple [(.str "union"), (.str "A"), (.str "B")]), (.tuple [(.str "union"), (.str "A"), (.str "C")])])])), ("filter or", (.tuple [(.tuple [(.str "select"), (.str "A"), (.tuple [(.str "or"), (.str "p"), (.str "q")])]), (.tuple [(.str "union"), (.tuple [(.str "select"), (.str "A"), (.str "p")]), (.tuple [(.str "select"), (.str "A"), (.str "q")])])])), ("filter and", (.tuple [(.tuple [(.str "select"), (.str "A"), (.tuple [(.str "and"), (.str "p"), (.str "q")])]), (.tuple [(.str "intersection"), (.tuple [(.str "select"), (.str "A"), (.str "p")]), (.tuple [(.str "select"), (.str "A"), (.str "q")])])])), ("filter not", (.tuple [(.tuple [(.str "select"), (.str "A"), (.tuple [(.str "not"), (.str "p")])]), (.tuple [(.str "difference"), (.str "A"), (.tuple [(.str "select"), (.str "A"), (.str "p")])])])), ("filter complete", (.tuple [(.tuple [(.str "select"), (.str "A"), (.tuple [(.str "or"), (.str "p"), (.tuple [(.str "not"), (.str "p")])])]), (.str "A")])), ("projection of union", (.tuple [(.tuple [(.str "project"), (.tuple [(.str "union"), (.str "A"), (.str "B")])]), (.tuple [(.str "union"), (.tuple [(.str "project"), (.str "A")]), (.tuple [(.str "project"), (.str "B")])])])), ("projection of intersection", (.tuple [(.tuple [(.str "project"), (.tuple [(.str "intersection"), (.str "A"), (.str "B")])]), (.tuple [(.str "intersection"), (.tuple [(.str "project"), (.str "A")]), (.tuple [(.str "project"), (.str "B")])])])), ("self semijoin", (.tuple [(.tuple [(.str "semijoin"), (.str "A"), (.str "A")]), (.str "A")])), ("semijoin and antijoin", (.tuple [(.tuple [(.str "union"), (.tuple [(.str "semijoin"), (.str "A"), (.str "B")]), (.tuple [(.str "antijoin"), (.str "A"), (.str "B")])]), (.str "A")])), ("not in", (.tuple [(.tuple [(.str "not_in"), (.str "A"), (.str "B")]), (.tuple [(.str "antijoin"), (.str "A"), (.str "B")])])), ("join as semijoin", (.tuple [(.tuple [(.str "pairs"), (.tuple [(.str "join"), (.str "A"), (.str "B")])]), (.tuple [(.str "semijoin"), (.str "A"), (.str "B")])])), ("join over union", (.tuple [(.tuple [(.str "join"), (.str "A"), (.tuple [(.str "union"), (.str "B"), (.str "C")])]), (.tuple [(.str "union"), (.tuple [(.str "join"), (.str "A"), (.str "B")]), (.tuple [(.str "join"), (.str "A"), (.str "C")])])])), ("count of union", (.tuple [(.tuple [(.str "count"), (.tuple [(.str "union"), (.str "A"), (.str "B")])]), (.tuple [(.str "plus"), (.tuple [(.str "count"), (.str "A")]), (.tuple [(.str "count"), (.str "B")])])])), ("inclusion and exclusion", (.tuple [(.tuple [(.str "plus"), (.tuple [(.str "count"), (.tuple [(.str "union"), (.str "A"), (.str "B")])]), (.tuple [(.str "count"), (.tuple [(.str "intersection"), (.str "A"), (.str "B")])])]), (.tuple [(.str "plus"), (.tuple [(.str "count"), (.str "A")]), (.tuple [(.str "count"), (.str "B")])])])), ("total of union", (.tuple [(.tuple [(.str "total"), (.tuple [(.str "union"), (.str "A"), (.str "B")])]), (.tuple [(.str "plus"), (.tuple [(.str "total"), (.str "A")]), (.tuple [(.str "total"), (.str "B")])])])), ("total of parts", (.tuple [(.tuple [(.str "plus"), (.tuple [(.str "total"), (.tuple [(.str "select"), (.str "A"), (.str "p")])]), (.tuple [(.str "total"), (.tuple [(.str "select"), (.str "A"), (.tuple [(.str "not"), (.str "p")])])])]), (.tuple [(.str "total"), (.str "A")])])), ("distinct union", (.tuple [(.tuple [(.str "distinct"), (.tuple [(.str "union"), (.str "A"), (.str "B")])]), (.tuple [(.str "union"), (.tuple [(.str "distinct"), (.str "A")]), (.tuple [(.str "distinct"), (.str "B")])])])), ("distinct difference", (.tuple [(.tuple [(.str "distinct"), (.tuple [(.str "difference"), (.str "A"), (.str "B")])]), (.tuple [(.str "difference"), (.tuple [(.str "distinct"), (.str "A")]), (.tuple [(.str "distinct"), (.str "B")])])]))]
def k_HOLDS_WITH : KTab := [("idempotent union", (.tuple [(.tuple [(.str "set")]), (.tuple [(.str "maximum")])])), ("absorbing union", (.tuple [(.tuple [(.str "set")]), (.tuple [(.str "maximum")])])), ("absorbing intersection", (.tuple [(.tuple [])])), ("intersection by difference", (.tuple [(.tuple [(.str "set")]), (.tuple [(.str "count")])])), ("difference of union", (.tuple [(.tuple [(.str "set")]), (.tuple [(.str "kind")]), (.tuple [(.str "sum")])])), ("union less part", (.tuple [(.tuple [(.str "set")]), (.tuple [(.str "kind")]), (.tuple [(.str "maximum")])])), ("add and take", (.tuple [(.tuple [(.str "bag"), (.str "sum"), (.str "count")])])), ("intersection over union", (.tuple [(.tuple [(.str "set")]), (.tuple [(.str "maximum")])])), ("union over intersection", (.tuple [(.tuple [])])), ("filter or", (.tuple [(.tuple [(.str "set")]), (.tuple [(.str "maximum")])])), ("filter and", (.tuple [(.tuple [])])), ("filter not", (.tuple [(.tuple [(.str "none")]), (.tuple [(.str "value")])])), ("filter complete", (.tuple [(.tuple [(.str "none")]), (.tuple [(.str "value")])])), ("projection of union", (.tuple [(.tuple [(.str "set")]), (.tuple [(.str "sum")])])), ("projection of intersection", (.tuple [])), ("self semijoin", (.tuple [(.tuple [(.str "none")]), (.tuple [(.str "value")])])), ("semijoin and antijoin", (.tuple [(.tuple [])])), ("not in", (.tuple [(.tuple [(.str "none")]), (.tuple [(.str "value")])])), ("join as semijoin", (.tuple [(.tuple [(.str "set")])])), ("join over union", (.tuple [(.tuple [])])), ("count of union", (.tuple [(.tuple [(.str "bag"), (.str "sum")])])), ("inclusion and exclusion", (.tuple [(.tuple [(.str "set")]), (.tuple [(.str "maximum")])])), ("total of union", (.tuple [(.tuple [(.str "bag"), (.str "sum"), (.str "zero")])])), ("total of parts", (.tuple [(.tuple [(.str "zero"), (.str "none")]), (.tuple [(.str "zero"), (.str "value")])])), ("distinct union", (.tuple [(.tuple [(.str "set")]), (.tuple [(.str "maximum")])])), ("distinct difference", (.tuple [(.tuple [(.str "set")]), (.tuple [(.str "kind")])]))]
def t_FORMS : KTab3 := [(["filter", "less"], (.tuple [(.str "column"), (.str "number")])), (["filter", "equal"], (.tuple [(.str "column"), (.str "number")])), (["filter", "same"], (.tuple [])), (["filter", "null"], (.tuple [(.str "column")])), (["filter", "not"], (.tuple [(.str "filter")])), (["filter", "and"], (.tuple [(.str "filter"), (.str "filter")])), (["filter", "or"], (.tuple [(.str "filter"), (.str "filter")])), (["condition", "p"], (.tuple [])), (["condition", "q"], (.tuple [])), (["condition", "not"], (.tuple [(.str "condition")])), (["condition", "and"], (.tuple [(.str "condition"), (.str "condition")])), (["condition", "or"], (.tuple [(.str "condition"), (.str "condition")])), (["expression", "table"], (.tuple [(.str "place")])), (["expression", "union"], (.tuple [(.str "expression"), (.str "expression")])), (["expression", "intersection"], (.tuple [(.str "expression"), (.str "expression")])), (["expression", "difference"], (.tuple [(.str "expression"), (.str "expression")])), (["expression", "filter"], (.tuple [(.str "condition"), (.str "expression")]))]
def d_is_semantics  : Ev → Ms :=
    seqM (pIf (dOr (dNot (dTru (dIsi [.tuple] (dVar 0)))) (dCmp neD (dFn lenD (dCons (dVar 0) (dNil))) (dFn lenD (dCons (dLit c_WORDS) (dNil))))) (pRet (dLit (.bool false))) (sNil))
    (pRet (dFn allD (dCons (dComp [1, 2] (dRng zipD (dCons (dVar 0) (dCons (dLit c_WORDS) (dNil)))) (.tup [1, 2]) (dYes) (dCmpE inD (dVar 1) (dVar 2))) (dNil))))
def d_check_semantics (f_is_semantics : List Slot → Mn D) : Ev → Ms :=
    pIf (dNot (dTru (dCl 1 f_is_semantics (dCons (dVar 0) (dNil))))) (sRaise "BadSemantics") (sNil)
def d_is_integer_to  : Ev → Ms :=
    seqM (pIf (dOr (dNot (dTru (dIsi [.int] (dVar 0)))) (dTru (dIsi [.bool] (dVar 0)))) (pRet (dLit (.bool false))) (sNil))
    (pRet (dChain leD leD (dLit (.int 0)) (dVar 0) (dVar 1)))
def d_is_row (f__is_value_under : List Slot → Mn D) : Ev → Ms :=
    seqM (pIf (dOr (dNot (dTru (dIsi [.tuple] (dVar 1)))) (dCmp neD (dFn lenD (dCons (dVar 1) (dNil))) (dLit c_ROW_LENGTH))) (pRet (dLit (.bool false))) (sNil))
    (pRet (dFn allD (dCons (dComp [2] (dItm (dVar 1)) (.name 2) (dYes) (dCl 2 f__is_value_under (dCons (dVar 0) (dCons (dVar 2) (dNil))))) (dNil))))
def d__is_value_under (f_is_integer_to : List Slot → Mn D) : Ev → Ms :=
    seqM (pIf (dCmp isD (dVar 1) (dLit .none)) (pRet (dCmpE neD (dBin ixD (dVar 0) (dLit c_NULLS)) (dLit (.str "none")))) (sNil))
    (pRet (dCl 2 f_is_integer_to (dCons (dVar 1) (dCons (dLit c_GREATEST_VALUE) (dNil)))))
def d_value_order  : Ev → Ms :=
    pRet (dIf (dCmp isD (dVar 0) (dLit .none)) (dUn negD (dLit (.int 1))) (dVar 0))
def d_row_order (f_value_order : List Slot → Mn D) : Ev → Ms :=
    pRet (dFn tupleD (dCons (dComp [1] (dItm (dVar 0)) (.name 1) (dYes) (dCl 1 f_value_order (dCons (dVar 1) (dNil)))) (dNil)))
def d_is_table (f_check_semantics : List Slot → Mn D) (f_is_row : List Slot → Mn D) (f__is_ascending : List Slot → Mn D) : Ev → Ms :=
    seqM (pDrop (dCl 1 f_check_semantics (dCons (dVar 0) (dNil))))
    (seqM (pIf (dOr (dNot (dTru (dIsi [.tuple] (dVar 1)))) (dCmp gtD (dFn lenD (dCons (dVar 1) (dNil))) (dLit c_MOST_ROWS))) (pRet (dLit (.bool false))) (sNil))
    (seqM (pIf (dNot (dTru (dFn allD (dCons (dComp [2] (dItm (dVar 1)) (.name 2) (dYes) (dCl 2 f_is_row (dCons (dVar 0) (dCons (dVar 2) (dNil))))) (dNil))))) (pRet (dLit (.bool false))) (sNil))
    (pRet (dCl 2 f__is_ascending (dCons (dVar 1) (dCons (dCmpE eqD (dBin ixD (dVar 0) (dLit c_DUPLICATES)) (dLit (.str "bag"))) (dNil)))))))
def d__is_ascending (f_row_order : List Slot → Mn D) : Ev → Ms :=
    seqM (pSet 2 (dComp [5] (dItm (dVar 0)) (.name 5) (dYes) (dCl 1 f_row_order (dCons (dVar 5) (dNil)))))
    (seqM (sFor false (dRng zipD (dCons (dVar 2) (dCons (dBin slLo (dVar 2) (dLit (.int 1))) (dNil)))) (.tup [3, 4]) (pIf (dOr (dCmp gtxD (dVar 3) (dVar 4)) (dAnd (dCmp eqD (dVar 3) (dVar 4)) (dNot (dTru (dVar 1))))) (pRet (dLit (.bool false))) (sNil)))
    (pRet (dLit (.bool true))))
def d_tuples_of (f__has_form : List Slot → Mn D) (f__inner_tuples : List Slot → Mn D) : Ev → Ms :=
    seqM (sOwn 3 (dCons (dTup (dCons (dVar 0) (dCons (dVar 1) (dNil)))) (dNil)))
    (seqM (sOwn 4 (dNil))
    (seqM (whileN (dTru (dVar 3)) (seqM (sPopT (.tup [5, 6]) 3)
    (seqM (sIf (dOr (dCmp eqD (dFn lenD (dCons (dVar 4) (dNil))) (dVar 2)) (dNot (dTru (dCl 2 f__has_form (dCons (dVar 5) (dCons (dVar 6) (dNil))))))) (sRet (dLit .none)) (sNil))
    (seqM (sApp 4 (dVar 5))
    (sExt 3 (dCl 2 f__inner_tuples (dCons (dVar 5) (dCons (dVar 6) (dNil)))))))) 64)
    (sRet (dVar 4))))
def d__has_form (f__fits : List Slot → Mn D) : Ev → Ms :=
    seqM (pIf (dOr (dNot (dTru (dIsi [.tuple] (dVar 0)))) (dCmp eqD (dFn lenD (dCons (dVar 0) (dNil))) (dLit (.int 0)))) (pRet (dLit (.bool false))) (sNil))
    (seqM (pIf (dOr (dNot (dTru (dIsi [.str] (dBin ixD (dVar 0) (dLit (.int 0)))))) (dTnin t_FORMS (dTup (dCons (dVar 1) (dCons (dBin ixD (dVar 0) (dLit (.int 0))) (dNil)))))) (pRet (dLit (.bool false))) (sNil))
    (seqM (pSet 2 (dTget t_FORMS (dTup (dCons (dVar 1) (dCons (dBin ixD (dVar 0) (dLit (.int 0))) (dNil))))))
    (seqM (pIf (dCmp neD (dFn lenD (dCons (dVar 0) (dNil))) (dBin addD (dLit (.int 1)) (dFn lenD (dCons (dVar 2) (dNil))))) (pRet (dLit (.bool false))) (sNil))
    (pRet (dFn allD (dCons (dComp [3, 4] (dRng zipD (dCons (dBin slLo (dVar 0) (dLit (.int 1))) (dCons (dVar 2) (dNil)))) (.tup [3, 4]) (dYes) (dCl 2 f__fits (dCons (dVar 3) (dCons (dVar 4) (dNil))))) (dNil)))))))
def d__fits (f_is_integer_to : List Slot → Mn D) : Ev → Ms :=
    seqM (pIf (dKin k_GREATEST (dVar 1)) (pRet (dCl 2 f_is_integer_to (dCons (dVar 0) (dCons (dKget k_GREATEST (dVar 1)) (dNil))))) (sNil))
    (pRet (dLit (.bool true)))
def d__inner_tuples  : Ev → Ms :=
    seqM (pSet 2 (dTget t_FORMS (dTup (dCons (dVar 1) (dCons (dBin ixD (dVar 0) (dLit (.int 0))) (dNil))))))
    (pRet (dComp [3, 4] (dRng zipD (dCons (dBin slLo (dVar 0) (dLit (.int 1))) (dCons (dVar 2) (dNil)))) (.tup [3, 4]) (dKnin k_GREATEST (dVar 4)) (dTup (dCons (dVar 3) (dCons (dVar 4) (dNil))))))
def d_is_filter (f_tuples_of : List Slot → Mn D) : Ev → Ms :=
    pRet (dCmpE isnD (dCl 3 f_tuples_of (dCons (dVar 0) (dCons (dLit (.str "filter")) (dCons (dLit c_MOST_TUPLES) (dNil))))) (dLit .none))
def d__negation  : Ev → Ms :=
    pRet (dIf (dCmp isD (dVar 0) (dLit .none)) (dLit .none) (dNotV (dVar 0)))
def d_is_identity  : Ev → Ms :=
    pRet (dAndV (dIsi [.str] (dVar 0)) (dKinE k_SIDES (dVar 0)))
def d_check_identity (f_is_identity : List Slot → Mn D) : Ev → Ms :=
    pIf (dNot (dTru (dCl 1 f_is_identity (dCons (dVar 0) (dNil))))) (sRaise "BadIdentity") (sNil)
def d_holds_for (f_check_semantics : List Slot → Mn D) (f_check_identity : List Slot → Mn D) (f__are_arguments : List Slot → Mn D) (f__names_of : List Slot → Mn D) (f__value_of : List Slot → Mn D) : Ev → Ms :=
    seqM (pDrop (dCl 1 f_check_semantics (dCons (dVar 0) (dNil))))
    (seqM (pDrop (dCl 1 f_check_identity (dCons (dVar 1) (dNil))))
    (seqM (pIf (dNot (dTru (dCl 3 f__are_arguments (dCons (dVar 0) (dCons (dVar 1) (dCons (dVar 2) (dNil))))))) (sRaise "BadArguments") (sNil))
    (seqM (pSet 3 (dFn dzD (dCons (dCl 1 f__names_of (dCons (dVar 1) (dNil))) (dCons (dVar 2) (dNil)))))
    (seqM (pTgt (.tup [4, 5]) (dKget k_SIDES (dVar 1)))
    (pRet (dCmpE eqD (dCl 3 f__value_of (dCons (dVar 0) (dCons (dVar 4) (dCons (dVar 3) (dNil))))) (dCl 3 f__value_of (dCons (dVar 0) (dCons (dVar 5) (dCons (dVar 3) (dNil)))))))))))
def d_holds (f_check_semantics : List Slot → Mn D) (f_check_identity : List Slot → Mn D) : Ev → Ms :=
    seqM (pDrop (dCl 1 f_check_semantics (dCons (dVar 0) (dNil))))
    (seqM (pDrop (dCl 1 f_check_identity (dCons (dVar 1) (dNil))))
    (pRet (dFn anyD (dCons (dComp [2] (dItm (dKget k_HOLDS_WITH (dVar 1))) (.name 2) (dYes) (dFn allD (dCons (dComp [3] (dItm (dVar 2)) (.name 3) (dYes) (dCmpE inD (dVar 3) (dVar 0))) (dNil)))) (dNil)))))
def d_counterexample (f_holds : List Slot → Mn D) (f__broken_by : List Slot → Mn D) (f__argument : List Slot → Mn D) : Ev → Ms :=
    seqM (pIf (dTru (dCl 2 f_holds (dCons (dVar 0) (dCons (dVar 1) (dNil))))) (pRet (dLit .none)) (sNil))
    (pRet (dFn tupleD (dCons (dComp [2] (dItm (dCl 2 f__broken_by (dCons (dVar 0) (dCons (dVar 1) (dNil))))) (.name 2) (dYes) (dCl 1 f__argument (dCons (dVar 2) (dNil)))) (dNil))))
def c_MOST_TUPLES_filters : D := (.int 20)
def c_MOST_LEAVES : D := (.int 6)
def c_MOST_TUPLES_expressions : D := (.int 30)
def c_GREATEST_COUNT : D := (.int 99)
def c_CASE_LENGTH : D := (.int 4)
def d_check_tables (f_is_table : List Slot → Mn D) : Ev → Ms :=
    sFor false (dRng enumTD (dCons (dVar 1) (dNil))) (.tup [2, 3]) (pIf (dNot (dTru (dCl 2 f_is_table (dCons (dVar 0) (dCons (dVar 3) (dNil)))))) (sStuck) (sNil))
def d_check_filter (f_is_filter : List Slot → Mn D) : Ev → Ms :=
    pIf (dNot (dTru (dCl 1 f_is_filter (dCons (dVar 0) (dNil))))) (sRaise "BadFilter") (sNil)
def d_is_expression (f_tuples_of : List Slot → Mn D) (f__leaves_among : List Slot → Mn D) : Ev → Ms :=
    seqM (pSet 1 (dCl 3 f_tuples_of (dCons (dVar 0) (dCons (dLit (.str "expression")) (dCons (dLit c_MOST_TUPLES_expressions) (dNil))))))
    (pRet (dAndV (dCmpE isnD (dVar 1) (dLit .none)) (dCmpE leD (dCl 1 f__leaves_among (dCons (dVar 1) (dNil))) (dLit c_MOST_LEAVES))))
def d__leaves_among  : Ev → Ms :=
    pRet (dFn lenD (dCons (dComp [1] (dItm (dVar 0)) (.name 1) (dCmp eqD (dBin ixD (dVar 1) (dLit (.int 0))) (dLit (.str "table"))) (dVar 1)) (dNil)))
def d__check_expressions (f_is_expression : List Slot → Mn D) : Ev → Ms :=
    sFor false (dRng enumTD (dCons (dVar 0) (dNil))) (.tup [1, 2]) (pIf (dNot (dTru (dCl 1 f_is_expression (dCons (dVar 2) (dNil))))) (sStuck) (sNil))
def d_evaluate (f_check_semantics : List Slot → Mn D) (f__check_expressions : List Slot → Mn D) (f_check_tables : List Slot → Mn D) (f_check_filter : List Slot → Mn D) (f_each_once : List Slot → Mn D) (f_truth_of : List Slot → Mn D) (f__count_of : List Slot → Mn D) : Ev → Ms :=
    seqM (sDrop (dCl 1 f_check_semantics (dCons (dVar 0) (dNil))))
    (seqM (sDrop (dCl 1 f__check_expressions (dCons (dTup (dCons (dVar 1) (dNil))) (dNil))))
    (seqM (sDrop (dCl 2 f_check_tables (dCons (dVar 0) (dCons (dTup (dCons (dVar 2) (dCons (dVar 3) (dNil)))) (dNil)))))
    (seqM (sDrop (dCl 1 f_check_filter (dCons (dVar 4) (dNil))))
    (seqM (sDrop (dCl 1 f_check_filter (dCons (dVar 5) (dNil))))
    (seqM (sOwn 6 (dNil))
    (seqM (sFor false (dItm (dCl 1 f_each_once (dCons (dBin addD (dVar 2) (dVar 3)) (dNil)))) (.name 7) (seqM (sSet 8 (dTup (dCons (dMtL cntD (dVar 2) (dVar 7)) (dCons (dMtL cntD (dVar 3) (dVar 7)) (dCons (dCl 3 f_truth_of (dCons (dVar 0) (dCons (dVar 4) (dCons (dVar 7) (dNil))))) (dCons (dCl 3 f_truth_of (dCons (dVar 0) (dCons (dVar 5) (dCons (dVar 7) (dNil))))) (dNil)))))))
    (sExt 6 (dBin mulxD (dLst (dCons (dVar 7) (dNil))) (dCl 3 f__count_of (dCons (dVar 0) (dCons (dVar 1) (dCons (dVar 8) (dNil)))))))))
    (sRet (dFn tupleD (dCons (dVar 6) (dNil))))))))))
def d_count_at (f_check_semantics : List Slot → Mn D) (f__check_expressions : List Slot → Mn D) (f__is_case : List Slot → Mn D) (f__count_of : List Slot → Mn D) : Ev → Ms :=
    seqM (pDrop (dCl 1 f_check_semantics (dCons (dVar 0) (dNil))))
    (seqM (pDrop (dCl 1 f__check_expressions (dCons (dTup (dCons (dVar 1) (dNil))) (dNil))))
    (seqM (pIf (dNot (dTru (dCl 2 f__is_case (dCons (dVar 0) (dCons (dVar 2) (dNil)))))) (sRaise "BadCase") (sNil))
    (pRet (dCl 3 f__count_of (dCons (dVar 0) (dCons (dVar 1) (dCons (dVar 2) (dNil))))))))
def d__is_case (f_is_integer_to : List Slot → Mn D) (f__is_truth : List Slot → Mn D) : Ev → Ms :=
    seqM (pIf (dOr (dNot (dTru (dIsi [.tuple] (dVar 1)))) (dCmp neD (dFn lenD (dCons (dVar 1) (dNil))) (dLit c_CASE_LENGTH))) (pRet (dLit (.bool false))) (sNil))
    (seqM (pSet 2 (dIf (dCmp eqD (dBin ixD (dVar 0) (dLit PW.c_DUPLICATES)) (dLit (.str "set"))) (dLit (.int 1)) (dLit c_GREATEST_COUNT)))
    (seqM (pIf (dNot (dTru (dFn allD (dCons (dComp [4] (dItm (dBin slHi (dVar 1) (dLit (.int 2)))) (.name 4) (dYes) (dCl 2 f_is_integer_to (dCons (dVar 4) (dCons (dVar 2) (dNil))))) (dNil))))) (pRet (dLit (.bool false))) (sNil))
    (pRet (dFn allD (dCons (dComp [3] (dItm (dBin slLo (dVar 1) (dLit (.int 2)))) (.name 3) (dYes) (dCl 2 f__is_truth (dCons (dVar 0) (dCons (dVar 3) (dNil))))) (dNil))))))
def d__is_truth  : Ev → Ms :=
    seqM (pIf (dCmp isD (dVar 1) (dLit .none)) (pRet (dCmpE eqD (dBin ixD (dVar 0) (dLit PW.c_NULLS)) (dLit (.str "unknown")))) (sNil))
    (pRet (dIsi [.bool] (dVar 1)))
def d_equal_for_all (f_least_difference : List Slot → Mn D) : Ev → Ms :=
    pRet (dCmpE isD (dCl 3 f_least_difference (dCons (dVar 0) (dCons (dVar 1) (dCons (dVar 2) (dNil))))) (dLit .none))
def d_least_difference (f_check_semantics : List Slot → Mn D) (f__check_expressions : List Slot → Mn D) (f__cases : List Slot → Mn D) (f__greatest_needed : List Slot → Mn D) (f__count_of : List Slot → Mn D) : Ev → Ms :=
    seqM (pDrop (dCl 1 f_check_semantics (dCons (dVar 0) (dNil))))
    (seqM (pDrop (dCl 1 f__check_expressions (dCons (dTup (dCons (dVar 1) (dCons (dVar 2) (dNil)))) (dNil))))
    (seqM (sFor false (dItm (dCl 2 f__cases (dCons (dVar 0) (dCons (dCl 3 f__greatest_needed (dCons (dVar 0) (dCons (dVar 1) (dCons (dVar 2) (dNil))))) (dNil))))) (.name 3) (pIf (dCmp neD (dCl 3 f__count_of (dCons (dVar 0) (dCons (dVar 1) (dCons (dVar 3) (dNil))))) (dCl 3 f__count_of (dCons (dVar 0) (dCons (dVar 2) (dCons (dVar 3) (dNil)))))) (pRet (dVar 3)) (sNil)))
    (pRet (dLit .none))))
def d_profile (f_check_semantics : List Slot → Mn D) (f_identities : List Slot → Mn D) (f_holds : List Slot → Mn D) : Ev → Ms :=
    seqM (pDrop (dCl 1 f_check_semantics (dCons (dVar 0) (dNil))))
    (pRet (dFn tupleD (dCons (dComp [1] (dItm (dCl 0 f_identities (dNil))) (.name 1) (dTru (dCl 2 f_holds (dCons (dVar 0) (dCons (dVar 1) (dNil))))) (dVar 1)) (dNil))))
def d_union (f_check_tables : List Slot → Mn D) (f_union_of : List Slot → Mn D) : Ev → Ms :=
    seqM (pDrop (dCl 2 f_check_tables (dCons (dVar 0) (dCons (dTup (dCons (dVar 1) (dCons (dVar 2) (dNil)))) (dNil)))))
    (pRet (dCl 3 f_union_of (dCons (dVar 0) (dCons (dVar 1) (dCons (dVar 2) (dNil))))))
def d_intersection (f_check_tables : List Slot → Mn D) (f_intersection_of : List Slot → Mn D) : Ev → Ms :=
    seqM (pDrop (dCl 2 f_check_tables (dCons (dVar 0) (dCons (dTup (dCons (dVar 1) (dCons (dVar 2) (dNil)))) (dNil)))))
    (pRet (dCl 3 f_intersection_of (dCons (dVar 0) (dCons (dVar 1) (dCons (dVar 2) (dNil))))))
def d_difference (f_check_tables : List Slot → Mn D) (f_difference_of : List Slot → Mn D) : Ev → Ms :=
    seqM (pDrop (dCl 2 f_check_tables (dCons (dVar 0) (dCons (dTup (dCons (dVar 1) (dCons (dVar 2) (dNil)))) (dNil)))))
    (pRet (dCl 3 f_difference_of (dCons (dVar 0) (dCons (dVar 1) (dCons (dVar 2) (dNil))))))
def d_select (f_check_tables : List Slot → Mn D) (f_check_filter : List Slot → Mn D) (f_selection_of : List Slot → Mn D) : Ev → Ms :=
    seqM (pDrop (dCl 2 f_check_tables (dCons (dVar 0) (dCons (dTup (dCons (dVar 1) (dNil))) (dNil)))))
    (seqM (pDrop (dCl 1 f_check_filter (dCons (dVar 2) (dNil))))
    (pRet (dCl 3 f_selection_of (dCons (dVar 0) (dCons (dVar 1) (dCons (dVar 2) (dNil)))))))
def d_project (f_check_tables : List Slot → Mn D) (f_projection_of : List Slot → Mn D) : Ev → Ms :=
    seqM (pDrop (dCl 2 f_check_tables (dCons (dVar 0) (dCons (dTup (dCons (dVar 1) (dNil))) (dNil)))))
    (pRet (dCl 2 f_projection_of (dCons (dVar 0) (dCons (dVar 1) (dNil)))))
def d_join (f_check_tables : List Slot → Mn D) (f_join_of : List Slot → Mn D) : Ev → Ms :=
    seqM (pDrop (dCl 2 f_check_tables (dCons (dVar 0) (dCons (dTup (dCons (dVar 1) (dCons (dVar 2) (dNil)))) (dNil)))))
    (pRet (dCl 3 f_join_of (dCons (dVar 0) (dCons (dVar 1) (dCons (dVar 2) (dNil))))))
def d_semijoin (f_check_tables : List Slot → Mn D) (f_semijoin_of : List Slot → Mn D) : Ev → Ms :=
    seqM (pDrop (dCl 2 f_check_tables (dCons (dVar 0) (dCons (dTup (dCons (dVar 1) (dCons (dVar 2) (dNil)))) (dNil)))))
    (pRet (dCl 3 f_semijoin_of (dCons (dVar 0) (dCons (dVar 1) (dCons (dVar 2) (dNil))))))
def d_antijoin (f_check_tables : List Slot → Mn D) (f_antijoin_of : List Slot → Mn D) : Ev → Ms :=
    seqM (pDrop (dCl 2 f_check_tables (dCons (dVar 0) (dCons (dTup (dCons (dVar 1) (dCons (dVar 2) (dNil)))) (dNil)))))
    (pRet (dCl 3 f_antijoin_of (dCons (dVar 0) (dCons (dVar 1) (dCons (dVar 2) (dNil))))))
def d_not_in (f_check_tables : List Slot → Mn D) (f_not_in_of : List Slot → Mn D) : Ev → Ms :=
    seqM (pDrop (dCl 2 f_check_tables (dCons (dVar 0) (dCons (dTup (dCons (dVar 1) (dCons (dVar 2) (dNil)))) (dNil)))))
    (pRet (dCl 3 f_not_in_of (dCons (dVar 0) (dCons (dVar 1) (dCons (dVar 2) (dNil))))))
def d_distinct (f_check_tables : List Slot → Mn D) (f_each_once : List Slot → Mn D) : Ev → Ms :=
    seqM (pDrop (dCl 2 f_check_tables (dCons (dVar 0) (dCons (dTup (dCons (dVar 1) (dNil))) (dNil)))))
    (pRet (dCl 1 f_each_once (dCons (dVar 1) (dNil))))
def d_total (f_check_tables : List Slot → Mn D) (f_total_of : List Slot → Mn D) : Ev → Ms :=
    seqM (pDrop (dCl 2 f_check_tables (dCons (dVar 0) (dCons (dTup (dCons (dVar 1) (dNil))) (dNil)))))
    (pRet (dCl 2 f_total_of (dCons (dVar 0) (dCons (dVar 1) (dNil)))))
def d_truth (f_check_semantics : List Slot → Mn D) (f_check_filter : List Slot → Mn D) (f_is_row : List Slot → Mn D) (f_truth_of : List Slot → Mn D) : Ev → Ms :=
    seqM (pDrop (dCl 1 f_check_semantics (dCons (dVar 0) (dNil))))
    (seqM (pDrop (dCl 1 f_check_filter (dCons (dVar 1) (dNil))))
    (seqM (pIf (dNot (dTru (dCl 2 f_is_row (dCons (dVar 0) (dCons (dVar 2) (dNil)))))) (sRaise "BadRow") (sNil))
    (pRet (dCl 3 f_truth_of (dCons (dVar 0) (dCons (dVar 1) (dCons (dVar 2) (dNil))))))))
end PW
namespace DL
open PySem PySem.Spec PyProof.Rows L2
variable [Xk]
section
variable {X : Cx} {CX : CXT} {k : Nat} {f : Addr} {fd : FuncData} {ps : List Str} {sp : Sp} {E : L2.St → XK} {x : Str} {p pos : Pos}
theorem pe_callZ (F : FnOk X.prog X.w X.K X.mg X.base CX k f fd ps sp) (hr : Room k X.A) (hg : Gl X x) (hm : X.mg x = some (.ref f)) (hk : PySem.W.keepIn X.K (.ref f) = true) (hb : Binds X.K fd ps []) (hx : ∀ σ, PassesAt CX X σ (E σ)) (hdb : (x == ("__debug__" : Str)) = false) :
    PE X (.Call (.Name x p) [] [] pos) (fun σ H Q => sp [] H Q (E σ)) := by
  refine ⟨fun pins s σ H Q I h => ?_⟩
  exact wpAny_Call_Name_kw (ld_glob I hg hm (PySem.W.callWith_K0 I.kIn hk (run_fnS (us := []) F hr hb (hx σ) I .nil h)) hdb)
end
section
variable {G : Gm} {k : Nat} {sc : Sx} {N : List Str}
theorem e_call0 {x : Str} {j : Nat} {φ : List Slot → Mn D} {p pos : Pos} (F : FO G j x 0 φ) (hj : j ≤ k) (hg : glB sc x = true := by rfl) (hdb : (x == ("__debug__" : Str)) = false := by decide) : SE G k sc N (.Call (.Name x p) [] [] pos) (dCl 0 φ dNil) := fun X W g tk => by
  obtain ⟨fa, fd, ps, h1, h2, h3, h4, h5⟩ := F
  have F' : FnOk X.prog X.w X.K X.mg X.base (L2.CX X.prog X.w) j fa fd ps (spF G 0 φ) := by rw [g.hP, g.hw, g.hK, g.hmg, g.hb]; exact h5
  refine pe_imp (pe_callZ F' (g.room.mono hj) (gl_of g hg) (by rw [g.hmg]; exact h1) (by rw [g.hK]; exact h2) (by rw [g.hK]; exact h3) (fun σ => passAt tk σ) hdb) fun σ H Q h => ?_
  obtain ⟨M, r, ev, rs, R, o, rs', e, w⟩ := h
  exact ⟨rfl, M, r, [], rs, R.mr, R.ml, R.row, .nil, o, rs', e, w⟩
end
end DL
namespace DL
open PySem PySem.Spec PyProof.Rows L2
section
end
end DL
namespace DL
open PySem PySem.Spec PyProof.Rows L2
section
end
end DL
namespace DL
open PySem PySem.Spec PyProof.Rows L2
variable [Xk]
section
variable {G : Gm} {k : Nat} {sc : Sx} {N : List Str}
def isTx : D → Bool
  | .str _ => true
  | _ => false
def strsT : List D → Option (List Str)
  | [] => some []
  | .str x :: ds => (strsT ds).map (x :: ·)
  | _ :: _ => none
theorem strsT_map : ∀ ws : List Str, strsT (ws.map PyData.str) = some ws
  | [] => rfl
  | x :: ws => by
    show (strsT (ws.map PyData.str)).map (x :: ·) = _
    rw [strsT_map ws]
    rfl
theorem strsT_of : ∀ {ds : List D} {ws : List Str}, strsT ds = some ws → ds = ws.map PyData.str
  | [], _, h => by cases h; rfl
  | .str x :: ds, ws, h => by
    obtain ⟨us, e1, e2⟩ := Option.map_eq_some_iff.mp (show (strsT ds).map (x :: ·) = some ws from h)
    subst e2
    rw [strsT_of e1]
    rfl
  | .none :: _, _, h => by cases h
  | .bool _ :: _, _, h => by cases h
  | .int _ :: _, _, h => by cases h
  | .list _ :: _, _, h => by cases h
  | .tuple _ :: _, _, h => by cases h
  | .dict _ :: _, _, h => by cases h
theorem dal_words {K : PySem.W.Frag} {M : Addr → Prop} {H : Hp} : ∀ {ws : List Str} {xs : List V}, DaL K M H xs (ws.map PyData.str) → xs = ws.map V.str
  | [], _, .nil => rfl
  | x :: ws, _, .cons h t => by
    cases h
    rw [dal_words t]
    rfl
def dMtS (op : D → D → Option D) (fo fe : Ev → Mn D) (ev : Ev) : Mn D := bnd (fo ev) fun x => if isTx x = true then bnd (fe ev) fun y => lft (op x y) else fun _ => none
@[simp] theorem dMtS_eq (op : D → D → Option D) (fo fe : Ev → Mn D) (ev : Ev) : dMtS op fo fe ev = bnd (fo ev) fun x => if isTx x = true then bnd (fe ev) fun y => lft (op x y) else stk := rfl
@[simp] theorem isTx_str (x : Str) : isTx (.str x) = true := rfl
end
end DL
namespace DL
open PySem PySem.Spec PyProof.Rows L2
variable [Xk]
section
variable {G : Gm} {k : Nat} {sc : Sx} {N : List Str}
def joinD : D → D → Option D
  | .str a, .list ds => match strsT ds with
    | some ws => if (ws.map (·.length)).sum + ws.length * a.length ≤ 16777216 then some (.str (PySem.Txt.join a ws)) else none
    | none => none
  | _, _ => none
theorem joinD_ws (a : Str) (ws : List Str) : joinD (.str a) (.list (ws.map PyData.str)) = if (ws.map (·.length)).sum + ws.length * a.length ≤ 16777216 then some (.str (PySem.Txt.join a ws)) else none := by
  simp only [joinD, strsT_map]
theorem e_join {o e : Expr} {fo fe : Ev → Mn D} {ap cp : Pos} (ho : SE G k sc N o fo) (he : SE G k sc N e fe) (hbase : ∀ env, attributeBase o "join" env (eval o env) = eval o env := by intro _; rfl)
    (hfew : ∀ env, ((backTo cp (starEach [e] env)).all (fun x => !x.1) && (backToKw cp (keywordEach [] env)).all (fun x => x.1.isSome) && decide ([e].length + ([] : List Keyword).length + (if ([] : List Keyword).isEmpty then 0 else 1) < 30)) = true := by intro _; rfl)
    (hline : (ap.endLine == cp.line) = true := by rfl) (hs : ∀ env, starEach [e] env = (false, eval e env) :: starEach [] env := by intro _; rfl) (hpl : ∀ env, (backTo cp (starEach [] env)).any (·.1) = false := by intro _; rfl) :
    SE G k sc N (.Call (.Attribute o "join" ap) [e] [] cp) (dMtS joinD fo fe) := fun X W g tk => by
  refine pe_imp (pe_bm PySem.F.plainAttrs_str PySem.F.slot_str_join PySem.F.type_str_join L2.mt_join (ho X W g tk) (pa_cons (he X W g tk) pa_nil (hs _)) (hbase _) (hfew _) hline (hs _) (hpl _)) fun σ H Q h => ?_
  obtain ⟨M, r, ev, rs, R, o, rs', e, w⟩ := h
  refine tE_bnd R e w fun x rs1 H1 v R1 s1 d1 e1 w1 => ?_
  cases d1 with
  | str a =>
    have e1 : bnd (fe ev) (fun y => lft (joinD (.str a) y)) rs1 = some (o, rs') := e1
    refine ⟨rfl, tE_bnd R1 e1 w1 fun y rs2 H2 u R2 s2 d2 e2 w2 => ?_⟩
    obtain ⟨d, e3, rfl, rfl⟩ := lft_some e2
    cases d2 with
    | lst h n t =>
      rename_i p xs ds
      have e3 : (match strsT ds with
        | some ws => if (ws.map (·.length)).sum + ws.length * a.length ≤ 16777216 then some (PyData.str (PySem.Txt.join a ws)) else none
        | none => none) = some d := e3
      cases hw : strsT ds with
      | none => rw [hw] at e3; cases e3
      | some ws =>
        rw [hw] at e3
        have ed := strsT_of hw
        subst ed
        have e4 := e3
        rw [joinD_ws] at e4
        split at e4
        · rename_i ok
          cases e4
          have ex := dal_words t
          subst ex
          exact ⟨a, _, ws, rfl, rfl, .inl (.of h), ok, w2 H2 (.refl _) R2.row _ (.str _)⟩
        · cases e4
    | _ => cases e3
  | _ => cases e1
def revL : D → Option (List D)
  | .list ds => some ds.reverse
  | _ => none
def dRvI (f : Ev → Mn D) (ev : Ev) : Mn (List D) := bnd (f ev) fun x => lft (revL x)
@[simp] theorem dRvI_eq (f : Ev → Mn D) (ev : Ev) : dRvI f ev = bnd (f ev) fun x => lft (revL x) := rfl
end
end DL
namespace DL
open PySem PySem.Spec PyProof.Rows L2
variable [Xk]
section
variable {G : Gm} {k : Nat} {sc : Sx} {N : List Str}
def tinD (t : KTab3) : D → Option Bool
  | .tuple ds => (strsOf ds).map fun ks => (t.lookup ks).isSome
  | _ => none
def dTin (t : KTab3) (fb : Ev → Mn D) (ev : Ev) : Mn Bool := bnd (fb ev) fun y => lft (tinD t y)
@[simp] theorem dTin_eq (t : KTab3) (fb : Ev → Mn D) (ev : Ev) : dTin t fb ev = bnd (fb ev) fun y => lft (tinD t y) := rfl
def tixD (ds : List D) : D → Option D
  | .str z => (strsT ds).bind fun ys => (ys.findIdx? (· == z)).map fun j => .int (j : Nat)
  | _ => none
def dTix (ds : List D) (fe : Ev → Mn D) (ev : Ev) : Mn D := bnd (fe ev) fun y => lft (tixD ds y)
@[simp] theorem dTix_eq (ds : List D) (fe : Ev → Mn D) (ev : Ev) : dTix ds fe ev = bnd (fe ev) fun y => lft (tixD ds y) := rfl
end
end DL
namespace CX
open PySem PySem.Spec PyProof.Rows
section
end
end CX
namespace CX
open PySem PySem.Spec PyProof.Rows L2
end CX
namespace CX
open PySem PySem.Spec PyProof.Rows L2
end CX
namespace DL
open PySem PySem.Spec PyProof.Rows L2
variable [Xk]
section
variable {G : Gm} {k : Nat} {sc : Sx} {N : List Str}
def compGoX (t : Tgt) (elt : Ev → Mn D) (ev : Ev) : List D → Mn (List D)
  | [] => pur []
  | d :: ds => bnd (lft (t.of d)) fun es => bnd (elt (setE ev t.ix es)) fun x => bnd (compGoX t elt ev ds) fun xs => pur (x :: xs)
def lstL (acc : List D) (rest : List D) : Option D := if (acc ++ rest).length ≤ sizeLine then some (.list (acc ++ rest)) else none
def dCompX (own : List Nat) (src : Ev → Mn (List D)) (t : Tgt) (elt : Ev → Mn D) (ev : Ev) : Mn D :=
  bnd (src ev) fun ds => if ds.length ≤ sizeLine then bnd (compGoX t elt (wipeE ev own) ds) fun out => lft (lstL [] out) else fun _ => none
end
end DL
namespace DL
open PySem PySem.Spec PyProof.Rows L2
variable [Xk]
section
variable {G : Gm} {k : Nat} {sc : Sx} {N : List Str}
@[simp] theorem dCompX_eq (own : List Nat) (src : Ev → Mn (List D)) (t : Tgt) (e : Ev → Mn D) (ev : Ev) : dCompX own src t e ev = bnd (src ev) fun ds => if ds.length ≤ sizeLine then bnd (compGoX t e (wipeE ev own) ds) fun out => lft (lstL [] out) else fun _ => none := rfl
end
end DL
namespace PT
open PySem PySem.Spec PyProof.Rows L2 DL
def c_NO_ROW : D := (.str "-")
def d_write_table (f_check_tables : List Slot → Mn D) (f_value_text : List Slot → Mn D) : Ev → Ms :=
    seqM (pDrop (dCl 2 f_check_tables (dCons (dVar 0) (dCons (dTup (dCons (dVar 1) (dNil))) (dNil)))))
    (seqM (pIf (dCmp eqD (dFn lenD (dCons (dVar 1) (dNil))) (dLit (.int 0))) (pRet (dLit c_NO_ROW)) (sNil))
    (pRet (dMtS joinD (dLit (.str "; ")) (dComp [2] (dItm (dVar 1)) (.name 2) (dYes) (dMtS joinD (dLit (.str ",")) (dComp [3] (dItm (dVar 2)) (.name 3) (dYes) (dCl 1 f_value_text (dCons (dVar 3) (dNil)))))))))
def d_write_filter (f_check_filter : List Slot → Mn D) (f__text_of : List Slot → Mn D) : Ev → Ms :=
    seqM (pDrop (dCl 1 f_check_filter (dCons (dVar 0) (dNil))))
    (pRet (dCl 1 f__text_of (dCons (dVar 0) (dNil))))
def d__parts_in (f__number_in : List Slot → Mn D) : Ev → Ms :=
    seqM (pSet 1 (dLst (dNil)))
    (seqM (sFor false (dRvI (dVar 0)) (.name 2) (pIf (dTin PW.t_FORMS (dTup (dCons (dLit (.str "filter")) (dCons (dVar 2) (dNil))))) (seqM (pSet 3 (dFn lenD (dCons (dTget PW.t_FORMS (dTup (dCons (dLit (.str "filter")) (dCons (dVar 2) (dNil))))) (dNil))))
    (pSet 1 (dLst (dCons (dTup (dCons (dVar 2) (dStar (dBin slHi (dVar 1) (dVar 3)) (dNil)))) (dStar (dBin slLo (dVar 1) (dVar 3)) (dNil)))))) (pSet 1 (dLst (dCons (dCl 1 f__number_in (dCons (dVar 2) (dNil))) (dStar (dVar 1) (dNil)))))))
    (pRet (dVar 1)))
end PT
namespace K09
open PySem PySem.Spec PyProof.Rows L2 DL
abbrev topS (j : Nat) : Stmt := PySem.Challenge.pw_queryheld_k09_whole_refused.main.body.getD j (.Pass ⟨0, 0, 0, 0⟩)
abbrev st_is_semantics : Stmt := topS 20
abbrev N_is_semantics : List Str := ["value", "part", "words"]
abbrev P_is_semantics : List Str := ["value"]
abbrev st_check_semantics : Stmt := topS 21
abbrev N_check_semantics : List Str := ["value"]
abbrev P_check_semantics : List Str := ["value"]
abbrev st_is_integer_to : Stmt := topS 22
abbrev N_is_integer_to : List Str := ["value", "greatest"]
abbrev P_is_integer_to : List Str := ["value", "greatest"]
abbrev st_is_row : Stmt := topS 23
abbrev N_is_row : List Str := ["semantics", "value", "part"]
abbrev P_is_row : List Str := ["semantics", "value"]
abbrev st__is_value_under : Stmt := topS 24
abbrev N__is_value_under : List Str := ["semantics", "value"]
abbrev P__is_value_under : List Str := ["semantics", "value"]
abbrev st_value_order : Stmt := topS 25
abbrev N_value_order : List Str := ["value"]
abbrev P_value_order : List Str := ["value"]
abbrev st_row_order : Stmt := topS 26
abbrev N_row_order : List Str := ["row", "value"]
abbrev P_row_order : List Str := ["row"]
abbrev st_is_table : Stmt := topS 27
abbrev N_is_table : List Str := ["semantics", "value", "row"]
abbrev P_is_table : List Str := ["semantics", "value"]
abbrev st__is_ascending : Stmt := topS 28
abbrev N__is_ascending : List Str := ["rows", "equal_allowed", "places", "before", "after", "row"]
abbrev P__is_ascending : List Str := ["rows", "equal_allowed"]
abbrev st_check_tables : Stmt := topS 29
abbrev N_check_tables : List Str := ["semantics", "values", "index", "value"]
abbrev P_check_tables : List Str := ["semantics", "values"]
abbrev st_tuples_of : Stmt := topS 33
abbrev N_tuples_of : List Str := ["value", "kind", "most", "waiting", "found", "part", "part_kind"]
abbrev P_tuples_of : List Str := ["value", "kind", "most"]
abbrev st__has_form : Stmt := topS 34
abbrev N__has_form : List Str := ["value", "kind", "kinds", "part", "part_kind"]
abbrev P__has_form : List Str := ["value", "kind"]
abbrev st__fits : Stmt := topS 35
abbrev N__fits : List Str := ["part", "kind"]
abbrev P__fits : List Str := ["part", "kind"]
abbrev st__inner_tuples : Stmt := topS 36
abbrev N__inner_tuples : List Str := ["value", "kind", "kinds", "part", "part_kind"]
abbrev P__inner_tuples : List Str := ["value", "kind"]
abbrev st_is_filter : Stmt := topS 40
abbrev N_is_filter : List Str := ["value"]
abbrev P_is_filter : List Str := ["value"]
abbrev st_check_filter : Stmt := topS 41
abbrev N_check_filter : List Str := ["value"]
abbrev P_check_filter : List Str := ["value"]
abbrev st_truth : Stmt := topS 42
abbrev N_truth : List Str := ["semantics", "filter_", "row"]
abbrev P_truth : List Str := ["semantics", "filter_", "row"]
abbrev st_truth_of : Stmt := topS 43
abbrev P_truth_of : List Str := ["semantics", "filter_", "row"]
abbrev st_each_once : Stmt := topS 53
abbrev P_each_once : List Str := ["rows"]
abbrev st_union_of : Stmt := topS 57
abbrev P_union_of : List Str := ["semantics", "one", "other"]
abbrev st_intersection_of : Stmt := topS 58
abbrev P_intersection_of : List Str := ["semantics", "one", "other"]
abbrev st_difference_of : Stmt := topS 59
abbrev P_difference_of : List Str := ["semantics", "one", "other"]
abbrev st_selection_of : Stmt := topS 60
abbrev P_selection_of : List Str := ["semantics", "rows", "filter_"]
abbrev st_projection_of : Stmt := topS 61
abbrev P_projection_of : List Str := ["semantics", "rows"]
abbrev st_join_of : Stmt := topS 66
abbrev P_join_of : List Str := ["semantics", "rows", "others"]
abbrev st_semijoin_of : Stmt := topS 67
abbrev P_semijoin_of : List Str := ["semantics", "rows", "others"]
abbrev st_antijoin_of : Stmt := topS 68
abbrev P_antijoin_of : List Str := ["semantics", "rows", "others"]
abbrev st_not_in_of : Stmt := topS 69
abbrev P_not_in_of : List Str := ["semantics", "rows", "others"]
abbrev st_total_of : Stmt := topS 70
abbrev P_total_of : List Str := ["semantics", "rows"]
abbrev st_union : Stmt := topS 73
abbrev N_union : List Str := ["semantics", "A", "B"]
abbrev P_union : List Str := ["semantics", "A", "B"]
abbrev st_intersection : Stmt := topS 74
abbrev N_intersection : List Str := ["semantics", "A", "B"]
abbrev P_intersection : List Str := ["semantics", "A", "B"]
abbrev st_difference : Stmt := topS 75
abbrev N_difference : List Str := ["semantics", "A", "B"]
abbrev P_difference : List Str := ["semantics", "A", "B"]
abbrev st_select : Stmt := topS 76
abbrev N_select : List Str := ["semantics", "A", "filter_"]
abbrev P_select : List Str := ["semantics", "A", "filter_"]
abbrev st_project : Stmt := topS 77
abbrev N_project : List Str := ["semantics", "A"]
abbrev P_project : List Str := ["semantics", "A"]
abbrev st_join : Stmt := topS 78
abbrev N_join : List Str := ["semantics", "A", "B"]
abbrev P_join : List Str := ["semantics", "A", "B"]
abbrev st_semijoin : Stmt := topS 79
abbrev N_semijoin : List Str := ["semantics", "A", "B"]
abbrev P_semijoin : List Str := ["semantics", "A", "B"]
abbrev st_antijoin : Stmt := topS 80
abbrev N_antijoin : List Str := ["semantics", "A", "B"]
abbrev P_antijoin : List Str := ["semantics", "A", "B"]
abbrev st_not_in : Stmt := topS 81
abbrev N_not_in : List Str := ["semantics", "A", "B"]
abbrev P_not_in : List Str := ["semantics", "A", "B"]
abbrev st_distinct : Stmt := topS 82
abbrev N_distinct : List Str := ["semantics", "A"]
abbrev P_distinct : List Str := ["semantics", "A"]
abbrev st_total : Stmt := topS 83
abbrev N_total : List Str := ["semantics", "A"]
abbrev P_total : List Str := ["semantics", "A"]
abbrev st_identities : Stmt := topS 88
abbrev P_identities : List Str := []
abbrev st_is_identity : Stmt := topS 89
abbrev N_is_identity : List Str := ["value"]
abbrev P_is_identity : List Str := ["value"]
abbrev st_check_identity : Stmt := topS 90
abbrev N_check_identity : List Str := ["value"]
abbrev P_check_identity : List Str := ["value"]
abbrev st_shape : Stmt := topS 91
abbrev P_shape : List Str := ["identity"]
abbrev st__names_of : Stmt := topS 92
abbrev P__names_of : List Str := ["identity"]
abbrev st_holds_for : Stmt := topS 94
abbrev N_holds_for : List Str := ["semantics", "identity", "arguments", "given", "left", "right"]
abbrev P_holds_for : List Str := ["semantics", "identity", "arguments"]
abbrev st__are_arguments : Stmt := topS 95
abbrev P__are_arguments : List Str := ["semantics", "identity", "value"]
abbrev st__value_of : Stmt := topS 97
abbrev P__value_of : List Str := ["semantics", "side", "given"]
abbrev st_holds : Stmt := topS 105
abbrev N_holds : List Str := ["semantics", "identity", "words", "word"]
abbrev P_holds : List Str := ["semantics", "identity"]
abbrev st_counterexample : Stmt := topS 106
abbrev N_counterexample : List Str := ["semantics", "identity", "letters"]
abbrev P_counterexample : List Str := ["semantics", "identity"]
abbrev st__broken_by : Stmt := topS 107
abbrev P__broken_by : List Str := ["semantics", "identity"]
abbrev st__argument : Stmt := topS 108
abbrev P__argument : List Str := ["letters"]
abbrev st_is_expression : Stmt := topS 114
abbrev N_is_expression : List Str := ["value", "tuples"]
abbrev P_is_expression : List Str := ["value"]
abbrev st__leaves_among : Stmt := topS 115
abbrev N__leaves_among : List Str := ["tuples", "part"]
abbrev P__leaves_among : List Str := ["tuples"]
abbrev st__check_expressions : Stmt := topS 116
abbrev N__check_expressions : List Str := ["values", "index", "value"]
abbrev P__check_expressions : List Str := ["values"]
abbrev st_evaluate : Stmt := topS 117
abbrev N_evaluate : List Str := ["semantics", "expression", "A", "B", "p", "q", "found", "row", "case"]
abbrev P_evaluate : List Str := ["semantics", "expression", "A", "B", "p", "q"]
abbrev st_count_at : Stmt := topS 118
abbrev N_count_at : List Str := ["semantics", "expression", "case"]
abbrev P_count_at : List Str := ["semantics", "expression", "case"]
abbrev st__is_case : Stmt := topS 119
abbrev N__is_case : List Str := ["semantics", "value", "greatest", "part", "count"]
abbrev P__is_case : List Str := ["semantics", "value"]
abbrev st__is_truth : Stmt := topS 120
abbrev N__is_truth : List Str := ["semantics", "value"]
abbrev P__is_truth : List Str := ["semantics", "value"]
abbrev st__count_of : Stmt := topS 121
abbrev P__count_of : List Str := ["semantics", "expression", "case"]
abbrev st_equal_for_all : Stmt := topS 123
abbrev N_equal_for_all : List Str := ["semantics", "left", "right"]
abbrev P_equal_for_all : List Str := ["semantics", "left", "right"]
abbrev st_least_difference : Stmt := topS 124
abbrev N_least_difference : List Str := ["semantics", "left", "right", "case"]
abbrev P_least_difference : List Str := ["semantics", "left", "right"]
abbrev st__greatest_needed : Stmt := topS 125
abbrev P__greatest_needed : List Str := ["semantics", "left", "right"]
abbrev st__cases : Stmt := topS 126
abbrev P__cases : List Str := ["semantics", "greatest"]
abbrev st_profile : Stmt := topS 128
abbrev N_profile : List Str := ["semantics", "identity"]
abbrev P_profile : List Str := ["semantics"]
abbrev st_value_text : Stmt := topS 132
abbrev P_value_text : List Str := ["value"]
abbrev st_write_table : Stmt := topS 133
abbrev N_write_table : List Str := ["semantics", "A", "row", "value"]
abbrev P_write_table : List Str := ["semantics", "A"]
abbrev st_write_filter : Stmt := topS 134
abbrev N_write_filter : List Str := ["filter_"]
abbrev P_write_filter : List Str := ["filter_"]
abbrev st__text_of : Stmt := topS 135
abbrev P__text_of : List Str := ["part"]
abbrev st__law_taken : Stmt := topS 137
abbrev N__law_taken : List Str := ["row", "many", "cell", "found"]
abbrev P__law_taken : List Str := ["row", "many"]
abbrev st__law_pick : Stmt := topS 138
abbrev N__law_pick : List Str := ["row", "kinds"]
abbrev P__law_pick : List Str := ["row", "kinds"]
abbrev st__law_semantics : Stmt := topS 139
abbrev N__law_semantics : List Str := ["row", "first", "second", "third", "fourth"]
abbrev P__law_semantics : List Str := ["row"]
abbrev st__law_rank : Stmt := topS 140
abbrev N__law_rank : List Str := ["line", "value"]
abbrev P__law_rank : List Str := ["line"]
abbrev st__law_sorted : Stmt := topS 141
abbrev N__law_sorted : List Str := ["lines", "found", "mark", "line", "k"]
abbrev P__law_sorted : List Str := ["lines"]
abbrev st__law_value : Stmt := topS 142
abbrev N__law_value : List Str := ["row", "way"]
abbrev P__law_value : List Str := ["row", "way"]
abbrev st__law_table : Stmt := topS 143
abbrev N__law_table : List Str := ["row", "way", "most", "lines", "turn", "line"]
abbrev P__law_table : List Str := ["row", "way", "most"]
abbrev st__law_filter : Stmt := topS 144
abbrev N__law_filter : List Str := ["row", "deep", "kind", "word"]
abbrev P__law_filter : List Str := ["row", "deep"]
abbrev st__law_condition : Stmt := topS 145
abbrev N__law_condition : List Str := ["row", "deep", "kind"]
abbrev P__law_condition : List Str := ["row", "deep"]
abbrev st__law_expression : Stmt := topS 146
abbrev N__law_expression : List Str := ["row", "leaves", "first", "word", "found"]
abbrev P__law_expression : List Str := ["row", "leaves"]
abbrev st__law_tuples : Stmt := topS 147
abbrev N__law_tuples : List Str := ["tree", "part"]
abbrev P__law_tuples : List Str := ["tree"]
abbrev st__law_tree : Stmt := topS 148
abbrev N__law_tree : List Str := ["row", "leaves", "found"]
abbrev P__law_tree : List Str := ["row", "leaves"]
abbrev st__law_wrong : Stmt := topS 149
abbrev P__law_wrong : List Str := ["work"]
abbrev st__law_bad_table : Stmt := topS 150
abbrev N__law_bad_table : List Str := ["row", "way", "odd"]
abbrev P__law_bad_table : List Str := ["row", "way"]
abbrev st_law : Stmt := topS 151
abbrev N_law : List Str := ["script", "row", "way", "mark", "tree", "odd", "bad", "a", "works", "long", "turn", "<lambda>"]
abbrev P_law : List Str := ["script"]
end K09
noncomputable section
namespace HM
open PySem PySem.W PySem.Calls PyProof.Rows HandSHeadRun DL
theorem body_in (b : List Stmt) (p : Program) (cv : Value) (fa : Addr) (p2 : Pos) : (Γ0.enter (.body b (envOf p cv fa)) none p2).In A1 := by
  refine ⟨rfl, ?_, (fun l h => nomatch h), (fun g h => nomatch h), ?_⟩
  · show frameCount [(Code.builtin "claim.caller" {}, p2)] + (Code.body b (envOf p cv fa)).weight ≤ 100000
    have e : frameCount [(Code.builtin "claim.caller" {}, p2)] = frameCount [(Code.builtin "claim.caller" {}, default)] := rfl
    have e3 : (Code.body b (envOf p cv fa)).weight ≤ 900 := by
      unfold Code.weight Code.frames Code.isFrame Code.isCreation Code.isCaller
      simp
      split <;> omega
    have e4 : frameCount [(Code.builtin "claim.caller" {}, default)] ≤ 99000 := by decide +kernel
    rw [e]
    omega
  · show (Code.body b (envOf p cv fa)).cUnits + unitsOf [(Code.builtin "claim.caller" {}, p2)] ≤ 1000
    have e : unitsOf [(Code.builtin "claim.caller" {}, p2)] = unitsOf [(Code.builtin "claim.caller" {}, default)] := rfl
    have e4 : unitsOf [(Code.builtin "claim.caller" {}, default)] ≤ 100 := by decide +kernel
    have e3 : (Code.body b (envOf p cv fa)).cUnits ≤ 100 := by
      unfold Code.cUnits Code.frames Code.isFrame
      simp
    rw [e]
    omega
theorem pairs_eq {α : Type} : ∀ {l : List (α × α)}, l.map (·.1) = l.map (·.2) → ∀ y ∈ l, y.1 = y.2
  | [], _, _, m => (nomatch m)
  | x :: l, h, y, m => by
    rw [List.map_cons, List.map_cons] at h
    injection h with h1 h2
    rcases List.mem_cons.mp m with e | m
    · rw [e]
      exact h1
    · exact pairs_eq h2 y m
end HM
noncomputable section
namespace HM
open PySem PySem.W PySem.Calls PyProof.Rows HandSHeadRun DL
open L2 (defArgs defBody defScope)
def DictP (r : OpenRow) (N : Nat) (l1 l2 : List Stmt) (tg : PySem.Expr) (keys : List (Option PySem.Expr)) (values : List PySem.Expr) (pos2 : Pos) (w : World) : Prop :=
  ∀ os pX, (fromBoot w os fun s0 => (full (denQ tabQ) r.prog w (tk r.prog w).hash (partsBy rdQ r.prog l1 l2 tg keys values pos2) N s0 pX).map fun x => x.2.1.map (·.1)) =
    (fromBoot w os fun s0 => (full (denQ tabQ) r.prog w (tk r.prog w).hash (partsBy rdQ r.prog l1 l2 tg keys values pos2) N s0 pX).map fun x => x.2.1.map (·.2))
section
variable {F : Spec1} {P : Program} {w : World} {K : PySem.W.Frag} {h base : Heap} {mg : Str → Option Value}
theorem says_all (c : obsK F K = valK F P w) : (F.facts.all (Fc.ok K) && (F.tds.all (fun q => (He.Fa.glo q.1).ok K && (match dicAt K q.1 with
    | some es => kesB K es.toList q.2
    | none => false)) && F.tts.all (fun q => (He.Fa.glo q.1).ok K && (match dicAt K q.1 with
    | some es => ketB K es.toList q.2
    | none => false)) && F.tfs.all (fun q => (He.Fa.glo q.1).ok K && (match dicAt K q.1 with
    | some es => kefB K es.toList q.2
    | none => false)))) = true := congrArg (fun z : Al1 => z.1) c
theorem fact (c : obsK F K = valK F P w) (i : Nat) {f : Fc} (hf : F.facts[i]? = some f := by rfl) : f.ok K = true :=
  List.all_eq_true.mp (Bool.and_eq_true_iff.mp (says_all c)).1 f (List.mem_of_getElem? hf)
theorem f_no (X : K.In h) (Gn : h.Ns mainGlobals mg) {x : Str} (c : (Fc.no x).ok K = true) : mg x = none := PySem.W.mg_none_of X Gn (He.eqO_ok c)
theorem f_con (X : K.In h) (Gn : h.Ns mainGlobals mg) {x : Str} {d : D} (c : (Fc.con x d).ok K = true) : GlD ⟨P, w, K, mg, base⟩ x d := by
  replace c : (match PySem.W.nsIn K mainGlobals x with
    | some (some u) => kdaB K 9 u d
    | _ => false) = true := c
  cases e : PySem.W.nsIn K mainGlobals x with
  | none => rw [e] at c; cases c
  | some o =>
    cases o with
    | none => rw [e] at c; cases c
    | some u =>
      rw [e] at c
      exact GlD.mk' (G := ⟨P, w, K, mg, base⟩) (PySem.W.mg_of X Gn e) (kda_ok c)
theorem f_ex (X : K.In h) (Gn : h.Ns mainGlobals mg) {x : Str} (c : (Fc.ex x).ok K = true) : ExcF ⟨P, w, K, mg, base⟩ x := by
  obtain ⟨c1, c2⟩ := Bool.and_eq_true_iff.mp (show ((He.Fa.glo x).ok K && (He.Fa.exc x).ok K) = true from c)
  obtain ⟨h1, h2, h3, h4⟩ := He.exc_ok c2
  exact ExcF.mk' (G := ⟨P, w, K, mg, base⟩) (He.glo_ok X Gn c1) h1 h2 h3 h4
theorem fn_at (c : obsK F K = valK F P w) (i : Nat) {d : He.FnD} (hd : F.fns[i]? = some d) : He.fnObs K d.at_ = d.val := by
  have e : F.fns.map (fun d => He.fnObs K d.at_) = F.fns.map He.FnD.val := congrArg (fun z : Al1 => z.2.1) c
  have e2 : (F.fns.map fun d => He.fnObs K d.at_)[i]? = (F.fns.map He.FnD.val)[i]? := by rw [e]
  rw [List.getElem?_map, List.getElem?_map, hd] at e2
  exact Option.some.inj e2
abbrev fnd (x : Str) (st : Stmt) : He.FnD := ⟨(x, none), x, x, defArgs st, defBody st, defScope st⟩
theorem f_fun (X : K.In h) (Gn : h.Ns mainGlobals mg) {x : Str} {st : Stmt} (c : obsK F K = valK F P w) (i j : Nat) (hi : F.fns[i]? = some (fnd x st)) (hj : F.facts[j]? = some (.fn x)) :
    ∃ oc od osl kV doc pm an cdv ct, mg x = some (.ref (He.ga K x)) ∧ K.lookup (He.ga K x) = some ⟨oc, od, .func (PySem.W.fnOf x x (defArgs st) (defBody st) (defScope st) .none kV doc pm an cdv ct), osl⟩ ∧ PySem.W.codeIn K cdv x = true ∧ PySem.W.keepIn K (.ref (He.ga K x)) = true := by
  have q := fact c j hj
  obtain ⟨c1, q⟩ := Bool.and_eq_true_iff.mp (show ((He.Fa.glo x).ok K && ((He.Fa.keep x).ok K && (He.Fa.code (x, none) x).ok K)) = true from q)
  obtain ⟨c2, c3⟩ := Bool.and_eq_true_iff.mp q
  obtain ⟨oc, od, osl, kV, doc, pm, an, cdv, ct, l, cd⟩ := He.fn_ok (d := fnd x st) (fn_at c i hi) c3
  exact ⟨oc, od, osl, kV, doc, pm, an, cdv, ct, He.glo_ok X Gn c1, l, cd, c2⟩
theorem f_has (X : K.In h) (Gn : h.Ns mainGlobals mg) {x : Str} {st : Stmt} {ps : List Str} (c : obsK F K = valK F P w) (i j : Nat) (hi : F.fns[i]? = some (fnd x st)) (hj : F.facts[j]? = some (.fn x))
    (b : ∀ (kV doc pm : Value) (an : Option Addr) (cdv ct : Value) (us : List Value), us.length = ps.length → bindArgs (PySem.W.fnOf x x (defArgs st) (defBody st) (defScope st) .none kV doc pm an cdv ct) ⟨us, []⟩ = pure (ps.zip us)) : HasF ⟨P, w, K, mg, base⟩ x st ps := by
  obtain ⟨oc, od, osl, kV, doc, pm, an, cdv, ct, h1, h2, h3, h4⟩ := f_fun X Gn c i j hi hj
  exact HasF.mk' (G := ⟨P, w, K, mg, base⟩) h1 h2 h3 h4 b
theorem dic_ok {x : Str} {es : Array DictEntry} (hd : dicAt K x = some es) : ∃ n, K.lookup (He.ga K x) = some ⟨.type "dict", none, .dict es n, #[]⟩ ∧ ((He.ga K x) == sysModules) = false := by
  unfold dicAt at hd
  split at hd
  · rename_i T es' n sl e
    split at hd
    · rename_i hb
      cases hd
      obtain ⟨b1, b2⟩ := Bool.and_eq_true_iff.mp hb
      obtain ⟨b2, b3⟩ := Bool.and_eq_true_iff.mp b2
      have eT : T = "dict" := of_decide_eq_true b1
      subst eT
      have es0 : sl = #[] := by simpa using b2
      subst es0
      refine ⟨n, e, ?_⟩
      cases z : ((He.ga K x) == sysModules) with
      | false => rfl
      | true => rw [z] at b3; cases b3
    · cases hd
  · cases hd
theorem td_at (c : obsK F K = valK F P w) (i : Nat) {x : Str} {tb : KTab} (hi : F.tds[i]? = some (x, tb)) (g1 : (He.Fa.glo x).ok K = true) {es : Array DictEntry} (hd : dicAt K x = some es) : PySem.W.KeysLit w.params es.toList := by
  have e : F.tds.map (fun q => (dicAt K q.1).map fun es => es.toList.map He.keyOf) ++ F.tfs.map (fun q => (dicAt K q.1).map fun es => es.toList.map He.keyOf) = F.tds.map (fun q => some (He.keysIn w.params (q.2.map (·.1)))) ++ F.tfs.map (fun q => some (He.keysIn w.params (q.2.map (·.1)))) := congrArg (fun z : Al1 => z.2.2.1) c
  have hlt : i < F.tds.length := (List.getElem?_eq_some_iff.mp hi).1
  have e2 := congrArg (fun l => l[i]?) e
  rw [List.getElem?_append_left (by rw [List.length_map]; exact hlt), List.getElem?_append_left (by rw [List.length_map]; exact hlt), List.getElem?_map, List.getElem?_map, hi] at e2
  have e4 : (dicAt K x).map (fun es => es.toList.map He.keyOf) = some (He.keysIn w.params (tb.map (·.1))) := Option.some.inj e2
  rw [hd] at e4
  exact He.keysLit_of (Option.some.inj e4)
theorem f_td (X : K.In h) (Gn : h.Ns mainGlobals mg) {x : Str} {tb : KTab} (c : obsK F K = valK F P w) (i : Nat) (hi : F.tds[i]? = some (x, tb)) : GlK ⟨P, w, K, mg, base⟩ x tb := by
  obtain ⟨a1, _⟩ := Bool.and_eq_true_iff.mp (Bool.and_eq_true_iff.mp (Bool.and_eq_true_iff.mp (says_all c)).2).1
  have a2 := List.all_eq_true.mp a1 _ (List.mem_of_getElem? hi)
  obtain ⟨g1, g2⟩ := Bool.and_eq_true_iff.mp a2
  cases hd : dicAt K x with
  | none => rw [hd] at g2; cases g2
  | some es =>
    rw [hd] at g2
    obtain ⟨n, l1, l2⟩ := dic_ok hd
    exact GlK.mk' (G := ⟨P, w, K, mg, base⟩) (He.glo_ok X Gn g1) l1 (td_at c i hi g1 hd) l2 (kes_ok g2)
theorem ket_ok : ∀ {es : List DictEntry} {t : KTab3}, ketB K es t = true → es.map (·.hash) = t.map (fun z => (tk P w).hash (sks z.1)) → KEs2 ⟨P, w, K, mg, base⟩ es t
  | [], [], _, _ => .nil
  | [], _ :: _, h, _ => by cases h
  | _ :: _, [], h, _ => by cases h
  | e :: es, q :: t, h, hh => by
    obtain ⟨h1, h2⟩ := Bool.and_eq_true_iff.mp h
    rw [List.map_cons, List.map_cons] at hh
    injection hh with hh1 hh2
    refine .cons ?_ (ket_ok h2 hh2)
    dsimp only at h1
    split at h1
    · rename_i a ek
      split at h1
      · rename_i T dd its m sl el
        obtain ⟨b1, h1⟩ := Bool.and_eq_true_iff.mp h1
        obtain ⟨b2, h1⟩ := Bool.and_eq_true_iff.mp h1
        obtain ⟨b3, b4⟩ := Bool.and_eq_true_iff.mp h1
        have eT : T = "tuple" := of_decide_eq_true b1
        subst eT
        exact ⟨⟨a, dd, its, m, sl, ek, el, b3⟩, kda_ok b4, hh1⟩
      · cases h1
    · cases h1
theorem f_tt (X : K.In h) (Gn : h.Ns mainGlobals mg) {x : Str} {tb : KTab3} (c : obsK F K = valK F P w) (i : Nat) (hi : F.tts[i]? = some (x, tb)) (nd : (tb.map (·.1)).Nodup) : GlT ⟨P, w, K, mg, base⟩ x tb := by
  obtain ⟨_, a1⟩ := Bool.and_eq_true_iff.mp (Bool.and_eq_true_iff.mp (Bool.and_eq_true_iff.mp (says_all c)).2).1
  have a2 := List.all_eq_true.mp a1 _ (List.mem_of_getElem? hi)
  obtain ⟨g1, g2⟩ := Bool.and_eq_true_iff.mp a2
  have e : F.tts.map (fun q => (dicAt K q.1).map fun es => es.toList.map (·.hash)) = F.tts.map (fun q => some (q.2.map fun z => (tk P w).hash (sks z.1))) := congrArg (fun z : Al1 => z.2.2.2) c
  have e2 : (F.tts.map (fun q => (dicAt K q.1).map fun es => es.toList.map (·.hash)))[i]? = (F.tts.map (fun q => some (q.2.map fun z => (tk P w).hash (sks z.1))))[i]? := by rw [e]
  rw [List.getElem?_map, List.getElem?_map, hi] at e2
  have e3 := Option.some.inj e2
  cases hd : dicAt K x with
  | none => rw [hd] at g2; cases g2
  | some es =>
    rw [hd] at g2
    have e4 : (dicAt K x).map (fun es => es.toList.map (·.hash)) = some (tb.map fun z => (tk P w).hash (sks z.1)) := e3
    rw [hd] at e4
    obtain ⟨n, l1, l2⟩ := dic_ok hd
    exact ⟨⟨_, es, n, He.glo_ok X Gn g1, l1, l2, ket_ok g2 (Option.some.inj e4)⟩, nd⟩
end
end HM
noncomputable section
namespace HM
open PySem PySem.W PySem.Calls PyProof.Rows HandSHeadRun DL
open L2 (defArgs defBody defScope)
structure SpecL where
  base : Spec1
  law : Str
  more : List (PySem.W.Frag → Bool)
def codeOf (K : PySem.W.Frag) (x : Str) : Addr := match K.lookup (He.ga K x) with
  | some ⟨_, _, .func fd, _⟩ => (match fd.code with
    | .ref c => c
    | _ => 0)
  | _ => 0
def isRefB (v : Value) (c : Addr) : Bool := match v with
  | .ref c' => c' == c
  | _ => false
def hasCodeB (K : PySem.W.Frag) (x : Str) (c : Addr) : Bool := match K.lookup (He.ga K x) with
  | some ⟨_, _, .func fd, _⟩ => isRefB fd.code c
  | _ => false
def tabOf (K : PySem.W.Frag) (c : Addr) : Addr := match K.lookup c with
  | some ⟨_, _, .fields vs, _⟩ => (match (vs[11]? : Option Value) with
    | some (.ref P) => P
    | _ => 0)
  | _ => 0
def isTab (K : PySem.W.Frag) (P : Addr) : Bool := match K.lookup P with
  | some ⟨.none, none, .fields vs, sl⟩ => vs.isEmpty && sl.isEmpty
  | _ => false
theorem isTab_ok {K : PySem.W.Frag} {P : Addr} (h : isTab K P = true) : K.lookup P = some { cls := .none, data := .fields #[] } := by
  unfold isTab at h
  split at h
  · rename_i vs sl e
    obtain ⟨h1, h2⟩ := Bool.and_eq_true_iff.mp h
    have e1 : vs = #[] := by simpa using h1
    have e2 : sl = #[] := by simpa using h2
    subst e1 e2
    exact e
  · cases h
def dropA (K : PySem.W.Frag) (P : Addr) : PySem.W.Frag := K.filter fun q => !(q.1 == P)
theorem drop_look {P : Addr} : ∀ {K : PySem.W.Frag} {a : Addr}, (dropA K P).lookup a = if a = P then none else K.lookup a
  | [], a => by
    show (none : Option Obj) = _
    split <;> rfl
  | (b, o) :: K, a => by
    have ih := drop_look (P := P) (K := K) (a := a)
    unfold dropA at ih ⊢
    rw [List.filter_cons]
    by_cases hb : b = P
    · subst hb
      have z : (!((b, o).1 == b)) = false := by simp
      rw [if_neg (by rw [z]; decide), ih]
      by_cases ha : a = b
      · rw [if_pos ha, if_pos ha]
      · rw [if_neg ha, if_neg ha]
        have n : (a == b) = false := by simpa using ha
        show _ = (match a == b with | true => some o | false => K.lookup a)
        rw [n]
    · have z : (!((b, o).1 == P)) = true := by simpa using hb
      rw [if_pos z]
      show (match a == b with | true => some o | false => (List.filter (fun q : Addr × Obj => !(q.1 == P)) K).lookup a) = _
      by_cases hab : a = b
      · subst hab
        rw [if_neg hb]
        show _ = (match a == a with | true => some o | false => K.lookup a)
        rw [beq_self_eq_true]
      · have n : (a == b) = false := by simpa using hab
        rw [n]
        show (List.filter (fun q : Addr × Obj => !(q.1 == P)) K).lookup a = _
        rw [ih]
        show _ = if a = P then none else (match a == b with | true => some o | false => K.lookup a)
        rw [n]
theorem drop_in {K : PySem.W.Frag} {P : Addr} {h : Heap} (X : K.In h) : (dropA K P).In h := fun a o e => by
  rw [drop_look] at e
  split at e
  · cases e
  · exact X a o e
abbrev AlL : Type := Bool × Al1
def obsL (F : SpecL) (K0 : PySem.W.Frag) : AlL :=
  (isTab K0 (tabOf K0 (codeOf K0 F.law)) && (codeHdIn (dropA K0 (tabOf K0 (codeOf K0 F.law))) (codeOf K0 F.law) (tabOf K0 (codeOf K0 F.law)) && (hasCodeB (dropA K0 (tabOf K0 (codeOf K0 F.law))) F.law (codeOf K0 F.law) &&
    F.more.all fun f => f (dropA K0 (tabOf K0 (codeOf K0 F.law))))), obsK F.base (dropA K0 (tabOf K0 (codeOf K0 F.law))))
def valL (F : SpecL) (p : Program) (w : World) : AlL := (true, valK F.base p w)
def saysL (F : SpecL) (p : Program) (w : World) (h : Heap) : Prop := ∃ (K : PySem.W.Frag) (c P : Addr), K.In h ∧ obsK F.base K = valK F.base p w ∧ codeHdIn K c P = true ∧ K.lookup P = none ∧ h.get? P = some { cls := .none, data := .fields #[] } ∧ hasCodeB K F.law c = true ∧ (F.more.all fun f => f K) = true
theorem saysL_of {F : SpecL} {p : Program} {w : World} {h : Heap} {K0 : PySem.W.Frag} (X : K0.In h) (e : obsL F K0 = valL F p w) : saysL F p w h := by
  have e1 : (isTab K0 (tabOf K0 (codeOf K0 F.law)) && (codeHdIn (dropA K0 (tabOf K0 (codeOf K0 F.law))) (codeOf K0 F.law) (tabOf K0 (codeOf K0 F.law)) && (hasCodeB (dropA K0 (tabOf K0 (codeOf K0 F.law))) F.law (codeOf K0 F.law) &&
    F.more.all fun f => f (dropA K0 (tabOf K0 (codeOf K0 F.law)))))) = true := congrArg (fun z : AlL => z.1) e
  have e2 : obsK F.base (dropA K0 (tabOf K0 (codeOf K0 F.law))) = valK F.base p w := congrArg (fun z : AlL => z.2) e
  obtain ⟨a1, e1⟩ := Bool.and_eq_true_iff.mp e1
  obtain ⟨a2, e1⟩ := Bool.and_eq_true_iff.mp e1
  obtain ⟨a3, a4⟩ := Bool.and_eq_true_iff.mp e1
  exact ⟨_, codeOf K0 F.law, tabOf K0 (codeOf K0 F.law), drop_in X, e2, a2, by rw [drop_look, if_pos rfl], X _ _ (isTab_ok a1), a3, a4⟩
def hookL (F : SpecL) (p : Program) (n0 : Nat) : Hook where
  α := AlL
  obs := fun s => obsL F (He.frG s.heap.get? (addrs n0 s.heap.objs.size))
  val := fun w => valL F p w
  says := fun w h => saysL F p w h
  of := fun _ _ e => saysL_of He.frG_in e
  keeps := fun _ _ _ ⟨K, c, P, hK, r1, r2, r3, r4, r5⟩ k => ⟨K, c, P, PySem.W.Frag.In.keeps hK k, r1, r2, r3, k _ _ r4, r5⟩
def obTL (F : SpecL) (n0 : Nat) (s : SharedT) : AlL := obsL F (He.frG (getT s) (addrs n0 s.n))
theorem obTL_eq {F : SpecL} {p : Program} {n0 : Nat} (s : SharedT) : obTL F n0 s = (hookL F p n0).obs s.abs := by
  have e : getT s = s.abs.heap.get? := funext (getT_eq s)
  have e2 : s.abs.heap.objs.size = s.n := absHeap_size s.tree s.n s.life
  show obsL F (He.frG (getT s) (addrs n0 s.n)) = obsL F (He.frG s.abs.heap.get? (addrs n0 s.abs.heap.objs.size))
  rw [e, e2]
def MainL (r : OpenRow) (q : Program) (loose : List Str) (F : SpecL) (n0 N : Nat) (l1 l2 : List Stmt) (tg : PySem.Expr) (keys : List (Option PySem.Expr)) (values : List PySem.Expr) (pos2 : Pos) (w : World) : Prop :=
  ∀ os pX, (fromBoot w os fun s0 => (full (denQ tabQ) r.prog w (tk r.prog w).hash (partsBy rdQ r.prog l1 l2 tg keys values pos2) N s0 pX).map fun x =>
      (x.2.2, looksF r.prog (boot_heap w.params) x.1.abs, seenQ q loose (importedModules r.prog.main.body) (fun s => xlAt q [] s && recOk r.toRowW.records s) x.1.abs, obTL F n0 x.1, x.1.life, x.1.os, keptL n0 (getT x.1))) =
    some (true, true, openGood q loose, valL F r.prog w, (boot_heap w.params).life, os, keptL n0 (boot_heap w.params).get?)
theorem behind_runL {r : OpenRow} {q : Program} {loose : List Str} {F : SpecL} {n0 N : Nat} {l1 l2 : List Stmt} {tg : PySem.Expr} {keys : List (Option PySem.Expr)} {values : List PySem.Expr} {pos pos2 : Pos} {w : World} (Rs : (boot_heap w.params).objs.size = n0) (Rm : MainL r q loose F n0 N l1 l2 tg keys values pos2 w) (Rd : DictP r N l1 l2 tg keys values pos2 w)
    (ok : PartsOk r.prog (partsBy rd0 r.prog l1 l2 tg keys values pos2) l1 l2 tg keys values pos pos2) (e : opening r.prog = plainProg r.prog.main.scope.names) (f : ∀ s, fenceModules? r.prog s = some s) (hch : chainsOk q = true) :
    (∃ s, AfterRun (opening r.prog) w s) ∧ ∀ s, AfterRun (opening r.prog) w s → ∃ s0, fenceModules? r.prog s = some s0 ∧ s0.gens = #[] ∧ ∃ s1, TopRan r.prog w s0 s1 ∧ s1.asleep ∧ s1.gens = #[] ∧ s1.heap.isNs mainGlobals = true ∧
      Ground q loose [] (fun m h => XL q [] m h ∧ RecFacts r.toRowW.records h) w s1 (s1.heap.nsMap mainGlobals) (s1.heap.nsMap builtinsNs) s1.heap ∧ (hookL F r.prog n0).says w s1.heap := by
  refine behind_of (Xt := fun s => xlAt q [] s && recOk r.toRowW.records s) e f (fun s z => ?_) hch fun os => ?_
  · obtain ⟨z1, z2⟩ := Bool.and_eq_true_iff.mp z
    exact ⟨xl_of s z1, recFacts_of z2⟩
  · obtain ⟨s0, hs, _, _, all⟩ := fromBoot_ok (Rm os default)
    rw [← hs]
    refine top_wp (N := N) ok (body_in _ _) (by show 1000 < cLine; decide) fun pX => ?_
    have a := Rm os pX
    have b := Rd os pX
    rw [all] at a b
    rw [all] at b
    rw [full_eq]
    obtain ⟨x, hx, hv⟩ := Option.map_eq_some_iff.mp a
    obtain ⟨s7, ob, bb⟩ := x
    rw [hx] at b
    have b' := pairs_eq (Option.some.inj b)
    simp only [Prod.mk.injEq] at hv
    obtain ⟨rfl, v2, v3, v4, v5, v6, v7⟩ := hv
    refine ⟨s7, ob, hx, b', ⟨v2, by rw [seenQ_eq]; exact v3, ?_, v5, v6, fun bd o h1 h2 _ hb => ?_⟩⟩
    · rw [← obTL_eq]
      exact v4
    · have lt : bd < n0 := by
        rw [← Rs]
        exact Heap.lt_size hb
      have k := kept_ok v7 lt h1 h2
      rw [getT_eq, hb] at k
      exact k
theorem code_is {K : PySem.W.Frag} {x : Str} {c : Addr} {oc : Value} {od : Option Addr} {a1 a2 : Str} {a3 : Arguments} {a4 : List Stmt} {a5 : Scope} {kV doc pm cdv ct dV : Value} {an : Option Addr} {osl : Array (Option Value)} (l : K.lookup (He.ga K x) = some ⟨oc, od, .func (PySem.W.fnOf a1 a2 a3 a4 a5 dV kV doc pm an cdv ct), osl⟩) (h : hasCodeB K x c = true) : cdv = .ref c := by
  unfold hasCodeB at h
  rw [l] at h
  replace h : isRefB cdv c = true := h
  unfold isRefB at h
  split at h
  · rw [beq_iff_eq.mp h]
  · cases h
theorem glo_ns {K : PySem.W.Frag} {x : Str} (h : (Fc.fn x).ok K = true) : PySem.W.nsIn K mainGlobals x = some (some (.ref (He.ga K x))) := He.eqO_ok (Bool.and_eq_true_iff.mp (show ((He.Fa.glo x).ok K && ((He.Fa.keep x).ok K && (He.Fa.code (x, none) x).ok K)) = true from h)).1
end HM
noncomputable section
namespace HM
open PySem PySem.W PySem.Calls PyProof.Rows HandSHeadRun DL
open L2 (defArgs defBody defScope)
section
end
end HM
noncomputable section
namespace HM
open PySem PySem.W PySem.Calls PyProof.Rows HandSHeadRun DL
open L2 (defArgs defBody defScope)
end HM
noncomputable section
namespace HM
open PySem PySem.W PySem.Calls PyProof.Rows HandSHeadRun DL
open L2 (defArgs defBody defScope)
/-- facts, functions, dicts added: the head's run is looked at in parts -/
def catP (A : List Fc) (B : List He.FnD) (C : List (Str × KTab)) (D : List (Str × KTab2)) (F : Spec1) : Spec1 := ⟨A ++ F.facts, B ++ F.fns, C ++ F.tds, D ++ F.tts, F.tfs⟩
theorem obs_catP {A : List Fc} {B : List He.FnD} {C : List (Str × KTab)} {D : List (Str × KTab2)} {F : Spec1} {P : Program} {w : World} {K : PySem.W.Frag} (h1 : obsK ⟨A, B, C, D, []⟩ K = valK ⟨A, B, C, D, []⟩ P w) (h2 : obsK F K = valK F P w) : obsK (catP A B C D F) K = valK (catP A B C D F) P w := by
  have e1 := congrArg (fun z : Al1 => z.1) h1
  have f1 := congrArg (fun z : Al1 => z.2.1) h1
  have g1 := congrArg (fun z : Al1 => z.2.2.1) h1
  have k1 := congrArg (fun z : Al1 => z.2.2.2) h1
  have e2 := congrArg (fun z : Al1 => z.1) h2
  have f2 := congrArg (fun z : Al1 => z.2.1) h2
  have g2 := congrArg (fun z : Al1 => z.2.2.1) h2
  have k2 := congrArg (fun z : Al1 => z.2.2.2) h2
  simp only [obsK, valK] at e1 f1 g1 k1 e2 f2 g2 k2
  refine Prod.ext ?_ (Prod.ext ?_ (Prod.ext ?_ ?_))
  · simp only [obsK, valK, catP, List.all_append]
    simp only [Bool.and_eq_true] at e1 e2 ⊢
    exact ⟨⟨e1.1, e2.1⟩, ⟨⟨⟨e1.2.1.1, e2.2.1.1⟩, ⟨e1.2.1.2, e2.2.1.2⟩⟩, e2.2.2⟩⟩
  · simp only [obsK, valK, catP, List.map_append]
    rw [f1, f2]
  · simp only [obsK, valK, catP, List.map_append]
    simp only [List.map_nil, List.append_nil] at g1
    rw [g1, List.append_assoc, List.append_assoc, g2]
  · simp only [obsK, valK, catP, List.map_append]
    rw [k1, k2]
end HM
noncomputable section
namespace HM
open PySem PySem.W PySem.Calls PyProof.Rows HandSHeadRun DL
open L2 (defArgs defBody defScope)
def SeP (r : OpenRow) (q : Program) (loose : List Str) (n0 N : Nat) (l1 l2 : List Stmt) (tg : PySem.Expr) (keys : List (Option PySem.Expr)) (values : List PySem.Expr) (pos2 : Pos) (w : World) : Prop :=
  ∀ os pX, (fromBoot w os fun s0 => (full (denQ tabQ) r.prog w (tk r.prog w).hash (partsBy rdQ r.prog l1 l2 tg keys values pos2) N s0 pX).map fun x =>
      (x.2.2, looksF r.prog (boot_heap w.params) x.1.abs, seenQ q loose (importedModules r.prog.main.body) (fun s => xlAt q [] s && recOk r.toRowW.records s) x.1.abs, x.1.life, x.1.os, keptL n0 (getT x.1))) =
    some (true, true, openGood q loose, (boot_heap w.params).life, os, keptL n0 (boot_heap w.params).get?)
section
end
end HM
noncomputable section
namespace HM
open PySem PySem.W PySem.Calls PyProof.Rows HandSHeadRun DL
end HM
noncomputable section
namespace HM
open PySem PySem.W PySem.Calls PyProof.Rows HandSHeadRun DL
open L2 (defArgs defBody defScope)
def ObL (r : OpenRow) (F : SpecL) (n0 N : Nat) (l1 l2 : List Stmt) (tg : PySem.Expr) (keys : List (Option PySem.Expr)) (values : List PySem.Expr) (pos2 : Pos) (w : World) : Prop :=
  ∀ os pX, (fromBoot w os fun s0 => (full (denQ tabQ) r.prog w (tk r.prog w).hash (partsBy rdQ r.prog l1 l2 tg keys values pos2) N s0 pX).map fun x => obTL F n0 x.1) = some (valL F r.prog w)
section
variable {r : OpenRow} {q : Program} {loose : List Str} {A : List Fc} {B : List He.FnD} {C : List (Str × KTab)} {D : List (Str × KTab2)} {F : Spec1} {law : Str} {more : List (PySem.W.Frag → Bool)} {n0 N : Nat} {l1 l2 : List Stmt} {tg : PySem.Expr} {keys : List (Option PySem.Expr)} {values : List PySem.Expr} {pos2 : Pos} {w : World}
theorem obsL_cat {K : PySem.W.Frag} {p : Program} (h1 : obsL ⟨⟨A, B, C, D, []⟩, law, []⟩ K = valL ⟨⟨A, B, C, D, []⟩, law, []⟩ p w) (h2 : obsL ⟨F, law, more⟩ K = valL ⟨F, law, more⟩ p w) : obsL ⟨catP A B C D F, law, more⟩ K = valL ⟨catP A B C D F, law, more⟩ p w := by
  have a : obsK ⟨A, B, C, D, []⟩ (dropA K (tabOf K (codeOf K law))) = valK ⟨A, B, C, D, []⟩ p w := congrArg (fun z : AlL => z.2) h1
  have b : obsK F (dropA K (tabOf K (codeOf K law))) = valK F p w := congrArg (fun z : AlL => z.2) h2
  have c : (obsL ⟨F, law, more⟩ K).1 = true := congrArg (fun z : AlL => z.1) h2
  exact Prod.ext c (obs_catP a b)
theorem obL_cat (h1 : ObL r ⟨⟨A, B, C, D, []⟩, law, []⟩ n0 N l1 l2 tg keys values pos2 w) (h2 : ObL r ⟨F, law, more⟩ n0 N l1 l2 tg keys values pos2 w) : ObL r ⟨catP A B C D F, law, more⟩ n0 N l1 l2 tg keys values pos2 w := by
  intro os pX
  have a := h1 os pX
  have b := h2 os pX
  obtain ⟨s0, hs, _, _, all⟩ := fromBoot_ok a
  rw [all] at a b ⊢
  cases e : full (denQ tabQ) r.prog w (tk r.prog w).hash (partsBy rdQ r.prog l1 l2 tg keys values pos2) N s0 pX with
  | none => rw [e] at a; cases a
  | some x =>
    rw [e] at a b
    show some _ = some _
    exact congrArg some (obsL_cat (Option.some.inj a) (Option.some.inj b))
theorem mainL_of {F : SpecL} (h1 : SeP r q loose n0 N l1 l2 tg keys values pos2 w) (h2 : ObL r F n0 N l1 l2 tg keys values pos2 w) : MainL r q loose F n0 N l1 l2 tg keys values pos2 w := by
  intro os pX
  have a := h1 os pX
  have b := h2 os pX
  obtain ⟨s0, hs, _, _, all⟩ := fromBoot_ok a
  rw [all] at a b ⊢
  cases e : full (denQ tabQ) r.prog w (tk r.prog w).hash (partsBy rdQ r.prog l1 l2 tg keys values pos2) N s0 pX with
  | none => rw [e] at a; cases a
  | some x =>
    rw [e] at a b
    have a' := Option.some.inj a
    have z : obTL F n0 x.1 = valL F r.prog w := Option.some.inj b
    show some _ = some _
    congr 1
    exact Prod.ext (congrArg (·.1) a') (Prod.ext (congrArg (·.2.1) a') (Prod.ext (congrArg (·.2.2.1) a') (Prod.ext z (congrArg (·.2.2.2) a'))))
end
end HM
namespace DL
open PySem PySem.Spec PyProof.Rows L2 LamX
/-- all but the table at P -/
def ExtP (P : Addr) (H H' : Hp) : Prop := ∀ b o, b ≠ P → H b = some o → H' b = some o
abbrev lq (X : Cx) : Str := X.env.qual ++ "<lambda>"
section
end
end DL
namespace DL
open PySem PySem.Spec PyProof.Rows L2 LamX
variable [Xk]
section
variable {G : Gm} {K : PySem.W.Frag} {M : Addr → Prop} {r : Rw} {σ : L2.St} {H H' : Hp} {ev : Ev} {rs rs' : RS} {k : Nat} {sc : Sx} {N : List Str}
theorem ext_lst (x : ExtN H H') {a : Addr} {xs : List V} (h : H a = some (.lst xs)) : H' a = some (.lst xs) := x _ _ h fun ps e => by cases e
theorem rd_lst (x : ExtN H H') {a : Addr} {xs : List V} (h : Rd H a (.lst xs)) : Rd H' a (.lst xs) := by
  rcases h with h | ⟨o, h⟩
  · exact .inl (x _ _ h fun ps e => by cases e)
  · exact .inr ⟨o, x _ _ h fun ps e => by cases e⟩
theorem row_extn (x : ExtN H H') (tb : Tabs Xk.tb H') (h : RowAt K M H r rs) : RowAt K M H' r rs := by
  refine ⟨⟨ext_lst x h.1.1, h.1.2.1, h.1.2.2.1, Xk.ext _ _ _ _ h.1.2.2.2 x tb⟩, ?_⟩
  rcases h.2 with ⟨q, n⟩ | q
  · exact .inl ⟨rd_lst x q, n⟩
  · exact .inr q
theorem RelE.tabs (R : RelE K M r σ H ev rs) : Tabs Xk.tb H := Xk.tabs _ _ _ R.row.1.2.2.2
def noArgs : Arguments := { posonlyargs := [], args := [], vararg := none, kwonlyargs := [], kw_defaults := [], kwarg := none, defaults := [] }
/-- the def, as the module's name says it -/
structure FnW (G : Gm) (x : Str) (st : Stmt) : Prop where
  ex : ∃ (g : Addr) (oc : Value) (od : Option Addr) (kV doc pm cdv ct : Value) (an : Option Addr) (osl : Array (Option Value)), G.mg x = some (.ref g) ∧
    G.K.lookup g = some ⟨oc, od, .func (PySem.W.fnOf x x (defArgs st) (defBody st) (defScope st) .none kV doc pm an cdv ct), osl⟩ ∧ PySem.W.codeIn G.K cdv x = true ∧ PySem.W.keepIn G.K (.ref g) = true ∧
    L2.Binds G.K (PySem.W.fnOf x x (defArgs st) (defBody st) (defScope st) .none kV doc pm an cdv ct) ["work"] []
/-- an error caught: its name, its class, the word it is told as -/
abbrev Ws := List (Str × Str)
end
end DL
namespace DL
open PySem PySem.Spec PyProof.Rows L2 LamX
section
variable {X : Cx}
def rCntF (K : PySem.W.Frag) : V → List V → Hp → VK → Prop := fun x xs H Q => ∃ (a : Addr) (ys : List V) (y : V), x = V.ref a ∧ xs = [y] ∧ SqL K H a ys ∧ flatV y = true ∧ ys.all flatV = true ∧ Q (.int (ys.countP (fun z => eqV z y) : Nat)) H
theorem countP_U {y : V} : ∀ {ys : List V} {us : List Value}, Vals ys us → ys.all flatV = true → us.countP (eqU y) = ys.countP (fun z => eqV z y)
  | _, _, .nil, _ => rfl
  | z :: ys, u :: us, .cons r t, f => by
    rw [List.all_cons, Bool.and_eq_true] at f
    rw [List.countP_cons, List.countP_cons, countP_U t f.2, eqU_of r f.1]
theorem mt_cntF : MtR X "list.count" (rCntF X.K) := by
  intro pins s σ H x xs v us Q I rx rxs h
  obtain ⟨a, ys, y, rfl, rfl, hs, fy, fys, q⟩ := h
  cases rx
  cases rxs with
  | cons ry rt =>
    rename_i uy ut
    cases rt
    obtain ⟨its, rv, ⟨⟨cls, dd, data, sl⟩, n, ho, hc, hdn, hd⟩, hlen⟩ := I.list hs
    simp only at hc hd
    subst hc hd
    refine call_meets PySem.F.slot_list_count ⟨_, ho, rfl⟩ PySem.F.entry_list_count (PySem.F.args_list_count_2 _ _)
      (SeqAt.list_countAt a its.toArray n dd sl uy (eqU y)) ⟨ho, fun u' hu' => mem_eqAt ry fy rv fys u' (by simpa using hu'), ?_⟩
    refine ⟨.int (ys.countP (fun z => eqV z y) : Nat), H, I.tok _, ⟨s.toks, ?_⟩, q⟩
    rw [← countP_U rv fys]
end
theorem pss_giv {X : Cx} {P : Prop} {b : List Stmt} {t : TS} (h : P → PSs X b t) : PSs X b (fun D σ H => P ∧ (σ.length = X.N.length → t D σ H)) := ⟨fun pins s σ H D I q => (h q.1).run pins s σ H D I (q.2 I.len)⟩
abbrev N5 : List Str := ["work", "e", "known"]
abbrev bl5 (i : Nat) : List V := [.bl (i == 0), .bl (i == 1), .bl (i == 2), .bl (i == 3), .bl (i == 4)]
end DL
namespace DL
open PySem PySem.Spec PyProof.Rows L2 LamX
def lfR (r : List Leaf) : D := .tuple (r.map lfD)
def tbD (t : List (List Leaf)) : D := .tuple (t.map lfR)
/-- pairs of tables, the newest first -/
def prD : Xs → List D
  | a :: b :: r => .tuple [tbD a, tbD b] :: prD r
  | _ => []
theorem noL_lf (x : Leaf) : noL (lfD x) = true := by cases x <;> rfl
theorem noL_lfR (r : List Leaf) : noL (lfR r) = true := by
  have : ∀ r : List Leaf, noL.noLs (r.map lfD) = true := fun r => by
    induction r with
    | nil => rfl
    | cons a r ih => simp [noL.noLs, noL_lf, ih]
  exact this r
theorem noL_tb (t : List (List Leaf)) : noL (tbD t) = true := by
  have : ∀ r : List (List Leaf), noL.noLs (r.map lfR) = true := fun r => by
    induction r with
    | nil => rfl
    | cons a r ih => simp [noL.noLs, noL_lfR, ih]
  exact this t
theorem noL_pr (a b : List (List Leaf)) : noL (.tuple [tbD a, tbD b]) = true := by simp [noL, noL.noLs, noL_tb]
theorem noLs_pr : ∀ x : Xs, noL.noLs (prD x) = true
  | [] => rfl
  | [_] => rfl
  | a :: b :: r => by simp [prD, noL.noLs, noL_pr, noLs_pr r]
theorem noLs_app (l m : List D) (h : noL.noLs l = true) (k : noL.noLs m = true) : noL.noLs (l ++ m) = true := by
  induction l with
  | nil => exact k
  | cons a l ih => simp only [noL.noLs, Bool.and_eq_true, List.cons_append] at h ⊢; exact ⟨h.1, ih h.2⟩
theorem noLs_rev (l : List D) (h : noL.noLs l = true) : noL.noLs l.reverse = true := by
  induction l with
  | nil => rfl
  | cons a l ih =>
    simp only [noL.noLs, Bool.and_eq_true] at h
    rw [List.reverse_cons]
    exact noLs_app _ _ (ih h.2) (by simp [noL.noLs, h.1])
abbrev bot : Addr → Prop := fun _ => False
section
variable {K : PySem.W.Frag} {M M' : Addr → Prop} {H H' : Hp}
theorem sqt_imm (s : ∀ b o, ¬ mutT o → H b = some o → H' b = some o) {a : Addr} {xs : List V} (h : SqT K H a xs) : SqT K H' a xs := by
  rcases h with (h | ⟨o, h⟩) | h
  · exact .inl (.inl (s _ _ (fun z => z) h))
  · exact .inl (.inr ⟨o, s _ _ (fun z => z) h⟩)
  · exact .inr h
mutual
theorem Da.imm (s : ∀ b o, ¬ mutT o → H b = some o → H' b = some o) : ∀ {v : V} {d : D}, noL d = true → Da K M H v d → Da K M' H' v d
  | _, _, _, .non => .non
  | _, _, _, .bl b => .bl b
  | _, _, _, .int i => .int i
  | _, _, _, .str x => .str x
  | _, _, n, .lst h _ t => by simp [noL] at n
  | _, _, n, .tup h t => .tup (sqt_imm s h) (DaL.imm s (by simpa [noL] using n) t)
  | _, _, n, .dct _ _ _ => by simp [noL] at n
  | _, _, n, .txd _ _ _ _ => by simp [noL] at n
  | _, _, n, .fzt _ _ _ => by simp [noL] at n
theorem DaL.imm (s : ∀ b o, ¬ mutT o → H b = some o → H' b = some o) : ∀ {vs : List V} {ds : List D}, noL.noLs ds = true → DaL K M H vs ds → DaL K M' H' vs ds
  | _, _, _, .nil => .nil
  | _, _, n, .cons h t => by
    simp only [noL.noLs, Bool.and_eq_true] at n
    exact .cons (Da.imm s n.1 h) (DaL.imm s n.2 t)
end
end
/-- where a desk stands: its class, itself, its dict, its list -/
structure Dsk where
  C : Addr
  d : Addr
  dx : Addr
  e : Addr
abbrev fldD (k : Dsk) (v1 v2 : V) : List (Str × V) := [(("_semantics" : Str), v1), (("_tables" : Str), v2), (("_earlier" : Str), V.ref k.e)]
def deskAt (K : PySem.W.Frag) (k : Dsk) (H : Hp) (x : Xs) : Prop := ∃ (wy : List Leaf) (l r : List (List Leaf)) (past : Xs) (v1 v2 : V) (xs : List V), x = [wy] :: l :: r :: past ∧ H k.d = some (.ins k.C k.dx (fldD k v1 v2)) ∧ H k.e = some (.lst xs) ∧
  Da K bot H v1 (lfR wy) ∧ Da K bot H v2 (.tuple [tbD l, tbD r]) ∧ DaL K bot H xs (prD past).reverse
section
variable {K : PySem.W.Frag} {H H' : Hp} {k : Dsk} {x : Xs}
theorem deskAt.keep (h : deskAt K k H x) (a : ∀ b o, b = k.d ∨ b = k.e → H b = some o → H' b = some o) (s : ∀ b o, ¬ mutT o → H b = some o → H' b = some o) : deskAt K k H' x := by
  obtain ⟨wy, l, r, past, v1, v2, xs, e, h1, h2, h3, h4, h5⟩ := h
  exact ⟨wy, l, r, past, v1, v2, xs, e, a _ _ (.inl rfl) h1, a _ _ (.inr rfl) h2, h3.imm s (noL_lfR _), h4.imm s (noL_pr _ _), h5.imm s (noLs_rev _ (noLs_pr _))⟩
end
/-- tables alone -/
@[reducible] def xkT (P : Addr) (q : Str) : Xk where
  kx := fun b => b = P
  ax := fun _ H _ => TabS H P q
  obj := fun _ => 0
  tb := [(P, q)]
  there := fun _ H _ b h e => by
    obtain ⟨ps, h1, _⟩ := h
    exact ⟨.tbl ps, by rw [e]; exact h1, trivial⟩
  keep := fun _ H H' _ h k s => by
    obtain ⟨ps, h1, h2, h3⟩ := h
    refine ⟨ps, k _ _ rfl h1, h2, fun pos cv hc => ?_⟩
    obtain ⟨c, e1, e2⟩ := h3 pos cv hc
    exact ⟨c, e1, s _ _ (fun z => z) e2⟩
  tkx := fun p hp => by rw [List.mem_singleton.mp hp]
  tabs := fun _ H _ h p hp => by rw [List.mem_singleton.mp hp]; exact h
  ext := fun _ H H1 _ h _ t => t _ (List.mem_singleton_self _)
  fns := fun _ _ _ => False
  fstay := fun _ _ _ _ h _ => h
  cl := none
variable [Xk]
end DL
namespace DL
open PySem PySem.Spec PyProof.Rows L2 LamX
variable [Xk]
section
variable {G : Gm} {k : Nat} {sc : Sx} {N : List Str} {K : PySem.W.Frag} {M : Addr → Prop} {r : Rw} {σ : L2.St} {H H' : Hp} {ev : Ev} {rs rs' : RS} {q : Dsk}
def getT : Xs → Option D
  | _ :: l :: r :: _ => some (.tuple [tbD l, tbD r])
  | _ => none
end
end DL
namespace DL
open PySem PySem.Spec PyProof.Rows L2 LamX
variable [Xk]
section
end
section
variable {G : Gm} {k : Nat} {sc : Sx} {N : List Str} {K : PySem.W.Frag} {M : Addr → Prop} {r : Rw} {σ : L2.St} {H H' : Hp} {ev : Ev} {rs rs' : RS} {q : Dsk}
/-- a property -/
def PO (G : Gm) (k : Nat) (C : Addr) (m : Str) (φ : List Slot → Mn D) : Prop :=
  ∃ (p g : Addr) (fd : FuncData) (ps : List Str), PropOf G.K C m p g ∧ Binds G.K fd ps [] ∧ FnOk G.P G.w G.K G.mg G.base (L2.CX G.P G.w) k g fd ps (spF G 1 φ)
end
end DL
namespace DL
open PySem PySem.Spec PyProof.Rows L2 LamX
variable [Xk]
section
variable {G : Gm} {k : Nat} {sc : Sx} {N : List Str} {K : PySem.W.Frag} {M : Addr → Prop} {r : Rw} {σ : L2.St} {H H' : Hp} {ev : Ev} {rs rs' : RS} {Pr : Addr → HO → Prop} {oa : Nat → Addr}
theorem RelS.setH (R : RelS K M r Pr σ H ev rs oa) {i : Nat} {o : Option V} {s : Slot} (hs : SlotAt K (Av M ev oa) r (σ.set i o) H i s) (nd : ∀ ds, s ≠ .own ds) (ns : ∀ d, s ≠ .dat d) : RelS K M r Pr (σ.set i o) H (ev.set i s) rs oa := by
  have sub : ∀ b, Av M (ev.set i s) oa b → Av M ev oa b := fun b m => m.elim .inl fun ⟨j, o, e⟩ => .inr ⟨j, (isOwn_set nd o).1, e⟩
  refine ⟨(R.e.setAny hs).sub sub (fun b z => .inl (R.mr b z)), R.mr, R.prot, R.nr, R.pm, fun j ds e => ?_, fun j j' o o' => R.inj j j' (isOwn_set nd o).1 (isOwn_set nd o').1⟩
  obtain ⟨_, hj⟩ := isOwn_set nd ⟨ds, e⟩
  rw [List.getElem?_set_ne hj] at e
  obtain ⟨xs, h1, h2, h3, h4⟩ := R.own j ds e
  exact ⟨xs, by rw [List.getElem?_set_ne hj]; exact h1, h2, h3.sub sub, h4⟩
end
end DL
namespace DL
open PySem PySem.Spec PyProof.Rows L2 LamX
section
end
section
end
end DL
namespace DL
open PySem PySem.Spec PyProof.Rows L2 LamX
section
end
end DL
namespace DL
open PySem PySem.Spec PyProof.Rows L2 LamX
end DL
noncomputable section
namespace HM
open PySem PySem.W PySem.Calls PyProof.Rows HandSHeadRun DL L2 LamX
def qeB (K : PySem.W.Frag) : Bool := (He.Fa.glo "QueryError").ok K && ((decide (PySem.W.subIn K (.ref (He.ga K "QueryError")) (.type "BaseException") = some true)) && ((PySem.W.hasDictIn K (He.ga K "QueryError")) && (decide (PySem.W.typeIn K (.ref (He.ga K "QueryError")) = some (.type "type")))))
def exB (x : Str) (K : PySem.W.Frag) : Bool := (He.Fa.glo x).ok K && ((decide (PySem.W.subIn K (.ref (He.ga K x)) (.ref (He.ga K "QueryError")) = some true)) && ((He.eqO (PySem.W.findIn K (.ref (He.ga K x)) "__getattribute__") (some (some (.builtin "BaseException.__getattribute__")))) && ((He.eqO (PySem.W.findIn K (.ref (He.ga K x)) "__getattr__") (some none)) && ((decide (PySem.W.subIn K (.ref (He.ga K x)) (.type "BaseException") = some true)) && ((PySem.W.hasDictIn K (He.ga K x)) && ((He.eqO (PySem.W.findIn K (.ref (He.ga K x)) "__class__") (some (some (.builtin "object.__class__")))) && ((He.eqO (PySem.W.specialIn K (.builtin "object.__class__") "__get__") (some (some (.builtin "getset_descriptor.__get__")))) && ((decide (PySem.W.takesIn K (.builtin "object.__class__") = some true)) && (decide (PySem.W.mroIn K (He.ga K x) (.type "object") = some true))))))))))
section
variable {K : PySem.W.Frag} {h : Heap} {mg : Str → Option Value}
theorem qe_mg (X : K.In h) (Gn : h.Ns mainGlobals mg) (c : qeB K = true) : mg "QueryError" = some (.ref (He.ga K "QueryError")) := by
  obtain ⟨c0, _⟩ := Bool.and_eq_true_iff.mp (show ((He.Fa.glo "QueryError").ok K && _) = true from c)
  exact PySem.W.mg_of X Gn (He.eqO_ok c0)
theorem ex_all {x : Str} (c : exB x K = true) : PySem.W.nsIn K mainGlobals x = some (some (.ref (He.ga K x))) ∧ PySem.W.subIn K (.ref (He.ga K x)) (.ref (He.ga K "QueryError")) = some true ∧ ExcC K (He.ga K x) := by
  unfold exB at c
  obtain ⟨c0, d0⟩ := Bool.and_eq_true_iff.mp c
  obtain ⟨c1, d1⟩ := Bool.and_eq_true_iff.mp d0
  obtain ⟨c2, d2⟩ := Bool.and_eq_true_iff.mp d1
  obtain ⟨c3, d3⟩ := Bool.and_eq_true_iff.mp d2
  obtain ⟨c4, d4⟩ := Bool.and_eq_true_iff.mp d3
  obtain ⟨c5, d5⟩ := Bool.and_eq_true_iff.mp d4
  obtain ⟨c6, d6⟩ := Bool.and_eq_true_iff.mp d5
  obtain ⟨c7, d7⟩ := Bool.and_eq_true_iff.mp d6
  obtain ⟨c8, d8⟩ := Bool.and_eq_true_iff.mp d7
  exact ⟨He.eqO_ok c0, of_decide_eq_true c1, He.eqO_ok c2, He.eqO_ok c3, of_decide_eq_true c4, c5, He.eqO_ok c6, He.eqO_ok c7, of_decide_eq_true c8, of_decide_eq_true d8⟩
theorem ex_mg (X : K.In h) (Gn : h.Ns mainGlobals mg) {x : Str} (c : exB x K = true) : mg x = some (.ref (He.ga K x)) := PySem.W.mg_of X Gn (ex_all c).1
theorem ex_exm {x : Str} (q : qeB K = true) (c : exB x K = true) : PySem.W.exmOne K (.ref (He.ga K x)) (.ref (He.ga K "QueryError")) = some true := by
  unfold qeB at q
  obtain ⟨c0, d0⟩ := Bool.and_eq_true_iff.mp q
  obtain ⟨c1, d1⟩ := Bool.and_eq_true_iff.mp d0
  obtain ⟨c2, d2⟩ := Bool.and_eq_true_iff.mp d1
  exact PySem.W.exm_ref (of_decide_eq_true c1) c2 (of_decide_eq_true d2) (ex_all c).2.1
end
theorem fw_mk {P : Program} {w : World} {K : PySem.W.Frag} {h base : Heap} {mg : Str → Option Value} {x : Str} {st : Stmt} {f : Addr} {oc kV doc pm cdv ct : Value} {od an : Option Addr} {osl : Array (Option Value)} (X : K.In h) (Gn : h.Ns mainGlobals mg) (a : PySem.W.nsIn K mainGlobals x = some (some (.ref f)))
    (l : K.lookup f = some ⟨oc, od, .func (PySem.W.fnOf x x (defArgs st) (defBody st) (defScope st) .none kV doc pm an cdv ct), osl⟩) (c : PySem.W.codeIn K cdv x = true) (k : PySem.W.keepIn K (.ref f) = true)
    (b : ∀ (kV doc pm : Value) (an : Option Addr) (cdv ct : Value) (us : List Value), us.length = ["work"].length → bindArgs (PySem.W.fnOf x x (defArgs st) (defBody st) (defScope st) .none kV doc pm an cdv ct) ⟨us, []⟩ = pure ((["work"] : List Str).zip us)) : DL.FnW ⟨P, w, K, mg, base⟩ x st :=
  ⟨f, oc, od, kV, doc, pm, cdv, ct, an, osl, PySem.W.mg_of X Gn a, l, c, k, (fun_mk (st := st) l c k).binds fun _ _ _ _ _ _ us hl => b _ _ _ _ _ _ us hl⟩
end HM
namespace DL
open PySem PySem.Spec PyProof.Rows L2 LamX
/-- the lambda's object -/
abbrev lamOb (q : Str) (params : Arguments) (body : Expr) (scope : Scope) (cl : List (Str × Addr)) (dV doc pm : Value) (c' : Addr) (ctv : Value) : Obj := PySem.W.kdv_obj "<lambda>" q params (.expr body) scope cl dV doc pm c' ctv
def LamH (f : Addr) (o : Obj) : HO := .ext fun h => h.get? f = some o
theorem lamH_ok {P : Program} {w : World} {H : Hp} {h : Heap} {f : Addr} {o : Obj} (e : h.get? f = some o) : ObjOk P w H h f (LamH f o) := ⟨e, ⟨_, e⟩, fun h1 h2 a b => b _ a⟩
section
variable {X : Cx} {pins : List (Addr × Obj)} {σ : L2.St} {H : Hp} {s : Shared}
theorem tail_new {c P : Addr} {params : Arguments} {body : Expr} {scope : Scope} {pos : Pos} {dV : Value} {E : Value → Shared → Prop} {Q : Value → Shared → Prop} (I : Inv X pins σ H s) (TB : TabB X.base X.mg c P) (hcode : X.env.code = .ref c) (tab : TabS H P (lq X))
    (fr : ∀ y ∈ scope.names, y.2 = .free → ∃ c, X.env.cells.lookup y.1 = some c)
    (h : ∀ (f c' : Addr) (doc pm ctv : Value) (H1 : Hp) (s' : Shared), Inv X pins σ H1 s' → ExtP P H H1 → TabS H1 P (lq X) → H1 f = some (LamH f (lamOb (lq X) params body scope (cloFrom X.env.cells scope.names []) dV doc pm c' ctv)) → f ∉ frs X.stack → H1 c' = some (CodeO c' (lq X)) → Q (.ref f) s') :
    wpAny (model X.prog X.w) X.A (makeTail "<lambda>" (lq X) params (.expr body) scope X.env dV .none none pos pos.line) Q E s := by
  obtain ⟨ps, tP, tt, among⟩ := tab
  have bI := TB.bm.keeps I.bk
  have cI := TB.code.keeps I.bk
  have gI := I.mod.glob.keeps I.bk
  have get : s.heap.get? P = some { cls := .none, data := .fields ps } := I.hok P _ tP
  have far : ∀ f, s.heap.objs.size ≤ f → f ∉ frs X.stack := fun f hf z => by
    cases List.mem_cons.mp (I.stkSub _ z) with
    | inl e =>
      have q := I.lt
      rw [← e] at q
      exact absurd hf (Nat.not_le_of_lt q)
    | inr e => exact I.nofs hf e
  rcases hc : codeAmong pos ps.toList with _ | cv
  · apply PySem.W.kdv_makeTail (mg := X.mg) (c := c) (P := P) (ps := ps) (closure_ok fr) I.ok.glob gI hcode cI get tt hc TB.gP bI
    intro c' ctv doc g' tk hx hge hlt hrec htb
    obtain ⟨c2, oc, vs, t, e2, r1, r2, r3⟩ := hrec
    obtain rfl : c' = c2 := Value.ref.inj e2
    have big : s.heap.objs.size ≤ g'.objs.size := Nat.le_of_lt (Nat.lt_of_le_of_lt hge hlt)
    have new : H c' = none := I.hok.fresh hge
    obtain ⟨fo, hfo⟩ : ∃ fo : Obj, fo = PySem.W.kdv_obj "<lambda>" (lq X) params (.expr body) scope (cloFrom X.env.cells scope.names []) dV doc ((X.mg "__name__").getD .none) c' ctv := ⟨_, rfl⟩
    rw [← hfo]
    have fr0 : fo.isFreed = false := by rw [hfo]; rfl
    obtain ⟨more, hmore⟩ : ∃ more : Array Value, more = #[rawInt pos.line, rawInt pos.col, .ref c'] := ⟨_, rfl⟩
    rw [← hmore] at htb
    have J0 := inv_table (t' := tk) (q := lq X) (more := more) (h' := g') I tP (fun b o hb e => hx b o hb e) htb hge ⟨oc, vs, t, r1, r2, r3⟩
    have nf : upd (upd H P (.tbl (ps ++ more))) c' (CodeO c' (lq X)) g'.objs.size = none := J0.hok.fresh (Nat.le_refl _)
    have J := J0.laid (a := g'.objs.size) (o := LamH g'.objs.size fo) (h' := g'.push fo) (t' := tk) (fun b u e => Heap.get?_push_of_some _ e) (Nat.le_refl _) (lamH_ok (Heap.get?_push_size _ fr0))
    have kp0 : ExtP P H (upd (upd H P (.tbl (ps ++ more))) c' (CodeO c' (lq X))) := fun b o nb e => by
      rw [upd_ne (ne_of_none e new), upd_ne nb]
      exact e
    have kp : ExtP P H (upd (upd (upd H P (.tbl (ps ++ more))) c' (CodeO c' (lq X))) g'.objs.size (LamH g'.objs.size fo)) := fun b o nb e => by
      rw [upd_ne (ne_of_none (kp0 b o nb e) nf)]
      exact kp0 b o nb e
    have eP0 : upd (upd H P (.tbl (ps ++ more))) c' (CodeO c' (lq X)) P = some (.tbl (ps ++ more)) := by
      rw [upd_ne (ne_of_none tP new)]
      exact upd_same
    have eP : upd (upd (upd H P (.tbl (ps ++ more))) c' (CodeO c' (lq X))) g'.objs.size (LamH g'.objs.size fo) P = some (.tbl (ps ++ more)) := by
      rw [upd_ne (ne_of_none eP0 nf)]
      exact eP0
    have eC : upd (upd (upd H P (.tbl (ps ++ more))) c' (CodeO c' (lq X))) g'.objs.size (LamH g'.objs.size fo) c' = some (CodeO c' (lq X)) := by
      rw [upd_ne (Nat.ne_of_lt hlt)]
      exact upd_same
    have lst : (ps ++ more).toList = ps.toList ++ [rawInt pos.line, rawInt pos.col, .ref c'] := by rw [hmore]; simp
    refine h g'.objs.size c' doc ((X.mg "__name__").getD .none) ctv _ _ J kp ⟨ps ++ more, eP, ?_, fun p' cv hcv => ?_⟩ ?_ (far _ big) eC
    · rw [lst]
      exact PySem.TriplesOk_snoc _ _ _ _ tt
    · rw [lst] at hcv
      cases among_app _ tt hcv with
      | inl z =>
        obtain ⟨c0, q1, q2⟩ := among p' cv z
        refine ⟨c0, q1, kp _ _ (fun y => ?_) q2⟩
        rw [y, tP] at q2
        exact codeO_ne ps (Option.some.inj q2).symm
      | inr z => exact ⟨c', z, eC⟩
    · rw [upd_same, hfo]
  · obtain ⟨c', rfl, cO⟩ := among pos cv hc
    apply PySem.W.kdv_makeTailHit (mg := X.mg) (c := c) (P := P) (ps := ps) (closure_ok fr) I.ok.glob gI hcode cI get tt hc bI
    intro ctv doc g' tk hx hsz
    obtain ⟨fo, hfo⟩ : ∃ fo : Obj, fo = PySem.W.kdv_obj "<lambda>" (lq X) params (.expr body) scope (cloFrom X.env.cells scope.names []) dV doc ((X.mg "__name__").getD .none) c' ctv := ⟨_, rfl⟩
    have fr0 : fo.isFreed = false := by rw [hfo]; rfl
    have J := I.laid (a := g'.objs.size) (o := LamH g'.objs.size fo) (h' := g'.push fo) (t' := tk) (fun b u e => Heap.get?_push_of_some _ (hx b u e)) hsz (lamH_ok (Heap.get?_push_size _ fr0))
    have nf : H g'.objs.size = none := I.hok.fresh hsz
    have kp : ∀ b o, H b = some o → upd H g'.objs.size (LamH g'.objs.size fo) b = some o := fun b o e => by
      rw [upd_ne (ne_of_none e nf)]
      exact e
    have go := h g'.objs.size c' doc ((X.mg "__name__").getD .none) ctv _ _ J (fun b o _ e => kp b o e) ⟨ps, kp _ _ tP, tt, fun p' cv hcv => by
      obtain ⟨c0, q1, q2⟩ := among p' cv hcv
      exact ⟨c0, q1, kp _ _ q2⟩⟩ (by rw [upd_same, hfo]) (far _ hsz) (kp _ _ cO)
    rw [hfo] at go
    exact go
/-- what is kept of a lambda: its object, its code object, its default -/
structure LamAt (X : Cx) (H : Hp) (f : Addr) (params : Arguments) (body : Expr) (scope : Scope) : Prop where
  ex : ∃ (dV doc pm ctv : Value) (c' : Addr), H f = some (LamH f (lamOb (lq X) params body scope (cloFrom X.env.cells scope.names []) dV doc pm c' ctv)) ∧ H c' = some (CodeO c' (lq X)) ∧
    ((params.defaults = [] ∧ dV = .none) ∨ (params.defaults ≠ [] ∧ ∃ (t : Addr) (i : Int), dV = .ref t ∧ H t = some (.tup [V.int i])))
theorem lam_kept {c P : Addr} {params : Arguments} {body : Expr} {scope : Scope} {pos : Pos} {E : Value → Shared → Prop} {Q : Value → Shared → Prop} (I : Inv X pins σ H s) (TB : TabB X.base X.mg c P) (hcode : X.env.code = .ref c) (tab : TabS H P (lq X))
    (hd : params.defaults = [] ∨ ∃ (i : Int) (k : Nat) (p : Pos), params.defaults = [.Constant (.int i) k p]) (hk : params.kw_defaults = []) (fr : ∀ y ∈ scope.names, y.2 = .free → ∃ c, X.env.cells.lookup y.1 = some c)
    (h : ∀ (f : Addr) (H1 : Hp) (s' : Shared), Inv X pins σ H1 s' → ExtP P H H1 → TabS H1 P (lq X) → LamAt X H1 f params body scope → f ∉ frs X.stack → Q (.ref f) s') :
    wpAny (model X.prog X.w) X.A (eval (.Lambda params body scope pos) X.env) Q E s := by
  have step : ∀ (dv : List Value), wpAny (model X.prog X.w) X.A (makeFunction "<lambda>" (X.env.qual ++ "<lambda>") params (.expr body) scope X.env dv [] [] pos pos.line) Q E s → True := fun _ _ => trivial
  rcases hd with hd | ⟨i, k, p, hd⟩
  · rw [arm_eval_Lambda, defaultsOf_eq, hk, hd]
    show wpAny _ _ (do let dv ← evalAll ([] : List (Sem Value)); let kdv ← holding dv (evalAllOpt []); makeFunction "<lambda>" (X.env.qual ++ "<lambda>") params (.expr body) scope X.env dv kdv [] pos pos.line) Q E s
    refine wpAny_bind (wpAny_evalAll_nil (wpAny_bind (wpAny_holding (wpAny_pure ?_))))
    rw [makeFunction_eq]
    simp only [List.zip_nil_right, List.filterMap_nil, List.isEmpty_nil, if_true, pure_bind]
    exact tail_new I TB hcode tab fr fun f c' doc pm ctv H1 s' J kp t1 of nf co => h f H1 s' J kp t1 ⟨.none, doc, pm, ctv, c', of, co, .inl ⟨hd, rfl⟩⟩ nf
  · rw [arm_eval_Lambda, defaultsOf_eq, hk, hd]
    show wpAny _ _ (do let dv ← evalAll [eval (.Constant (.int i) k p) X.env]; let kdv ← holding dv (evalAllOpt []); makeFunction "<lambda>" (X.env.qual ++ "<lambda>") params (.expr body) scope X.env dv kdv [] pos pos.line) Q E s
    refine wpAny_bind (wpAny_evalAll_cons (wpAny_Constant_int (wpAny_evalAll_nil (wpAny_bind (wpAny_holding (wpAny_pure ?_))))))
    rw [makeFunction_eq]
    simp only [List.zip_nil_right, List.filterMap_nil, List.isEmpty_nil, if_true, pure_bind, List.isEmpty_cons, Bool.false_eq_true, if_false]
    refine wpAny_bind (wpAny_newTextTuple ?_)
    have J := I.laid (a := s.heap.objs.size) (o := .tup [V.int i]) (h' := s.heap.push { cls := .type "tuple", data := .seq [Value.int i s.toks].toArray }) (t' := s.toks + 1) (fun b u e => Heap.get?_push_of_some _ e) (Nat.le_refl _) ⟨size_ok 1, [Value.int i s.toks], .cons ⟨_, rfl⟩ .nil, ⟨_, Heap.get?_push_size _ rfl, rfl, _, rfl⟩⟩
    have nt : H s.heap.objs.size = none := I.hok.fresh (Nat.le_refl _)
    have kp0 : ∀ b o, H b = some o → upd H s.heap.objs.size (.tup [V.int i]) b = some o := fun b o e => by
      rw [upd_ne (ne_of_none e nt)]
      exact e
    have tab2 : TabS (upd H s.heap.objs.size (.tup [V.int i])) P (lq X) := tab.ext kp0
    refine tail_new J TB hcode tab2 fr fun f c' doc pm ctv H1 s' J' kp t1 of nf co => h f H1 s' J' (fun b o nb e => kp b o nb (kp0 b o e)) t1 ⟨_, doc, pm, ctv, c', of, co, .inr ⟨by rw [hd]; simp, s.heap.objs.size, i, rfl, kp _ _ (fun z => ?_) upd_same⟩⟩ nf
    obtain ⟨ps, tP, _⟩ := tab
    rw [← z, nt] at tP
    cases tP
end
end DL
namespace DL
open PySem PySem.Spec PyProof.Rows L2 LamX
/-- the scope of a lambda whose only local name may be pa -/
structure LamP (sc scope : Scope) (pa : Str → Prop) : Prop where
  fkind : scope.kind = .function
  fco : scope.isCoroutine = false
  fgen : scope.isGenerator = false
  ncell : ∀ y ∈ scope.names, y.2 ≠ .cell
  loc : ∀ y ∈ scope.names, y.2 = .local → pa y.1
  fre : ∀ y ∈ scope.names, y.2 = .free → sc.names.lookup y.1 = some .cell ∨ sc.names.lookup y.1 = some .free
section
variable {X : Cx} {pins : List (Addr × Obj)} {σ τ : L2.St} {H HZ : Hp} {s s1 : Shared}
theorem LamP.has {scope : Scope} {pa : Str → Prop} (L : LamP X.env.scope scope pa) (ok : X.Ok) : ∀ y ∈ scope.names, y.2 = .free → ∃ c, X.env.cells.lookup y.1 = some c := fun y hy e => (L.fre y hy e).elim (fun k => ok.has _ (.inl k)) fun k => ok.has _ (.inr k)
/-- the cells that the lambda's frame sees are its maker's -/
theorem clo_sub {scope : Scope} {pa : Str → Prop} (L : LamP X.env.scope scope pa) (ok : X.Ok) {y : Str} {c : Addr} (e : (cloFrom X.env.cells scope.names []).lookup y = some c) : X.env.cells.lookup y = some c := by
  rcases cloFrom_mem (PySem.mem_of_lookup e) with m | ⟨m1, m2⟩
  · cases m
  · obtain ⟨d, hd⟩ := L.has ok _ m1 rfl
    have hd : X.env.cells.lookup y = some d := hd
    rw [hd] at m2
    rw [hd, m2]
    rfl
theorem clo_at {scope : Scope} {y : Str} (e : scope.names.lookup y = some .free) : ∃ c, (cloFrom X.env.cells scope.names []).lookup y = some c := mem_lookup (cloFrom_has (cells := X.env.cells) (acc := []) (PySem.mem_of_lookup e))
theorem enter_lam {A : Around} {outer : List Env} {E : XK} {scope : Scope} {pa : Str → Prop} {f c' : Addr} {h₁ : Heap} {tk : Nat} {mm : Str → Option Value} (I : Inv X pins σ H s) (L : LamP X.env.scope scope pa) (e0 : Env0 X.prog X.w X.K X.mg X.base A outer s1 HZ) (hd : A.handled = none)
    (un : Un (frs X.stack) [] H HZ s.heap s1.heap) (ns : h₁.Ns s1.heap.objs.size mm) (kp : ∀ b o, s1.heap.get? b = some o → h₁.get? b = some o) (tl : τ.length = σ.length) (ts : ∀ (i : Nat) (y : Str) (v : V), X.N[i]? = some y → τ[i]? = some (some v) → σ[i]? = some (some v) ∧ ¬ pa y) :
    Inv (lamCx X A outer s1 HZ E scope f c') [] τ HZ { s1 with heap := h₁, toks := tk } := by
  have cellK : ∀ {c : Addr} {v : Option Value}, H c = none → s.heap.IsCell c v → h₁.IsCell c v := fun {c v} n ⟨o, ho, hd⟩ => by
    obtain ⟨sl, q⟩ := un.any ho n (by simp)
    exact ⟨_, kp _ _ q, hd⟩
  have nx : ∀ b : Addr, b ∉ (lamCx X A outer s1 HZ E scope f c').ex := fun b z => by cases (show b ∈ ([] : List Addr) from z)
  have ok' : (lamCx X A outer s1 HZ E scope f c').Ok :=
    { mod := e0.mod
      kind := L.fkind
      glob := rfl
      blt := rfl
      above := Nat.le_refl _
      inj := fun y z c q1 q2 => I.ok.inj y z c (clo_sub L I.ok q1) (clo_sub L I.ok q2)
      has := fun y hy => by
        have hy : scope.names.lookup y = some .cell ∨ scope.names.lookup y = some .free := hy
        rcases hy with q | q
        · exact absurd rfl (L.ncell _ (PySem.mem_of_lookup q))
        · exact clo_at q
      cab := fun y c z _ => by cases (show false = true from z)
      hd := fun _ => hd
      frames := Around.frames_deeper e0.frames
      stk := .inr ⟨rfl, rfl⟩
      exf := fun b z => absurd z (nx b)
      bs := e0.bs
      bsz := e0.bsz
      noex := fun b _ _ => nx b
      exfs := fun b z => absurd z (nx b)
      funs := e0.funs
      frf := e0.frf }
  have locs : ∃ m, h₁.Ns s1.heap.objs.size m ∧ ∀ (i : Nat) (y : Str) (v : V), X.N[i]? = some y → τ[i]? = some (some v) → Vis scope y → ∃ u, RelV v u ∧ Look (lamEnv X scope s1.heap.objs.size f c') h₁ m y u := by
    refine ⟨mm, ns, fun i y v q1 q2 q3 => ?_⟩
    obtain ⟨q4, np⟩ := ts i y v q1 q2
    rcases q3 with k | k | k
    · exact absurd (L.loc _ (PySem.mem_of_lookup k) rfl) np
    · exact absurd rfl (L.ncell _ (PySem.mem_of_lookup k))
    · obtain ⟨m, hn, hl⟩ := I.loc
      have vis : Vis X.env.scope y := (L.fre _ (PySem.mem_of_lookup k) rfl).elim (fun z => .inr (.inl z)) fun z => .inr (.inr z)
      obtain ⟨u, r, q⟩ := hl i y v q1 q4 vis
      obtain ⟨d, hd⟩ := clo_at (X := X) k
      have dX := clo_sub L I.ok hd
      refine ⟨u, r, .inr ⟨.inr k, d, hd, ?_⟩⟩
      rcases q with ⟨w1, _⟩ | ⟨_, d2, w2, w3⟩
      · have w1 : X.env.scope.names.lookup y = some .local := w1
        rcases L.fre _ (PySem.mem_of_lookup k) rfl with z | z
        · rw [show X.env.scope.names.lookup y = _ from z] at w1; cases w1
        · rw [show X.env.scope.names.lookup y = _ from z] at w1; cases w1
      · rw [dX] at w2
        cases w2
        exact cellK (I.freeC y _ dX) w3
  exact
    { ok := ok'
      os := rfl
      bare := e0.bare
      base := Un.kept kp
      loc := locs
      cell := fun y c e => by
        obtain ⟨v, z⟩ := I.cell y c (clo_sub L I.ok e)
        exact ⟨v, cellK (I.freeC y c (clo_sub L I.ok e)) z⟩
      free := e0.hok.fresh (Nat.le_refl _)
      freeC := fun y c e => by
        obtain ⟨v, o, ho, _⟩ := I.cell y c (clo_sub L I.ok e)
        exact un.free c o ho (I.freeC y c (clo_sub L I.ok e)) (by simp)
      pin := fun p hp => by cases (show p ∈ ([] : List (Addr × Obj)) from hp)
      hok := e0.hok.kept kp
      len := by rw [tl]; exact I.len }
end
end DL
namespace DL
open PySem PySem.Spec PyProof.Rows L2 LamX
/-- how a kept lambda's arguments bind: none, or one default -/
def LamB (params : Arguments) (body : Expr) (scope : Scope) (pa : Str → Prop) : Prop :=
  (params.defaults = [] ∧ ∀ (q : Str) (cl : List (Str × Addr)) (doc pm cv ctv : Value), bindArgs (PySem.W.kdv_fn "<lambda>" q params (.expr body) scope cl .none doc pm cv ctv) ⟨[], []⟩ = pure []) ∨
  (params.defaults ≠ [] ∧ ∃ z : Str, scope.names.lookup z = some .local ∧ ∀ (q : Str) (cl : List (Str × Addr)) (doc pm cv ctv : Value) (t : Addr) (v : Value), ∃ kk : Option (Array Value) → Sem (List (Str × Value)),
    bindArgs (PySem.W.kdv_fn "<lambda>" q params (.expr body) scope cl (.ref t) doc pm cv ctv) ⟨[], []⟩ = seqItems? (.ref t) >>= kk ∧ kk (some #[v]) = pure [(z, v)])
section
variable {X : Cx} {pins : List (Addr × Obj)} {σ τ : L2.St} {H HZ : Hp} {s s1 : Shared}
theorem tup_one {P : Program} {w : World} {h : Heap} {t : Addr} {i : Int} (hok : HOk P w H h) (e : H t = some (.tup [V.int i])) : ∃ (o : Obj) (v : Value) (n : Nat), h.get? t = some o ∧ o.data = .seq #[v] n := by
  obtain ⟨_, its, r, o, ho, hc, n, hd⟩ := hok t _ e
  cases r with
  | cons r1 rt =>
    cases rt
    exact ⟨o, _, n, ho, hd⟩
/-- what binds, at a state -/
theorem lam_binds {P : Program} {w : World} {params : Arguments} {body : Expr} {scope : Scope} {pa : Str → Prop} {q : Str} {cl : List (Str × Addr)} {dV doc pm cv ctv : Value} (B : LamB params body scope pa) (hok : HOk P w H s1.heap)
    (dv : (params.defaults = [] ∧ dV = .none) ∨ (params.defaults ≠ [] ∧ ∃ (t : Addr) (i : Int), dV = .ref t ∧ H t = some (.tup [V.int i]))) :
    ∃ binds : List (Str × Value), BindsTo s1 (PySem.W.kdv_fn "<lambda>" q params (.expr body) scope cl dV doc pm cv ctv) ⟨[], []⟩ binds ∧ ∀ y ∈ binds, scope.names.lookup y.1 = some .local := by
  rcases B with ⟨b1, b2⟩ | ⟨b1, z, b2, b3⟩
  · rcases dv with ⟨_, rfl⟩ | ⟨d1, _⟩
    · exact ⟨[], .of_eq (b2 _ _ _ _ _ _), fun y hy => by cases hy⟩
    · exact absurd b1 d1
  · rcases dv with ⟨d1, _⟩ | ⟨_, t, i, rfl, ht⟩
    · exact absurd d1 b1
    · obtain ⟨o, v, n, e1, e2⟩ := tup_one hok ht
      obtain ⟨kk, k1, k2⟩ := b3 q cl doc pm cv ctv t v
      refine ⟨[(z, v)], .of_defaults rfl e1 e2 k1 k2, fun y hy => ?_⟩
      rw [List.mem_singleton.mp hy]
      exact b2
theorem act_kept {CXg : CXT} {Eg : XK} {Ng : List Str} {qg : Str} {sg : Scope} {g f : Addr} {cdg : Value} {params : Arguments} {body : Expr} {scope : Scope} {pa : Str → Prop} {k i : Nat} {a : Str} {pn : List (Addr × Obj)} {xe : Value → Shared → Prop} {W : WX} {E : XK} {tb : TE} {p1 p2 : Pos}
    (I : Inv X pins σ H s) (L : LamP X.env.scope scope pa) (B : LamB params body scope pa) (tl : τ.length = σ.length) (ts : ∀ (i : Nat) (y : Str) (v : V), X.N[i]? = some y → τ[i]? = some (some v) → σ[i]? = some (some v) ∧ ¬ pa y)
    (tk : Takes ((cxOf CXg X.prog X.w X.K X.mg X.base Ng qg sg g cdg X.A X.stack s H Eg).tr pn xe) W) (hW : ∀ cls d σ' H', E cls d H' → W cls d σ' H') (room : Room (k + 1) (X.A.deeper (envOfC qg sg s.heap.objs.size g cdg)))
    (hbody : ∀ (A : Around) (outer : List Env) (s : Shared) (H : Hp) (c' : Addr), Room k (A.deeper (lamEnv X scope s.heap.objs.size f c')) → PE (lamCx X A outer s H E scope f c') body tb)
    (hN : Ng[i]? = some a) (hv : Vis sg a) (hd : (a == ("__debug__" : Str)) = false) (hcd : (a == ("__classdict__" : Str)) = false) :
    PE ((cxOf CXg X.prog X.w X.K X.mg X.base Ng qg sg g cdg X.A X.stack s H Eg).tr pn xe) (.Call (.Name a p1) [] [] p2) (fun σZ HZ Q => σZ[i]? = some (some (.ref f)) ∧ LamAt X HZ f params body scope ∧ tb τ HZ Q) := by
  constructor
  intro pinsZ sZ σZ HZ Q IZ hh
  obtain ⟨slot, at_, prom⟩ := hh
  have name := (pe_var (X := (cxOf CXg X.prog X.w X.K X.mg X.base Ng qg sg g cdg X.A X.stack s H Eg).tr pn xe) (pos := p1) (i := i) hN hv hd hcd).run pinsZ sZ σZ HZ (fun v H1 => v = .ref f ∧ H1 = HZ) IZ ⟨.ref f, slot, rfl, rfl⟩
  refine wpAny_Call_Name_kw (thn name fun u s1 hu => ?_)
  obtain ⟨v, H1, I1, r1, rfl, rfl⟩ := hu
  obtain rfl : u = Value.ref f := r1
  obtain ⟨dV, doc, pm, ctv, c', oH, cH, dv⟩ := at_.ex
  have ob : s1.heap.get? f = some (lamOb (lq X) params body scope (cloFrom X.env.cells scope.names []) dV doc pm c' ctv) := (I1.hok f _ oH).1
  obtain ⟨binds, bt, bl⟩ := lam_binds (cv := .ref c') (doc := doc) (pm := pm) (ctv := ctv) (q := lq X) (cl := cloFrom X.env.cells scope.names []) B I1.hok dv
  obtain ⟨⟨oc, vs, t, w1, w2, w3⟩, _, _⟩ := I1.hok c' _ cH
  have un : Un (frs X.stack) [] H H1 s.heap s1.heap := I1.base
  refine PySem.W.callWith_F0 ⟨_, _, _, _, ob⟩ ?_
  have run : codeAny (model X.prog X.w) (X.A.deeper (envOfC qg sg s.heap.objs.size g cdg)) (.call (.ref f) ⟨[], []⟩) (CR (L2.CX X.prog X.w) (envOfC qg sg s.heap.objs.size g cdg :: X.stack) X.prog X.w H1 s1 Q E) s1 := by
    refine PySem.W.kla_callFunE room.depth ob rfl L.fco L.fgen rfl ⟨c', oc, vs, t, rfl, w1, w2, w3⟩ (bt _ _ _ _ ?_)
    refine wpAny_newFunctionEnv L.ncell bl (fun h₁ ns sb => ⟨I1.nolimit.fresh _ sb, ?_⟩) L.fkind
    have keep : ∀ b o, s1.heap.get? b = some o → h₁.get? b = some o := fun b o e => sb.extBut b o (Nat.ne_of_lt (Heap.lt_size e)) (Heap.get?_push_of_some _ e)
    have J : Inv (lamCx X (X.A.deeper (envOfC qg sg s.heap.objs.size g cdg)) (envOfC qg sg s.heap.objs.size g cdg :: X.stack) s1 H1 E scope f c') [] τ H1 { s1 with heap := h₁, toks := s1.toks + binds.length } := enter_lam I L I1.env0 room.hd un ns keep tl ts
    have bd := (hbody (X.A.deeper (envOfC qg sg s.heap.objs.size g cdg)) (envOfC qg sg s.heap.objs.size g cdg :: X.stack) s1 H1 c' (room.deeper _)).run [] _ _ H1 Q J prom
    refine PySem.W.kla_codeExpr (wpAny_mono bd (fun v s' hq => ?_) fun e s' hq => hq)
    obtain ⟨w', H', J', rv, hq⟩ := hq
    exact ⟨w', H', J'.os, J'.bare, J'.base, J'.hok, rv, hq⟩
  have out : Passes (L2.CX X.prog X.w) ((cxOf CXg X.prog X.w X.K X.mg X.base Ng qg sg g cdg X.A X.stack s H Eg).tr pn xe) E := passes_call tk hW
  refine wpAny_call (codeAny_mono run fun r s' hq => ?_)
  match r, hq with
  | .error e, hq => exact out pinsZ σZ H1 s1 e s' I1 hq
  | .ok (.ret _), hq => exact I1.after hq
  | .ok .next, hq => exact hq.elim
  | .ok .brk, hq => exact hq.elim
  | .ok .cont, hq => exact hq.elim
end
end DL
namespace DL
open PySem PySem.Spec PyProof.Rows L2 LamX
section
variable {X : Cx} {pins : List (Addr × Obj)} {σ τ : L2.St} {H HZ : Hp} {s s1 : Shared}
/-- what is asked of the kept lambda that e gives: its body's promise t at the slots τ -/
structure KeptC (X : Cx) (k : Nat) (σ : L2.St) (H : Hp) (f : Addr) (params : Arguments) (body : Expr) (scope : Scope) (τ : L2.St) (t : XK → TE) : Prop where
  at_ : LamAt X H f params body scope
  pa : ∃ pa : Str → Prop, LamP X.env.scope scope pa ∧ LamB params body scope pa ∧ ∀ (i : Nat) (y : Str) (v : V), X.N[i]? = some y → τ[i]? = some (some v) → σ[i]? = some (some v) ∧ ¬ pa y
  len : τ.length = σ.length
  body : ∀ (A : Around) (outer : List Env) (s : Shared) (H : Hp) (E : XK) (c' : Addr), Room k (A.deeper (lamEnv X scope s.heap.objs.size f c')) → PE (lamCx X A outer s H E scope f c') body (t E)
def tKept (X : Cx) (k : Nat) (TT : (XK → Hp → VK → Prop) → Hp → VK → Prop) (te : TE) : TE := fun σ H Q => te σ H fun v H1 => ∃ (f : Addr) (params : Arguments) (body : Expr) (scope : Scope) (τ : L2.St) (t : XK → TE), v = .ref f ∧ KeptC X k σ H1 f params body scope τ t ∧
  TT (fun E H' Q' => LamAt X H' f params body scope ∧ t E τ H' Q') H1 Q
theorem pe_kept {TT : (XK → Hp → VK → Prop) → Hp → VK → Prop} {x a : Str} {g : Addr} {k : Nat} {pg : Arguments} {bg : List Stmt} {sg : Scope} {dV kV doc pm cdv ct oc : Value} {an od : Option Addr} {osl : Array (Option Value)} {Ng : List Str} {e : Expr} {te : TE} {p pos : Pos}
    (hg : Gl X x) (hm : X.mg x = some (.ref g)) (hk : PySem.W.keepIn X.K (.ref g) = true) (lk : X.K.lookup g = some ⟨oc, od, .func (PySem.W.fnOf x x pg bg sg dV kV doc pm an cdv ct), osl⟩) (hcg : PySem.W.codeIn X.K cdv x = true)
    (hb : L2.Binds X.K (PySem.W.fnOf x x pg bg sg dV kV doc pm an cdv ct) [a] []) (Sg : FnScope Ng [a] sg) (hNg : Ng[0]? = some a) (hva : Vis sg a) (hG : GivesTo X Ng x sg g cdv bg a (lq X) TT) (hr : Room (k + 2) X.A) (he : PE X e te)
    (hst : starEach [e] X.env = (false, eval e X.env) :: starEach [] X.env) (hpl : (backTo pos (starEach [] X.env)).any (·.1) = false) (hdb : (x == ("__debug__" : Str)) = false) (hd : (a == ("__debug__" : Str)) = false) (hcd : (a == ("__classdict__" : Str)) = false) :
    PE X (.Call (.Name x p) [e] [] pos) (tKept X k TT te) := by
  refine ⟨fun pins s σ H Q I h => ?_⟩
  refine wpAny_Call_Name_kw (ld_glob I hg hm ?_ hdb)
  have ha : PA X [e] (tCons te tNil) := pa_cons he pa_nil hst
  refine PySem.W.callWith_K (h₀ := X.base) I.ok.mod.kin hk (thn (ha.run pos pins s σ H (fun vs H1 => match vs with
    | [v] => ∃ (f : Addr) (params : Arguments) (body : Expr) (scope : Scope) (τ : L2.St) (t : XK → TE), v = .ref f ∧ KeptC X k σ H1 f params body scope τ t ∧ TT (fun E H' Q' => LamAt X H' f params body scope ∧ t E τ H' Q') H1 Q
    | _ => False) I h) fun us s1 hu => ?_) hst hpl
  · obtain ⟨vs, H1, J, r, q⟩ := hu
    match vs, q, r with
    | [v], q, r =>
    obtain ⟨f, params, body, scope, τ, t, rfl, C, tt⟩ := q
    refine ⟨J.kIn, ?_⟩
    cases r with
    | cons r1 rt =>
      cases rt
      cases r1
      obtain ⟨pa, L, B, ts⟩ := C.pa
      obtain ⟨dV', doc', pm', ctv', c', oH, cH, dv⟩ := C.at_.ex
      refine wpAny_call (codeAny_mono (R := CR C8.CX0 X.stack X.prog X.w H1 s1 Q C8.E0) ?_ fun out s2 hq => ?_)
      · refine run_ofS (Q := Q) (N := Ng) (us := [.ref f]) (ps := [a]) (vs := [.ref f]) lk hcg Sg hr J.env0 (hb s1 [.ref f] J.kIn rfl) (.cons rfl .nil) rfl fun room => ?_
        obtain ⟨tb, h1, h2⟩ := hG f c' s1 H1 Q (fun E H' Q' => LamAt X H' f params body scope ∧ t E τ H' Q') (fun W pn xe E p1 p2 tk hW => pe_imp (act_kept (i := 0) J L B C.len ts tk hW room (fun A outer s H c' r2 => C.body A outer s H E c' r2) hNg hva hd hcd) fun σZ HZ Q ⟨q1, _, q2, q3⟩ => ⟨q1, q2, q3⟩) cH tt
        exact ⟨tb, h1.nox, h2⟩
      · match out, hq with
        | .error _, z => exact (show False from z).elim
        | .ok (.ret _), z => exact J.after z
        | .ok .next, z => exact z.elim
        | .ok .brk, z => exact z.elim
        | .ok .cont, z => exact z.elim
end
end DL
namespace DL
open PySem PySem.Spec PyProof.Rows L2 LamX
section
variable {X : Cx} {σ : L2.St} {H H' : Hp}
/-- a kept lambda stays one as long as what cannot change is kept -/
theorem LamAt.stay {f : Addr} {params : Arguments} {body : Expr} {scope : Scope} (h : LamAt X H f params body scope) (k : ∀ b o, ¬ mutT o → H b = some o → H' b = some o) : LamAt X H' f params body scope := by
  obtain ⟨dV, doc, pm, ctv, c', h1, h2, h3⟩ := h.ex
  refine ⟨dV, doc, pm, ctv, c', k _ _ id h1, k _ _ id h2, ?_⟩
  rcases h3 with h3 | ⟨e, t, i, q1, q2⟩
  · exact .inl h3
  · exact .inr ⟨e, t, i, q1, k _ _ id q2⟩
theorem ExtP.tab {P : Addr} {q : Str} (x : ExtP P H H') (t : TabS H P q) : ∀ b o, ¬ mutT o → H b = some o → H' b = some o := fun b o m e => x b o (fun z => by
  obtain ⟨ps, tP, _⟩ := t
  rw [z, tP] at e
  cases e
  exact m trivial) e
structure LamD where
  params : Arguments
  body : Expr
  scope : Scope
  pos : Pos
def LamD.expr (d : LamD) : Expr := .Lambda d.params d.body d.scope d.pos
/-- what must hold of a lambda, that it can be kept -/
structure LamD.Ok (X : Cx) (d : LamD) : Prop where
  hd : d.params.defaults = [] ∨ ∃ (i : Int) (k : Nat) (p : Pos), d.params.defaults = [.Constant (.int i) k p]
  hk : d.params.kw_defaults = []
  fr : ∀ y ∈ d.scope.names, y.2 = .free → ∃ c, X.env.cells.lookup y.1 = some c
def tLamK (X : Cx) (P : Addr) (d : LamD) : TE := fun _ H Q => TabS H P (lq X) ∧ ∀ (f : Addr) (H1 : Hp), ExtP P H H1 → TabS H1 P (lq X) → LamAt X H1 f d.params d.body d.scope → Q (.ref f) H1
theorem pe_lamK {c P : Addr} {d : LamD} (TB : TabB X.base X.mg c P) (hcode : X.env.code = .ref c) (O : d.Ok X) : PE X d.expr (tLamK X P d) :=
  ⟨fun pins s σ H Q I ⟨t, h⟩ => lam_kept I TB hcode t O.hd O.hk O.fr fun f H1 s' J x t1 L _ => ⟨V.ref f, H1, J, rfl, h f H1 x t1 L⟩⟩
/-- a list of lambdas, each kept -/
inductive LamsAt (X : Cx) (H : Hp) : List LamD → List V → Prop
  | nil : LamsAt X H [] []
  | cons {d ds f vs} : LamAt X H f d.params d.body d.scope → LamsAt X H ds vs → LamsAt X H (d :: ds) (.ref f :: vs)
theorem LamsAt.stay {ds : List LamD} {vs : List V} (h : LamsAt X H ds vs) (k : ∀ b o, ¬ mutT o → H b = some o → H' b = some o) : LamsAt X H' ds vs := by
  induction h with
  | nil => exact .nil
  | cons a _ ih => exact .cons (a.stay k) ih
theorem LamsAt.length {ds : List LamD} {vs : List V} (h : LamsAt X H ds vs) : vs.length = ds.length := by
  induction h with
  | nil => rfl
  | cons _ _ ih => simp [ih]
theorem LamsAt.app {ds es : List LamD} {vs us : List V} (h : LamsAt X H ds vs) (h2 : LamsAt X H es us) : LamsAt X H (ds ++ es) (vs ++ us) := by
  induction h with
  | nil => exact h2
  | cons a _ ih => exact .cons a ih
theorem LamsAt.at_ {ds : List LamD} {vs : List V} (h : LamsAt X H ds vs) : ∀ {i : Nat} {d : LamD}, ds[i]? = some d → ∃ f, vs[i]? = some (.ref f) ∧ LamAt X H f d.params d.body d.scope := by
  induction h with
  | nil => intro i d e; simp at e
  | cons a _ ih =>
    intro i d e
    cases i with
    | zero => cases e; exact ⟨_, rfl, a⟩
    | succ i => exact ih e
def tLams (X : Cx) (P : Addr) : List LamD → TA
  | [] => tNil
  | d :: ds => tCons (tLamK X P d) (tLams X P ds)
theorem pa_lams {c P : Addr} (TB : TabB X.base X.mg c P) (hcode : X.env.code = .ref c) : ∀ (ds : List LamD), (∀ d ∈ ds, d.Ok X) → PA X (ds.map LamD.expr) (tLams X P ds)
  | [], _ => pa_nil
  | d :: ds, O => pa_cons (pe_lamK TB hcode (O d List.mem_cons_self)) (pa_lams TB hcode ds fun e he => O e (List.mem_cons_of_mem _ he)) rfl
/-- [lambda: .., lambda: ..] -/
theorem tLams_of {P : Addr} : ∀ (ds : List LamD) {H : Hp} {Q : List V → Hp → Prop}, TabS H P (lq X) → (∀ vs H1, ExtP P H H1 → TabS H1 P (lq X) → LamsAt X H1 ds vs → Q vs H1) → tLams X P ds σ H Q
  | [], H, Q, t, h => h [] H (fun _ _ _ e => e) t .nil
  | d :: ds, H, Q, t, h => ⟨t, fun f H1 x t1 L => tLams_of ds t1 fun vs H2 y t2 Ls => h _ H2 (fun b o n e => y b o n (x b o n e)) t2 (.cons (L.stay (y.tab t1)) Ls)⟩
/-- a thing locked: from now on it does not change -/
theorem pe_lock {e : Expr} {te : TE} (h : PE X e te) : PE X e (fun σ H Q => te σ H fun v H1 => ∃ (p : Addr) (u : HO), v = .ref p ∧ H1 p = some u ∧ Mut (some u) ∧ ∀ od, Q v (upd H1 p (.frz od u))) :=
  ⟨fun pins s σ H Q I q => thn (h.run pins s σ H _ I q) fun x s1 ⟨v, H1, J, r, p, u, e1, e2, mu, w⟩ => by
    obtain ⟨od, J2⟩ := J.lock e2 mu
    exact ⟨v, _, J2, r, w od⟩⟩
/-- a locked list of kept lambdas -/
def FnsAt (X : Cx) (H : Hp) (v : V) (ds : List LamD) : Prop := ∃ (p : Addr) (o : Obj) (vs : List V), v = .ref p ∧ H p = some (.frz o (.lst vs)) ∧ LamsAt X H ds vs
theorem FnsAt.stay {v : V} {ds : List LamD} (h : FnsAt X H v ds) (k : ∀ b o, ¬ mutT o → H b = some o → H' b = some o) : FnsAt X H' v ds := by
  obtain ⟨p, o, vs, e, h1, h2⟩ := h
  exact ⟨p, o, vs, e, k _ _ id h1, h2.stay k⟩
/-- [lambda: .., lambda: ..], locked -/
theorem pe_lams {c P : Addr} {ds : List LamD} {pos : Pos} (TB : TabB X.base X.mg c P) (hcode : X.env.code = .ref c) (O : ∀ d ∈ ds, d.Ok X) (hs : ds.length ≤ sizeLine) :
    PE X (.List (ds.map LamD.expr) pos) (fun _ H Q => TabS H P (lq X) ∧ ∀ v H1, ExtP P H H1 → TabS H1 P (lq X) → FnsAt X H1 v ds → Q v H1) :=
  pe_imp (pe_lock (pe_lst (pa_lams TB hcode ds O))) fun σ H Q ⟨t, h⟩ => tLams_of ds t fun vs H1 x t1 L => ⟨by rw [L.length]; exact hs, fun p hp => ⟨p, _, rfl, upd_same, trivial, fun od => by
    have ne : ∀ b o, H1 b = some o → b ≠ p := fun b o e => ne_of_none e hp
    have k : ∀ b o, H1 b = some o → upd (upd H1 p (.lst vs)) p (.frz od (.lst vs)) b = some o := fun b o e => by rw [upd_ne (ne b o e), upd_ne (ne b o e)]; exact e
    exact h _ _ (fun b o n e => k b o (x b o n e)) (t1.ext k) ⟨p, od, vs, rfl, upd_same, L.stay fun b o _ e => k b o e⟩⟩⟩
end
end DL
namespace DL
open PySem PySem.Spec PyProof.Rows L2 LamX
section
variable {X : Cx} {σ : L2.St} {H H' : Hp}
/-- a list and a list, each locked or not -/
def rCatR : R2 := fun x y H Q => ∃ l b xs zs, x = .ref l ∧ y = .ref b ∧ Rd H l (.lst xs) ∧ Rd H b (.lst zs) ∧ xs.length + zs.length ≤ sizeLine ∧ ∀ p, H p = none → Q (.ref p) (upd H p (.lst (xs ++ zs)))
theorem op_catR : OpR X (binaryOp .Add) rCatR := by
  intro pins s σ H x y v u Q I rx ry h
  obtain ⟨l, b, xs, zs, rfl, rfl, hH, hB, hz, q⟩ := h
  cases rx
  cases ry
  obtain ⟨z, its, n, r, e⟩ := hH.ok I.hok
  obtain ⟨z2, its2, n2, r2, e2⟩ := hB.ok I.hok
  have hl := r.length
  have hl2 := r2.length
  refine PySem.P.add_list e e2 ?_ (by rw [List.size_toArray, List.size_toArray]; omega)
  have ea : its.toArray ++ its2.toArray = (its ++ its2).toArray := by simp
  rw [ea]
  exact ⟨.ref _, _, I.lnew (t' := s.toks) (r.append r2) (by rw [List.length_append]; omega), rfl, q _ I.fresh⟩
/-- x + [lambda: ..], locked -/
def tFnsAdd (X : Cx) (P : Addr) (i : Nat) (ds es : List LamD) : TE := fun σ H Q => ∃ u, σ[i]? = some (some u) ∧ FnsAt X H u ds ∧ TabS H P (lq X) ∧ ∀ v H1, ExtP P H H1 → TabS H1 P (lq X) → FnsAt X H1 v (ds ++ es) → Q v H1
theorem pe_fnsAdd {c P : Addr} {i : Nat} {ds es : List LamD} {a : Expr} {p1 pos : Pos} (TB : TabB X.base X.mg c P) (hcode : X.env.code = .ref c) (O : ∀ d ∈ es, d.Ok X) (hs : ds.length + es.length ≤ sizeLine) (ha : PE X a (tVar i)) :
    PE X (.BinOp a .Add (.List (es.map LamD.expr) p1) pos) (tFnsAdd X P i ds es) :=
  pe_imp (pe_lock (pe_op op_catR ha (pe_lst (pa_lams TB hcode es O)))) fun σ H Q ⟨u, hu, ⟨l, o, vs, e1, e2, L⟩, t, w⟩ => ⟨u, hu, tLams_of es t fun us H1 x t1 L1 => ⟨by rw [L1.length]; omega, fun b hb => by
    have kb : ∀ c o, H1 c = some o → upd H1 b (.lst us) c = some o := fun c o e => by rw [upd_ne (ne_of_none e hb)]; exact e
    have La := L.stay (x.tab t)
    have el : H1 l = some (.frz o (.lst vs)) := x.tab t _ _ id e2
    refine ⟨l, b, vs, us, e1, rfl, .inr ⟨o, kb _ _ el⟩, .inl upd_same, by rw [L.length, L1.length]; exact hs, fun p hp => ⟨p, _, rfl, upd_same, trivial, fun od => ?_⟩⟩
    have kp : ∀ c o, H1 c = some o → upd (upd (upd H1 b (.lst us)) p (.lst (vs ++ us))) p (.frz od (.lst (vs ++ us))) c = some o := fun c o e => by
      have e3 := kb c o e
      rw [upd_ne (ne_of_none e3 hp), upd_ne (ne_of_none e3 hp)]
      exact e3
    exact w _ _ (fun c o n e => kp c o (x c o n e)) (t1.ext kp) ⟨p, od, _, rfl, upd_same, (La.app L1).stay fun c o _ e => kp c o e⟩⟩⟩
/-- x[e]: one of them -/
def tFnsAt (X : Cx) (i : Nat) (ds : List LamD) (tb : TE) : TE := fun σ H Q => ∃ u, σ[i]? = some (some u) ∧ tb σ H fun y H1 => FnsAt X H1 u ds ∧ ∃ j d, y = .int j ∧ 0 ≤ j ∧ ds[j.toNat]? = some d ∧ ∀ f, LamAt X H1 f d.params d.body d.scope → Q (.ref f) H1
theorem pe_fnsAt {i : Nat} {ds : List LamD} {a b : Expr} {tb : TE} {pos : Pos} (ha : PE X a (tVar i)) (hb : PE X b tb) (hs : PlainIx b) (mono : ∀ σ H (Q Q' : VK), (∀ v H, Q v H → Q' v H) → tb σ H Q → tb σ H Q') : PE X (.Subscript a b pos) (tFnsAt X i ds tb) :=
  pe_imp (pe_ix ix_list ha hb hs) fun σ H Q ⟨u, hu, w⟩ => ⟨u, hu, mono σ H _ _ (fun y H1 ⟨⟨l, o, vs, e1, e2, L⟩, j, d, ey, h0, hd, q⟩ => by
    obtain ⟨f, e3, La⟩ := L.at_ hd
    refine ⟨l, vs, j, .ref f, e1, ey, .inl (.inr ⟨o, e2⟩), ?_, q f La⟩
    have lt : j.toNat < vs.length := List.getElem?_eq_some_iff.mp e3 |>.1
    have en : ixN vs.length j = some j.toNat := by
      unfold ixN
      rw [if_pos h0]
      first
      | rw [if_pos lt]
      | rw [if_pos (by omega)]
    unfold atI
    rw [en]
    exact e3) w⟩
end
end DL
namespace DL
open PySem PySem.Spec PyProof.Rows L2 LamX
theorem LamAt.cx {X X' : Cx} {H : Hp} {f : Addr} {params : Arguments} {body : Expr} {scope : Scope} (hq : lq X' = lq X) (hc : X'.env.cells = X.env.cells) (h : LamAt X H f params body scope) : LamAt X' H f params body scope := by
  obtain ⟨dV, doc, pm, ctv, c', h1, h2, h3⟩ := h.ex
  exact ⟨dV, doc, pm, ctv, c', by rw [hq, hc]; exact h1, by rw [hq]; exact h2, h3⟩
theorem LamsAt.cx {X X' : Cx} {H : Hp} {ds : List LamD} {vs : List V} (hq : lq X' = lq X) (hc : X'.env.cells = X.env.cells) (h : LamsAt X H ds vs) : LamsAt X' H ds vs := by
  induction h with
  | nil => exact .nil
  | cons a _ ih => exact .cons (a.cx hq hc) ih
theorem FnsAt.cx {X X' : Cx} {H : Hp} {v : V} {ds : List LamD} (hq : lq X' = lq X) (hc : X'.env.cells = X.env.cells) (h : FnsAt X H v ds) : FnsAt X' H v ds := by
  obtain ⟨p, o, vs, e, h1, h2⟩ := h
  exact ⟨p, o, vs, e, h1, h2.cx hq hc⟩
/-- the lambdas of these numbers -/
def picks (T : List LamD) : List Nat → Option (List LamD)
  | [] => some []
  | i :: l => match T[i]?, picks T l with
    | some d, some ds => some (d :: ds)
    | _, _ => none
theorem picks_cons {T : List LamD} {i : Nat} {l : List Nat} {ds : List LamD} (h : picks T (i :: l) = some ds) : ∃ d es, T[i]? = some d ∧ picks T l = some es ∧ ds = d :: es := by
  unfold picks at h
  split at h
  · rename_i d es e1 e2
    cases h
    exact ⟨d, es, e1, e2, rfl⟩
  · cases h
theorem picks_app {T : List LamD} : ∀ {l m : List Nat} {ds es : List LamD}, picks T l = some ds → picks T m = some es → picks T (l ++ m) = some (ds ++ es)
  | [], _, _, _, h1, h2 => by cases h1; exact h2
  | i :: l, m, ds, es, h1, h2 => by
    obtain ⟨d, ds', e1, e2, rfl⟩ := picks_cons h1
    have ih := picks_app e2 h2
    show (match T[i]?, picks T (l ++ m) with
      | some d, some ds => some (d :: ds)
      | _, _ => none) = _
    rw [e1, ih]
    rfl
theorem picks_len {T : List LamD} : ∀ {l : List Nat} {ds : List LamD}, picks T l = some ds → ds.length = l.length
  | [], _, h => by cases h; rfl
  | i :: l, ds, h => by
    obtain ⟨d, ds', e1, e2, rfl⟩ := picks_cons h
    simp [picks_len e2]
theorem picks_at {T : List LamD} : ∀ {l : List Nat} {ds : List LamD} {j n : Nat}, picks T l = some ds → l[j]? = some n → ∃ d, T[n]? = some d ∧ ds[j]? = some d
  | [], _, _, _, _, h => by cases h
  | i :: l, ds, j, n, h, hj => by
    obtain ⟨d, ds', e1, e2, rfl⟩ := picks_cons h
    cases j with
    | zero => cases hj; exact ⟨d, e1, rfl⟩
    | succ j => exact picks_at (j := j) e2 hj
/-- the instance knows the lambdas that the def of X₀ keeps -/
structure IsFns [Xk] (X₀ : Cx) (T : List LamD) : Prop where
  cl : Xk.cl = some X₀.env.cells
  q : ∀ p ∈ Xk.tb, p.2 = lq X₀
  iff : ∀ H v l, Xk.fns H v l ↔ ∃ ds, picks T l = some ds ∧ FnsAt X₀ H v ds
@[reducible] def xkL (P : Addr) (X₀ : Cx) (T : List LamD) : Xk := { xkT P (lq X₀) with
  fns := fun H v l => ∃ ds, picks T l = some ds ∧ FnsAt X₀ H v ds
  fstay := fun H H' v l h k => h.elim fun ds h => ⟨ds, h.1, h.2.stay k⟩
  cl := some X₀.env.cells }
theorem isFns (P : Addr) (X₀ : Cx) (T : List LamD) : @IsFns (xkL P X₀ T) X₀ T := by
  letI : Xk := xkL P X₀ T
  exact ⟨rfl, fun p hp => by rw [List.mem_singleton.mp hp], fun _ _ _ => Iff.rfl⟩
/-- a lambda that may be kept, by its scope -/
structure LamD.OkS (sc : Scope) (d : LamD) : Prop where
  hd : d.params.defaults = [] ∨ ∃ (i : Int) (k : Nat) (p : Pos), d.params.defaults = [.Constant (.int i) k p]
  hk : d.params.kw_defaults = []
  lp : ∃ pa, LamP sc d.scope pa
theorem LamD.OkS.ok {X : Cx} {d : LamD} (h : d.OkS X.env.scope) (ok : X.Ok) : d.Ok X := ⟨h.hd, h.hk, h.lp.elim fun _ L => L.has ok⟩
variable [Xk]
section
variable {G : Gm} {K : PySem.W.Frag} {M : Addr → Prop} {r : Rw} {Pr : Addr → HO → Prop} {σ : L2.St} {H H1 : Hp} {ev : Ev} {rs rs' : RS} {oa : Nat → Addr} {k : Nat} {sc : Sx} {N : List Str}
/-- the table at P grown -/
theorem RelS.grown {P : Addr} {q : Str} (R : RelS K M r Pr σ H ev rs oa) (hm : (P, q) ∈ Xk.tb) (hu : ∀ p ∈ Xk.tb, p.1 = P → p.2 = q) (x0 : ExtP P H H1) (t1 : TabS H1 P q) : RelS K M r Pr σ H1 ev rs oa := by
  have T0 := R.e.tabs
  have kP : Xk.kx P := Xk.tkx _ hm
  have x1 : ExtN H H1 := fun b o e n => x0 b o (fun z => by
    obtain ⟨ps, h1, _⟩ := T0 _ hm
    rw [z] at e
    exact n ps (Option.some.inj (e.symm.trans h1))) e
  have T1 : Tabs Xk.tb H1 := fun p hp => by
    by_cases hb : p.1 = P
    · rw [hu p hp hb, hb]
      exact t1
    · obtain ⟨ps, a1, a2, a3⟩ := T0 p hp
      refine ⟨ps, x0 _ _ hb a1, a2, fun p' cv hc => ?_⟩
      obtain ⟨c0, b1, b2⟩ := a3 p' cv hc
      exact ⟨c0, b1, x1 _ _ b2 codeO_ne⟩
  exact R.stp (fun b o n e => x0 b o (fun z => n (.inr (z ▸ kP))) e) (row_extn x1 T1 R.e.row)
def sFns (i : Nat) (l : List Nat) (ev : Ev) : Ms := fun rs => if i < ev.length then some (.nx (ev.set i (.fns l)), rs) else none
theorem s_fns {X₀ : Cx} {T : List LamD} (F : IsFns X₀ T) (i : Nat) (l : List Nat) {ds : List LamD} {es : List Expr} {x : Str} {p p' p2 : Pos} (hl : picks T l = some ds) (hd : ∀ d ∈ ds, d.OkS sc.sc) (hz : ds.length ≤ sizeLine) (he : es = ds.map LamD.expr := by rfl) (hi : N[i]? = some x := by rfl) (hlo : locB sc x = true := by rfl)
    (htop : sc.fc ("" : Str) = true := by rfl) (hlm : N.contains ("<lambda>" : Str) = true := by rfl) (hs : ∀ env, env.scope = sc.sc → swapsWith (.List es p2) (some (.Name x p')) p.line env = pure false := by intro env h; first | rfl | (cases env; cases h; rfl)) :
    SS G k sc N (.Assign [.Name x p'] (.List es p2) p) (sFns i l) := fun X W g tk po => ⟨fun pins s σ H D I h => by
  subst he
  obtain ⟨c, P, hcode, TB, hm, hu, hcl⟩ := g.lam htop hlm
  have hq : lq X₀ = lq X := (F.q _ hm).symm
  have hc : X₀.env.cells = X.env.cells := (hcl _ F.cl).symm
  have O : ∀ d ∈ ds, d.Ok X := fun d h => LamD.OkS.ok (by rw [g.hsc]; exact hd d h) I.ok
  refine (ps_set (i := i) (by rw [g.hN]; exact g.nd) (by rw [g.hN]; exact hi) (loc_of g hlo).1 (pe_lams (P := P) TB hcode O hz) (hs _ g.hsc) (loc_of g hlo).2).run pins s σ H D I ?_
  obtain ⟨M, r, Pr, ev, rs, oa, R, o, rs', e, w⟩ := h
  unfold sFns at e
  split at e
  · rename_i hlen
    cases e
    refine ⟨R.e.tabs _ hm, fun v H1 x t1 L => ?_⟩
    have R1 := R.grown hm hu x t1
    exact w _ _ _ (R1.setH ⟨v, List.getElem?_set_self (by have := R.e.len; omega), (F.iff _ _ _).mpr ⟨ds, hl, L.cx hq hc⟩⟩ (fun _ e => by cases e) fun _ e => by cases e)
  · cases e⟩
def sFnsAdd (i j : Nat) (m : List Nat) (ev : Ev) : Ms := fun rs => match ev[j]? with
  | some (.fns l) => if l.length + m.length ≤ sizeLine ∧ i < ev.length then some (.nx (ev.set i (.fns (l ++ m))), rs) else none
  | _ => none
theorem s_fnsAdd {X₀ : Cx} {T : List LamD} (F : IsFns X₀ T) (i j : Nat) (m : List Nat) {ds : List LamD} {es : List Expr} {x y : Str} {p p' p2 p3 p4 : Pos} (hl : picks T m = some ds) (hd : ∀ d ∈ ds, d.OkS sc.sc) (he : es = ds.map LamD.expr := by rfl) (hi : N[i]? = some x := by rfl) (hlo : locB sc x = true := by rfl)
    (hj : N[j]? = some y := by rfl) (hv : visB sc y = true := by rfl) (hdb : (y == ("__debug__" : Str)) = false := by decide) (hcd : (y == ("__classdict__" : Str)) = false := by decide)
    (htop : sc.fc ("" : Str) = true := by rfl) (hlm : N.contains ("<lambda>" : Str) = true := by rfl) (hs : ∀ env, env.scope = sc.sc → swapsWith (.BinOp (.Name y p3) .Add (.List es p2) p4) (some (.Name x p')) p.line env = pure false := by intro env h; first | rfl | (cases env; cases h; rfl)) :
    SS G k sc N (.Assign [.Name x p'] (.BinOp (.Name y p3) .Add (.List es p2) p4) p) (sFnsAdd i j m) := fun X W g tk po => ⟨fun pins s σ H D I h => by
  subst he
  obtain ⟨c, P, hcode, TB, hm, hu, hcl⟩ := g.lam htop hlm
  have hq : lq X₀ = lq X := (F.q _ hm).symm
  have hc : X₀.env.cells = X.env.cells := (hcl _ F.cl).symm
  have O : ∀ d ∈ ds, d.Ok X := fun d h => LamD.OkS.ok (by rw [g.hsc]; exact hd d h) I.ok
  obtain ⟨M, r, Pr, ev, rs, oa, R, o, rs', e, w⟩ := h
  unfold sFnsAdd at e
  split at e
  · rename_i l ej
    split at e
    · rename_i hlen
      cases e
      obtain ⟨u, hu1, hu2⟩ := R.e.slots j _ ej
      obtain ⟨bs, b1, b2⟩ := (F.iff _ _ _).mp hu2
      refine (ps_set (i := i) (by rw [g.hN]; exact g.nd) (by rw [g.hN]; exact hi) (loc_of g hlo).1 (pe_fnsAdd (P := P) (i := j) (ds := bs) (es := ds) TB hcode O (by rw [picks_len b1, picks_len hl]; exact hlen.1) (pe_var (by rw [g.hN]; exact hj) (by rw [g.hsc]; exact vis_of hv) hdb hcd)) (hs _ g.hsc) (loc_of g hlo).2).run pins s σ H D I ?_
      refine ⟨u, hu1, b2.cx hq.symm hc.symm, R.e.tabs _ hm, fun v H1 x t1 L => ?_⟩
      have R1 := R.grown hm hu x t1
      exact w _ _ _ (R1.setH ⟨v, List.getElem?_set_self (by have := R.e.len; omega), (F.iff _ _ _).mpr ⟨bs ++ ds, picks_app b1 hl, L.cx hq hc⟩⟩ (fun _ e => by cases e) fun _ e => by cases e)
    · cases e
  · cases e⟩
end
end DL
namespace DL
open PySem PySem.Spec PyProof.Rows L2 LamX
theorem wipe_at {i : Nat} {v : V} : ∀ {ms : List Nat} {σ : L2.St}, (wipe σ ms)[i]? = some (some v) → i ∉ ms ∧ σ[i]? = some (some v)
  | [], _, h => ⟨by simp, h⟩
  | m :: ms, σ, h => by
    replace h : ((wipe σ ms).set m none)[i]? = some (some v) := h
    by_cases e : m = i
    · subst e
      by_cases l : m < (wipe σ ms).length
      · rw [List.getElem?_set_self l] at h
        cases h
      · rw [List.getElem?_eq_none (by rw [List.length_set]; omega)] at h
        cases h
    · rw [List.getElem?_set_ne e] at h
      obtain ⟨h1, h2⟩ := wipe_at h
      exact ⟨by simp only [List.mem_cons, not_or]; exact ⟨fun z => e z.symm, h1⟩, h2⟩
theorem wipe_len : ∀ {ms : List Nat} {σ : L2.St}, (wipe σ ms).length = σ.length
  | [], _ => rfl
  | m :: ms, σ => by
    show ((wipe σ ms).set m none).length = _
    rw [List.length_set, wipe_len]
variable [Xk]
/-- a def that calls what it got: "" when all went well, else what tell says of the error -/
def TTx (G : Gm) (tell : Str → Option Int → Option D) : (XK → Hp → VK → Prop) → Hp → VK → Prop := fun tl H Q =>
  tl (fun cls dd H' => ∃ x i d, ExA G.mg x i cls dd H' ∧ tell x i = some d ∧ ∀ H'' v, Same H' H'' → (∀ M, Da G.K M H'' v d) → Q v H'') H (fun _ H' => Q (.str "") H')
theorem tE_mono {K : PySem.W.Frag} {mg : Str → Option Value} {W : WX} {f : Ev → Mn D} (σ : L2.St) (H : Hp) (Q Q' : VK) (i : ∀ v H, Q v H → Q' v H) (h : tE K mg W f σ H Q) : tE K mg W f σ H Q' := by
  obtain ⟨M, r, ev, rs, R, o, rs', e, w⟩ := h
  refine ⟨M, r, ev, rs, R, o, rs', e, ?_⟩
  cases o with
  | val d => exact fun H' s w' v dv => i _ _ (w H' s w' v dv)
  | exc x j => exact w
section
variable {G : Gm} {k : Nat} {sc : Sx} {N : List Str}
/-- what is asked of a lambda that is kept: how it binds, what its body gives where the slots ms are not seen -/
structure KLam (G : Gm) (k : Nat) (sc : Sx) (N : List Str) (d : LamD) (ms : List Nat) (fb : Ev → Mn D) : Prop where
  pa : ∃ pa, LamP sc.sc d.scope pa ∧ LamB d.params d.body d.scope pa ∧ ∀ i y, N[i]? = some y → pa y → i ∈ ms
  body : SE G k ⟨d.scope, fun _ => false⟩ N d.body fb
def dTold (tell : Str → Option Int → Option D) (f : Mn D) : Mn D := fun rs => match f rs with
  | some (.val _, rs') => some (.val (.str ""), rs')
  | some (.exc c i, rs') => (match tell c i with
    | some d => some (.val d, rs')
    | none => none)
  | none => none
def dCallK (tell : Str → Option Int → Option D) (i : Nat) (ms : Nat → List Nat) (fB : Nat → Ev → Mn D) (fe : Ev → Mn D) (ev : Ev) : Mn D := match ev[i]? with
  | some (.fns l) => bnd (fe ev) fun d => match d with
    | .int j => if 0 ≤ j then (match l[j.toNat]? with
      | some n => dTold tell (fB n (wipeE ev (ms n)))
      | none => fun _ => none) else fun _ => none
    | _ => fun _ => none
  | _ => fun _ => none
theorem e_callK {X₀ : Cx} {T : List LamD} (F : IsFns X₀ T) {tell : Str → Option Int → Option D} (i : Nat) (ms : Nat → List Nat) (fB : Nat → Ev → Mn D) {x y : Str} {st : Stmt} {be : Expr} {fe : Ev → Mn D} {p p1 p2 pos : Pos} {NB : List Str} (W : FnW G x st) (S : FnScope NB ["work"] (defScope st)) (h0 : NB[0]? = some ("work" : Str)) (hva : Vis (defScope st) ("work" : Str))
    (gv : ∀ (X : Cx) (g : Addr) (cdg : Value) (q : Str), X.K = G.K → X.mg = G.mg → GivesTo X NB x (defScope st) g cdg (defBody st) "work" q (TTx G tell))
    (hT : ∀ (n : Nat) (d : LamD), T[n]? = some d → KLam G k sc N d (ms n) (fB n)) (hf : SE G (k + 2) sc N be fe) (hpx : PlainIx be) (hi : N[i]? = some y := by rfl) (hv : visB sc y = true := by rfl) (hdy : (y == ("__debug__" : Str)) = false := by decide) (hcy : (y == ("__classdict__" : Str)) = false := by decide)
    (htop : sc.fc ("" : Str) = true := by rfl) (hlm : N.contains ("<lambda>" : Str) = true := by rfl) (hg : glB sc x = true := by rfl) (hdb : (x == ("__debug__" : Str)) = false := by decide) :
    SE G (k + 2) sc N (.Call (.Name x p) [.Subscript (.Name y p1) be p2] [] pos) (dCallK tell i ms fB fe) := fun X Wx g tk => ⟨fun pins s σ H Q I h => by
  obtain ⟨c, P, hcode, TB, hm, hu, hcl⟩ := g.lam htop hlm
  have hq : lq X₀ = lq X := (F.q _ hm).symm
  have hc : X₀.env.cells = X.env.cells := (hcl _ F.cl).symm
  obtain ⟨gg, oc, od, kV, doc, pm, cdv, ct, an, osl, e1, e2, e3, e4, e5⟩ := W.ex
  obtain ⟨M, r, ev, rs, R, o, rs', e, w⟩ := h
  unfold dCallK at e
  obtain ⟨l, ei⟩ : ∃ l, ev[i]? = some (.fns l) := by
    cases q : ev[i]? with
    | none => rw [q] at e; cases e
    | some z => cases z with
      | fns l => exact ⟨l, rfl⟩
      | _ => rw [q] at e; cases e
  rw [ei] at e
  replace e : bnd (fe ev) (fun d => match d with
    | .int j => if 0 ≤ j then (match l[j.toNat]? with
      | some n => dTold tell (fB n (wipeE ev (ms n)))
      | none => fun _ => none) else fun _ => none
    | _ => fun _ => none) rs = some (o, rs') := e
  obtain ⟨u, hu1, hu2⟩ := R.slots i _ ei
  obtain ⟨bs, b1, b2⟩ := (F.iff _ _ _).mp hu2
  refine (pe_kept (X := X) (TT := TTx G tell) (Ng := NB) (a := "work") (k := k) (gl_of g hg) (by rw [g.hmg]; exact e1) (by rw [g.hK]; exact e4) (by rw [g.hK]; exact e2) (by rw [g.hK]; exact e3) (by rw [g.hK]; exact e5) S h0 hva (gv X gg cdv _ g.hK g.hmg) g.room
    (pe_fnsAt (i := i) (ds := bs) (pe_var (by rw [g.hN]; exact hi) (by rw [g.hsc]; exact vis_of hv) hdy hcy) (hf X Wx g tk) hpx fun σ H Q Q' => tE_mono σ H Q Q') rfl rfl hdb (by decide) (by decide)).run pins s σ H Q I ?_
  refine ⟨u, hu1, ?_⟩
  rcases bnd_some e with ⟨d, rs1, f1, f2⟩ | ⟨z, j', f1, rfl⟩
  · refine ⟨M, r, ev, rs, R, .val d, rs1, f1, fun H1 st1 w1 v dv => ?_⟩
    have R1 : RelE G.K M r σ H1 ev rs1 := R.stp st1 w1
    cases d with
    | int j =>
      cases dv
      replace f2 : (if 0 ≤ j then (match l[j.toNat]? with
        | some n => dTold tell (fB n (wipeE ev (ms n)))
        | none => fun _ => none) else fun _ => none) rs1 = some (o, rs') := f2
      by_cases hj : 0 ≤ j
      case neg => rw [if_neg hj] at f2; cases f2
      rw [if_pos hj] at f2
      obtain ⟨n, en⟩ : ∃ n, l[j.toNat]? = some n := by
        cases q : l[j.toNat]? with
        | none => rw [q] at f2; cases f2
        | some n => exact ⟨n, rfl⟩
      rw [en] at f2
      replace f2 : dTold tell (fB n (wipeE ev (ms n))) rs1 = some (o, rs') := f2
      obtain ⟨d, hd1, hd2⟩ := picks_at b1 en
      obtain ⟨u', g1, g2⟩ := R1.slots i _ ei
      rw [hu1] at g1
      cases g1
      obtain ⟨bs', c1, c2⟩ := (F.iff _ _ _).mp g2
      rw [b1] at c1
      cases c1
      refine ⟨c2.cx hq.symm hc.symm, j, d, rfl, hj, hd2, fun f La => ?_⟩
      obtain ⟨⟨pa, L, B, hp⟩, hb⟩ := hT n d hd1
      refine ⟨f, d.params, d.body, d.scope, wipe σ (ms n), fun E => tE G.K G.mg (fun cls d _ H => E cls d H) (fB n), rfl, ⟨La, ⟨pa, by rw [g.hsc]; exact L, B, fun i' y' v' h1 h2 => ?_⟩, wipe_len, fun A outer s H E c' hr => ?_⟩, ?_⟩
      · obtain ⟨q1, q2⟩ := wipe_at h2
        exact ⟨q2, fun z => q1 (hp i' y' (by rw [← g.hN]; exact h1) z)⟩
      · have g2 : Gd G k ⟨d.scope, fun _ => false⟩ N (lamCx X A outer s H E d.scope f c') := ⟨g.hN, g.nd, rfl, (fun x e => by cases e), rfl, hr, g.hP, g.hw, g.hK, g.hmg, g.hb, (fun e => by cases e), fun e => by cases e⟩
        exact hb _ _ g2 (takes_of rfl rfl rfl rfl)
      · unfold dTold at f2
        split at f2
        · rename_i d0 rs2 e0
          cases f2
          exact ⟨La, M, r, _, rs1, R1.wiped _, .val d0, _, e0, fun H' s w' v dv => w H' (st1.trans s) w' _ (.str "")⟩
        · rename_i cc ii rs2 e0
          split at f2
          · rename_i d1 et
            cases f2
            exact ⟨La, M, r, _, rs1, R1.wiped _, .exc cc ii, _, e0, fun cls dd H' s w' a => ⟨cc, ii, d1, a, et, fun H'' v sm dv => w H'' ((st1.trans s).trans (.of_same sm)) (row_same w' sm) _ (dv M)⟩⟩
          · cases f2
        · cases f2
    | _ => cases f2
  · exact ⟨M, r, ev, rs, R, .exc z j', rs', f1, w⟩⟩
end
end DL
namespace DL
open PySem PySem.Spec PyProof.Rows L2 LamX
theorem call_isD {X : Cx} {a D : Addr} {d : Option Addr} {oe : Obj} {pn : List (Addr × Obj)} (C : ExcC X.K D) (hz : Zc (.ref D) d oe) (hf : ∃ vs, oe.data = .fields vs) :
    CallR (X.suite a ((a, oe) :: pn)) (.builtin "isinstance") (fun xs H Q => (∀ dd, d = some dd → ∃ fs, H dd = some (.xd fs)) ∧ rIsE X.K D a xs H Q) := by
  cases d with
  | none => exact fun pins s σ H xs us Q I r h => call_isE C hz hf pins s σ H xs us Q I r h.2
  | some dd =>
    intro pins s σ H xs us Q I r h
    obtain ⟨h0, c, cv, b, rfl, hcv, e, q⟩ := h
    obtain ⟨fs, ed⟩ := h0 dd rfl
    cases r with
    | cons rx rr =>
      cases rr with
      | cons rt rr =>
        cases rr
        cases rx
        have ec := hcv _ rt
        subst ec
        obtain ⟨ha, _⟩ := I.pin (a, oe) (List.mem_append_left _ List.mem_cons_self)
        obtain ⟨vs, hd⟩ := hf
        obtain ⟨mA, hns, hr⟩ := (show ObjOk X.prog X.w H s.heap dd (.xd fs) from I.hok dd _ ed)
        obtain ⟨od, ho, hl⟩ := lookIn_ns hns
        have J : PySem.W.InstAt s.heap a oe D (some od) := ⟨ha, hz.1, by unfold PySem.W.notCls; rw [hd] <;> rfl, by rw [hz.2]; exact ho⟩
        have cls : (PySem.W.clsIn X.K D).isSome = true := by
          obtain ⟨cd, hc, _⟩ := PySem.W.any_some C.hd
          rw [hc]
          rfl
        exact PySem.W.kia_one (PySem.W.kitx_exc cls C.hg C.hk C.hs C.ha C.hn C.ht C.hm) I.kIn J e (fun z => nomatch z) fun tk => ⟨.bl b, H, I.kept (t' := tk) fun _ _ z => z, rfl, q⟩
end DL
namespace DL
open PySem PySem.Spec PyProof.Rows L2 LamX
abbrev nm7 : List Str := ["BadTable", "BadExpression", "BadSemantics", "BadFilter", "BadCase", "BadIdentity", "BadArguments"]
abbrev wd7 : List Str := ["table", "expression", "semantics", "filter", "case", "identity", "arguments"]
/-- what is told of an error -/
def tell7 (x : Str) (n : Option Int) : Option D := match n with
  | some n => if x = "BadTable" then some (.tuple [.str "table", .int n]) else if x = "BadExpression" then some (.tuple [.str "expression", .int n]) else none
  | none => (([("BadSemantics", "semantics"), ("BadFilter", "filter"), ("BadCase", "case"), ("BadIdentity", "identity"), ("BadArguments", "arguments")] : Ws).lookup x).map .str
structure Wr7 (G : Gm) (CS : Addr) (C : Nat → Addr) : Prop where
  q : G.mg "QueryError" = some (.ref CS)
  m : ∀ i n, nm7[i]? = some n → G.mg n = some (.ref (C i))
  c : ∀ i, i < 7 → PySem.W.exmOne G.K (.ref (C i)) (.ref CS) = some true
  e : ∀ i, i < 7 → ExcC G.K (C i)
  x : ∀ i, i < 7 → XfC G.K (C i)
  no : ∀ i, i < 7 → PySem.W.findIn G.K (.ref (C i)) "index" = some none
  kt : ∀ i j, i < 7 → j < 7 → PySem.W.kitOne G.K (.ref (C i)) (.ref (C j)) = some (i == j)
theorem tell7_some {x : Str} {n : Int} {d : D} (h : tell7 x (some n) = some d) : ∃ i w, i < 2 ∧ nm7[i]? = some x ∧ wd7[i]? = some w ∧ d = .tuple [.str w, .int n] := by
  unfold tell7 at h
  dsimp only at h
  split at h
  · rename_i e
    cases h
    exact ⟨0, _, by decide, by rw [e]; rfl, rfl, rfl⟩
  · split at h
    · rename_i e
      cases h
      exact ⟨1, _, by decide, by rw [e]; rfl, rfl, rfl⟩
    · cases h
theorem tell7_none {x : Str} {d : D} (h : tell7 x none = some d) : ∃ i w, i < 5 ∧ nm7[i + 2]? = some x ∧ wd7[i + 2]? = some w ∧ d = .str w := by
  unfold tell7 at h
  dsimp only at h
  obtain ⟨w, hw, rfl⟩ := Option.map_eq_some_iff.mp h
  have m := PySem.mem_of_lookup hw
  simp only [List.mem_cons, List.not_mem_nil, or_false, Prod.mk.injEq] at m
  rcases m with ⟨rfl, rfl⟩ | ⟨rfl, rfl⟩ | ⟨rfl, rfl⟩ | ⟨rfl, rfl⟩ | ⟨rfl, rfl⟩
  · exact ⟨0, _, by decide, rfl, rfl, rfl⟩
  · exact ⟨1, _, by decide, rfl, rfl, rfl⟩
  · exact ⟨2, _, by decide, rfl, rfl, rfl⟩
  · exact ⟨3, _, by decide, rfl, rfl, rfl⟩
  · exact ⟨4, _, by decide, rfl, rfl, rfl⟩
abbrev st7 : List V := [.str "semantics", .str "filter", .str "case", .str "identity", .str "arguments"]
theorem bl7_facts {i : Nat} {w : Str} (h : i < 5) (hw : wd7[i + 2]? = some w) : (bl5 i).all flatV = true ∧ (bl5 i).countP (fun z => eqV z (.bl true)) = 1 ∧ (bl5 i)[i]? = some (.bl true) ∧ (∀ (m : Nat) (z' : V), m < i → (bl5 i)[m]? = some z' → eqV z' (.bl true) = false) ∧ atI st7 (i : Int) = some (.str w) := by
  match i, h, hw with
  | 0, _, hw => cases hw; exact ⟨rfl, rfl, rfl, fun m z h => absurd h (Nat.not_lt_zero _), rfl⟩
  | 1, _, hw => cases hw; exact ⟨rfl, rfl, rfl, fun m z h e => (match m, h, e with | 0, _, e => by cases e; rfl), rfl⟩
  | 2, _, hw => cases hw; exact ⟨rfl, rfl, rfl, fun m z h e => (match m, h, e with | 0, _, e => by cases e; rfl | 1, _, e => by cases e; rfl), rfl⟩
  | 3, _, hw => cases hw; exact ⟨rfl, rfl, rfl, fun m z h e => (match m, h, e with | 0, _, e => by cases e; rfl | 1, _, e => by cases e; rfl | 2, _, e => by cases e; rfl), rfl⟩
  | 4, _, hw => cases hw; exact ⟨rfl, rfl, rfl, fun m z h e => (match m, h, e with | 0, _, e => by cases e; rfl | 1, _, e => by cases e; rfl | 2, _, e => by cases e; rfl | 3, _, e => by cases e; rfl), rfl⟩
  | i + 5, h, _ => omega
theorem iteNb {b : Bool} (e : b = false) {t u : Prop} (h : u) : if b = true then t else u := by rw [e, if_neg Bool.false_ne_true]; exact h
theorem iteYb {b : Bool} (e : b = true) {t u : Prop} (h : t) : if b = true then t else u := by rw [e, if_pos rfl]; exact h
variable [Xk]
theorem wrong_gives7 {G : Gm} {X : Cx} {CS g : Addr} {C : Nat → Addr} {cdg : Value} {x q : Str} {sg : Scope} {w3 : Str} {k1 k2 k3 k4 k5 k6 k7 k8 k9 k10 k11 k12 k13 : Nat} {a1 a2 a3 a4 b1 b2 b3 b4 c1 c2 c3 c4 d1 d2 d3 d4 e1 e2 e3 e4 x1 x2 x3 x4 y1 y2 y3 y4 z1 z2 z3 z4 p1 p2 p3 p4 p5 p6 p7 p8 f2 f1 f3 g1 g2 g3 g4 g5 g6 h1 h2 h3 h4 h5 h6 i1 i2 i3 i4 i5 j1 j2 j3 j4 q1 q2 q3 q4 q5 q6 q7 q8 : Pos} (hK : X.K = G.K) (hmg : X.mg = G.mg) (F : Wr7 G CS C) (hin : G.mg "isinstance" = none)
    (S : FnScope N5 ["work"] sg) (hq : sg.names.lookup ("QueryError" : Str) = some .globalImplicit) (hn : ∀ n ∈ nm7, sg.names.lookup n = some .globalImplicit) (hs : sg.names.lookup ("isinstance" : Str) = some .globalImplicit) (he : sg.names.lookup ("e" : Str) = some .local) (hk : sg.names.lookup ("known" : Str) = some .local)
    (l1 : (g2.endLine == g4.line) = true) (l2 : (i2.endLine == i4.line) = true) :
    GivesTo X N5 x sg g cdg [.Try [.Expr (.Call (.Name "work" p1) [] [] p2) p3] [.ExceptHandler (some (.Name "QueryError" p4)) (some "e")
      [.If (.BoolOp .Or [.Call (.Name "isinstance" x1) [.Name "e" x2, .Name "BadTable" x3] [] x4, .Call (.Name "isinstance" y1) [.Name "e" y2, .Name "BadExpression" y3] [] y4] q1) [.Return (some (.Tuple [.IfExp (.Call (.Name "isinstance" z1) [.Name "e" z2, .Name "BadTable" z3] [] z4) (.Constant (.str "table") k11 q2) (.Constant (.str "expression") k12 q3) q4, .Attribute (.Name "e" q5) "index" q6] k13 q7)) q8] [] p8,
       .Assign [.Name "known" f1] (.List [.Call (.Name "isinstance" a1) [.Name "e" a2, .Name "BadSemantics" a3] [] a4, .Call (.Name "isinstance" b1) [.Name "e" b2, .Name "BadFilter" b3] [] b4, .Call (.Name "isinstance" c1) [.Name "e" c2, .Name "BadCase" c3] [] c4, .Call (.Name "isinstance" d1) [.Name "e" d2, .Name "BadIdentity" d3] [] d4, .Call (.Name "isinstance" e1) [.Name "e" e2, .Name "BadArguments" e3] [] e4] f2) f3,
       .Return (some (.IfExp (.Compare (.Call (.Attribute (.Name "known" g1) "count" g2) [.Constant (.bool true) k1 g3] [] g4) [.Eq] [.Constant (.int 1) k2 g5] g6)
        (.Subscript (.List [.Constant (.str "semantics") k3 h1, .Constant (.str "filter") k4 h2, .Constant (.str "case") k5 h3, .Constant (.str "identity") k6 h4, .Constant (.str "arguments") k7 h5] h6) (.Call (.Attribute (.Name "known" i1) "index" i2) [.Constant (.bool true) k8 i3] [] i4) i5)
        (.Constant (.str w3) k9 j1) j2)) j3] p5] [] [] p6, .Return (some (.Constant (.str "") k10 p7)) j4] "work" q (TTx G tell7) := by
  intro f c' s H Q tl act hc h
  have inj : ∀ i j, i < 7 → j < 7 → C i = C j → i = j := fun i j hi hj e => by
    have z := F.kt i j hi hj
    rw [e, F.kt j j hj hj] at z
    have z := Option.some.inj z
    rw [show (j == j) = true from beq_self_eq_true j] at z
    exact beq_iff_eq.mp z.symm
  refine ⟨_, pss_cons (ps_try_as (X := (cxOf C8.CX0 X.prog X.w X.K X.mg X.base N5 x sg g cdg X.A X.stack s H C8.E0).nox) (i := 1) (c := .ref CS)
      (tb := fun W D σ H => ∃ Ech : XK, (∀ cls d σ' H', Ech cls d H' → W cls d σ' H') ∧ σ[0]? = some (some (V.ref f)) ∧ H c' = some (LamX.CodeO c' q) ∧ tl Ech H (fun _ H' => D.nx σ H'))
      (ts := fun a cls d D σ H => (∃ i, i < 7 ∧ cls = .ref (C i) ∧ d.isSome = decide (i < 2)) ∧ (σ.length = N5.length → (σ.length = 3 ∧ σ[1]? = some (some (.ref a))) ∧
        ((∃ i w dd n, i < 2 ∧ cls = .ref (C i) ∧ wd7[i]? = some w ∧ d = some dd ∧ H dd = some (.xd [(("index" : Str), V.int n)]) ∧ ∀ p, H p = none → D.rt (.ref p) (upd H p (.tup [.str w, .int n]))) ∨
         (∃ i w, i < 5 ∧ cls = .ref (C (i + 2)) ∧ d = none ∧ wd7[i + 2]? = some w ∧ ∀ H'', Same H H'' → D.rt (.str w) H''))))
      rfl rfl S.nd rfl he ⟨hq, by decide, .inl (by show X.mg _ = _; rw [hmg]; exact F.q)⟩ LamX.takes0 (fun W pn xe tk _ => ?_) (fun a oe cls d pn hz hf => ?_)) (pss_one (ps_ret pe_str)), ?_⟩
  · refine ⟨fun pins s' σ H' D I h' => ?_⟩
    obtain ⟨Ech, hW, h1, h2, h3⟩ := h'
    exact (pss_one (ps_expr (act W pn xe Ech _ _ tk hW))).run pins s' σ H' D I ⟨h1, h2, h3⟩
  · refine pss_giv fun ⟨i, hi, e2, e1⟩ => ?_
    subst e2
    have gi : ∀ {n : Str} {C : Addr}, sg.names.lookup n = some .globalImplicit → X.mg n = some (.ref C) → (n == ("__debug__" : Str)) = false → ∀ {X' : Cx}, X' = (cxOf C8.CX0 X.prog X.w X.K X.mg X.base N5 x sg g cdg X.A X.stack s H C8.E0).nox.suite a ((a, oe) :: pn) → ∀ p, PE X' (.Name n p) (tC (.ref C)) := fun {n C} h1 h2 h3 X' eX p => by
      subst eX
      exact pe_glob (v := .ref C) (u := .ref C) h1 h2 rfl h3
    have mm : ∀ j n, nm7[j]? = some n → X.mg n = some (.ref (C j)) := fun j n h => by rw [hmg]; exact F.m j n h
    have nb : X.mg "isinstance" = none := by rw [hmg]; exact hin
    have E : ExcC X.K (C i) := by rw [hK]; exact F.e i hi
    have XF : XfC X.K (C i) := by rw [hK]; exact F.x i hi
    have NO : PySem.W.findIn X.K (.ref (C i)) "index" = some none := by rw [hK]; exact F.no i hi
    have kt : ∀ j, j < 7 → PySem.W.kitOne X.K (.ref (C i)) (.ref (C j)) = some (i == j) := fun j hj => by rw [hK]; exact F.kt i j hi hj
    have is : ∀ j n, nm7[j]? = some n → (n == ("__debug__" : Str)) = false → ∀ q1 q2 q3 q4, PE ((cxOf C8.CX0 X.prog X.w X.K X.mg X.base N5 x sg g cdg X.A X.stack s H C8.E0).nox.suite a ((a, oe) :: pn)) (.Call (.Name "isinstance" q1) [.Name "e" q2, .Name n q3] [] q4) _ := fun j n h1 h2 q1 q2 q3 q4 =>
      pe_callB (call_isD E hz hf) hs nb PyProof.Rows.boot_isinstance (pa_cons (pe_var (i := 1) rfl (.inl he)) (pa_cons (gi (hn n (List.mem_of_getElem? h1)) (mm j n h1) h2 rfl q3) pa_nil))
    refine pss_imp (pss_cons (ps_if (pw_or (pt_val (is 0 _ rfl (by decide) _ _ _ _)) (pw_or1 (pt_val (is 1 _ rfl (by decide) _ _ _ _)))).pt
        (pss_one (ps_ret (pe_tup (pa_cons (pe_ifExp (pt_val (is 0 _ rfl (by decide) _ _ _ _)) pe_str pe_str) (pa_cons (pe_xf XF NO hz hf (pe_var (i := 1) rfl (.inl he))) pa_nil))))) pss_nil)
      (pss_cons (ps_set (i := 2) S.nd rfl (.inl hk) (pe_lst (pa_cons (is 2 _ rfl (by decide) _ _ _ _) (pa_cons (is 3 _ rfl (by decide) _ _ _ _) (pa_cons (is 4 _ rfl (by decide) _ _ _ _) (pa_cons (is 5 _ rfl (by decide) _ _ _ _) (pa_cons (is 6 _ rfl (by decide) _ _ _ _) pa_nil)))))) rfl (.inr hk))
      (pss_one (ps_ret (pe_ifExp (pt_cmpR op_eq (pe_bm PySem.F.plainAttrs_list PySem.F.slot_list_count PySem.F.type_list_count mt_cntF (pe_var (i := 2) rfl (.inl hk)) (pa_cons pe_bl pa_nil) rfl rfl l1 rfl rfl) pe_int (nobehind _ (by decide) (by decide)))
        (pe_ix ix_list (pe_lst (pa_cons pe_str (pa_cons pe_str (pa_cons pe_str (pa_cons pe_str (pa_cons pe_str pa_nil)))))) (pe_bm PySem.F.plainAttrs_list PySem.F.slot_list_index PySem.F.type_list_index mt_index (pe_var (i := 2) rfl (.inl hk)) (pa_cons pe_bl pa_nil) rfl rfl l2 rfl rfl) (fun _ _ => rfl)) pe_str))))) fun D σ H hh => ?_
    obtain ⟨⟨hl, h1⟩, hQ⟩ := hh
    have st : ∀ j, j < 7 → ∀ {Q : VK}, (∀ dd, d = some dd → ∃ fs, H dd = some (.xd fs)) → Q (.bl (i == j)) H → tCB (fun xs H Q => (∀ dd, d = some dd → ∃ fs, H dd = some (.xd fs)) ∧ rIsE X.K (C i) a xs H Q) (tCons (tVar 1) (tCons (tC (V.ref (C j))) tNil)) σ H Q := fun j hj Q hx hQ => ⟨_, h1, hx, .ref (C j), .ref (C j), (i == j), rfl, fun u r => r, kt j hj, hQ⟩
    rcases hQ with ⟨i', w, dd, n, hi2, ec, ew, ed, hd, hr⟩ | ⟨i', w, hi5, ec, ed, ew, hr⟩
    · have := inj i i' hi (by omega) (Value.ref.inj ec)
      subst this
      subst ed
      have hx : ∀ dd', some dd = some dd' → ∃ fs, H dd' = some (.xd fs) := fun dd' z => by cases z; exact ⟨_, hd⟩
      rcases (show i = 0 ∨ i = 1 by omega) with rfl | rfl
      · cases ew
        refine st 0 (by decide) hx ⟨_, rfl, iteYb rfl (iteYb rfl (st 0 (by decide) hx ⟨_, rfl, iteYb rfl ⟨_, h1, rfl, rfl, dd, _, V.int n, rfl, hd, rfl, ?_⟩⟩))⟩
        exact ⟨by show 2 ≤ sizeLine; exact size_ok 2, hr⟩
      · cases ew
        refine st 0 (by decide) hx ⟨_, rfl, iteNb rfl (st 1 (by decide) hx ⟨_, rfl, iteYb rfl (st 0 (by decide) hx ⟨_, rfl, iteNb rfl ⟨_, h1, rfl, rfl, dd, _, V.int n, rfl, hd, rfl, ?_⟩⟩)⟩)⟩
        exact ⟨by show 2 ≤ sizeLine; exact size_ok 2, hr⟩
    · have := inj i (i' + 2) hi (by omega) (Value.ref.inj ec)
      subst this
      subst ed
      have hx : ∀ dd', none = some dd' → ∃ fs, H dd' = some (.xd fs) := fun dd' z => by cases z
      have n0 : (i' + 2 == 0) = false := by simp
      have n1 : (i' + 2 == 1) = false := by simp
      obtain ⟨b1, b2, b3, b4, b5⟩ := bl7_facts hi5 ew
      have eqq : ∀ j : Nat, (i' + 2 == j + 2) = (i' == j) := fun j => by simp
      have st' : ∀ j, j < 5 → ∀ {Q : VK}, Q (.bl (i' == j)) H → tCB (fun xs H Q => (∀ dd, (none : Option Addr) = some dd → ∃ fs, H dd = some (.xd fs)) ∧ rIsE X.K (C (i' + 2)) a xs H Q) (tCons (tVar 1) (tCons (tC (V.ref (C (j + 2)))) tNil)) σ H Q := fun j hj Q hQ => st (j + 2) (by omega) hx (by rw [eqq]; exact hQ)
      refine st 0 (by decide) hx ⟨_, rfl, iteNb n0 (st 1 (by decide) hx ⟨_, rfl, iteNb n1 ?_⟩)⟩
      refine st' 0 (by decide) (st' 1 (by decide) (st' 2 (by decide) (st' 3 (by decide) (st' 4 (by decide) ?_))))
      refine ⟨by show 5 ≤ sizeLine; exact size_ok 5, fun p hp => ?_⟩
      have s2 : (σ.set 2 (some (V.ref p)))[2]? = some (some (V.ref p)) := List.getElem?_set_self (by rw [hl]; decide)
      have sl : SqL X.K (upd H p (.lst (bl5 i'))) p (bl5 i') := .inl (.inl upd_same)
      refine ⟨V.ref p, s2, .inl ⟨rfl, bl5 i', .of upd_same⟩, p, bl5 i', .bl true, rfl, rfl, sl, rfl, b1, ?_⟩
      rw [b2]
      refine ⟨rfl, true, rfl, iteT ⟨by show 5 ≤ sizeLine; exact size_ok 5, fun p2 hp2 => ?_⟩⟩
      have sm1 : Same H (upd H p (.lst (bl5 i'))) := same_upd hp
      have sm2 : Same (upd H p (.lst (bl5 i'))) (upd (upd H p (.lst (bl5 i'))) p2 (.lst st7)) := same_upd hp2
      have hp3 := sm2 _ _ upd_same
      refine ⟨V.ref p, s2, .inl ⟨rfl, bl5 i', .of hp3⟩, p, bl5 i', .bl true, i', .bl true, rfl, rfl, .inl (.inl hp3), rfl, b1, b3, rfl, b4, p2, st7, i', .str w, rfl, rfl, .inl (.inl upd_same), b5, ?_⟩
      exact hr _ (sm1.trans sm2)
  · have h0 : (L2.start N5 [V.ref f])[0]? = some (some (V.ref f)) := rfl
    refine ⟨_, fun cls dd σ' H' ⟨y, n, d, ⟨⟨C', e2, e3⟩, e4⟩, et, e5⟩ => ?_, h0, hc, h⟩
    cases n with
    | some n =>
      obtain ⟨d', rfl, hd'⟩ := e4
      obtain ⟨i, w, hi, n1, n2, rfl⟩ := tell7_some et
      have eC : C' = C i := by
        have z := F.m i _ n1
        rw [e2] at z
        exact Value.ref.inj (Option.some.inj z)
      subst e3 eC
      refine ⟨true, by show PySem.W.exmOne X.K _ _ = _; rw [hK]; exact F.c i (by omega), fun _ a ha => ⟨⟨i, by omega, rfl, by simp [hi]⟩, fun hl => ?_⟩, fun z => by cases z⟩
      rw [List.length_set] at hl
      exact ⟨⟨by rw [List.length_set]; exact hl, List.getElem?_set_self (by rw [hl]; decide)⟩, .inl ⟨i, w, d', n, hi, rfl, n2, rfl, hd', fun p hp => e5 _ _ (same_upd hp) fun M => .tup (.inl (.inl upd_same)) (.cons (.str _) (.cons (.int _) .nil))⟩⟩
    | none =>
      obtain rfl : dd = none := e4
      obtain ⟨i, w, hi, n1, n2, rfl⟩ := tell7_none et
      have eC : C' = C (i + 2) := by
        have z := F.m (i + 2) _ n1
        rw [e2] at z
        exact Value.ref.inj (Option.some.inj z)
      subst e3 eC
      refine ⟨true, by show PySem.W.exmOne X.K _ _ = _; rw [hK]; exact F.c (i + 2) (by omega), fun _ a ha => ⟨⟨i + 2, by omega, rfl, by simp⟩, fun hl => ?_⟩, fun z => by cases z⟩
      rw [List.length_set] at hl
      exact ⟨⟨by rw [List.length_set]; exact hl, List.getElem?_set_self (by rw [hl]; decide)⟩, .inr ⟨i, w, hi, rfl, rfl, n2, fun H'' sm => e5 _ _ sm fun M => .str _⟩⟩
end DL
namespace DL
open PySem PySem.Spec PySem.Calls PyProof.Rows L2 NdefX
open PySem.W (clsIn mroIn subIn nsIn findIn typeIn codeIn ks_superIn InstAt)
/-- the text of the error, and what stands around it -/
structure SupC (P : Program) (K : PySem.W.Frag) (mg : Str → Option Value) (C f cc cda : Addr) (q : Str) (st : Stmt) (fd : FuncData) : Prop where
  oex : OexC K C
  ini : findIn K (.ref C) "__init__" = some (some (.ref f))
  tyf : typeIn K (.ref f) = some (.type "function")
  noix : findIn K (.ref C) "index" = some none
  fn : ∃ (oc : Value) (od : Option Addr) (osl : Array (Option Value)) (kV doc pm ct : Value) (an : Option Addr), fd = PySem.W.fnX "__init__" q (defArgs st) (defBody st) (defScope st) [(("__class__" : Str), cc)] .none kV doc pm an (.ref cda) ct ∧ K.lookup f = some ⟨oc, od, .func fd, osl⟩
  code : codeIn K (.ref cda) q = true
  file : ∃ (o1 : Value) (o2 : Option Addr) (vs : Array Value) (o4 : Array (Option Value)) (file : Str) (tf : Tok), K.lookup cda = some ⟨o1, o2, .fields vs, o4⟩ ∧ vs[2]? = some (.str file tf) ∧ ((P.main.file : Str) == file) = true
  cell : ∃ (o1 : Value) (o2 : Option Addr) (o4 : Array (Option Value)), K.lookup cc = some ⟨o1, o2, .cell (some (.ref C)), o4⟩
  mro : mroIn K C (.ref C) = some true
  mgS : mg "super" = none
  sup : ks_superIn K C C "__init__" = some (some (.builtin "ValueError.__init__"))
  subV : subIn K (.ref C) (.type "ValueError") = some true
  stat : nsIn K cStatics "thirdparty.any" = some none
  top : (P.main.scope.names.lookup ("super" : Str)).isSome = false
/-- __init__: what it makes of the new error -/
def spX (C : Addr) : Sp := fun vs H Q _ => ∃ (a : Addr) (i : Int), vs = [.ref a, .int i] ∧ (i = 0 ∨ i = 1) ∧ H a = some (exo a C none) ∧ ∀ dx, H dx = none → dx ≠ a → Q .non (upd (upd H dx (exd dx [(("index" : Str), V.int i)])) a (exo a C (some dx)))
theorem boot_super : bootBuiltins "super" = some (.type "super") := by kernel_rfl
theorem sup_ok {G : Gm} {C f cc cda : Addr} {q s1 s2 : Str} {st : Stmt} {fd : FuncData} {N : List Str} {ar : Arg} {j1 j2 : Nat} {CX : CXT} {k : Nat} {p1 p2 p3 p4 p5 p6 p7 p8 p9 p10 p11 p12 p13 p14 : Pos} (T : SupC G.P G.K G.mg C f cc cda q st fd) (S : NScope N ["self", "index"] ["__class__"] (defScope st))
    (hS : (defScope st).names.lookup ("super" : Str) = some .globalImplicit) (hC : (defScope st).names.lookup ("__class__" : Str) = some .free) (h0 : N[0]? = some ("self" : Str)) (h1 : N[1]? = some ("index" : Str))
    (hA : ((defArgs st).posonlyargs ++ (defArgs st).args).head? = some ar) (hAr : ar.arg = "self")
    (hb : defBody st = [.Expr (.Call (.Attribute (.Call (.Name "super" p1) [] [] p2) "__init__" p3) [.JoinedStr [.Constant (.str s1) j1 p4, .FormattedValue (.Name "index" p5) (-1) none p6, .Constant (.str s2) j2 p7] p8] [] p9) p10, .Assign [.Attribute (.Name "self" p11) "index" p12] (.Name "index" p13) p14])
    (hl : (p3.endLine == p9.line) = true)
    (hz : ∀ i : Int, (i = 0 ∨ i = 1) → (Str.empty ++ s1).length ≤ sizeLine ∧ (Str.empty ++ s1 ++ toString i).length ≤ sizeLine ∧ (Str.empty ++ s1 ++ toString i ++ s2).length ≤ sizeLine) :
    FnOk G.P G.w G.K G.mg G.base CX (k + 1) f fd ["self", "index"] (spX C) := by
  have hev : ∀ env : Env, eval (.Call (.Attribute (.Call (.Name "super" p1) [] [] p2) "__init__" p3) [.JoinedStr [.Constant (.str s1) j1 p4, .FormattedValue (.Name "index" p5) (-1) none p6, .Constant (.str s2) j2 p7] p8] [] p9) env = (do
      let ov ← attributeBase (.Call (.Name "super" p1) [] [] p2) "__init__" env (eval (.Call (.Name "super" p1) [] [] p2) env)
      standAt p3.atName
      let (f, first) ← holding [ov] (getMethod ov "__init__" (do return (← importBound (.Call (.Name "super" p1) [] [] p2) env).getD true))
      callWith p9 f first (backTo p9 (starEach [.JoinedStr [.Constant (.str s1) j1 p4, .FormattedValue (.Name "index" p5) (-1) none p6, .Constant (.str s2) j2 p7] p8] env)) []) := fun env => by
    have z : methodCallPos true (.Call (.Name "super" p1) [] [] p2) env p3 p9 = pure p9 := by
      unfold methodCallPos
      rw [hl]
      rfl
    show (do
      let ov ← attributeBase (.Call (.Name "super" p1) [] [] p2) "__init__" env (eval (.Call (.Name "super" p1) [] [] p2) env)
      standAt p3.atName
      let (f, first) ← holding [ov] (getMethod ov "__init__" (do return (← importBound (.Call (.Name "super" p1) [] [] p2) env).getD true))
      let q ← methodCallPos true (.Call (.Name "super" p1) [] [] p2) env p3 p9
      callWith q f first (backTo p9 (starEach [.JoinedStr [.Constant (.str s1) j1 p4, .FormattedValue (.Name "index" p5) (-1) none p6, .Constant (.str s2) j2 p7] p8] env)) []) = _
    rw [z]
    rfl
  obtain ⟨oc, od, osl, kV, doc, pm, ct, an, rfl, lk⟩ := T.fn
  refine ⟨fun vs H Q E h => by obtain ⟨_, _, rfl, _⟩ := h; rfl, fun A outer s H args us vs Q E hr e0 hbd r hsp => ?_⟩
  obtain ⟨a, i, rfl, hi, ha, hq⟩ := hsp
  have KX : G.K.In s.heap := e0.mod.kin.keeps fun b o e => (e0.bs b o e).1
  have lim : s.heap.NoLimit := e0.mod.nolimit.keeps fun b o e => (e0.bs b o e).1
  obtain ⟨c1, c2, c4, hcell⟩ := T.cell
  have CA : CellsAt [(("__class__" : Str), cc)] ["__class__"] [none] s.heap H := by
    have e1 : ∀ {y : Str} {c : Addr}, ([(("__class__" : Str), cc)] : List (Str × Addr)).lookup y = some c → y = "__class__" ∧ c = cc := fun {y c} e => by
      by_cases h : y = ("__class__" : Str)
      · subst h
        simp [List.lookup] at e
        exact ⟨rfl, e.symm⟩
      · have h' : (y == ("__class__" : Str)) = false := by simpa using h
        simp [List.lookup, h'] at e
    refine ⟨rfl, fun y c e => ?_, fun x y c e e' => (e1 e).1.trans (e1 e').1.symm, fun i y e => ?_⟩
    · obtain ⟨_, rfl⟩ := e1 e
      exact ⟨(e0.bs _ _ (e0.mod.kin _ _ hcell)).2, _, _, KX _ _ hcell, rfl⟩
    · match i, e with
      | 0, e =>
        cases e
        exact ⟨cc, rfl, fun v e => by cases e⟩
      | i + 1, e => simp at e
  refine ks_codeAny_call_defAt hr.depth (KX _ _ lk) rfl lim (PySem.W.codeRec_of KX T.code) rfl hbd S.nocell (fun ⟨n, _⟩ hy => S.par n (List.of_mem_zip hy).1) (fun h₁ hns kp => ?_) S.co S.gen S.kind
  obtain ⟨F, eF⟩ : ∃ F : NF, F = ⟨"__init__", q, defArgs st, defBody st, defScope st, [(("__class__" : Str), cc)], cda⟩ := ⟨_, rfl⟩
  obtain ⟨X, eX⟩ : ∃ X, X = ncx CX G.P G.w G.K G.mg G.base N F f A outer s H E := ⟨_, rfl⟩
  obtain ⟨σ, eσ⟩ : ∃ σ, σ = startF N [V.ref a, V.int i] [none] := ⟨_, rfl⟩
  have I0 : Inv X [] σ H { s with heap := h₁, toks := s.toks + ((["self", "index"] : List Str).zip us).length } := by
    rw [eX, eσ]
    subst eF
    exact inv_startN (F := ⟨"__init__", q, defArgs st, defBody st, defScope st, [(("__class__" : Str), cc)], cda⟩) S hr.hd e0 rfl r CA hns kp
  have eN : X.N = N := by rw [eX]; rfl
  have esc : X.env.scope = defScope st := by rw [eX, eF]; rfl
  have eK : X.K = G.K := by rw [eX]; rfl
  have emg : X.mg = G.mg := by rw [eX]; rfl
  have ebase : X.base = G.base := by rw [eX]; rfl
  have self0 : (defScope st).names.lookup ("self" : Str) = some .local := S.par _ (by simp)
  have idx0 : (defScope st).names.lookup ("index" : Str) = some .local := S.par _ (by simp)
  have vs0 : ∀ p, PE X (.Name "self" p) (tVar 0) := fun p => pe_var (i := 0) (by rw [eN]; exact h0) (.inl (by rw [esc]; exact self0))
  have vs1 : ∀ p, PE X (.Name "index" p) (tVar 1) := fun p => pe_var (i := 1) (by rw [eN]; exact h1) (.inl (by rw [esc]; exact idx0))
  have s0 : σ[0]? = some (some (.ref a)) := by rw [eσ]; rfl
  have s1' : σ[1]? = some (some (.int i)) := by rw [eσ]; rfl
  have hps : PSs X [.Assign [.Attribute (.Name "self" p11) "index" p12] (.Name "index" p13) p14] _ := pss_one (ps_ost (vs0 _) (vs1 _) rfl)
  have hja : PA X [.JoinedStr [.Constant (.str s1) j1 p4, .FormattedValue (.Name "index" p5) (-1) none p6, .Constant (.str s2) j2 p7] p8] _ := pa_cons (pe_joined (.cons pe_str (.cons (pe_fmt (vs1 _)) (.cons pe_str .nil)))) pa_nil rfl
  obtain ⟨A', eA⟩ : ∃ A', A' = A.deeper (envF ⟨"__init__", q, defArgs st, defBody st, defScope st, [(("__class__" : Str), cc)], cda⟩ f s.heap.objs.size) := ⟨_, rfl⟩
  have eXA : X.A = A' := by rw [eX, eF, eA]; rfl
  obtain ⟨ev, eev⟩ : ∃ ev : Env, ev = envF ⟨"__init__", q, defArgs st, defBody st, defScope st, [(("__class__" : Str), cc)], cda⟩ f s.heap.objs.size := ⟨_, rfl⟩
  have eXe : X.env = ev := by rw [eX, eF, eev]; rfl
  have eXP : X.prog = G.P := by rw [eX]; rfl
  have eXw : X.w = G.w := by rw [eX]; rfl
  have key : ∀ sa : Shared, Inv X [] σ H sa → _root_.PySem.wpAt (model X.prog X.w) X.A (.func (defBody st) X.env) (execs (defBody st) X.env) (fun fl s' => CR CX outer G.P G.w H s Q E (.ok (.ret (match fl with | .ret v => v | _ => .none))) s') X.xe sa := by
    intro sa I
    obtain ⟨o1, o2, vs', o4, file, tf, hcode, hvs, hfile⟩ := T.file
    obtain ⟨cd, hcd⟩ : ∃ cd, clsIn G.K C = some cd := by
      obtain ⟨nm, q', N', bs, bm, sn, sub, ab, col, dd, k0, k1, k2, k3, k5, hC', hbm⟩ := T.oex.cls
      exact ⟨_, by unfold PySem.W.clsIn; rw [hC'] <;> rfl⟩
    rw [hb]
    obtain ⟨mm, hn, hl⟩ := I.loc
    obtain ⟨u0, ru, l0⟩ := hl 0 "self" (.ref a) (by rw [eN]; exact h0) s0 (.inl (by rw [esc]; exact self0))
    obtain rfl : u0 = Value.ref a := ru
    have hself : mm ("self" : Str) = some (.ref a) := by
      rcases l0 with ⟨_, z⟩ | ⟨z, _⟩
      · exact z
      · have z' : (X.env.scope.names.lookup ("self" : Str)) = some .cell ∨ (X.env.scope.names.lookup ("self" : Str)) = some .free := z
        rw [esc, self0] at z'
        rcases z' with z' | z' <;> cases z'
    have kself : X.env.kindOf "self" = some .local := by show X.env.scope.names.lookup ("self" : Str) = _; rw [esc]; exact self0
    have kcls : X.env.kindOf "__class__" = some .free := by show X.env.scope.names.lookup ("__class__" : Str) = _; rw [esc]; exact hC
    have ksup : X.env.kindOf "super" = some .globalImplicit := by show X.env.scope.names.lookup ("super" : Str) = _; rw [esc]; exact hS
    have kfun : X.env.scope.kind = .function := I.ok.kind
    have KI : ∀ {s : Shared}, Inv X [] σ H s → G.K.In s.heap := fun {s} I => by rw [← eK]; exact I.kIn
    have KI1 := KI I
    obtain ⟨t1, hox⟩ := exo_at I.hok ha
    obtain ⟨mb, hb1, hb2⟩ := I.mod.blt
    obtain ⟨nm, q', N', bs, bm, sn, sub, ab, col, dd, k0, k1, k2, k3, k5, hCo, hbm⟩ := T.oex.cls
    have eF2 : X.env.func = some f := by rw [eXe, eev]
    have eCo : X.env.code = .ref cda := by rw [eXe, eev]
    have eCl : X.env.cells = [(("__class__" : Str), cc)] := by rw [eXe, eev]
    refine ks_wpAt_execs_cons (ks_wpAt_Expr_any (ks_wpAt_MethodCall ?_ (hev _)) (by unfold interactive; rw [kfun]; rfl) rfl)
    refine ks_wpAt_super_base ksup kcls (by decide) eF2 (KI1 _ _ lk) rfl hA eCo (KI1 _ _ hcode) rfl hvs (by rw [eXP]; exact hfile) (by rw [eXP]; exact T.top) ?_
    refine PySem.W.ks_loadName_global kfun ksup (Calls.loadGlobal_builtin (by rw [I.ok.glob]; exact I.mod.glob.keeps I.bk) (by rw [emg]; exact T.mgS) (by rw [I.ok.blt]; exact hb1.keeps I.bk) ((hb2 _ (by decide)).trans boot_super) ⟨rfl, ?_⟩)
    refine wpAny_loadName_free kfun kcls (by rw [eCl]; rfl) ⟨_, KI1 _ _ hcell, rfl⟩ ?_
    rw [hAr]
    refine wpAny_loadName_local kfun kself hn hself ?_
    obtain ⟨hp, g, d, t, os⟩ := sa
    have hCh := KI1 _ _ hCo
    refine ks_wpAny_isType_cls hCh rfl ⟨rfl, ?_⟩
    refine ks_wpAny_call_super hCh rfl hox rfl (fun c e => by cases e) (PySem.W.looks_mroIn KI1 T.mro) (fun h' e k => ?_)
    have I1 : Inv X [] σ H ⟨h', g, d, t, os⟩ := I.kept k
    have KI2 := KI I1
    have hox' := k _ _ hox
    have hsz : hp.objs.size < h'.objs.size := Heap.lt_size e
    have hsup := T.sup
    unfold PySem.W.ks_superIn at hsup
    rw [hcd] at hsup
    have IA : InstAt h' a ({ cls := .ref C, dict := none, data := .fields #[.ref t1, .none, .none, .none, .bool false, .none] } : Obj) C none := ⟨hox', rfl, rfl, trivial⟩
    refine PySem.W.kxs_getMethod PySem.W.kxs_ValueError e (PySem.W.looks_opaque KI2 T.stat) (l₀ := cd.mro) (fun A Q E s k q => wpAny_bind ((PySem.W.looks_clsIn KI2 hcd) A _ E s k (wpAny_pure q))) rfl KI2 hsup (IA.type.andThen (PySem.W.looks_subIn KI2 T.subV)) (PySem.W.ks_ne KI2 IA hcd) (by decide) ?_
    have I2 : Inv X [] σ H ⟨h'.push (PySem.W.kxs_mw "ValueError.__init__" a), g, d, t + 1, os⟩ := I1.kept fun b o q => Heap.get?_push_of_some _ q
    obtain ⟨u, eu⟩ : ∃ u, u = h'.objs.size := ⟨_, rfl⟩
    have hu : (h'.push (PySem.W.kxs_mw "ValueError.__init__" a)).get? u = some (PySem.W.kxs_mw "ValueError.__init__" a) := by rw [eu]; exact Heap.get?_push_size _ rfl
    have nu : H u = none := by rw [eu]; exact I1.hok.fresh (Nat.le_refl _)
    have I3 : Inv X [(u, PySem.W.kxs_mw "ValueError.__init__" a)] σ H ⟨h'.push (PySem.W.kxs_mw "ValueError.__init__" a), g, d, t + 1, os⟩ := I2.pins_of fun p hp => by
      obtain rfl := List.mem_singleton.mp hp
      refine ⟨hu, nu, ?_, ?_, fun v z => by cases z⟩
      · show u ≠ _
        rw [eu]
        exact Nat.ne_of_gt I1.lt
      · show u ∉ _
        rw [eu]
        exact I1.nofs (Nat.le_refl _)
    rw [← eu]
    have hst : starEach [.JoinedStr [.Constant (.str s1) j1 p4, .FormattedValue (.Name "index" p5) (-1) none p6, .Constant (.str s2) j2 p7] p8] X.env = (false, eval (.JoinedStr [.Constant (.str s1) j1 p4, .FormattedValue (.Name "index" p5) (-1) none p6, .Constant (.str s2) j2 p7] p8) X.env) :: starEach [] X.env := rfl
    have hev2 := hja.run p9 _ _ σ H (fun vs H' => vs = [V.str (Str.empty ++ s1 ++ toString i ++ s2)] ∧ H' = H) I3 ⟨s1, rfl, (hz i hi).1, V.int i, s1', .inr ⟨i, rfl, by rcases hi with rfl | rfl <;> decide, _, rfl, (hz i hi).2.1, s2, rfl, (hz i hi).2.2, rfl, rfl⟩⟩
    rw [hst] at hev2 ⊢
    refine PySem.W.kxs_callWith (i := "ValueError.__init__") (x := a) (by rfl) (evalArgs_plain (thn hev2 fun us s4 ⟨vs, H4, I4, r4, ev4, eH4⟩ => ?_))
    subst ev4
    rw [eH4] at I4
    have hu4 : s4.heap.get? u = some (PySem.W.kxs_mw "ValueError.__init__" a) := (I4.pin (u, _) (by simp)).1
    refine ⟨hu4, ?_⟩
    obtain ⟨t2, hox4⟩ := exo_at I4.hok ha
    have KI4 : G.K.In s4.heap := by rw [← eK]; exact I4.kIn
    have hC4 := KI4 _ _ hCo
    have hzl : us.length ≤ sizeLine := by
      rw [← r4.length]
      show 1 ≤ sizeLine; rw [sizeLine_eq]; omega
    have I5 : ∀ (hh : Heap) (t3 : Addr), (∀ b o, b ≠ a → s4.heap.get? b = some o → hh.get? b = some o) → hh.get? a = some ({ cls := .ref C, dict := none, data := .fields #[.ref t3, .none, .none, .none, .bool false, .none] } : Obj) → Inv X [] σ H { s4 with heap := hh } := fun hh t3 k3 hx3 => by
      have J := I4.write (t' := s4.toks) (x := a) (e := a) (o := exo a C none) (by rw [ha]; exact True.intro) (.inl rfl) k3 ⟨_, hx3⟩ (exo_ok hx3)
      have eu' : upd H a (exo a C none) = H := by
        funext b
        by_cases hb : b = a
        · rw [hb, upd_same, ha]
        · rw [upd_ne hb]
      rw [eu'] at J
      exact J.pins_of fun p hp => absurd hp (by simp)
    obtain ⟨h4, g4, d4, tk4, os4⟩ := s4
    refine wpAny_call (codeAny_of_tree ?_)
    show wpAny _ _ (callAny (.ref u) ⟨us, []⟩) _ _ _
    simp only [callAny]
    refine wpAny_bind (wpAny_load hu4 ?_)
    simp only [PySem.W.kxs_mw, show (Value.type "method-wrapper" == Value.type "method" || Value.type "method-wrapper" == Value.type "builtin_function_or_method" || Value.type "method-wrapper" == Value.type "method-wrapper") = true by decide, if_true]
    refine PySem.W.KFB.if_so (by decide) ?_
    refine wpAny_bind (PySem.W.check_bound_init PySem.F.excBase_ValueError.toExcCallFacts hC4 hox4 rfl ?_)
    refine wpAny_bind (wpAny_pure (wpAny_pure ?_))
    refine ⟨plainId_quiet PySem.F.excBase_ValueError.init.plain _, codeAny_builtin PySem.F.excBase_ValueError.initEntry ?_⟩
    refine PySem.W.exc_init_tree (cls := .ref C) (t0 := t2) (dv := none) (c2 := .none) (c3 := .none) (b4 := .bool false) hox4 hzl fun hh k3 hx3 _ => ?_
    have J := I5 hh _ k3 hx3
    refine wpAt_of_wpAny (wpAny_mono (hps.run [] _ σ H { nx := fun _ H' => Q .non H', rt := fun _ _ => False } J ?_) (fun fl s' hs => ?_) fun e s' hs => hs)
    · exact ⟨V.int i, s1', V.ref a, s0, a, C, rfl, by rw [eK]; exact T.oex, by rw [eK]; exact T.noix, .inl ⟨ha, fun dx n ne => hq dx n ne⟩⟩
    · cases fl with
      | next =>
        obtain ⟨σ', H', J', q'⟩ := hs
        have e1 : X.s_0 = s := by rw [eX]; rfl
        have e2 : X.H_0 = H := by rw [eX]; rfl
        have e3 : X.fs = frs outer := by rw [eX]; rfl
        have e4 : X.ex = [] := by rw [eX]; rfl
        refine ⟨V.non, H', ?_, J'.bare, ?_, ?_, rfl, q'⟩
        · rw [← e1]; exact J'.os
        · rw [← e1, ← e2, ← e3, ← e4]; exact J'.base
        · rw [← eXP, ← eXw]; exact J'.hok
      | ret _ => obtain ⟨_, _, _, _, _, z⟩ := hs; exact z.elim
      | brk => obtain ⟨_, _, _, z⟩ := hs; exact z.elim
      | cont => obtain ⟨_, _, _, z⟩ := hs; exact z.elim
  have := key _ I0
  rw [eXA, eXe, eXP, eXw] at this
  subst eA eev
  have exe : X.xe = fun e s' => wpAny (model G.P G.w) (A.deeper (envF ⟨"__init__", q, defArgs st, defBody st, defScope st, [(("__class__" : Str), cc)], cda⟩ f s.heap.objs.size)) (leaving (envF ⟨"__init__", q, defArgs st, defBody st, defScope st, [(("__class__" : Str), cc)], cda⟩ f s.heap.objs.size) e) (fun _ s'' => CX outer H s E e s'') (fun e' s'' => CX outer H s E e' s'') s' := by rw [eX, eF]; rfl
  rw [exe] at this
  exact this
end DL
namespace DL
open PySem PySem.Spec PyProof.Rows L2
variable [Xk]
/-- an own error with an index, of the module -/
structure ExcI (G : Gm) (x : Str) : Prop where
  ex : ∃ C f fd, G.mg x = some (.ref C) ∧ OexC G.K C ∧ PySem.W.findIn G.K (.ref C) "__init__" = some (some (.ref f)) ∧ PySem.W.typeIn G.K (.ref f) = some (.type "function") ∧ FnOk G.P G.w G.K G.mg G.base C8.CX0 1 f fd ["self", "index"] (spX C) ∧ Binds G.K fd ["self", "index"] []
def ixOf : D → Option Int
  | .int i => if i = 0 ∨ i = 1 then some i else none
  | _ => none
theorem ixOf_some {d : D} {i : Int} (h : ixOf d = some i) : d = .int i ∧ (i = 0 ∨ i = 1) := by
  cases d with
  | int j =>
    replace h : (if j = 0 ∨ j = 1 then some j else none) = some i := h
    split at h
    · rename_i q; cases h; exact ⟨rfl, q⟩
    · cases h
  | _ => cases h
def sRaiseI (x : Str) (f : Ev → Mn D) (ev : Ev) : Ms := bnS (bnd (f ev) fun d => lft (ixOf d)) fun i rs => some (.exc x (some i), rs)
section
variable {G : Gm} {k : Nat} {sc : Sx} {N : List Str}
theorem s_raiseI {x : Str} {e : Expr} {p pos pos2 : Pos} {f : Ev → Mn D} (F : ExcI G x) (he : SE G k sc N e f) (hk : 2 ≤ k) (hg : glB sc x = true := by rfl) (hdb : (x == ("__debug__" : Str)) = false := by decide) (h1 : ∀ env, starEach [e] env = (false, eval e env) :: starEach [] env := by intro _; rfl) :
    SS G k sc N (.Raise (some (.Call (.Name x p) [e] [] pos)) none pos2) (sRaiseI x f) := fun X W g tk po => by
  obtain ⟨C, fI, fd, m1, T, i1, i2, F1, bd⟩ := F.ex
  have hr : Room (1 + 1) X.A := g.room.mono hk
  refine ps_imp (ps_raise g.calm tk (pmk_oex (CX := C8.CX0) (k := 1) (dvs := []) (ds := []) (by rw [g.hK]; exact T) (by rw [g.hK]; exact i1) (by rw [g.hK]; exact i2) (by rw [g.hP, g.hw, g.hK, g.hmg, g.hb]; exact F1) hr (by rw [g.hK]; exact bd) .nil C8.pass0 (gl_of g hg) (by rw [g.hmg]; exact m1) (pa_cons (he X W g tk) pa_nil (h1 _)) hdb (h1 _) (by rfl))) fun D σ H h => ?_
  obtain ⟨M, r, Pr, ev, rs, oa, R, o, rs', e0, w⟩ := h
  have key : ∀ {o1 : Out Int}, (bnd (f ev) fun d => lft (ixOf d)) rs = some (o1, rs') → (∀ i, o1 = .val i → WanS G.K G.mg M r Pr rs' W D (.exc x (some i))) → (∀ y j, o1 = .exc y j → WanS G.K G.mg M r Pr rs' W D (.exc y j)) →
      tMkO C (spX C) [] (tCons (tE G.K G.mg W f) tNil) σ H fun cls d H' => W cls d σ H' := fun {o1} hb cv cx => by
    rcases bnd_some hb with ⟨d, rs1, f1, f2⟩ | ⟨y, j, f1, rfl⟩
    · obtain ⟨i, q1, rfl, rfl⟩ := lft_some f2
      obtain ⟨rfl, hi⟩ := ixOf_some q1
      refine R.evE R.e (fun b m => .inl m) f1 (fun d' ed v H1 R1 s1 dv => ?_) fun _ _ ed => by cases ed
      cases ed
      cases dv
      refine ⟨by show 1 ≤ 1000; decide, fun a ha => ⟨a, i, rfl, hi, upd_same, fun dx hdx ndx => ⟨rfl, dx, _, upd_same, by rw [upd_ne ndx]; exact upd_same, by rw [upd_ne ndx] at hdx; exact hdx, ?_⟩⟩⟩
      rw [upd_ne ndx] at hdx
      have sm : Same H1 (upd (del (upd (upd (upd H1 a (exo a C none)) dx (exd dx [(("index" : Str), V.int i)])) a (exo a C (some dx))) a) dx (.xd [(("index" : Str), V.int i)])) := fun b o q => by
        have nb : b ≠ dx := ne_of_none q hdx
        have na : b ≠ a := ne_of_none q ha
        rw [upd_ne nb, del_ne na, upd_ne na, upd_ne nb, upd_ne na]
        exact q
      have R2 := R1.stp (M' := Av M ev oa) (.of_same sm) (row_same R1.e.row sm)
      exact cv i rfl (.ref C) (some dx) σ _ R2.prot (row_sub R2.e.row fun b m => .inl m) ⟨⟨C, m1, rfl⟩, dx, rfl, upd_same⟩
    · exact R.evE R.e (fun b m => .inl m) f1 (fun _ ed => by cases ed) fun y' j' ed => by cases ed; exact cx _ _ rfl
  rcases bnS_some e0 with ⟨i, rs1, e1, e2⟩ | ⟨y, j, e1, rfl⟩
  · cases e2
    exact key e1 (fun _ q => by cases q; exact w) fun _ _ q => by cases q
  · exact key e1 (fun _ q => by cases q) fun _ _ q => by cases q; exact w
end
end DL
noncomputable section
namespace HM
open PySem PySem.W PySem.Calls PyProof.Rows HandSHeadRun DL L2 LamX NdefX
def ex7B (x : Str) (K : PySem.W.Frag) : Bool := exB x K && (L2.xfB K (He.ga K x) && He.eqO (PySem.W.findIn K (.ref (He.ga K x)) "index") (some none))
def Cs7 (K : PySem.W.Frag) (i : Nat) : Addr := He.ga K (nm7.getD i "")
def kt7 (K : PySem.W.Frag) : Bool := (List.range 7).all fun i => (List.range 7).all fun j => decide (PySem.W.kitOne K (.ref (Cs7 K i)) (.ref (Cs7 K j)) = some (i == j))
def wrL7 : List (PySem.W.Frag → Bool) := [qeB, ex7B "BadTable", ex7B "BadExpression", ex7B "BadSemantics", ex7B "BadFilter", ex7B "BadCase", ex7B "BadIdentity", ex7B "BadArguments", kt7]
theorem wr7_of {P : Program} {w : World} {K : PySem.W.Frag} {h base : Heap} {mg : Str → Option Value} (X : K.In h) (Gn : h.Ns mainGlobals mg) (at_ : ∀ f ∈ wrL7, f K = true) : Wr7 ⟨P, w, K, mg, base⟩ (He.ga K "QueryError") (Cs7 K) := by
  have q : qeB K = true := at_ _ (by simp [wrL7])
  have k : kt7 K = true := at_ _ (by simp [wrL7])
  have ex : ∀ i, i < 7 → ex7B (nm7.getD i "") K = true := fun i hi => by
    match i, hi with
    | 0, _ => exact at_ _ (by simp [wrL7])
    | 1, _ => exact at_ _ (by simp [wrL7])
    | 2, _ => exact at_ _ (by simp [wrL7])
    | 3, _ => exact at_ _ (by simp [wrL7])
    | 4, _ => exact at_ _ (by simp [wrL7])
    | 5, _ => exact at_ _ (by simp [wrL7])
    | 6, _ => exact at_ _ (by simp [wrL7])
    | i + 7, hi => omega
  have e1 : ∀ i, i < 7 → exB (nm7.getD i "") K = true := fun i hi => (Bool.and_eq_true_iff.mp (ex i hi)).1
  have e2 : ∀ i, i < 7 → L2.xfB K (Cs7 K i) = true ∧ He.eqO (PySem.W.findIn K (.ref (Cs7 K i)) "index") (some none) = true := fun i hi => Bool.and_eq_true_iff.mp (Bool.and_eq_true_iff.mp (ex i hi)).2
  refine ⟨qe_mg X Gn q, fun i n hn => ?_, fun i hi => ex_exm q (e1 i hi), fun i hi => (ex_all (e1 i hi)).2.2, fun i hi => L2.xfB_ok (e2 i hi).1, fun i hi => He.eqO_ok (e2 i hi).2, fun i j hi hj => ?_⟩
  · have hi : i < 7 := (List.getElem?_eq_some_iff.mp hn).1
    have en : nm7.getD i "" = n := by
      rw [List.getD_eq_getElem?_getD, hn]
      rfl
    have z := ex_mg X Gn (e1 i hi)
    unfold Cs7
    rw [en] at z ⊢
    exact z
  · unfold kt7 at k
    exact of_decide_eq_true (List.all_eq_true.mp (List.all_eq_true.mp k i (List.mem_range.mpr hi)) j (List.mem_range.mpr hj))
def argsI : Arguments → Bool
  | ⟨[], [⟨a, _, _⟩, ⟨b, _, _⟩], none, [], [], none, []⟩ => decide (a = ("self" : Str)) && decide (b = ("index" : Str))
  | _ => false
def lenI (s1 s2 : Str) : Bool := (List.range 2).all fun i => decide ((Str.empty ++ s1).length ≤ sizeLine) && (decide ((Str.empty ++ s1 ++ Str.ofString (toString (i : Int))).length ≤ sizeLine) && decide ((Str.empty ++ s1 ++ Str.ofString (toString (i : Int)) ++ s2).length ≤ sizeLine))
def bodyI : List Stmt → Bool
  | [.Expr (.Call (.Attribute (.Call (.Name a _) [] [] _) b p3) [.JoinedStr [.Constant (.str s1) _ _, .FormattedValue (.Name c _) k none _, .Constant (.str s2) _ _] _] [] p9) _, .Assign [.Attribute (.Name d _) e _] (.Name f _) _] =>
    decide (a = ("super" : Str)) && (decide (b = ("__init__" : Str)) && (decide (c = ("index" : Str)) && (decide (d = ("self" : Str)) && (decide (e = ("index" : Str)) && (decide (f = ("index" : Str)) && (decide (k = -1) && ((p3.endLine == p9.line) && lenI s1 s2)))))))
  | _ => false
abbrev NI : List Str := ["self", "index", "__class__"]
def scI (sc : Scope) : Bool := nscB NI ["self", "index"] ["__class__"] sc && (decide (sc.names.lookup ("super" : Str) = some .globalImplicit) && decide (sc.names.lookup ("__class__" : Str) = some .free))
def fileI (P : Program) (K : PySem.W.Frag) (cda : Addr) : Bool := match K.lookup cda with
  | some ⟨_, _, .fields vs, _⟩ => (match (vs[2]? : Option Value) with
    | some (.str file _) => (P.main.file : Str) == file
    | _ => false)
  | _ => false
def cellI (K : PySem.W.Frag) (C cc : Addr) : Bool := match K.lookup cc with
  | some ⟨_, _, .cell (some (.ref D)), _⟩ => decide (D = C)
  | _ => false
def fnI (P : Program) (K : PySem.W.Frag) (q : Str) (C : Addr) (fd : FuncData) : Bool := match fd with
  | ⟨n1, n2, n3, .stmts n4, n5, n6, [(y, cc)], .none, _, _, _, _, .ref cda, _, n15⟩ => decide (n1 = ("__init__" : Str)) && (decide (n2 = q) && (argsI n3 && (bodyI n4 && (scI n5 && (decide (n6 = mainGlobals) && (decide (n15 = builtinsNs) && (decide (y = ("__class__" : Str)) && (PySem.W.codeIn K (.ref cda) q && (fileI P K cda && cellI K C cc)))))))))
  | _ => false
def oexI (K : PySem.W.Frag) (C : Addr) : Bool := match K.lookup C with
  | some ⟨.type "type", _, .cls cd, sl⟩ => (match cd.mro, sl.toList with
    | .ref C' :: bm, [_, _, _, _, some (.builtin n), _] => C' == C && (n == "ValueError.__new__" && (!cd.hasDel && (cd.hasDict && PySem.HandSPX.refsVE bm)))
    | _, _ => false)
  | _ => false
def supB (P : Program) (x q : Str) (K : PySem.W.Frag) : Bool := (He.Fa.glo x).ok K && (oexI K (He.ga K x) && (He.eqO (PySem.W.findIn K (.ref (He.ga K x)) "__setattr__") (some (some (.builtin "object.__setattr__"))) && (decide (PySem.W.subIn K (.ref (He.ga K x)) (.type "BaseException") = some true) &&
  (decide (PySem.W.typeIn K (.ref (He.ga K x)) = some (.type "type")) && (PySem.W.keepIn K (.ref (He.ga K x)) && (He.eqO (PySem.W.findIn K (.ref (He.ga K x)) "__init__") (some (some (.ref (He.ma K (He.ga K x) "__init__")))) && (decide (PySem.W.typeIn K (.ref (He.ma K (He.ga K x) "__init__")) = some (.type "function")) &&
  (He.eqO (PySem.W.findIn K (.ref (He.ga K x)) "index") (some none) && (decide (PySem.W.mroIn K (He.ga K x) (.ref (He.ga K x)) = some true) && ((He.Fa.free "super").ok K && (decide (PySem.W.ks_superIn K (He.ga K x) (He.ga K x) "__init__" = some (some (.builtin "ValueError.__init__"))) &&
  (decide (PySem.W.subIn K (.ref (He.ga K x)) (.type "ValueError") = some true) && (decide (PySem.W.nsIn K cStatics "thirdparty.any" = some none) && ((!(P.main.scope.names.lookup ("super" : Str)).isSome) && (match K.lookup (He.ma K (He.ga K x) "__init__") with
  | some ⟨_, _, .func fd, _⟩ => fnI P K q (He.ga K x) fd
  | _ => false)))))))))))))))
theorem oexI_ok {K : PySem.W.Frag} {C : Addr} (q : oexI K C = true) : ∃ nm qn N bs bm sn sub ab col dd k0 k1 k2 k3 k5, K.lookup C = some (excClassObj nm qn C N bs bm true sn sub ab col dd k0 k1 k2 k3 k5 "ValueError.__new__") ∧ PySem.HandSPX.refsVE bm = true := by
  unfold oexI at q
  split at q
  · rename_i dd cd sl ho
    split at q
    · rename_i C' bm k0 k1 k2 k3 n k5 hm hs
      simp only [Bool.and_eq_true, beq_iff_eq, Bool.not_eq_true'] at q
      obtain ⟨rfl, rfl, hdel, hdi, ht⟩ := q
      obtain ⟨nm, bs, mro, ns, qn, hd, sn, sub, ab, col, del⟩ := cd
      dsimp only at hm hdel hdi
      subst hm hdel hdi
      have hsl : sl = #[k0, k1, k2, k3, some (.builtin "ValueError.__new__"), k5] := by
        obtain ⟨l⟩ := sl
        simp only at hs
        rw [hs]
      subst hsl
      exact ⟨nm, qn, ns, bs, bm, sn, sub, ab, col, dd, k0, k1, k2, k3, k5, ho, ht⟩
    · cases q
  · cases q
theorem argsI_ok {A : Arguments} (h : argsI A = true) : ∃ an p an2 p2, A = ⟨[], [⟨"self", an, p⟩, ⟨"index", an2, p2⟩], none, [], [], none, []⟩ := by
  unfold argsI at h
  split at h
  · obtain ⟨h1, h2⟩ := Bool.and_eq_true_iff.mp h
    exact ⟨_, _, _, _, by rw [of_decide_eq_true h1, of_decide_eq_true h2]⟩
  · cases h
theorem bodyI_ok {B : List Stmt} (h : bodyI B = true) : ∃ (s1 s2 : Str) (j1 j2 : Nat) (p1 p2 p3 p4 p5 p6 p7 p8 p9 p10 p11 p12 p13 p14 : Pos),
    B = [.Expr (.Call (.Attribute (.Call (.Name "super" p1) [] [] p2) "__init__" p3) [.JoinedStr [.Constant (.str s1) j1 p4, .FormattedValue (.Name "index" p5) (-1) none p6, .Constant (.str s2) j2 p7] p8] [] p9) p10, .Assign [.Attribute (.Name "self" p11) "index" p12] (.Name "index" p13) p14] ∧ (p3.endLine == p9.line) = true ∧ lenI s1 s2 = true := by
  unfold bodyI at h
  split at h
  · obtain ⟨h1, h⟩ := Bool.and_eq_true_iff.mp h
    obtain ⟨h2, h⟩ := Bool.and_eq_true_iff.mp h
    obtain ⟨h3, h⟩ := Bool.and_eq_true_iff.mp h
    obtain ⟨h4, h⟩ := Bool.and_eq_true_iff.mp h
    obtain ⟨h5, h⟩ := Bool.and_eq_true_iff.mp h
    obtain ⟨h6, h⟩ := Bool.and_eq_true_iff.mp h
    obtain ⟨h7, h⟩ := Bool.and_eq_true_iff.mp h
    obtain ⟨h8, h9⟩ := Bool.and_eq_true_iff.mp h
    have g1 := of_decide_eq_true h1
    have g2 := of_decide_eq_true h2
    have g3 := of_decide_eq_true h3
    have g4 := of_decide_eq_true h4
    have g5 := of_decide_eq_true h5
    have g6 := of_decide_eq_true h6
    have g7 := of_decide_eq_true h7
    subst g1 g2 g3 g4 g5 g6 g7
    exact ⟨_, _, _, _, _, _, _, _, _, _, _, _, _, _, _, _, _, _, rfl, h8, h9⟩
  · cases h
theorem lenI_ok {s1 s2 : Str} (h : lenI s1 s2 = true) : ∀ i : Int, (i = 0 ∨ i = 1) → (Str.empty ++ s1).length ≤ sizeLine ∧ (Str.empty ++ s1 ++ Str.ofString (toString i)).length ≤ sizeLine ∧ (Str.empty ++ s1 ++ Str.ofString (toString i) ++ s2).length ≤ sizeLine := fun i hi => by
  have q : ∀ j : Nat, j < 2 → (Str.empty ++ s1).length ≤ sizeLine ∧ (Str.empty ++ s1 ++ Str.ofString (toString (j : Int))).length ≤ sizeLine ∧ (Str.empty ++ s1 ++ Str.ofString (toString (j : Int)) ++ s2).length ≤ sizeLine := fun j hj => by
    have z := List.all_eq_true.mp h j (List.mem_range.mpr hj)
    obtain ⟨z1, z⟩ := Bool.and_eq_true_iff.mp z
    obtain ⟨z2, z3⟩ := Bool.and_eq_true_iff.mp z
    exact ⟨of_decide_eq_true z1, of_decide_eq_true z2, of_decide_eq_true z3⟩
  rcases hi with rfl | rfl
  · exact q 0 (by decide)
  · exact q 1 (by decide)
theorem exI_of {P : Program} {w : World} {K : PySem.W.Frag} {h base : Heap} {mg : Str → Option Value} {x q : Str} (X : K.In h) (Gn : h.Ns mainGlobals mg) (c : supB P x q K = true) : ExcI ⟨P, w, K, mg, base⟩ x := by
  unfold supB at c
  obtain ⟨c1, c⟩ := Bool.and_eq_true_iff.mp c
  obtain ⟨c2, c⟩ := Bool.and_eq_true_iff.mp c
  obtain ⟨c3, c⟩ := Bool.and_eq_true_iff.mp c
  obtain ⟨c4, c⟩ := Bool.and_eq_true_iff.mp c
  obtain ⟨c5, c⟩ := Bool.and_eq_true_iff.mp c
  obtain ⟨c6, c⟩ := Bool.and_eq_true_iff.mp c
  obtain ⟨c7, c⟩ := Bool.and_eq_true_iff.mp c
  obtain ⟨c8, c⟩ := Bool.and_eq_true_iff.mp c
  obtain ⟨c9, c⟩ := Bool.and_eq_true_iff.mp c
  obtain ⟨c10, c⟩ := Bool.and_eq_true_iff.mp c
  obtain ⟨c11, c⟩ := Bool.and_eq_true_iff.mp c
  obtain ⟨c12, c⟩ := Bool.and_eq_true_iff.mp c
  obtain ⟨c13, c⟩ := Bool.and_eq_true_iff.mp c
  obtain ⟨c14, c⟩ := Bool.and_eq_true_iff.mp c
  obtain ⟨c15, c16⟩ := Bool.and_eq_true_iff.mp c
  have OE : OexC K (He.ga K x) := ⟨oexI_ok c2, He.eqO_ok c3, of_decide_eq_true c4, of_decide_eq_true c5, c6⟩
  cases e : K.lookup (He.ma K (He.ga K x) "__init__") with
  | none => rw [e] at c16; cases c16
  | some o =>
    obtain ⟨oc, od, dt, osl⟩ := o
    rw [e] at c16
    cases dt with
    | func fd =>
      replace c16 : fnI P K q (He.ga K x) fd = true := c16
      unfold fnI at c16
      split at c16
      · rename_i n1 n2 n3 n4 n5 n6 y cc n9 n10 n11 n12 cda n14 n15
        obtain ⟨f1, c⟩ := Bool.and_eq_true_iff.mp c16
        obtain ⟨f2, c⟩ := Bool.and_eq_true_iff.mp c
        obtain ⟨f3, c⟩ := Bool.and_eq_true_iff.mp c
        obtain ⟨f4, c⟩ := Bool.and_eq_true_iff.mp c
        obtain ⟨f5, c⟩ := Bool.and_eq_true_iff.mp c
        obtain ⟨f6, c⟩ := Bool.and_eq_true_iff.mp c
        obtain ⟨f7, c⟩ := Bool.and_eq_true_iff.mp c
        obtain ⟨f8, c⟩ := Bool.and_eq_true_iff.mp c
        obtain ⟨f9, c⟩ := Bool.and_eq_true_iff.mp c
        obtain ⟨f10, f11⟩ := Bool.and_eq_true_iff.mp c
        obtain ⟨an, pa, an2, pa2, ea⟩ := argsI_ok f3
        obtain ⟨s1, s2, j1, j2, p1, p2, p3, p4, p5, p6, p7, p8, p9, p10, p11, p12, p13, p14, eb, hl, hz⟩ := bodyI_ok f4
        obtain ⟨g5, g5'⟩ := Bool.and_eq_true_iff.mp f5
        obtain ⟨g5a, g5b⟩ := Bool.and_eq_true_iff.mp g5'
        have g1 := of_decide_eq_true f1
        have g2 := (of_decide_eq_true f2).symm
        have g6 := of_decide_eq_true f6
        have g7 := of_decide_eq_true f7
        have g8 := of_decide_eq_true f8
        subst g1 g2 g6 g7 g8 ea
        obtain ⟨st, est⟩ : ∃ st : Stmt, st = .FunctionDef "__init__" ⟨[], [⟨"self", an, pa⟩, ⟨"index", an2, pa2⟩], none, [], [], none, []⟩ n4 [] none [] n5 none "__init__" ⟨0, 0, 0, 0⟩ := ⟨_, rfl⟩
        have hA : defArgs st = ⟨[], [⟨"self", an, pa⟩, ⟨"index", an2, pa2⟩], none, [], [], none, []⟩ := by rw [est]; rfl
        have hB : defBody st = n4 := by rw [est]; rfl
        have hS : defScope st = n5 := by rw [est]; rfl
        have fi : ∃ (o1 : Value) (o2 : Option Addr) (vs : Array Value) (o4 : Array (Option Value)) (file : Str) (tf : Tok), K.lookup cda = some ⟨o1, o2, .fields vs, o4⟩ ∧ vs[2]? = some (.str file tf) ∧ ((P.main.file : Str) == file) = true := by
          unfold fileI at f10
          split at f10
          · rename_i e1
            split at f10
            · rename_i e2
              exact ⟨_, _, _, _, _, _, e1, e2, f10⟩
            · cases f10
          · cases f10
        have ce : ∃ (o1 : Value) (o2 : Option Addr) (o4 : Array (Option Value)), K.lookup cc = some ⟨o1, o2, .cell (some (.ref (He.ga K x))), o4⟩ := by
          unfold cellI at f11
          split at f11
          · rename_i e1
            exact ⟨_, _, _, by rw [e1, of_decide_eq_true f11]⟩
          · cases f11
        have T : SupC P K mg (He.ga K x) (He.ma K (He.ga K x) "__init__") cc cda q st (PySem.W.fnX "__init__" q (defArgs st) (defBody st) (defScope st) [(("__class__" : Str), cc)] .none n9 n10 n11 n12 (.ref cda) n14) :=
          ⟨OE, He.eqO_ok c7, of_decide_eq_true c8, He.eqO_ok c9, ⟨oc, od, osl, n9, n10, n11, n14, n12, rfl, by rw [hA, hB, hS]; exact e⟩, f9, fi, ce, of_decide_eq_true c10, He.free_ok X Gn c11, of_decide_eq_true c12, of_decide_eq_true c13, of_decide_eq_true c14, by simpa using c15⟩
        have F := sup_ok (G := ⟨P, w, K, mg, base⟩) (CX := C8.CX0) (k := 0) (N := NI) (s1 := s1) (s2 := s2) T (by rw [hS]; exact nscope_by g5) (by rw [hS]; exact of_decide_eq_true g5a) (by rw [hS]; exact of_decide_eq_true g5b) rfl rfl (by rw [hA]; rfl) rfl (by rw [hB]; exact eb) hl (lenI_ok hz)
        refine ⟨He.ga K x, _, _, He.glo_ok X Gn c1, OE, He.eqO_ok c7, of_decide_eq_true c8, F, ?_⟩
        exact .all fun us hl => by
          rw [hA]
          match us, hl with
          | [_, _], _ => rfl
      · cases c16
    | _ => cases c16
end HM
set_option maxHeartbeats 0
noncomputable section
namespace K09
open PySem PySem.W PySem.Calls PyProof.Rows HandSHeadRun HM DL
open L2 (defArgs defBody defScope)
abbrev RW : OpenRow := OpenLaw.row PySem.Challenge.rw_queryheld_k09_whole_refused
def fstS : Stmt := RW.prog.main.body.getD 31 (.Pass ⟨0, 0, 0, 0⟩)
def keysOf : Stmt → List (Option PySem.Expr)
  | .Assign _ (.Dict ks _ _) _ => ks
  | _ => []
def valsOf : Stmt → List PySem.Expr
  | .Assign _ (.Dict _ vs _) _ => vs
  | _ => []
def tgOf : Stmt → PySem.Expr
  | .Assign [t] _ _ => t
  | _ => .Constant .none 0 ⟨0, 0, 0, 0⟩
def posOf : Stmt → Pos
  | .Assign _ _ p => p
  | _ => ⟨0, 0, 0, 0⟩
def pos2Of : Stmt → Pos
  | .Assign _ (.Dict _ _ p) _ => p
  | _ => ⟨0, 0, 0, 0⟩
def l1 : List Stmt := RW.prog.main.body.take 31
def l2 : List Stmt := RW.prog.main.body.drop 32
def lse0 : List Str := ["QueryError", "BadSemantics", "BadTable", "BadFilter", "BadRow", "BadExpression", "BadCase", "BadIdentity", "BadArguments", "WORDS", "DUPLICATES", "UNION", "DIFFERENCE", "NULLS", "EMPTY", "GREATEST_VALUE", "ROW_LENGTH", "MOST_ROWS", "is_semantics", "check_semantics", "is_integer_to", "is_row", "_is_value_under", "value_order", "row_order"]
def lse1 : List Str := ["is_table", "_is_ascending", "check_tables", "FORMS", "GREATEST", "tuples_of", "_has_form", "_fits", "_inner_tuples", "CONNECTIVES", "MOST_TUPLES_filters", "is_filter", "check_filter", "truth", "truth_of", "_comparison", "connected", "_negation", "_conjunction", "_disjunction", "combined_count", "_count_with_repeats", "in_order", "each_once", "_counts"]
def lse2 : List Str := ["_result", "_combined", "union_of", "intersection_of", "difference_of", "selection_of", "projection_of", "pairs_of", "_match", "_surely_differ", "_has_partner", "join_of", "semijoin_of", "antijoin_of", "not_in_of", "total_of", "OPERATIONS", "union", "intersection", "difference", "select", "project", "join", "semijoin", "antijoin"]
def lse3 : List Str := ["not_in", "distinct", "total", "SIDES", "TABLE_NAMES", "FILTER_NAMES", "identities", "is_identity", "check_identity", "shape", "_names_of", "_names_in", "holds_for", "_are_arguments", "_is_argument", "_value_of", "_applied", "_plus", "HOLDS_WITH", "ROWS", "FILTER", "BROKEN_BY", "holds", "counterexample", "_broken_by"]
def lse4 : List Str := ["_argument", "MOST_LEAVES", "MOST_TUPLES_expressions", "GREATEST_COUNT", "CASE_LENGTH", "is_expression", "_leaves_among", "_check_expressions", "evaluate", "count_at", "_is_case", "_is_truth", "_count_of", "_condition_truth", "equal_for_all", "least_difference", "_greatest_needed", "_cases", "profile", "NULL", "NO_ROW", "value_text", "write_table", "write_filter", "_text_of"]
def lse5 : List Str := ["_law_taken", "_law_pick", "_law_semantics", "_law_rank", "_law_sorted", "_law_value", "_law_table", "_law_filter", "_law_condition", "_law_expression", "_law_tuples", "_law_tree", "_law_wrong", "_law_bad_table"]
def lse : List Str := lse0 ++ (lse1 ++ (lse2 ++ (lse3 ++ (lse4 ++ (lse5)))))
def fcsA_0 : List Fc := [.no "all", .no "any", .no "bool", .no "dict", .no "enumerate", .no "int", .no "isinstance", .no "len", .no "list", .no "range", .no "sorted", .no "str", .no "sum", .no "tuple", .no "zip", .con "CASE_LENGTH" PW.c_CASE_LENGTH, .con "DUPLICATES" PW.c_DUPLICATES, .con "GREATEST_COUNT" PW.c_GREATEST_COUNT, .con "GREATEST_VALUE" PW.c_GREATEST_VALUE, .con "MOST_LEAVES" PW.c_MOST_LEAVES, .con "MOST_ROWS" PW.c_MOST_ROWS, .con "MOST_TUPLES_expressions" PW.c_MOST_TUPLES_expressions, .con "MOST_TUPLES_filters" PW.c_MOST_TUPLES_filters, .con "NO_ROW" PT.c_NO_ROW, .con "NULLS" PW.c_NULLS]
def fcsA_1 : List Fc := [.con "ROW_LENGTH" PW.c_ROW_LENGTH, .con "TABLE_NAMES" PW.c_TABLE_NAMES, .con "WORDS" PW.c_WORDS, .ex "BadArguments", .ex "BadCase", .ex "BadFilter", .ex "BadIdentity", .ex "BadRow", .ex "BadSemantics", .fn "is_semantics", .fn "check_semantics", .fn "is_integer_to", .fn "is_row", .fn "_is_value_under", .fn "value_order", .fn "row_order", .fn "is_table", .fn "_is_ascending", .fn "check_tables", .fn "tuples_of", .fn "_has_form", .fn "_fits", .fn "_inner_tuples", .fn "is_filter", .fn "check_filter"]
def fcsA_2 : List Fc := [.fn "truth", .fn "truth_of", .fn "each_once", .fn "union_of", .fn "intersection_of", .fn "difference_of", .fn "selection_of", .fn "projection_of", .fn "join_of"]
def fcsA_ : List Fc := fcsA_0 ++ (fcsA_1 ++ (fcsA_2))
def fcsB_0 : List Fc := [.fn "semijoin_of", .fn "antijoin_of", .fn "not_in_of", .fn "total_of", .fn "union", .fn "intersection", .fn "difference", .fn "select", .fn "project", .fn "join", .fn "semijoin", .fn "antijoin", .fn "not_in", .fn "distinct", .fn "total", .fn "identities", .fn "is_identity", .fn "check_identity", .fn "shape", .fn "_names_of", .fn "holds_for", .fn "_are_arguments", .fn "_value_of", .fn "holds", .fn "counterexample"]
def fcsB_1 : List Fc := [.fn "_broken_by", .fn "_argument", .fn "is_expression", .fn "_leaves_among", .fn "_check_expressions", .fn "evaluate", .fn "count_at", .fn "_is_case", .fn "_is_truth", .fn "_count_of", .fn "equal_for_all", .fn "least_difference", .fn "_greatest_needed", .fn "_cases", .fn "profile", .fn "value_text", .fn "write_table", .fn "write_filter", .fn "_text_of", .fn "_law_taken", .fn "_law_pick", .fn "_law_semantics", .fn "_law_rank", .fn "_law_sorted", .fn "_law_value"]
def fcsB_2 : List Fc := [.fn "_law_table", .fn "_law_filter", .fn "_law_condition", .fn "_law_expression", .fn "_law_tuples", .fn "_law_tree", .fn "_law_wrong", .fn "_law_bad_table", .fn "law"]
def fcsB_ : List Fc := fcsB_0 ++ (fcsB_1 ++ (fcsB_2))
def moreL : List (PySem.W.Frag → Bool) := HM.wrL7 ++ [HM.supB RW.prog "BadExpression" "BadExpression.__init__", HM.supB RW.prog "BadTable" "BadTable.__init__"]
def fdsA_0 : List He.FnD := [fnd "is_semantics" st_is_semantics, fnd "check_semantics" st_check_semantics, fnd "is_integer_to" st_is_integer_to, fnd "is_row" st_is_row, fnd "_is_value_under" st__is_value_under, fnd "value_order" st_value_order, fnd "row_order" st_row_order, fnd "is_table" st_is_table, fnd "_is_ascending" st__is_ascending, fnd "check_tables" st_check_tables, fnd "tuples_of" st_tuples_of, fnd "_has_form" st__has_form, fnd "_fits" st__fits, fnd "_inner_tuples" st__inner_tuples, fnd "is_filter" st_is_filter, fnd "check_filter" st_check_filter, fnd "truth" st_truth, fnd "truth_of" st_truth_of, fnd "each_once" st_each_once, fnd "union_of" st_union_of, fnd "intersection_of" st_intersection_of, fnd "difference_of" st_difference_of, fnd "selection_of" st_selection_of, fnd "projection_of" st_projection_of, fnd "join_of" st_join_of]
def fdsA_1 : List He.FnD := [fnd "semijoin_of" st_semijoin_of, fnd "antijoin_of" st_antijoin_of, fnd "not_in_of" st_not_in_of, fnd "total_of" st_total_of, fnd "union" st_union, fnd "intersection" st_intersection, fnd "difference" st_difference, fnd "select" st_select, fnd "project" st_project, fnd "join" st_join, fnd "semijoin" st_semijoin, fnd "antijoin" st_antijoin, fnd "not_in" st_not_in, fnd "distinct" st_distinct, fnd "total" st_total, fnd "identities" st_identities, fnd "is_identity" st_is_identity, fnd "check_identity" st_check_identity, fnd "shape" st_shape, fnd "_names_of" st__names_of, fnd "holds_for" st_holds_for, fnd "_are_arguments" st__are_arguments, fnd "_value_of" st__value_of, fnd "holds" st_holds, fnd "counterexample" st_counterexample]
def fdsA_2 : List He.FnD := [fnd "_broken_by" st__broken_by, fnd "_argument" st__argument, fnd "is_expression" st_is_expression, fnd "_leaves_among" st__leaves_among, fnd "_check_expressions" st__check_expressions, fnd "evaluate" st_evaluate, fnd "count_at" st_count_at, fnd "_is_case" st__is_case, fnd "_is_truth" st__is_truth, fnd "_count_of" st__count_of, fnd "equal_for_all" st_equal_for_all, fnd "least_difference" st_least_difference, fnd "_greatest_needed" st__greatest_needed, fnd "_cases" st__cases, fnd "profile" st_profile, fnd "value_text" st_value_text, fnd "write_table" st_write_table, fnd "write_filter" st_write_filter, fnd "_text_of" st__text_of, fnd "_law_taken" st__law_taken, fnd "_law_pick" st__law_pick, fnd "_law_semantics" st__law_semantics, fnd "_law_rank" st__law_rank, fnd "_law_sorted" st__law_sorted, fnd "_law_value" st__law_value]
def fdsA_3 : List He.FnD := [fnd "_law_table" st__law_table, fnd "_law_filter" st__law_filter, fnd "_law_condition" st__law_condition, fnd "_law_expression" st__law_expression, fnd "_law_tuples" st__law_tuples, fnd "_law_tree" st__law_tree, fnd "_law_wrong" st__law_wrong, fnd "_law_bad_table" st__law_bad_table, fnd "law" st_law]
def fdsA_ : List He.FnD := fdsA_0 ++ (fdsA_1 ++ (fdsA_2 ++ (fdsA_3)))
def sp2 : Spec1 := ⟨[], [], [("GREATEST", PW.k_GREATEST), ("HOLDS_WITH", PW.k_HOLDS_WITH), ("SIDES", PW.k_SIDES)], [("FORMS", PW.t_FORMS)], []⟩
def sp0 : Spec1 := catP fcsA_ [] [] [] (catP fcsB_ [] [] [] (catP [] fdsA_ [] [] sp2))
def sp1 : SpecL := ⟨sp0, "law", moreL⟩
def qv : Program := view RW.prog [151]
abbrev Mn1 (w : World) : Prop := MainL RW qv lse sp1 11 6000 l1 l2 (tgOf fstS) (keysOf fstS) (valsOf fstS) (pos2Of fstS) w
abbrev Dc1 (w : World) : Prop := DictP RW 6000 l1 l2 (tgOf fstS) (keysOf fstS) (valsOf fstS) (pos2Of fstS) w
theorem e_h5 : PySem.Challenge.rw_queryheld_k09_whole_refused.row.wellSaid = true := by decide +kernel
theorem size_w (w : World) : (boot_heap w.params).objs.size = 11 := by kernel_rfl
theorem se_f (w : World) : SeP RW qv lse 11 6000 l1 l2 (tgOf fstS) (keysOf fstS) (valsOf fstS) (pos2Of fstS) (w.withFollow "special-get-raises" false) := by intro os pX; kernel_rfl
theorem ob_f0 (w : World) : ObL RW ⟨⟨fcsA_, [], [], [], []⟩, "law", []⟩ 11 6000 l1 l2 (tgOf fstS) (keysOf fstS) (valsOf fstS) (pos2Of fstS) (w.withFollow "special-get-raises" false) := by intro os pX; kernel_rfl
theorem ob_f1 (w : World) : ObL RW ⟨⟨fcsB_, [], [], [], []⟩, "law", []⟩ 11 6000 l1 l2 (tgOf fstS) (keysOf fstS) (valsOf fstS) (pos2Of fstS) (w.withFollow "special-get-raises" false) := by intro os pX; kernel_rfl
theorem ob_f2 (w : World) : ObL RW ⟨⟨[], fdsA_, [], [], []⟩, "law", []⟩ 11 6000 l1 l2 (tgOf fstS) (keysOf fstS) (valsOf fstS) (pos2Of fstS) (w.withFollow "special-get-raises" false) := by intro os pX; kernel_rfl
theorem ob_f3 (w : World) : ObL RW ⟨sp2, "law", moreL⟩ 11 6000 l1 l2 (tgOf fstS) (keysOf fstS) (valsOf fstS) (pos2Of fstS) (w.withFollow "special-get-raises" false) := by intro os pX; kernel_rfl
theorem main_f (w : World) : Mn1 (w.withFollow "special-get-raises" false) := mainL_of (se_f w) (obL_cat (ob_f0 w) ( obL_cat (ob_f1 w) ( obL_cat (ob_f2 w) ( ob_f3 w))))
theorem dict_f (w : World) : Dc1 (w.withFollow "special-get-raises" false) := by intro os pX; kernel_rfl
theorem se_t (w : World) : SeP RW qv lse 11 6000 l1 l2 (tgOf fstS) (keysOf fstS) (valsOf fstS) (pos2Of fstS) (w.withFollow "special-get-raises" true) := by intro os pX; kernel_rfl
theorem ob_t0 (w : World) : ObL RW ⟨⟨fcsA_, [], [], [], []⟩, "law", []⟩ 11 6000 l1 l2 (tgOf fstS) (keysOf fstS) (valsOf fstS) (pos2Of fstS) (w.withFollow "special-get-raises" true) := by intro os pX; kernel_rfl
theorem ob_t1 (w : World) : ObL RW ⟨⟨fcsB_, [], [], [], []⟩, "law", []⟩ 11 6000 l1 l2 (tgOf fstS) (keysOf fstS) (valsOf fstS) (pos2Of fstS) (w.withFollow "special-get-raises" true) := by intro os pX; kernel_rfl
theorem ob_t2 (w : World) : ObL RW ⟨⟨[], fdsA_, [], [], []⟩, "law", []⟩ 11 6000 l1 l2 (tgOf fstS) (keysOf fstS) (valsOf fstS) (pos2Of fstS) (w.withFollow "special-get-raises" true) := by intro os pX; kernel_rfl
theorem ob_t3 (w : World) : ObL RW ⟨sp2, "law", moreL⟩ 11 6000 l1 l2 (tgOf fstS) (keysOf fstS) (valsOf fstS) (pos2Of fstS) (w.withFollow "special-get-raises" true) := by intro os pX; kernel_rfl
theorem main_t (w : World) : Mn1 (w.withFollow "special-get-raises" true) := mainL_of (se_t w) (obL_cat (ob_t0 w) ( obL_cat (ob_t1 w) ( obL_cat (ob_t2 w) ( ob_t3 w))))
theorem dict_t (w : World) : Dc1 (w.withFollow "special-get-raises" true) := by intro os pX; kernel_rfl
theorem main_w (w : World) : Mn1 w := byRow2 "special-get-raises" (P := Mn1) main_f main_t w
theorem dict_w (w : World) : Dc1 w := byRow2 "special-get-raises" (P := Dc1) dict_f dict_t w
end K09
end
namespace DL
open PySem PySem.Spec PyProof.Rows L2
section
end
end DL
namespace LW
open PySem PySem.Spec PyProof.Rows L2 DL
def d__law_pick (f__law_taken : List Slot → Mn D) : Ev → Ms :=
    pRet (dBin ixD (dVar 1) (dCl 2 f__law_taken (dRow 0 (dCons (dFn lenD (dCons (dVar 1) (dNil))) (dNil)))))
def d__law_semantics (f__law_pick : List Slot → Mn D) : Ev → Ms :=
    seqM (pPar 1 2 (dCons (dCl 2 f__law_pick (dRow 0 (dCons (dLst (dCons (dLit (.str "bag")) (dCons (dLit (.str "bag")) (dCons (dLit (.str "set")) (dNil))))) (dNil)))) (dCons (dCl 2 f__law_pick (dRow 0 (dCons (dLst (dCons (dLit (.str "maximum")) (dCons (dLit (.str "sum")) (dNil)))) (dNil)))) (dNil))))
    (seqM (pPar 3 4 (dCons (dCl 2 f__law_pick (dRow 0 (dCons (dLst (dCons (dLit (.str "count")) (dCons (dLit (.str "kind")) (dNil)))) (dNil)))) (dCons (dCl 2 f__law_pick (dRow 0 (dCons (dLst (dCons (dLit (.str "none")) (dCons (dLit (.str "unknown")) (dCons (dLit (.str "unknown")) (dCons (dLit (.str "value")) (dNil)))))) (dNil)))) (dNil))))
    (pRet (dTup (dCons (dVar 1) (dCons (dVar 2) (dCons (dVar 3) (dCons (dVar 4) (dCons (dCl 2 f__law_pick (dRow 0 (dCons (dLst (dCons (dLit (.str "null")) (dCons (dLit (.str "zero")) (dNil)))) (dNil)))) (dNil)))))))))
def d__law_rank  : Ev → Ms :=
    pRet (dComp [1] (dItm (dVar 0)) (.name 1) (dYes) (dIf (dCmp isD (dVar 1) (dLit .none)) (dLit (.int 0)) (dBin addD (dVar 1) (dLit (.int 1)))))
def d__law_sorted (f__law_rank : List Slot → Mn D) : Ev → Ms :=
    seqM (sOwn 1 (dNil))
    (seqM (sFor false (dItm (dFn sortedD (dCons (dComp [4, 3] (dRng enumD (dCons (dVar 0) (dNil))) (.tup [4, 3]) (dYes) (dTup (dCons (dCl 1 f__law_rank (dCons (dVar 3) (dNil))) (dCons (dVar 4) (dNil))))) (dNil)))) (.tup [2, 3]) (sApp 1 (dBin ixD (dVar 0) (dVar 3))))
    (sRet (dFn tupleD (dCons (dVar 1) (dNil)))))
def d__law_value (f__law_taken : List Slot → Mn D) (f__law_pick : List Slot → Mn D) : Ev → Ms :=
    seqM (pIf (dAnd (dCmp neD (dBin ixD (dVar 1) (dLit (.int 3))) (dLit (.str "none"))) (dCmp eqD (dCl 2 f__law_taken (dRow 0 (dCons (dLit (.int 4)) (dNil)))) (dLit (.int 0)))) (pRet (dLit .none)) (sNil))
    (pRet (dCl 2 f__law_pick (dRow 0 (dCons (dLst (dCons (dLit (.int 0)) (dCons (dLit (.int 0)) (dCons (dLit (.int 1)) (dCons (dLit (.int 1)) (dCons (dLit (.int 2)) (dCons (dCl 2 f__law_taken (dRow 0 (dCons (dLit (.int 10)) (dNil)))) (dNil)))))))) (dNil)))))
def d__law_table (f__law_taken : List Slot → Mn D) (f__law_pick : List Slot → Mn D) (f__law_value : List Slot → Mn D) (f__law_sorted : List Slot → Mn D) : Ev → Ms :=
    seqM (sOwn 3 (dNil))
    (seqM (sFor false (dRng rng1 (dCons (dCl 2 f__law_taken (dRow 0 (dCons (dBin addD (dVar 2) (dLit (.int 1))) (dNil)))) (dNil))) (.name 4) (seqM (sSet 5 (dIf (dAnd (dCmp neD (dVar 3) (dLst (dNil))) (dCmp eqD (dCl 2 f__law_taken (dRow 0 (dCons (dLit (.int 3)) (dNil)))) (dLit (.int 0)))) (dCl 2 f__law_pick (dRow 0 (dCons (dVar 3) (dNil)))) (dTup (dCons (dCl 2 f__law_value (dRow 0 (dCons (dVar 1) (dNil)))) (dCons (dCl 2 f__law_value (dRow 0 (dCons (dVar 1) (dNil)))) (dNil))))))
    (sIf (dOr (dCmp eqD (dBin ixD (dVar 1) (dLit (.int 0))) (dLit (.str "bag"))) (dCmp ninD (dVar 5) (dVar 3))) (sApp 3 (dVar 5)) (sNil))))
    (sRet (dCl 1 f__law_sorted (dCons (dVar 3) (dNil)))))
def d__law_filter (f__law_taken : List Slot → Mn D) (f__law_pick : List Slot → Mn D) (f__law_filter : List Slot → Mn D) : Ev → Ms :=
    seqM (pSet 2 (dCl 2 f__law_taken (dRow 0 (dCons (dBin addD (dLit (.int 5)) (dBin mulxD (dLit (.int 3)) (dFn intD (dCons (dCmpE gtD (dVar 1) (dLit (.int 0))) (dNil))))) (dNil)))))
    (seqM (pIf (dCmp ltD (dVar 2) (dLit (.int 4))) (seqM (pSet 3 (dCl 2 f__law_pick (dRow 0 (dCons (dLst (dCons (dLit (.str "less")) (dCons (dLit (.str "equal")) (dNil)))) (dNil)))))
    (pRet (dBin ixD (dLst (dCons (dTup (dCons (dVar 3) (dCons (dCl 2 f__law_taken (dRow 0 (dCons (dLit (.int 2)) (dNil)))) (dCons (dCl 2 f__law_taken (dRow 0 (dCons (dLit (.int 4)) (dNil)))) (dNil))))) (dCons (dTup (dCons (dVar 3) (dCons (dCl 2 f__law_taken (dRow 0 (dCons (dLit (.int 2)) (dNil)))) (dCons (dLit (.int 1)) (dNil))))) (dCons (dTup (dCons (dLit (.str "same")) (dNil))) (dCons (dTup (dCons (dLit (.str "null")) (dCons (dCl 2 f__law_taken (dRow 0 (dCons (dLit (.int 2)) (dNil)))) (dNil)))) (dNil)))))) (dVar 2)))) (sNil))
    (seqM (pIf (dCmp eqD (dVar 2) (dLit (.int 4))) (pRet (dTup (dCons (dLit (.str "less")) (dCons (dLit (.int 0)) (dCons (dLit (.int 1)) (dNil)))))) (sNil))
    (seqM (pIf (dCmp eqD (dVar 2) (dLit (.int 5))) (pRet (dTup (dCons (dLit (.str "not")) (dCons (dCl 2 f__law_filter (dRow 0 (dCons (dBin subD (dVar 1) (dLit (.int 1))) (dNil)))) (dNil))))) (sNil))
    (pRet (dTup (dCons (dCl 2 f__law_pick (dRow 0 (dCons (dLst (dCons (dLit (.str "and")) (dCons (dLit (.str "or")) (dNil)))) (dNil)))) (dCons (dCl 2 f__law_filter (dRow 0 (dCons (dBin subD (dVar 1) (dLit (.int 1))) (dNil)))) (dCons (dCl 2 f__law_filter (dRow 0 (dCons (dBin subD (dVar 1) (dLit (.int 1))) (dNil)))) (dNil)))))))))
def d__law_condition (f__law_taken : List Slot → Mn D) (f__law_pick : List Slot → Mn D) (f__law_condition : List Slot → Mn D) : Ev → Ms :=
    seqM (pSet 2 (dCl 2 f__law_taken (dRow 0 (dCons (dBin addD (dLit (.int 3)) (dBin mulxD (dLit (.int 3)) (dFn intD (dCons (dCmpE gtD (dVar 1) (dLit (.int 0))) (dNil))))) (dNil)))))
    (seqM (pIf (dCmp ltD (dVar 2) (dLit (.int 3))) (pRet (dCl 2 f__law_pick (dRow 0 (dCons (dLst (dCons (dTup (dCons (dLit (.str "p")) (dNil))) (dCons (dTup (dCons (dLit (.str "p")) (dNil))) (dCons (dTup (dCons (dLit (.str "q")) (dNil))) (dNil))))) (dNil))))) (sNil))
    (seqM (pIf (dCmp eqD (dVar 2) (dLit (.int 3))) (pRet (dTup (dCons (dLit (.str "not")) (dCons (dCl 2 f__law_condition (dRow 0 (dCons (dBin subD (dVar 1) (dLit (.int 1))) (dNil)))) (dNil))))) (sNil))
    (pRet (dTup (dCons (dCl 2 f__law_pick (dRow 0 (dCons (dLst (dCons (dLit (.str "and")) (dCons (dLit (.str "or")) (dNil)))) (dNil)))) (dCons (dCl 2 f__law_condition (dRow 0 (dCons (dBin subD (dVar 1) (dLit (.int 1))) (dNil)))) (dCons (dCl 2 f__law_condition (dRow 0 (dCons (dBin subD (dVar 1) (dLit (.int 1))) (dNil)))) (dNil))))))))
def d__law_expression (f__law_taken : List Slot → Mn D) (f__law_condition : List Slot → Mn D) (f__law_pick : List Slot → Mn D) (f__law_expression : List Slot → Mn D) : Ev → Ms :=
    seqM (pIf (dOr (dCmp ltD (dVar 1) (dLit (.int 2))) (dCmp eqD (dCl 2 f__law_taken (dRow 0 (dCons (dLit (.int 7)) (dNil)))) (dLit (.int 0)))) (pRet (dIf (dCmp gtD (dCl 2 f__law_taken (dRow 0 (dCons (dLit (.int 3)) (dNil)))) (dLit (.int 0))) (dTup (dCons (dLit (.str "table")) (dCons (dCl 2 f__law_taken (dRow 0 (dCons (dLit (.int 2)) (dNil)))) (dNil)))) (dTup (dCons (dLit (.str "filter")) (dCons (dCl 2 f__law_condition (dRow 0 (dCons (dLit (.int 1)) (dNil)))) (dCons (dTup (dCons (dLit (.str "table")) (dCons (dCl 2 f__law_taken (dRow 0 (dCons (dLit (.int 2)) (dNil)))) (dNil)))) (dNil))))))) (sNil))
    (seqM (pSet 2 (dBin addD (dLit (.int 1)) (dCl 2 f__law_taken (dRow 0 (dCons (dBin subD (dVar 1) (dLit (.int 1))) (dNil))))))
    (seqM (pSet 3 (dCl 2 f__law_pick (dRow 0 (dCons (dLst (dCons (dLit (.str "union")) (dCons (dLit (.str "union")) (dCons (dLit (.str "intersection")) (dCons (dLit (.str "difference")) (dCons (dLit (.str "difference")) (dNil))))))) (dNil)))))
    (seqM (pSet 4 (dTup (dCons (dVar 3) (dCons (dCl 2 f__law_expression (dRow 0 (dCons (dVar 2) (dNil)))) (dCons (dCl 2 f__law_expression (dRow 0 (dCons (dBin subD (dVar 1) (dVar 2)) (dNil)))) (dNil))))))
    (pRet (dIf (dCmp eqD (dCl 2 f__law_taken (dRow 0 (dCons (dLit (.int 6)) (dNil)))) (dLit (.int 0))) (dTup (dCons (dLit (.str "filter")) (dCons (dCl 2 f__law_condition (dRow 0 (dCons (dLit (.int 1)) (dNil)))) (dCons (dVar 4) (dNil))))) (dVar 4))))))
def d__law_tuples (f__law_tuples : List Slot → Mn D) : Ev → Ms :=
    pRet (dBin addD (dLit (.int 1)) (dFn sumD (dCons (dComp [1] (dItm (dBin slLo (dVar 0) (dLit (.int 1)))) (.name 1) (dTru (dIsi [.tuple] (dVar 1))) (dCl 1 f__law_tuples (dCons (dVar 1) (dNil)))) (dNil))))
def d__law_tree (f__law_expression : List Slot → Mn D) (f__law_tuples : List Slot → Mn D) : Ev → Ms :=
    seqM (pSet 2 (dCl 2 f__law_expression (dRow 0 (dCons (dVar 1) (dNil)))))
    (pRet (dIf (dCmp ltD (dCl 1 f__law_tuples (dCons (dVar 2) (dNil))) (dLit (.int 13))) (dVar 2) (dTup (dCons (dLit (.str "union")) (dCons (dTup (dCons (dLit (.str "table")) (dCons (dLit (.int 0)) (dNil)))) (dCons (dTup (dCons (dLit (.str "table")) (dCons (dLit (.int 1)) (dNil)))) (dNil)))))))
def d__law_kept (f__law_match : List Slot → Mn D) : Ev → Ms :=
    seqM (pSet 4 (dLst (dNil)))
    (seqM (sFor false (dItm (dVar 1)) (.name 5) (seqM (pSet 6 (dComp [8] (dItm (dVar 2)) (.name 8) (dYes) (dCl 3 f__law_match (dCons (dVar 0) (dCons (dBin ixD (dVar 5) (dLit (.int 0))) (dCons (dBin ixD (dVar 8) (dLit (.int 0))) (dNil)))))))
    (seqM (pSet 7 (dDGet [("semijoin", dCmpE inD (dLit (.bool true)) (dVar 6)), ("antijoin", dCmpE ninD (dLit (.bool true)) (dVar 6)), ("not_in", dAndV (dCmpE ninD (dLit (.bool true)) (dVar 6)) (dCmpE ninD (dLit .none) (dVar 6)))] (dVar 3)))
    (pSet 4 (dBin addD (dVar 4) (dBin mulxD (dLst (dCons (dVar 5) (dNil))) (dFn intD (dCons (dVar 7) (dNil)))))))))
    (pRet (dFn tupleD (dCons (dVar 4) (dNil)))))
def d__law_bad_table (f__law_taken : List Slot → Mn D) : Ev → Ms :=
    seqM (pSet 2 (dLst (dCons (dLit .none) (dCons (dLst (dNil)) (dCons (dTup (dCons (dTup (dCons (dLit (.int 1)) (dCons (dLit (.int 2)) (dCons (dLit (.int 3)) (dNil))))) (dNil))) (dCons (dTup (dCons (dTup (dCons (dLit (.int 1)) (dNil))) (dNil))) (dCons (dTup (dCons (dLst (dCons (dLit (.int 1)) (dCons (dLit (.int 2)) (dNil)))) (dNil))) (dCons (dTup (dCons (dTup (dCons (dLit (.int 0)) (dCons (dLit (.int 10)) (dNil)))) (dNil))) (dCons (dTup (dCons (dTup (dCons (dUn negD (dLit (.int 1))) (dCons (dLit (.int 0)) (dNil)))) (dNil))) (dCons (dTup (dCons (dTup (dCons (dLit (.bool true)) (dCons (dLit (.int 0)) (dNil)))) (dNil))) (dCons (dTup (dCons (dTup (dCons (dLit (.int 1)) (dCons (dLit (.int 0)) (dNil)))) (dCons (dTup (dCons (dLit (.int 0)) (dCons (dLit (.int 1)) (dNil)))) (dNil)))) (dCons (dBin mulxD (dTup (dCons (dTup (dCons (dLit (.int 0)) (dCons (dLit (.int 0)) (dNil)))) (dNil))) (dLit (.int 13))) (dCons (dLit (.int 5)) (dCons (dTup (dCons (dTup (dCons (dLit (.int 0)) (dCons (dLit (.int 1)) (dNil)))) (dCons (dTup (dCons (dLit (.int 0)) (dCons (dLit (.int 0)) (dNil)))) (dNil)))) (dCons (dTup (dCons (dTup (dCons (dLit (.str "0")) (dCons (dLit (.int 0)) (dNil)))) (dNil))) (dNil))))))))))))))))
    (seqM (pIf (dCmp eqD (dBin ixD (dVar 1) (dLit (.int 3))) (dLit (.str "none"))) (pSet 2 (dBin addD (dVar 2) (dLst (dCons (dTup (dCons (dTup (dCons (dLit .none) (dCons (dLit (.int 0)) (dNil)))) (dNil))) (dCons (dTup (dCons (dTup (dCons (dLit (.int 0)) (dCons (dLit .none) (dNil)))) (dNil))) (dNil)))))) (pSet 2 (dBin addD (dVar 2) (dLst (dCons (dTup (dCons (dTup (dCons (dLit (.int 0)) (dCons (dLit (.int 0)) (dNil)))) (dCons (dTup (dCons (dLit .none) (dCons (dLit (.int 0)) (dNil)))) (dNil)))) (dCons (dTup (dCons (dTup (dCons (dLit (.int 0)) (dCons (dLit (.int 0)) (dNil)))) (dCons (dTup (dCons (dLit (.int 0)) (dCons (dLit .none) (dNil)))) (dNil)))) (dNil)))))))
    (pRet (dIf (dOr (dCmp eqD (dBin ixD (dVar 1) (dLit (.int 0))) (dLit (.str "bag"))) (dCmp gtD (dCl 2 f__law_taken (dRow 0 (dCons (dLit (.int 4)) (dNil)))) (dLit (.int 0)))) (dBin ixD (dVar 2) (dCl 2 f__law_taken (dRow 0 (dCons (dFn lenD (dCons (dVar 2) (dNil))) (dNil))))) (dTup (dCons (dTup (dCons (dLit (.int 0)) (dCons (dLit (.int 0)) (dNil)))) (dCons (dTup (dCons (dLit (.int 0)) (dCons (dLit (.int 0)) (dNil)))) (dNil)))))))
end LW
namespace LW
open PySem PySem.Spec PyProof.Rows L2 DL
abbrev Fs := List Slot → Mn D
abbrev NoDict (d : D) : Prop := ∀ kvs, d ≠ .dict kvs
inductive N3 where
  | none | unknown | value
def N3.s : N3 → String
  | .none => "none"
  | .unknown => "unknown"
  | .value => "value"
/-- a semantics -/
def wayD (a b c : Bool) (n : N3) (e : Bool) : D := .tuple [.str (if a then "bag" else "set"), .str (if b then "maximum" else "sum"), .str (if c then "count" else "kind"), .str (Str.ofString n.s), .str (if e then "null" else "zero")]
inductive Vl where
  | nul
  | int (i : Int)
def Vl.d : Vl → D
  | .nul => .none
  | .int i => .int i
theorem way_3 (a b c : Bool) (n : N3) (e : Bool) : ixD (wayD a b c n e) (.int 3) = some (.str (Str.ofString n.s)) := rfl
inductive Flt where
  | less (c : Bool) (n : Int)
  | equal (c : Bool) (n : Int)
  | same
  | null (c : Bool)
  | not (f : Flt)
  | and (f g : Flt)
  | or (f g : Flt)
def colD (c : Bool) : D := .int (if c then 1 else 0)
def Flt.d : Flt → D
  | .less c n => .tuple [.str "less", colD c, .int n]
  | .equal c n => .tuple [.str "equal", colD c, .int n]
  | .same => .tuple [.str "same"]
  | .null c => .tuple [.str "null", colD c]
  | .not f => .tuple [.str "not", f.d]
  | .and f g => .tuple [.str "and", f.d, g.d]
  | .or f g => .tuple [.str "or", f.d, g.d]
def Flt.ok : Flt → Bool
  | .less _ n => decide (0 ≤ n) && decide (n ≤ 9)
  | .equal _ n => decide (0 ≤ n) && decide (n ≤ 9)
  | .same => true
  | .null _ => true
  | .not f => f.ok
  | .and f g => f.ok && g.ok
  | .or f g => f.ok && g.ok
def Flt.size : Flt → Nat
  | .less _ _ => 1
  | .equal _ _ => 1
  | .same => 1
  | .null _ => 1
  | .not f => f.size + 1
  | .and f g => f.size + g.size + 1
  | .or f g => f.size + g.size + 1
def Flt.inner : Flt → List Flt
  | .not f => [f]
  | .and f g => [f, g]
  | .or f g => [f, g]
  | _ => []
theorem Flt.nd (f : Flt) : NoDict f.d := by intro k e; cases f <;> simp [Flt.d] at e
theorem int_nd (i : Int) : NoDict (.int i) := by intro k e; cases e
def Vl.ord : Vl → Int
  | .nul => -1
  | .int i => i
def Vl.isN : Vl → Bool
  | .nul => true
  | _ => false
def Vl.beq : Vl → Vl → Bool
  | .nul, .nul => true
  | .int i, .int j => i == j
  | _, _ => false
def N3.unk : N3 → Bool
  | .unknown => true
  | _ => false
def cmpV (n : N3) (less : Bool) (x y : Vl) : Option Bool :=
  if (n.unk && (x.isN || y.isN)) = true then none else some (if less = true then decide (x.ord < y.ord) else x.beq y)
def td : Option Bool → D
  | none => .none
  | some b => .bool b
def tnot : Option Bool → Option Bool
  | none => none
  | some b => some !b
def tand : Option Bool → Option Bool → Option Bool
  | some false, _ => some false
  | _, some false => some false
  | none, _ => none
  | _, none => none
  | _, _ => some true
def tor : Option Bool → Option Bool → Option Bool
  | some true, _ => some true
  | _, some true => some true
  | none, _ => none
  | _, none => none
  | _, _ => some false
def tv (n : N3) (u v : Vl) : Flt → Option Bool
  | .less c m => cmpV n true (if c then v else u) (.int m)
  | .equal c m => cmpV n false (if c then v else u) (.int m)
  | .same => cmpV n false u v
  | .null c => some (if c then v else u).isN
  | .not f => tnot (tv n u v f)
  | .and f g => tand (tv n u v f) (tv n u v g)
  | .or f g => tor (tv n u v f) (tv n u v g)
theorem td_shape (t : Option Bool) : SeqAt.shaped (td t) = true := by cases t <;> simp [td, sh_none, sh_bool]
theorem in_list (x : D) (ds : List D) (hx : SeqAt.shaped x = true) (hd : SeqAt.shaped (.list ds) = true) : inD x (.list ds) = some (ds.any fun z => PyData.eqv z x) := by simp [inD, hx, hd]
def Vl.rk : Vl → Int
  | .nul => 0
  | .int i => i + 1
abbrev SpRank (f : Fs) : Prop := ∀ x y : Vl, f [.dat (.list [x.d, y.d])] = pur (.list [.int x.rk, .int y.rk])
theorem rank : SpRank (dFun 1 2 d__law_rank) := by
  intro x y
  cases x <;> cases y <;> simp [dFun_eq, d__law_rank, itmD, Vl.d, Vl.rk, isD, addD]
def Vl.nn : Vl → Bool
  | .nul => true
  | .int i => decide (0 ≤ i)
theorem vd_list (x y : Vl) : SeqAt.shaped (.list [x.d, y.d]) = true := by
  cases x <;> cases y <;> simp [Vl.d, SeqAt.shaped, PyData.canLay0, PyData.canLayAll0, PyData.depth, PyData.depthAll]
theorem none_in (x y : Vl) : inD .none (.list [x.d, y.d]) = some (x.isN || y.isN) := by
  rw [in_list _ _ sh_none (vd_list x y)]
  cases x <;> cases y <;> simp [Vl.d, Vl.isN]
/-- a value is given, and P of it -/
def Gv {α : Type} (m : Mn α) (P : α → Prop) : Prop := ∀ rs, ∃ d rs', m rs = some (.val d, rs') ∧ (P d ∧ rs'.x = rs.x)
theorem Gv.bnd {α β : Type} {m : Mn α} {k : α → Mn β} {P : α → Prop} {Q : β → Prop} (h : Gv m P) (hk : ∀ a, P a → Gv (k a) Q) : Gv (DL.bnd m k) Q := fun rs => by
  obtain ⟨d, rs1, e, p, x1⟩ := h rs
  obtain ⟨d2, rs2, e2, p2, x2⟩ := hk d p rs1
  refine ⟨d2, rs2, ?_, p2, x2.trans x1⟩
  unfold DL.bnd
  rw [e]
  exact e2
theorem Gv.pur {α : Type} {a : α} {P : α → Prop} (h : P a) : Gv (DL.pur a) P := fun rs => ⟨a, rs, rfl, h, rfl⟩
theorem Gv.imp {α : Type} {m : Mn α} {P Q : α → Prop} (h : Gv m P) (i : ∀ a, P a → Q a) : Gv m Q := fun rs => by
  obtain ⟨d, rs1, e, p, x1⟩ := h rs
  exact ⟨d, rs1, e, i d p, x1⟩
theorem bnd_id {α : Type} (m : Mn α) : (DL.bnd m fun a => DL.pur a) = m := by
  funext rs
  unfold DL.bnd DL.pur
  cases h : m rs with
  | none => rfl
  | some q =>
    obtain ⟨q1, q2⟩ := q
    cases q1 <;> rfl
abbrev SpTk (f : Fs) : Prop := ∀ m : Int, 0 < m → m < 1073741824 → Gv (f [.row, .dat (.int m)]) fun d => ∃ i : Int, 0 ≤ i ∧ i < m ∧ d = .int i
theorem taken : SpTk tkF := fun m h0 h1 rs => by
  refine ⟨_, _, by simp only [tkF]; rw [if_pos ⟨h0, h1⟩], ⟨(tk m rs).1, (tk_range m rs h0).1, (tk_range m rs h0).2, rfl⟩, tk_x m rs⟩
abbrev SpPick (f : Fs) : Prop := ∀ ds : List D, 0 < ds.length → ds.length < 1000 → Gv (f [.row, .dat (.list ds)]) fun d => d ∈ ds
theorem pick {f : Fs} (h : SpTk f) : SpPick (dFun 2 2 (d__law_pick f)) := by
  intro ds h0 h1
  simp [dFun_eq, d__law_pick, lenD, fin_bnS, bnd_bnd, bnS_bnd]
  refine Gv.bnd (h ds.length (by omega) (by omega)) fun d ⟨i, i0, i1, e⟩ => ?_
  subst e
  obtain ⟨j, rfl⟩ : ∃ j : Nat, i = (j : Int) := ⟨i.toNat, by omega⟩
  have hl : j < ds.length := by omega
  have q : ixD (.list ds) (.int (j : Int)) = some ds[j] := atI_nat (List.getElem?_eq_getElem hl)
  rw [q]
  exact Gv.pur (List.getElem_mem hl)
def IsWay (d : D) : Prop := ∃ a b c n e, d = wayD a b c n e
abbrev SpLawSem (f : Fs) : Prop := Gv (f [.row]) IsWay
theorem law_sem {f : Fs} (h : SpPick f) : SpLawSem (dFun 1 5 (d__law_semantics f)) := by
  show Gv (dFun 1 5 (d__law_semantics f) [.row]) _
  simp [dFun_eq, d__law_semantics, pPar_eq, fin_bnS, bnd_bnd, bnS_bnd, sq_bnS]
  refine Gv.bnd (h _ (by simp) (by simp)) fun d1 m1 => ?_
  refine Gv.bnd (h _ (by simp) (by simp)) fun d2 m2 => ?_
  refine Gv.bnd (h _ (by simp) (by simp)) fun d3 m3 => ?_
  refine Gv.bnd (h _ (by simp) (by simp)) fun d4 m4 => ?_
  refine Gv.bnd (h _ (by simp) (by simp)) fun d5 m5 => ?_
  refine Gv.pur ?_
  have p1 : ∃ a : Bool, d1 = .str (if a then "bag" else "set") := by
    simp at m1
    rcases m1 with e | e
    · exact ⟨true, e⟩
    · exact ⟨false, e⟩
  have p2 : ∃ a : Bool, d2 = .str (if a then "maximum" else "sum") := by
    simp at m2
    rcases m2 with e | e
    · exact ⟨true, e⟩
    · exact ⟨false, e⟩
  have p3 : ∃ a : Bool, d3 = .str (if a then "count" else "kind") := by
    simp at m3
    rcases m3 with e | e
    · exact ⟨true, e⟩
    · exact ⟨false, e⟩
  have p4 : ∃ a : N3, d4 = .str (Str.ofString a.s) := by
    simp at m4
    rcases m4 with e | e | e
    · exact ⟨.none, e⟩
    · exact ⟨.unknown, e⟩
    · exact ⟨.value, e⟩
  have p5 : ∃ a : Bool, d5 = .str (if a then "null" else "zero") := by
    simp at m5
    rcases m5 with e | e
    · exact ⟨true, e⟩
    · exact ⟨false, e⟩
  obtain ⟨a, rfl⟩ := p1
  obtain ⟨b, rfl⟩ := p2
  obtain ⟨c, rfl⟩ := p3
  obtain ⟨n, rfl⟩ := p4
  obtain ⟨e, rfl⟩ := p5
  exact ⟨a, b, c, n, e, rfl⟩
/-- valid under n -/
def Vl.okU (n : N3) : Vl → Bool
  | .nul => (match n with | .none => false | _ => true)
  | .int i => decide (0 ≤ i) && decide (i ≤ 9)
abbrev SpLawVal (f : Fs) : Prop := ∀ a b c n e, Gv (f [.row, .dat (wayD a b c n e)]) fun d => ∃ x : Vl, d = x.d ∧ x.okU n = true
theorem ne_none (n : N3) : neD (.str (Str.ofString n.s)) (.str "none") = some (match n with | .none => false | _ => true) := by cases n <;> simp [N3.s]
theorem law_val {ft fp : Fs} (h1 : SpTk ft) (h2 : SpPick fp) : SpLawVal (dFun 2 2 (d__law_value ft fp)) := by
  intro a b c n e
  simp [dFun_eq, d__law_value, way_3, ne_none, fin_bnS, bnd_bnd, bnS_bnd, sq_bnS]
  have rest : Gv (bnd (ft [Slot.row, Slot.dat (PyData.int 10)]) fun a => fp [Slot.row, Slot.dat (.list [.int 0, .int 0, .int 1, .int 1, .int 2, a])]) fun d => ∃ x : Vl, d = x.d ∧ x.okU n = true := by
    refine Gv.bnd (h1 10 (by decide) (by decide)) fun d ⟨i, i0, i1, e⟩ => ?_
    subst e
    refine Gv.imp (h2 _ (by simp) (by simp)) fun d m => ?_
    simp at m
    rcases m with e | e | e | e
    · exact ⟨.int 0, e, by simp [Vl.okU]⟩
    · exact ⟨.int 1, e, by simp [Vl.okU]⟩
    · exact ⟨.int 2, e, by simp [Vl.okU]⟩
    · exact ⟨.int i, e, by simp [Vl.okU, i0]; omega⟩
  have first : Gv (bnd (ft [Slot.row, Slot.dat (PyData.int 4)]) fun a => bnd (lft (eqD a (PyData.int 0))) fun a => if a = true then DL.pur PyData.none else bnd (ft [Slot.row, Slot.dat (PyData.int 10)]) fun a => fp [Slot.row, Slot.dat (.list [.int 0, .int 0, .int 1, .int 1, .int 2, a])]) fun d => ∃ x : Vl, d = x.d ∧ (match x with | .nul => true | .int i => decide (0 ≤ i) && decide (i ≤ 9)) = true := by
    refine Gv.bnd (h1 4 (by decide) (by decide)) fun d ⟨i, i0, i1, e⟩ => ?_
    subst e
    simp only [eq_ii, lft_some', bnd_pur]
    split
    · exact Gv.pur ⟨.nul, rfl, rfl⟩
    · refine Gv.imp rest fun d ⟨x, e, hx⟩ => ⟨x, e, ?_⟩
      cases x with
      | nul => rfl
      | int i => exact hx
  cases n with
  | none => simpa [N3.s, bnd_id] using rest
  | unknown =>
    simp [N3.s, bnd_id]
    refine Gv.imp first fun d ⟨x, e, hx⟩ => ⟨x, e, ?_⟩
    cases x <;> exact hx
  | value =>
    simp [N3.s, bnd_id]
    refine Gv.imp first fun d ⟨x, e, hx⟩ => ⟨x, e, ?_⟩
    cases x <;> exact hx
def IsFlt (b : Nat) (d : D) : Prop := ∃ x : Flt, d = x.d ∧ x.ok = true ∧ x.size ≤ b
abbrev SpLawFlt (f : Fs) (m : Nat) : Prop := ∀ k : Nat, k < m → Gv (f [.row, .dat (.int k)]) (IsFlt (2 ^ (k + 1) - 1))
theorem int_b (b : Bool) : intD [.bool b] = some (.int (if b then 1 else 0)) := rfl
theorem col_i {i : Int} (h0 : 0 ≤ i) (h1 : i < 2) : PyData.int i = colD (decide (i = 1)) := by
  rcases (by omega : i = 0 ∨ i = 1) with rfl | rfl <;> rfl
theorem law_flt {ft fp ff : Fs} {m : Nat} (h1 : SpTk ft) (h2 : SpPick fp) (h3 : SpLawFlt ff m) : SpLawFlt (dFun 2 4 (d__law_filter ft fp ff)) (m + 1) := by
  intro k hk
  have hpow : 1 ≤ 2 ^ (k + 1) - 1 := by
    have : 2 ^ 1 ≤ 2 ^ (k + 1) := Nat.pow_le_pow_right (by decide) (by omega)
    omega
  -- the four short ones
  have short : ∀ i : Int, 0 ≤ i → i < 4 → Gv (bnd (fp [.row, .dat (.list [.str "less", .str "equal"])]) fun w => bnd (ft [.row, .dat (.int 2)]) fun a => bnd (ft [.row, .dat (.int 4)]) fun b => bnd (ft [.row, .dat (.int 2)]) fun c => bnd (ft [.row, .dat (.int 2)]) fun e =>
      lft (ixD (.list [.tuple [w, a, b], .tuple [w, c, .int 1], .tuple [.str "same"], .tuple [.str "null", e]]) (.int i))) (IsFlt (2 ^ (k + 1) - 1)) := by
    intro i i0 i1
    refine Gv.bnd (h2 _ (by simp) (by simp)) fun w mw => ?_
    refine Gv.bnd (h1 2 (by decide) (by decide)) fun d ⟨a, a0, a1, e⟩ => ?_
    subst e
    refine Gv.bnd (h1 4 (by decide) (by decide)) fun d ⟨b, b0, b1, e⟩ => ?_
    subst e
    refine Gv.bnd (h1 2 (by decide) (by decide)) fun d ⟨c, c0, c1, e⟩ => ?_
    subst e
    refine Gv.bnd (h1 2 (by decide) (by decide)) fun d ⟨q, q0, q1, e⟩ => ?_
    subst e
    simp at mw
    rw [col_i a0 a1, col_i c0 c1, col_i q0 q1]
    rcases (by omega : i = 0 ∨ i = 1 ∨ i = 2 ∨ i = 3) with rfl | rfl | rfl | rfl
    · simp only [ix_l0, lft_some']
      refine Gv.pur ?_
      rcases mw with rfl | rfl
      · exact ⟨.less (decide (a = 1)) b, rfl, by simp [Flt.ok, b0]; omega, hpow⟩
      · exact ⟨.equal (decide (a = 1)) b, rfl, by simp [Flt.ok, b0]; omega, hpow⟩
    · simp only [ix_l1, lft_some']
      refine Gv.pur ?_
      rcases mw with rfl | rfl
      · exact ⟨.less (decide (c = 1)) 1, rfl, rfl, hpow⟩
      · exact ⟨.equal (decide (c = 1)) 1, rfl, rfl, hpow⟩
    · simp only [ix_l2, lft_some']
      exact Gv.pur ⟨.same, rfl, rfl, hpow⟩
    · simp only [ix_l3, lft_some']
      exact Gv.pur ⟨.null (decide (q = 1)), rfl, rfl, hpow⟩
  have lt_ii : ∀ i j : Int, ltD (.int i) (.int j) = some (decide (i < j)) := fun i j => rfl
  simp [dFun_eq, d__law_filter, fin_bnS, bnd_bnd, bnS_bnd, sq_bnS, gtD, mulxD, addD, subD, int_b, bnd_id]
  refine Gv.bnd (P := fun d => ∃ i : Int, 0 ≤ i ∧ i < 8 ∧ (0 < k ∨ i < 5) ∧ d = .int i) ?_ fun d ⟨i, i0, i1, i2, e⟩ => ?_
  · by_cases hk0 : 0 < k
    · rw [if_pos hk0]
      exact Gv.imp (h1 (5 + 3 * 1) (by decide) (by decide)) fun d ⟨i, i0, i1, e⟩ => ⟨i, i0, i1, .inl hk0, e⟩
    · rw [if_neg hk0]
      exact Gv.imp (h1 (5 + 3 * 0) (by decide) (by decide)) fun d ⟨i, i0, i1, e⟩ => ⟨i, i0, by omega, .inr i1, e⟩
  subst e
  simp only [lt_ii, eq_ii, lft_some', bnd_pur, decide_eq_true_eq, beq_iff_eq]
  split
  · rename_i hs
    exact short i i0 hs
  · split
    · exact Gv.pur ⟨.less false 1, rfl, rfl, hpow⟩
    · have hk0 : 0 < k := by omega
      have hkk : ((k : Int) - 1) = ((k - 1 : Nat) : Int) := by omega
      rw [hkk]
      have hr := h3 (k - 1) (by omega)
      rw [show k - 1 + 1 = k by omega] at hr
      have hp2 : 2 ^ (k + 1) = 2 * 2 ^ k := by rw [Nat.pow_succ]; omega
      have hp1 : 2 ≤ 2 ^ k := by
        have : 2 ^ 1 ≤ 2 ^ k := Nat.pow_le_pow_right (by decide) hk0
        omega
      split
      · refine Gv.bnd hr fun d ⟨x, e, ok, sz⟩ => ?_
        subst e
        exact Gv.pur ⟨.not x, rfl, ok, by simp only [Flt.size]; omega⟩
      · refine Gv.bnd (h2 _ (by simp) (by simp)) fun w mw => ?_
        refine Gv.bnd hr fun d ⟨x, e, ok, sz⟩ => ?_
        subst e
        refine Gv.bnd hr fun d ⟨y, e, ok2, sz2⟩ => ?_
        subst e
        simp at mw
        refine Gv.pur ?_
        rcases mw with rfl | rfl
        · exact ⟨.and x y, rfl, by simp [Flt.ok, ok, ok2], by simp only [Flt.size]; omega⟩
        · exact ⟨.or x y, rfl, by simp [Flt.ok, ok, ok2], by simp only [Flt.size]; omega⟩
end LW
namespace LW
open PySem PySem.Spec PyProof.Rows L2 DL
/-- as long as lists get here -/
def lim : Nat := 1000000
theorem lim_eq : lim = 1000000 := rfl
theorem big_ok {n : Nat} (h : n ≤ lim) : n ≤ sizeLine := by
  have := PySem.sizeLine_eq
  have := lim_eq
  omega
abbrev Row := List Vl
def rowD (r : Row) : D := .tuple (r.map Vl.d)
def rowsL (rs : List Row) : D := .list (rs.map rowD)
def rowsT (rs : List Row) : D := .tuple (rs.map rowD)
def rnk (r : Row) : List Int := r.map Vl.rk
def rankD (r : Row) : D := .list ((rnk r).map .int)
def leR (r s : Row) : Bool := decide (rnk r ≤ rnk s)
def srtR (rs : List Row) : List Row := rs.mergeSort leR
theorem compGo_pure {i : Nat} {c : Ev → Mn Bool} {e : Ev → Mn D} {ev : Ev} {p : D → Bool} {g : D → D} : ∀ {ds : List D}, (∀ d ∈ ds, c (ev.set i (.dat d)) = pur (p d)) → (∀ d ∈ ds, p d = true → e (ev.set i (.dat d)) = pur (g d)) → compGo (.name i) c e ev ds = pur ((ds.filter p).map g)
  | [], _, _ => rfl
  | d :: ds, h1, h2 => by
    rw [compGo_cons]
    simp only [tgt_name, lft_some', bnd_pur, tix_name, setE_cons, setE_nil2]
    rw [h1 d (by simp)]
    simp only [nox_pur, bnd_pur]
    have ih := compGo_pure (ds := ds) (fun x hx => h1 x (by simp [hx])) (fun x hx => h2 x (by simp [hx]))
    cases hp : p d with
    | true =>
      rw [if_pos rfl, h2 d (by simp) hp, ih]
      simp [hp]
    | false =>
      rw [if_neg (by decide), ih]
      simp [hp]
theorem compGo_map {i : Nat} {e : Ev → Mn D} {ev : Ev} {g : D → D} {ds : List D} (h : ∀ d ∈ ds, e (ev.set i (.dat d)) = pur (g d)) : compGo (.name i) dYes e ev ds = pur (ds.map g) := by
  have q : ds.filter (fun _ => true) = ds := List.filter_eq_self.mpr fun _ _ => rfl
  have z := compGo_pure (i := i) (c := dYes) (e := e) (ev := ev) (p := fun _ => true) (g := g) (ds := ds) (fun d _ => rfl) (fun d hd _ => h d hd)
  rw [q] at z
  exact z
/-- the rank of a row, from any list or tuple of values -/
abbrev SpRankAll (f : Fs) : Prop := ∀ r : Row, r.length ≤ lim → f [.dat (rowD r)] = pur (rankD r) ∧ f [.dat (.list (r.map Vl.d))] = pur (rankD r)
def rkD : D → D
  | .int i => .int (i + 1)
  | _ => .int 0
theorem rank_all : SpRankAll (dFun 1 2 d__law_rank) := by
  intro r hr
  have core : ∀ x, compGo (.name 1) dYes (dIf (dCmp isD (dVar 1) (dLit .none)) (dLit (.int 0)) (dBin addD (dVar 1) (dLit (.int 1)))) [.dat x, .hid] (r.map Vl.d) = pur ((rnk r).map .int) := by
    intro x
    rw [compGo_map (g := rkD)]
    · simp only [rnk, List.map_map]
      congr 1
      apply List.map_congr_left
      intro v _
      cases v <;> rfl
    · intro d hd
      obtain ⟨v, _, rfl⟩ := List.mem_map.mp hd
      cases v <;> simp [Vl.d, isD, addD, rkD]
  have hl : (rnk r).length ≤ sizeLine := big_ok (by simpa [rnk] using hr)
  constructor
  · simp [dFun_eq, d__law_rank, rowD, itmD, core, hl, rankD]
  · simp [dFun_eq, d__law_rank, itmD, core, hl, rankD]
theorem eqv_ints : ∀ xs ys : List Int, PyData.eqvAll (xs.map .int) (ys.map .int) = decide (xs = ys)
  | [], [] => by simp [PyData.eqvAll]
  | [], _ :: _ => by simp [PyData.eqvAll]
  | _ :: _, [] => by simp [PyData.eqvAll]
  | x :: xs, y :: ys => by
    simp only [List.map_cons, PyData.eqvAll, eqv_ints xs ys, ev_ii]
    by_cases h : x = y <;> simp [h]
theorem eqv_rank (r s : Row) : PyData.eqv (rankD r) (rankD s) = decide (rnk r = rnk s) := by
  simp only [rankD, PyData.eqv, eqv_ints]
theorem lt_rank (r s : Row) : PySem.W.dataLt (rankD r) (rankD s) = decide (rnk r < rnk s) := by
  unfold rankD
  rw [PySem.W.dataLt_list]
  exact PySem.W.dataLt_ints _ _
theorem alike_rank (r s : Row) : PySem.W.alike (rankD r) (rankD s) = true := by
  simp only [rankD, PySem.W.alike]
  exact PySem.W.alike_ints _ _
def encI (p : Row × Nat) : D := .tuple [rankD p.1, .int (p.2 : Nat)]
theorem le_encI (p q : Row × Nat) : PySem.W.dataLe false encI p q = List.zipIdxLE leR p q := by
  show (!PySem.W.dataLt (encI q) (encI p)) = _
  unfold encI
  rw [PySem.W.dataLt_pair (alike_rank _ _) (by simp [PySem.W.alike]), eqv_rank, lt_rank, PySem.W.dataLt_int]
  simp only [ev_ii]
  unfold List.zipIdxLE leR
  generalize rnk p.1 = x
  generalize rnk q.1 = y
  by_cases h : y = x
  · subst h
    have e : y ≤ y := List.le_refl _
    simp only [e, decide_true, if_true]
    by_cases h2 : (q.2 : Int) = (p.2 : Int)
    · have : p.2 = q.2 := by omega
      simp [this]
    · have h3 : ¬ ((q.2 : Int) == (p.2 : Int)) = true := by simpa using h2
      rw [if_neg h3]
      by_cases h4 : q.2 < p.2
      · have h5 : ¬ p.2 ≤ q.2 := by omega
        have h6 : ((q.2 : Int) < (p.2 : Int)) := by omega
        simp [h5, h6]
      · have h5 : p.2 ≤ q.2 := by omega
        have h6 : ¬ ((q.2 : Int) < (p.2 : Int)) := by omega
        simp [h5, h6]
  · simp only [h, decide_false]
    by_cases h2 : y < x
    · have h3 : ¬ x ≤ y := fun z => z h2
      simp [h2, h3]
    · have h3 : x ≤ y := h2
      have h4 : ¬ y ≤ x := fun z => h (List.le_antisymm z h3)
      simp [h2, h3, h4]
theorem compGo_on {α : Type} {t : Tgt} {c : Ev → Mn Bool} {e : Ev → Mn D} {ev : Ev} (dd gg : α → D) (pp : α → Bool) : ∀ (L : List α), (∀ a ∈ L, ∃ es, t.of (dd a) = some es ∧ c (setE ev t.ix es) = pur (pp a) ∧ (pp a = true → e (setE ev t.ix es) = pur (gg a))) → compGo t c e ev (L.map dd) = pur ((L.filter pp).map gg)
  | [], _ => rfl
  | a :: L, h => by
    rw [List.map_cons, compGo_cons]
    obtain ⟨es, h1, h2, h3⟩ := h a (by simp)
    rw [h1]
    simp only [lft_some', bnd_pur]
    rw [h2]
    simp only [nox_pur, bnd_pur]
    have ih := compGo_on dd gg pp L fun x hx => h x (by simp [hx])
    cases hp : pp a with
    | true =>
      rw [if_pos rfl, h3 hp, ih]
      simp [hp]
    | false =>
      rw [if_neg (by decide), ih]
      simp [hp]
theorem compGo_all {α : Type} {t : Tgt} {e : Ev → Mn D} {ev : Ev} (dd gg : α → D) (L : List α) (h : ∀ a ∈ L, ∃ es, t.of (dd a) = some es ∧ e (setE ev t.ix es) = pur (gg a)) : compGo t dYes e ev (L.map dd) = pur (L.map gg) := by
  have q : L.filter (fun _ => true) = L := List.filter_eq_self.mpr fun _ _ => rfl
  have z := compGo_on (t := t) (c := dYes) (e := e) (ev := ev) dd gg (fun _ => true) L fun a ha => by
    obtain ⟨es, h1, h2⟩ := h a ha
    exact ⟨es, h1, rfl, fun _ => h2⟩
  rw [q] at z
  exact z
theorem enum_rows (rs : List Row) : enumD [rowsL rs] = some (rs.zipIdx.map fun p => .tuple [.int (p.2 : Nat), rowD p.1]) := by
  show some _ = some _
  congr 1
  apply List.ext_getElem
  · simp
  · intro n h1 h2
    simp
theorem depth_row (r : Row) : (rankD r).depth ≤ 1 := by
  simp only [rankD, PyData.depth, PySem.W.depth_ints]
  omega
theorem plain_ints : ∀ is : List Int, PyData.plainAll (is.map PyData.int) = true
  | [] => rfl
  | i :: is => by simp only [List.map_cons, PyData.plainAll, PyData.plain, plain_ints is, Bool.and_self]
theorem plain_encs : ∀ L : List (Row × Nat), PyData.plainAll (L.map encI) = true
  | [] => rfl
  | p :: L => by simp only [List.map_cons, PyData.plainAll, encI, PyData.plain, rankD, plain_ints, plain_encs L, Bool.and_self]
theorem okSort_enc (L : List (Row × Nat)) : okSort (L.map encI) = true := by
  unfold okSort
  simp only [Bool.and_eq_true, Bool.or_eq_true, List.all_eq_true, decide_eq_true_eq]
  refine ⟨⟨⟨fun d hd e he => ?_, .inl fun d hd => ?_⟩, fun d hd => ?_⟩, plain_encs L⟩
  · obtain ⟨p, _, rfl⟩ := List.mem_map.mp hd
    obtain ⟨q, _, rfl⟩ := List.mem_map.mp he
    simp only [encI, PySem.W.alike, PySem.W.alikeAll, alike_rank]
    simp
  · obtain ⟨p, _, rfl⟩ := List.mem_map.mp hd
    rfl
  · obtain ⟨p, _, rfl⟩ := List.mem_map.mp hd
    have := depth_row p.1
    simp only [encI, PyData.depth, PyData.depthAll]
    omega
theorem srt_enc (L : List (Row × Nat)) : srtD (L.map encI) = (L.mergeSort (List.zipIdxLE leR)).map encI := by
  unfold srtD
  have q := PySem.W.sort_maps (r := List.zipIdxLE leR) (s := PySem.W.dataLe false fun d : D => d) encI (l := L) (fun a _ b _ => (le_encI a b).symm)
  exact q.symm
abbrev SpSorted (f : Fs) : Prop := ∀ rs : List Row, rs.length ≤ lim → (∀ r ∈ rs, r.length ≤ lim) → f [.dat (rowsL rs)] = pur (rowsT (srtR rs))
theorem ix_rows {rs : List Row} {k : Nat} {r : Row} (h : rs[k]? = some r) : ixD (rowsL rs) (.int (k : Nat)) = some (rowD r) := by
  show atI (rs.map rowD) ((k : Nat) : Int) = _
  exact atI_nat (by rw [List.getElem?_map, h]; rfl)
theorem sorted_loop (rs : List Row) (s4 : DL.Slot) : ∀ (L : List (Row × Nat)) (acc : List D) (s2 s3 : DL.Slot), (∀ p ∈ L, rs[p.2]? = some p.1) → acc.length + L.length ≤ lim → (∀ ds, s2 ≠ .own ds) → (∀ ds, s3 ≠ .own ds) →
    ∃ s2' s3', forGo (.tup [2, 3]) (sApp 1 (dBin ixD (dVar 0) (dVar 3))) (L.map encI) [.dat (rowsL rs), .own acc, s2, s3, s4] = nxM [.dat (rowsL rs), .own (.l (acc ++ L.map fun p => rowD p.1)), s2', s3', s4]
  | [], acc, s2, s3, _, _, _, _ => ⟨s2, s3, by simp⟩
  | p :: L, acc, s2, s3, h, hl, n2, n3 => by
    have h1 : rs[p.2]? = some p.1 := h p (by simp)
    simp only [List.length_cons] at hl
    obtain ⟨a, b, q⟩ := sorted_loop rs s4 L (acc ++ [rowD p.1]) (.dat (rankD p.1)) (.dat (.int (p.2 : Nat))) (fun x hx => h x (by simp [hx])) (by simp; omega) (fun ds e => by cases e) (fun ds e => by cases e)
    refine ⟨a, b, ?_⟩
    rw [List.map_cons, forGo_cons]
    have ha : acc.length < sizeLine := Nat.lt_of_lt_of_le (by omega) (big_ok (Nat.le_refl _))
    simp [encI, ix_rows h1, ha]
    rw [q]
    simp
theorem sorted_ok {f : Fs} (hf : SpRankAll f) : SpSorted (dFun 1 5 (d__law_sorted f)) := by
  intro rs hl hr
  have hz : rs.length ≤ sizeLine := big_ok hl
  have comp : ∀ a b c d e, compGo (.tup [4, 3]) dYes (dTup (dCons (dCl 1 f (dCons (dVar 3) (dNil))) (dCons (dVar 4) (dNil)))) [a, b, c, d, e] (rs.zipIdx.map fun p => .tuple [.int (p.2 : Nat), rowD p.1]) = pur (rs.zipIdx.map encI) := fun a b c d e =>
    compGo_all (fun p : Row × Nat => PyData.tuple [.int (p.2 : Nat), rowD p.1]) encI rs.zipIdx fun p hp => by
      have hpr : p.1 ∈ rs := List.fst_mem_of_mem_zipIdx hp
      have q := (hf p.1 (hr _ hpr)).1
      exact ⟨_, rfl, by simp [q, encI]⟩
  have hmem : ∀ p ∈ rs.zipIdx.mergeSort (List.zipIdxLE leR), rs[p.2]? = some p.1 := fun p hp => by
    have := List.mem_mergeSort.mp hp
    exact List.mem_zipIdx_iff_getElem?.mp this
  obtain ⟨a, b, q⟩ := sorted_loop rs .hid (rs.zipIdx.mergeSort (List.zipIdxLE leR)) [] .hid .hid hmem (by simp [List.length_mergeSort]; omega) (fun ds e => by cases e) (fun ds e => by cases e)
  have hs : sortedD [.list (rs.zipIdx.map encI)] = some (.list ((rs.zipIdx.mergeSort (List.zipIdxLE leR)).map encI)) := by
    show (if okSort _ = true then _ else _) = _
    rw [if_pos (okSort_enc _), srt_enc]
  have hm : (rs.zipIdx.mergeSort (List.zipIdxLE leR)).map (fun p => rowD p.1) = (srtR rs).map rowD := by
    have z := List.mergeSort_zipIdx (l := rs) (le := leR)
    unfold srtR
    rw [← z, List.map_map]
    rfl
  rw [dFun_eq]
  simp [d__law_sorted, sFor_f, enum_rows, comp, hz, hs, itmD]
  rw [q]
  simp [tupleD, hm, rowsT]
end LW
namespace LW
open PySem PySem.Spec PyProof.Rows L2 DL
instance : DecidableEq Vl := fun a b => match a, b with
  | .nul, .nul => isTrue rfl
  | .nul, .int _ => isFalse (by intro h; cases h)
  | .int _, .nul => isFalse (by intro h; cases h)
  | .int i, .int j => if h : i = j then isTrue (by rw [h]) else isFalse (by intro e; cases e; exact h rfl)
theorem eqv_v (x y : Vl) : PyData.eqv x.d y.d = decide (x = y) := by
  cases x with
  | nul => cases y <;> simp [Vl.d]
  | int i =>
    cases y with
    | nul => simp [Vl.d]
    | int j => by_cases h : i = j <;> simp [Vl.d, h]
theorem eqv_vs : ∀ xs ys : Row, PyData.eqvAll (xs.map Vl.d) (ys.map Vl.d) = decide (xs = ys)
  | [], [] => by simp [PyData.eqvAll]
  | [], _ :: _ => by simp [PyData.eqvAll]
  | _ :: _, [] => by simp [PyData.eqvAll]
  | x :: xs, y :: ys => by
    simp only [List.map_cons, PyData.eqvAll, eqv_vs xs ys, eqv_v]
    by_cases h : x = y <;> simp [h]
theorem eqv_row (r s : Row) : PyData.eqv (rowD r) (rowD s) = decide (r = s) := by
  simp only [rowD, PyData.eqv, eqv_vs]
theorem lay_v (x : Vl) : PyData.canLay0 x.d = true := by cases x <;> simp [Vl.d, PyData.canLay0]
theorem dep_v (x : Vl) : PyData.depth x.d = 0 := by cases x <;> simp [Vl.d, PyData.depth]
theorem lay_vs : ∀ r : Row, PyData.canLayAll0 (r.map Vl.d) = true
  | [] => rfl
  | x :: r => by simp [PyData.canLayAll0, lay_v, lay_vs r]
theorem dep_vs : ∀ r : Row, PyData.depthAll (r.map Vl.d) = 0
  | [] => rfl
  | x :: r => by simp [PyData.depthAll, dep_v, dep_vs r]
theorem lay_row (r : Row) : PyData.canLay0 (rowD r) = true := by simp [rowD, PyData.canLay0, lay_vs]
theorem dep_row (r : Row) : PyData.depth (rowD r) = 1 := by simp [rowD, PyData.depth, dep_vs]
theorem lay_rows : ∀ rs : List Row, PyData.canLayAll0 (rs.map rowD) = true
  | [] => rfl
  | r :: rs => by simp [PyData.canLayAll0, lay_row, lay_rows rs]
theorem dep_rows : ∀ rs : List Row, PyData.depthAll (rs.map rowD) ≤ 1
  | [] => by simp [PyData.depthAll]
  | r :: rs => by
    have := dep_rows rs
    simp only [List.map_cons, PyData.depthAll, dep_row]
    omega
theorem sh_row (r : Row) : SeqAt.shaped (rowD r) = true := by
  simp [SeqAt.shaped, lay_row, dep_row]
theorem sh_rowsL (rs : List Row) : SeqAt.shaped (rowsL rs) = true := by
  have := dep_rows rs
  simp [SeqAt.shaped, rowsL, PyData.canLay0, PyData.depth, lay_rows]
  omega
theorem in_rows (r : Row) (rs : List Row) : inD (rowD r) (rowsL rs) = some (decide (r ∈ rs)) := by
  rw [rowsL, in_list _ _ (sh_row r) (sh_rowsL rs)]
  congr 1
  induction rs with
  | nil => rfl
  | cons s rs ih =>
    simp only [List.map_cons, List.any_cons, ih, eqv_row, List.mem_cons]
    by_cases h : s = r
    · simp [h]
    · have h' : ¬ r = s := fun e => h e.symm
      simp [h, h']
theorem nin_rows (r : Row) (rs : List Row) : ninD (rowD r) (rowsL rs) = some (decide (¬ r ∈ rs)) := by
  unfold ninD
  rw [in_rows]
  by_cases h : r ∈ rs <;> simp [h]
end LW
namespace LW
open PySem PySem.Spec PyProof.Rows L2 DL
theorem way_0 (a b c : Bool) (n : N3) (e : Bool) : ixD (wayD a b c n e) (.int 0) = some (.str (Str.ofString (if a = true then "bag" else "set"))) := by cases a <;> rfl
inductive Op3 where
  | uni | int | dif
def Op3.s : Op3 → String
  | .uni => "union"
  | .int => "intersection"
  | .dif => "difference"
def manyZ (a b c : Bool) (w : Op3) (x y : Int) : Int :=
  let m := match w with
    | .uni => if b = true then (if y > x then y else x) else x + y
    | .int => if y < x then y else x
    | .dif => if (!a || !c) = true then x * (if y = 0 then 1 else 0) else (if x - y > 0 then x - y else 0)
  if a = true then m else (if 1 < m then 1 else m)
def mtch (n : N3) (k l : Vl) : Option Bool := if (k.isN || l.isN) = true then (if n.unk = true then none else some (k.isN && l.isN)) else some (decide (k = l))
abbrev SpMatch (f : Fs) : Prop := ∀ a b c n e k l, f [.dat (wayD a b c n e), .dat (Vl.d k), .dat (Vl.d l)] = pur (td (mtch n k l))
def secI : Row → Option Int
  | [_, .int i] => some i
  | _ => none
def sumR (rs : List Row) : List Int := rs.filterMap secI
/-- rows of two values -/
def two (rs : List Row) : Prop := ∀ r ∈ rs, ∃ u v, r = [u, v]
def totR (e : Bool) (rs : List Row) : Option Int := if e = true ∧ sumR rs = [] then none else some (sumR rs).sum
def oiD : Option Int → D
  | none => .none
  | some i => .int i
abbrev SpTotal (f : Fs) : Prop := ∀ a b c n e (rs : List Row), rs.length ≤ lim → two rs → f [.dat (wayD a b c n e), .dat (rowsT rs)] = pur (oiD (totR e rs))
end LW
namespace LW
open PySem PySem.Spec PyProof.Rows L2 DL
theorem itm_T (rs : List Row) : itmD (rowsT rs) = some (rs.map rowD) := rfl
def good (rs : List Row) : Prop := ∀ r ∈ rs, ∃ u v : Vl, r = [u, v] ∧ u.nn = true ∧ v.nn = true
theorem good.two {rs : List Row} (h : good rs) : two rs := fun r hr => by
  obtain ⟨u, v, e, _⟩ := h r hr
  exact ⟨u, v, e⟩
def trR (n : N3) (x : Flt) : Row → Option Bool
  | [u, v] => tv n u v x
  | _ => none
def isT : Option Bool → Bool
  | some true => true
  | _ => false
def selR (n : N3) (x : Flt) (rs : List Row) : List Row := rs.filter fun r => isT (trR n x r)
def onceGo : List Row → List Row → List Row
  | acc, [] => acc
  | acc, r :: rs => onceGo (acc ++ if r ∈ acc then [] else [r]) rs
def onceR (rs : List Row) : List Row := onceGo [] rs
theorem once_sub : ∀ (rs acc : List Row) r, r ∈ onceGo acc rs → r ∈ acc ∨ r ∈ rs
  | [], acc, r, h => .inl h
  | s :: rs, acc, r, h => by
    rcases once_sub rs _ r h with q | q
    · rcases List.mem_append.mp q with q | q
      · exact .inl q
      · split at q
        · cases q
        · exact .inr (by simpa using .inl (List.mem_singleton.mp q))
    · exact .inr (List.mem_cons_of_mem _ q)
abbrev SpOnce (f : Fs) : Prop := ∀ rs : List Row, rs.length ≤ lim → (∀ r ∈ rs, r.length ≤ lim) → f [.dat (rowsL rs)] = pur (rowsT (srtR (onceR rs))) ∧ f [.dat (rowsT rs)] = pur (rowsT (srtR (onceR rs)))
theorem rep_if (r : Row) (p : Prop) [Decidable p] : mulxD (.list [rowD r]) (.int (if p then 1 else 0)) = some (rowsL (if p then [r] else [])) := by
  have h0 : (0 : Nat) ≤ sizeLine := Nat.zero_le _
  have h1 : (1 : Nat) ≤ sizeLine := big_ok (by decide)
  split <;> simp [mulxD, repL, rowsL, h0, h1]
theorem app_rows (xs ys : List Row) (h : xs.length + ys.length ≤ lim) : addD (rowsL xs) (rowsL ys) = some (rowsL (xs ++ ys)) := by
  have := big_ok h
  simp [addD, rowsL, this]
def cutR (n : Nat) (rs : List Row) : List Row := rs.map (·.take n)
end LW
namespace LW
open PySem PySem.Spec PyProof.Rows L2 DL
def keyR : Row → Vl
  | k :: _ => k
  | [] => .nul
def joinOne (n : N3) (r : Row) (ys : List Row) : List Row := (ys.filter fun s => isT (mtch n (keyR r) (keyR s))).map fun s => r ++ s.drop 1
def joinR (n : N3) (xs ys : List Row) : List Row := xs.flatMap fun r => joinOne n r ys
theorem ix_key (r : Row) (h : ∃ u v, r = [u, v]) : ixD (rowD r) (.int 0) = some (keyR r).d := by
  obtain ⟨u, v, rfl⟩ := h
  simp [rowD, keyR]
end LW
namespace LW
open PySem PySem.Spec PyProof.Rows L2 DL
@[simp] theorem dDGet_eq (kfs : List (Str × (Ev → Mn D))) (fw : Ev → Mn D) (ev : Ev) : dDGet kfs fw ev = bnd (dDisp kfs ev) fun ps => bnd (fw ev) fun w => lft (match w with
  | .str z => lookL ps z
  | _ => none) := rfl
theorem lay_tds : ∀ ts : List (Option Bool), PyData.canLayAll0 (ts.map td) = true
  | [] => rfl
  | t :: ts => by
    have h : PyData.canLay0 (td t) = true := by cases t <;> simp [td, PyData.canLay0]
    simp [PyData.canLayAll0, h, lay_tds ts]
theorem dep_tds : ∀ ts : List (Option Bool), PyData.depthAll (ts.map td) = 0
  | [] => rfl
  | t :: ts => by
    have h : PyData.depth (td t) = 0 := by cases t <;> simp [td, PyData.depth]
    simp [PyData.depthAll, h, dep_tds ts]
theorem sh_tds (ts : List (Option Bool)) : SeqAt.shaped (.list (ts.map td)) = true := by
  simp [SeqAt.shaped, PyData.canLay0, PyData.depth, lay_tds, dep_tds]
theorem eqv_td (t u : Option Bool) : PyData.eqv (td t) (td u) = decide (t = u) := by
  rcases t with _ | (_ | _) <;> rcases u with _ | (_ | _) <;> simp [td]
theorem in_tds (u : Option Bool) (ts : List (Option Bool)) : inD (td u) (.list (ts.map td)) = some (decide (u ∈ ts)) := by
  rw [in_list _ _ (td_shape u) (sh_tds ts)]
  congr 1
  induction ts with
  | nil => rfl
  | cons t ts ih =>
    simp only [List.map_cons, List.any_cons, ih, eqv_td, List.mem_cons]
    by_cases h : t = u
    · simp [h]
    · have h' : ¬ u = t := fun e => h e.symm
      simp [h, h']
theorem inT (ts : List (Option Bool)) : inD (.bool true) (.list (ts.map td)) = some (decide (some true ∈ ts)) := in_tds (some true) ts
theorem inN (ts : List (Option Bool)) : inD .none (.list (ts.map td)) = some (decide (none ∈ ts)) := in_tds none ts
inductive Kp3 where
  | semi | anti | notin
def Kp3.s : Kp3 → String
  | .semi => "semijoin"
  | .anti => "antijoin"
  | .notin => "not_in"
def keysR (n : N3) (r : Row) (ys : List Row) : List (Option Bool) := ys.map fun s => mtch n (keyR r) (keyR s)
def keepB (n : N3) (w : Kp3) (ys : List Row) (r : Row) : Bool := match w with
  | .semi => decide (some true ∈ keysR n r ys)
  | .anti => !decide (some true ∈ keysR n r ys)
  | .notin => !decide (some true ∈ keysR n r ys) && !decide (none ∈ keysR n r ys)
def keptR (n : N3) (w : Kp3) (xs ys : List Row) : List Row := xs.filter (keepB n w ys)
abbrev SpKept (f : Fs) : Prop := ∀ a b c n e (xs ys : List Row) w, xs.length ≤ lim → ys.length ≤ lim → two xs → two ys → f [.dat (wayD a b c n e), .dat (rowsT xs), .dat (rowsT ys), .dat (.str (Str.ofString (Kp3.s w)))] = pur (rowsT (keptR n w xs ys))
abbrev keptB (fm : Fs) : Ev → Ms := seqM (pSet 6 (dComp [8] (dItm (dVar 2)) (.name 8) (dYes) (dCl 3 fm (dCons (dVar 0) (dCons (dBin ixD (dVar 5) (dLit (.int 0))) (dCons (dBin ixD (dVar 8) (dLit (.int 0))) (dNil)))))))
    (seqM (pSet 7 (dDGet [("semijoin", dCmpE inD (dLit (.bool true)) (dVar 6)), ("antijoin", dCmpE ninD (dLit (.bool true)) (dVar 6)), ("not_in", dAndV (dCmpE ninD (dLit (.bool true)) (dVar 6)) (dCmpE ninD (dLit .none) (dVar 6)))] (dVar 3)))
    (pSet 4 (dBin addD (dVar 4) (dBin mulxD (dLst (dCons (dVar 5) (dNil))) (dFn DL.intD (dCons (dVar 7) (dNil)))))))
theorem rep_b (r : Row) (p : Bool) : mulxD (.list [rowD r]) (.int (if p = true then 1 else 0)) = some (rowsL (if p = true then [r] else [])) := rep_if r (p = true)
theorem kept_loop {fm : Fs} (hm : SpMatch fm) (a b c : Bool) (n : N3) (e : Bool) (w : Kp3) (s1 : DL.Slot) (ys : List Row) (h2 : two ys) (hl : ys.length ≤ lim) : ∀ (xs acc : List Row) (s5 s6 s7 : DL.Slot), two xs → acc.length + xs.length ≤ lim → ∃ s5' s6' s7', forGo (.name 5) (keptB fm) (xs.map rowD) [.dat (wayD a b c n e), s1, .dat (rowsT ys), .dat (.str (Str.ofString w.s)), .dat (rowsL acc), s5, s6, s7, .hid] = nxM [.dat (wayD a b c n e), s1, .dat (rowsT ys), .dat (.str (Str.ofString w.s)), .dat (rowsL (acc ++ keptR n w xs ys)), s5', s6', s7', .hid]
  | [], acc, s5, s6, s7, _, _ => ⟨s5, s6, s7, by simp [keptR]⟩
  | r :: xs, acc, s5, s6, s7, hx, hz => by
    simp only [List.length_cons] at hz
    have hr := hx r (List.mem_cons_self)
    have hone : (if keepB n w ys r = true then [r] else []).length ≤ 1 := by split <;> simp
    obtain ⟨t5, t6, t7, q⟩ := kept_loop hm a b c n e w s1 ys h2 hl xs (acc ++ if keepB n w ys r = true then [r] else []) (.dat (rowD r)) (.dat (.list ((keysR n r ys).map td))) (.dat (.bool (keepB n w ys r))) (fun x h => hx x (List.mem_cons_of_mem _ h)) (by rw [List.length_append]; omega)
    refine ⟨t5, t6, t7, ?_⟩
    rw [List.map_cons, forGo_cons]
    have comp : ∀ w1 w3 w4 w6 w7, compGo (.name 8) dYes (dCl 3 fm (dCons (dVar 0) (dCons (dBin ixD (dVar 5) (dLit (.int 0))) (dCons (dBin ixD (dVar 8) (dLit (.int 0))) (dNil))))) [.dat (wayD a b c n e), w1, .dat (rowsT ys), w3, w4, .dat (rowD r), w6, w7, .hid] (ys.map rowD) = pur ((keysR n r ys).map td) := fun w1 w3 w4 w6 w7 => by
      have q := compGo_all (t := .name 8) (e := dCl 3 fm (dCons (dVar 0) (dCons (dBin ixD (dVar 5) (dLit (.int 0))) (dCons (dBin ixD (dVar 8) (dLit (.int 0))) (dNil))))) (ev := [.dat (wayD a b c n e), w1, .dat (rowsT ys), w3, w4, .dat (rowD r), w6, w7, .hid]) rowD (fun s => td (mtch n (keyR r) (keyR s))) ys fun s hs => ⟨_, rfl, by simp [ix_key r hr, ix_key s (h2 s hs), hm a b c n e _ _]⟩
      rw [q]
      unfold keysR
      rw [List.map_map]
      rfl
    have hsz : (keysR n r ys).length ≤ sizeLine := big_ok (by simpa [keysR] using hl)
    have ad := app_rows acc (if keepB n w ys r = true then [r] else []) (by omega)
    have fin : ∀ k, k = keepB n w ys r → DL.intD [.bool k] = some (.int (if keepB n w ys r = true then 1 else 0)) := fun k hk => by rw [hk]; rfl
    have i1 := inT (keysR n r ys)
    have i2 := inN (keysR n r ys)
    have o1 : (1 : Nat) ≤ sizeLine := big_ok (by decide)
    have rb := rep_b r (keepB n w ys r)
    have kk : keptR n w (r :: xs) ys = (if keepB n w ys r = true then [r] else []) ++ keptR n w xs ys := by
      unfold keptR
      rw [List.filter_cons]
      split <;> simp
    rw [kk, ← List.append_assoc, ← q]
    generalize hp1 : decide (some true ∈ keysR n r ys) = p1 at i1
    generalize hp2 : decide (none ∈ keysR n r ys) = p2 at i2
    have t1 : DL.intD [.bool true] = some (.int 1) := rfl
    have t0 : DL.intD [.bool false] = some (.int 0) := rfl
    have m1 : mulxD (.list [rowD r]) (.int 1) = some (rowsL [r]) := rep_b r true
    have m0 : mulxD (.list [rowD r]) (.int 0) = some (rowsL []) := rep_b r false
    have a1 := app_rows acc [r] (by simp; omega)
    have a0 := app_rows acc [] (by simp; omega)
    simp only [List.append_nil] at a0
    cases w with
    | semi =>
      have hk : keepB n .semi ys r = p1 := hp1
      cases p1 <;> simp [keptB, itm_T, comp, hsz, ninD, i1, i2, truD, Kp3.s, lookL, t1, t0, m1, m0, a1, a0, hk]
    | anti =>
      have hk : keepB n .anti ys r = !p1 := by rw [← hp1]; rfl
      cases p1 <;> simp [keptB, itm_T, comp, hsz, ninD, i1, i2, truD, Kp3.s, lookL, t1, t0, m1, m0, a1, a0, hk]
    | notin =>
      have hk : keepB n .notin ys r = (!p1 && !p2) := by rw [← hp1, ← hp2]; rfl
      cases p1 <;> cases p2 <;> simp [keptB, itm_T, comp, hsz, ninD, i1, i2, truD, Kp3.s, lookL, t1, t0, m1, m0, a1, a0, hk]
theorem kept_ok {fm : Fs} (hm : SpMatch fm) : SpKept (dFun 4 9 (d__law_kept fm)) := by
  intro a b c n e xs ys w hl hl2 hx hy
  obtain ⟨s5, s6, s7, q⟩ := kept_loop hm a b c n e w (.dat (rowsT xs)) ys hy hl2 xs [] .hid .hid .hid hx (by simpa using hl)
  have q : forGo (.name 5) (keptB fm) (xs.map rowD) [.dat (wayD a b c n e), .dat (rowsT xs), .dat (rowsT ys), .dat (.str (Str.ofString w.s)), .dat (.list []), .hid, .hid, .hid, .hid] = nxM [.dat (wayD a b c n e), .dat (rowsT xs), .dat (rowsT ys), .dat (.str (Str.ofString w.s)), .dat (rowsL (keptR n w xs ys)), s5, s6, s7, .hid] := q
  have tl : tupleD [rowsL (keptR n w xs ys)] = some (rowsT (keptR n w xs ys)) := rfl
  rw [dFun_eq]
  simp [d__law_kept, sFor_f, itm_T, q, tl]
end LW
namespace LW
open PySem PySem.Spec PyProof.Rows L2 DL
def manyN (a b c : Bool) (w : Op3) (xs ys : List Row) (r : Row) : Nat := (manyZ a b c w (xs.count r : Nat) (ys.count r : Nat)).toNat
def bothGo (k : Row → Nat) : List Row → List Row → List Row → List Row
  | acc, _, [] => acc
  | acc, done, r :: zs => if r ∈ done then bothGo k acc done zs else bothGo k (acc ++ List.replicate (k r) r) (done ++ [r]) zs
def bothR (a b c : Bool) (w : Op3) (xs ys : List Row) : List Row := bothGo (manyN a b c w xs ys) [] [] (xs ++ ys)
abbrev SpBoth (f : Fs) : Prop := ∀ a b c n e w (xs ys : List Row), (xs.length + ys.length) * (xs.length + ys.length) ≤ lim → (∀ r ∈ xs, r.length ≤ lim) → (∀ r ∈ ys, r.length ≤ lim) → f [.dat (wayD a b c n e), .dat (.str (Str.ofString (Op3.s w))), .dat (rowsT xs), .dat (rowsT ys)] = pur (rowsT (srtR (bothR a b c w xs ys)))
theorem done_l (done : List Row) : (PyData.list (done.map rowD) : D) = rowsL done := rfl
end LW
namespace LW
open PySem PySem.Spec PyProof.Rows L2 DL
def GvS (m : Ms) (P : Ev → Prop) : Prop := ∀ rs, ∃ ev rs', m rs = some (.nx ev, rs') ∧ (P ev ∧ rs'.x = rs.x)
theorem GvS.bnS {α : Type} {m : Mn α} {k : α → Ms} {P : α → Prop} {Q : Ev → Prop} (h : Gv m P) (hk : ∀ a, P a → GvS (k a) Q) : GvS (DL.bnS m k) Q := fun rs => by
  obtain ⟨d, rs1, e, p, x1⟩ := h rs
  obtain ⟨d2, rs2, e2, p2, x2⟩ := hk d p rs1
  refine ⟨d2, rs2, ?_, p2, x2.trans x1⟩
  unfold DL.bnS
  rw [e]
  exact e2
theorem GvS.nx {ev : Ev} {Q : Ev → Prop} (h : Q ev) : GvS (nxM ev) Q := fun rs => ⟨ev, rs, rfl, h, rfl⟩
theorem GvS.wl {m : Ms} {k : Ev → Ms} {P Q : Ev → Prop} (h : GvS m P) (hk : ∀ a, P a → GvS (k a) Q) : GvS (DL.wl m k) Q := fun rs => by
  obtain ⟨d, rs1, e, p, x1⟩ := h rs
  obtain ⟨d2, rs2, e2, p2, x2⟩ := hk d p rs1
  refine ⟨d2, rs2, ?_, p2, x2.trans x1⟩
  unfold DL.wl
  rw [e]
  exact e2
theorem GvS.sq {m : Ms} {k : Ev → Ms} {P Q : Ev → Prop} (h : GvS m P) (hk : ∀ a, P a → GvS (k a) Q) : GvS (DL.sq m k) Q := fun rs => by
  obtain ⟨d, rs1, e, p, x1⟩ := h rs
  obtain ⟨d2, rs2, e2, p2, x2⟩ := hk d p rs1
  refine ⟨d2, rs2, ?_, p2, x2.trans x1⟩
  unfold DL.sq
  rw [e]
  exact e2
theorem GvS.fin {m : Ms} {k : Ev → Ms} {P : Ev → Prop} {Q : D → Prop} (h : GvS m P) (hk : ∀ a, P a → Gv (DL.fin (k a)) Q) : Gv (DL.fin (DL.sq m k)) Q := fun rs => by
  obtain ⟨d, rs1, e, p, x1⟩ := h rs
  obtain ⟨d2, rs2, e2, p2, x2⟩ := hk d p rs1
  refine ⟨d2, rs2, ?_, p2, x2.trans x1⟩
  have : DL.sq m k rs = k d rs1 := by unfold DL.sq; rw [e]
  unfold DL.fin at e2 ⊢
  rw [this]
  exact e2
theorem Gv.dyn {m : Mn D} {P : D → Prop} (h : Gv m fun d => noL d = true ∧ P d) : Gv (dynM stk m) P := fun rs => by
  obtain ⟨d, rs', e, ⟨n, p⟩, x1⟩ := h rs
  refine ⟨d, rs', ?_, p, x1⟩
  have z : dynM stk m rs = (match m rs with
    | some (Out.val d, rs') => if noL d = true then some (Out.val d, rs') else none
    | _ => none) := rfl
  rw [z, e]
  show (if noL d = true then _ else _) = _
  rw [if_pos n]
def okRow (n : N3) (r : Row) : Prop := ∃ u v : Vl, r = [u, v] ∧ u.okU n = true ∧ v.okU n = true
def IsTab (a : Bool) (n : N3) (most : Nat) (rs : List Row) : Prop := rs.length ≤ most ∧ (∀ r ∈ rs, okRow n r) ∧ (a = false → rs.Nodup)
theorem okU_nn {n : N3} {x : Vl} (h : x.okU n = true) : x.nn = true := by
  cases x with
  | nul => rfl
  | int i => simp [Vl.okU] at h; simp [Vl.nn, h.1]
theorem noL_v (x : Vl) : noL x.d = true := by cases x <;> rfl
theorem noL_row (r : Row) : noL (rowD r) = true := by
  have : ∀ r : Row, noL.noLs (r.map Vl.d) = true := by
    intro r
    induction r with
    | nil => rfl
    | cons x r ih => simp [noL.noLs, noL_v, ih]
  simp [rowD, noL, this]
theorem ne_rows (rs : List Row) : neD (rowsL rs) (.list []) = some (decide (rs ≠ [])) := by
  unfold neD
  rw [if_pos ⟨sh_rowsL rs, sh_rowsL []⟩]
  cases rs <;> simp [rowsL, PyData.eqv, PyData.eqvAll]
abbrev SpTable (f : Fs) : Prop := ∀ a b c n e (most : Nat), most ≤ 500 → Gv (f [.row, .dat (wayD a b c n e), .dat (.int (most : Nat))]) fun d => ∃ rs, d = rowsT (srtR rs) ∧ IsTab a n most rs
abbrev lineE (ft fp fv : Fs) : Ev → Mn D := dIf (dAnd (dCmp neD (dVar 3) (dLst (dNil))) (dCmp eqD (dCl 2 ft (dRow 0 (dCons (dLit (.int 3)) (dNil)))) (dLit (.int 0)))) (dCl 2 fp (dRow 0 (dCons (dVar 3) (dNil)))) (dTup (dCons (dCl 2 fv (dRow 0 (dCons (dVar 1) (dNil)))) (dCons (dCl 2 fv (dRow 0 (dCons (dVar 1) (dNil)))) (dNil))))
abbrev tabB (ft fp fv : Fs) : Ev → Ms := seqM (sSet 5 (lineE ft fp fv))
    (sIf (dOr (dCmp eqD (dBin ixD (dVar 1) (dLit (.int 0))) (dLit (.str "bag"))) (dCmp ninD (dVar 5) (dVar 3))) (sApp 3 (dVar 5)) (sNil))
def TabEv (a : Bool) (w m : D) (n : N3) (k : Nat) (ev : Ev) : Prop := ∃ rs s4 s5, ev = [.row, .dat w, .dat m, .own (.l (rs.map rowD)), s4, s5] ∧ IsTab a n k rs
theorem tab_turn {ft fp fv : Fs} (h1 : SpTk ft) (h2 : SpPick fp) (h3 : SpLawVal fv) (a b c : Bool) (n : N3) (e : Bool) (m : D) (k : Nat) (hk : k ≤ 900) (ev : Ev) (h : TabEv a (wayD a b c n e) m n k ev) : GvS (tabB ft fp fv ev) (TabEv a (wayD a b c n e) m n (k + 1)) := by
  obtain ⟨rs, s4, s5, rfl, hl, hok, hnd⟩ := h
  have draw : Gv (bnd (fv [.row, .dat (wayD a b c n e)]) fun x => bnd (fv [.row, .dat (wayD a b c n e)]) fun y => DL.pur (.tuple [x, y])) fun d => noL d = true ∧ ∃ r, d = rowD r ∧ okRow n r := by
    refine Gv.bnd (h3 a b c n e) fun d ⟨u, hd, hu⟩ => ?_
    subst hd
    refine Gv.bnd (h3 a b c n e) fun d ⟨v, hd, hv⟩ => ?_
    subst hd
    exact Gv.pur ⟨noL_row [u, v], [u, v], rfl, u, v, rfl, hu, hv⟩
  have line : Gv (lineE ft fp fv [.row, .dat (wayD a b c n e), .dat m, .dat (rowsL rs), lendS s4, lendS s5]) fun d => noL d = true ∧ ∃ r, d = rowD r ∧ okRow n r := by
    simp [ne_rows, bnd_bnd, bnd_id]
    by_cases he : rs = []
    · simp [he]
      exact draw
    · simp [he, bnd_bnd]
      refine Gv.bnd (h1 3 (by decide) (by decide)) fun d ⟨i, i0, i1, hd⟩ => ?_
      subst hd
      simp only [eq_ii, lft_some', bnd_pur]
      split
      · refine Gv.imp (h2 (rs.map rowD) (by cases rs with | nil => exact absurd rfl he | cons x y => simp) (by simp; omega)) fun d hd => ?_
        obtain ⟨r, hr, rfl⟩ := List.mem_map.mp hd
        exact ⟨noL_row r, r, rfl, hok r hr⟩
      · exact draw
  have none : lineE ft fp fv [.row, .dat (wayD a b c n e), .dat m, .own (.l (rs.map rowD)), s4, s5] = stk := by simp
  show GvS (DL.sq (sSet 5 (lineE ft fp fv) [.row, .dat (wayD a b c n e), .dat m, .own (.l (rs.map rowD)), s4, s5]) _) _
  refine GvS.sq (P := fun ev => ∃ r, ev = [.row, .dat (wayD a b c n e), .dat m, .own (.l (rs.map rowD)), s4, .dat (rowD r)] ∧ okRow n r) ?_ fun ev hev => ?_
  · rw [sSet_eq, dyn_eq, none]
    refine GvS.bnS (Gv.dyn line) fun d ⟨r, hd, hr⟩ => ?_
    subst hd
    exact GvS.nx ⟨r, rfl, hr⟩
  · obtain ⟨r, rfl, hr⟩ := hev
    have dl : rs.length < sizeLine := Nat.lt_of_lt_of_le (m := lim) (by have := lim_eq; omega) (big_ok (Nat.le_refl _))
    have ap : sApp 3 (dVar 5) [.row, .dat (wayD a b c n e), .dat m, .own (.l (rs.map rowD)), s4, .dat (rowD r)] = nxM [.row, .dat (wayD a b c n e), .dat m, .own (.l ((rs ++ [r]).map rowD)), s4, .dat (rowD r)] := by simp [dl]
    have good : ∀ r' ∈ rs ++ [r], okRow n r' := fun r' h' => by
      rcases List.mem_append.mp h' with q | q
      · exact hok r' q
      · rw [List.mem_singleton.mp q]; exact hr
    have nin := nin_rows r rs
    cases a with
    | true =>
      simp [way_0, dl]
      exact GvS.nx ⟨rs ++ [r], s4, .dat (rowD r), by simp, by simp; omega, good, fun z => by cases z⟩
    | false =>
      simp [way_0, done_l, nin]
      by_cases hm : r ∈ rs
      · simp [hm]
        exact GvS.nx ⟨rs, _, _, rfl, by omega, hok, hnd⟩
      · simp [hm, dl]
        refine GvS.nx ⟨rs ++ [r], s4, .dat (rowD r), by simp, by simp; omega, good, fun _ => ?_⟩
        rw [List.nodup_append]
        exact ⟨hnd rfl, by simp, fun x hx y hy z => hm (by rw [← List.mem_singleton.mp hy, ← z]; exact hx)⟩
theorem tab_go {ft fp fv : Fs} (h1 : SpTk ft) (h2 : SpPick fp) (h3 : SpLawVal fv) (a b c : Bool) (n : N3) (e : Bool) (m : D) : ∀ (ds : List D) (k : Nat), k + ds.length ≤ 900 → ∀ ev, TabEv a (wayD a b c n e) m n k ev → GvS (forGo (.name 4) (tabB ft fp fv) ds ev) (TabEv a (wayD a b c n e) m n (k + ds.length))
  | [], k, _, ev, h => GvS.nx h
  | d :: ds, k, hl, ev, h => by
    simp only [List.length_cons] at hl
    rw [forGo_cons]
    obtain ⟨rs, s4, s5, rfl, hr⟩ := h
    simp only [tgt_name, lft_some', bnS_pur, tix_name, setE_cons, setE_nil2, List.set_cons_succ, List.set_cons_zero]
    have t := tab_turn h1 h2 h3 a b c n e m k (by omega) [.row, .dat (wayD a b c n e), .dat m, .own (.l (rs.map rowD)), .dat d, s5] ⟨rs, _, _, rfl, hr⟩
    refine GvS.wl t fun ev' h' => ?_
    have q := tab_go h1 h2 h3 a b c n e m ds (k + 1) (by omega) ev' h'
    rw [List.length_cons, show k + (ds.length + 1) = k + 1 + ds.length by omega]
    exact q
theorem IsTab.mono {a : Bool} {n : N3} {k l : Nat} {rs : List Row} (h : IsTab a n k rs) (hk : k ≤ l) : IsTab a n l rs := ⟨Nat.le_trans h.1 hk, h.2⟩
theorem table_ok {ft fp fv fs : Fs} (h1 : SpTk ft) (h2 : SpPick fp) (h3 : SpLawVal fv) (h4 : SpSorted fs) : SpTable (dFun 3 6 (d__law_table ft fp fv fs)) := by
  intro a b c n e most hm
  rw [dFun_eq]
  simp [d__law_table, sFor_f, addD, sq_bnS, fin_bnS, bnd_bnd, bnS_bnd]
  refine Gv.bnd (h1 _ (by omega) (by omega)) fun d ⟨i, i0, i1, hd⟩ => ?_
  subst hd
  have hr : rng1 [.int i] = some (rngD 0 i) := by
    have q : rng1 [.int i] = if -(2 ^ 62) ≤ i ∧ i < 2 ^ 62 then some (rngD 0 i) else none := rfl
    rw [q, if_pos (by omega)]
  rw [hr]
  simp only [lft_some', bnd_pur]
  have hl : (rngD 0 i).length ≤ most := by simp [rngD]; omega
  refine GvS.fin (tab_go h1 h2 h3 a b c n e (.int (most : Nat)) (rngD 0 i) 0 (by omega) _ ⟨[], .hid, .hid, rfl, by simp [IsTab]⟩) fun ev hev => ?_
  obtain ⟨rs, s4, s5, rfl, ht⟩ := hev
  have ht : IsTab a n most rs := ht.mono (by omega)
  have z := h4 rs (by have := ht.1; have := lim_eq; omega) (fun r hr => by
    obtain ⟨u, v, rfl, _⟩ := ht.2.1 r hr
    have := lim_eq
    simp; omega)
  simp [done_l, z]
  exact Gv.pur ⟨rs, rfl, ht⟩
end LW
namespace LW
open PySem PySem.Spec PyProof.Rows L2 DL
end LW
namespace LW
open PySem PySem.Spec PyProof.Rows L2 DL
def nnR (r : Row) : Prop := ∀ v ∈ r, v.nn = true
theorem rnk_inj : ∀ {r s : Row}, nnR r → nnR s → rnk r = rnk s → r = s
  | [], [], _, _, _ => rfl
  | [], _ :: _, _, _, e => by simp [rnk] at e
  | _ :: _, [], _, _, e => by simp [rnk] at e
  | x :: r, y :: s, hr, hs, e => by
    simp only [rnk, List.map_cons, List.cons.injEq] at e
    have h1 : x.nn = true := hr x (by simp)
    have h2 : y.nn = true := hs y (by simp)
    have hx : x = y := by
      cases x with
      | nul =>
        cases y with
        | nul => rfl
        | int j =>
          have : 0 ≤ j := by simpa [Vl.nn] using h2
          have q : (0 : Int) = j + 1 := e.1
          omega
      | int i =>
        have : 0 ≤ i := by simpa [Vl.nn] using h1
        cases y with
        | nul =>
          have q : i + 1 = (0 : Int) := e.1
          omega
        | int j =>
          have q : i + 1 = j + 1 := e.1
          rw [show i = j by omega]
    rw [hx, rnk_inj (fun v hv => hr v (by simp [hv])) (fun v hv => hs v (by simp [hv])) e.2]
theorem leR_total (r s : Row) : (leR r s || leR s r) = true := by
  unfold leR
  rcases List.le_total (rnk r) (rnk s) with h | h
  · simp [h]
  · simp [h]
theorem leR_trans (r s t : Row) (h1 : leR r s = true) (h2 : leR s t = true) : leR r t = true := by
  unfold leR at *
  simp only [decide_eq_true_eq] at *
  exact List.le_trans h1 h2
theorem leR_anti {r s : Row} (hr : nnR r) (hs : nnR s) (h1 : leR r s = true) (h2 : leR s r = true) : r = s := by
  unfold leR at *
  simp only [decide_eq_true_eq] at *
  exact rnk_inj hr hs (List.le_antisymm h1 h2)
theorem srt_sorted (rs : List Row) : (srtR rs).Pairwise fun r s => leR r s = true := List.pairwise_mergeSort (fun a b c => leR_trans a b c) leR_total rs
theorem srt_perm (rs : List Row) : (srtR rs).Perm rs := List.mergeSort_perm rs leR
theorem srt_unique {xs ys : List Row} (hx : ∀ r ∈ xs, nnR r) (hp : xs.Perm ys) (h1 : xs.Pairwise fun r s => leR r s = true) (h2 : ys.Pairwise fun r s => leR r s = true) : xs = ys :=
  hp.eq_of_pairwise (fun a b ha hb h1 h2 => leR_anti (hx a ha) (hx b (hp.mem_iff.mpr hb)) h1 h2) h1 h2
theorem srt_count {xs ys : List Row} (hx : ∀ r ∈ xs, nnR r) (h : ∀ r, xs.count r = ys.count r) (h2 : ys.Pairwise fun r s => leR r s = true) : ys = srtR xs := by
  have hp : xs.Perm ys := List.perm_iff_count.mpr h
  exact (srt_unique (fun r hr => hx r ((srt_perm xs).mem_iff.mp hr)) ((srt_perm xs).trans hp) (srt_sorted xs) h2).symm
theorem okRow.nn {n : N3} {r : Row} (h : okRow n r) : nnR r := by
  obtain ⟨u, v, rfl, hu, hv⟩ := h
  intro x hx
  simp at hx
  rcases hx with rfl | rfl
  · exact okU_nn hu
  · exact okU_nn hv
end LW
namespace LW
open PySem PySem.Spec PyProof.Rows L2 DL
inductive Cnd where
  | p
  | q
  | not (c : Cnd)
  | and (c d : Cnd)
  | or (c d : Cnd)
def Cnd.d : Cnd → D
  | .p => .tuple [.str "p"]
  | .q => .tuple [.str "q"]
  | .not c => .tuple [.str "not", c.d]
  | .and c e => .tuple [.str "and", c.d, e.d]
  | .or c e => .tuple [.str "or", c.d, e.d]
def Cnd.size : Cnd → Nat
  | .p => 1
  | .q => 1
  | .not c => c.size + 1
  | .and c e => c.size + e.size + 1
  | .or c e => c.size + e.size + 1
inductive Ex where
  | tab (b : Bool)
  | op (w : Op3) (e f : Ex)
  | flt (c : Cnd) (e : Ex)
def Ex.d : Ex → D
  | .tab b => .tuple [.str "table", colD b]
  | .op w e f => .tuple [.str (Str.ofString w.s), e.d, f.d]
  | .flt c e => .tuple [.str "filter", c.d, e.d]
def Ex.size : Ex → Nat
  | .tab _ => 1
  | .op _ e f => e.size + f.size + 1
  | .flt c e => c.size + e.size + 1
def Ex.leaves : Ex → Nat
  | .tab _ => 1
  | .op _ e f => e.leaves + f.leaves
  | .flt _ e => e.leaves
def IsCnd (b : Nat) (d : D) : Prop := ∃ x : Cnd, d = x.d ∧ x.size ≤ b
abbrev SpCond (f : Fs) (m : Nat) : Prop := ∀ k : Nat, k < m → Gv (f [.row, .dat (.int k)]) (IsCnd (2 ^ (k + 1) - 1))
theorem cond_ok {ft fp ff : Fs} {m : Nat} (h1 : SpTk ft) (h2 : SpPick fp) (h3 : SpCond ff m) : SpCond (dFun 2 3 (d__law_condition ft fp ff)) (m + 1) := by
  intro k hk
  have hpow : 1 ≤ 2 ^ (k + 1) - 1 := by
    have : 2 ^ 1 ≤ 2 ^ (k + 1) := Nat.pow_le_pow_right (by decide) (by omega)
    omega
  have lt_ii : ∀ i j : Int, ltD (.int i) (.int j) = some (decide (i < j)) := fun i j => rfl
  simp [dFun_eq, d__law_condition, fin_bnS, bnd_bnd, bnS_bnd, sq_bnS, gtD, mulxD, addD, subD, int_b, bnd_id]
  refine Gv.bnd (P := fun d => ∃ i : Int, 0 ≤ i ∧ i < 6 ∧ (0 < k ∨ i < 3) ∧ d = .int i) ?_ fun d ⟨i, i0, i1, i2, e⟩ => ?_
  · by_cases hk0 : 0 < k
    · rw [if_pos hk0]
      exact Gv.imp (h1 (3 + 3 * 1) (by decide) (by decide)) fun d ⟨i, i0, i1, e⟩ => ⟨i, i0, i1, .inl hk0, e⟩
    · rw [if_neg hk0]
      exact Gv.imp (h1 (3 + 3 * 0) (by decide) (by decide)) fun d ⟨i, i0, i1, e⟩ => ⟨i, i0, by omega, .inr i1, e⟩
  subst e
  simp only [lt_ii, eq_ii, lft_some', bnd_pur, decide_eq_true_eq, beq_iff_eq]
  split
  · refine Gv.imp (h2 _ (by simp) (by simp)) fun d hd => ?_
    simp at hd
    rcases hd with rfl | rfl
    · exact ⟨.p, rfl, hpow⟩
    · exact ⟨.q, rfl, hpow⟩
  · have hk0 : 0 < k := by omega
    have hkk : ((k : Int) - 1) = ((k - 1 : Nat) : Int) := by omega
    rw [hkk]
    have hr := h3 (k - 1) (by omega)
    rw [show k - 1 + 1 = k by omega] at hr
    have hp2 : 2 ^ (k + 1) = 2 * 2 ^ k := by rw [Nat.pow_succ]; omega
    have hp1 : 2 ≤ 2 ^ k := by
      have : 2 ^ 1 ≤ 2 ^ k := Nat.pow_le_pow_right (by decide) hk0
      omega
    split
    · refine Gv.bnd hr fun d ⟨x, e, sz⟩ => ?_
      subst e
      exact Gv.pur ⟨.not x, rfl, by simp only [Cnd.size]; omega⟩
    · refine Gv.bnd (h2 _ (by simp) (by simp)) fun w mw => ?_
      refine Gv.bnd hr fun d ⟨x, e, sz⟩ => ?_
      subst e
      refine Gv.bnd hr fun d ⟨y, e, sz2⟩ => ?_
      subst e
      simp at mw
      refine Gv.pur ?_
      rcases mw with rfl | rfl
      · exact ⟨.and x y, rfl, by simp only [Cnd.size]; omega⟩
      · exact ⟨.or x y, rfl, by simp only [Cnd.size]; omega⟩
def cv (p q : Option Bool) : Cnd → Option Bool
  | .p => p
  | .q => q
  | .not c => tnot (cv p q c)
  | .and c e => tand (cv p q c) (cv p q e)
  | .or c e => tor (cv p q c) (cv p q e)
theorem cnd_pos (c : Cnd) : 1 ≤ c.size := by cases c <;> simp [Cnd.size]
end LW
namespace LW
open PySem PySem.Spec PyProof.Rows L2 DL
theorem ex_pos (e : Ex) : 1 ≤ e.size := by cases e <;> simp [Ex.size]
end LW
namespace LW
open PySem PySem.Spec PyProof.Rows L2 DL
abbrev SpLawEx (f : Fs) (m : Nat) : Prop := ∀ k : Nat, 1 ≤ k → k ≤ m → k ≤ 100 → Gv (f [.row, .dat (.int k)]) fun d => ∃ e : Ex, d = e.d ∧ e.leaves ≤ k ∧ e.size ≤ 10 * k - 5
theorem law_ex {ft fc fp ff : Fs} {m : Nat} (h1 : SpTk ft) (h2 : SpCond fc 2) (h3 : SpPick fp) (h4 : SpLawEx ff m) : SpLawEx (dFun 2 5 (d__law_expression ft fc fp ff)) (m + 1) := by
  intro k k1 km kl
  have lt_ii : ∀ i j : Int, ltD (.int i) (.int j) = some (decide (i < j)) := fun i j => rfl
  have c1 := h2 1 (by decide)
  have leaf : Gv (bnd (ft [.row, .dat (.int 3)]) fun a => bnd (lft (gtD a (.int 0))) fun a => if a = true then bnd (ft [.row, .dat (.int 2)]) fun a => pur (PyData.tuple [.str "table", a]) else bnd (fc [.row, .dat (.int 1)]) fun a => bnd (ft [.row, .dat (.int 2)]) fun b => pur (PyData.tuple [.str "filter", a, .tuple [.str "table", b]])) (fun d => ∃ e : Ex, d = e.d ∧ e.leaves ≤ k ∧ e.size ≤ 10 * k - 5) := by
    refine Gv.bnd (h1 3 (by decide) (by decide)) fun d ⟨i, i0, i1, e⟩ => ?_
    subst e
    have g : gtD (.int i) (.int 0) = some (decide (i > 0)) := rfl
    rw [g, lft_some', bnd_pur]
    split
    · refine Gv.bnd (h1 2 (by decide) (by decide)) fun d ⟨j, j0, j1, e⟩ => ?_
      subst e
      rw [col_i j0 j1]
      exact Gv.pur ⟨.tab (decide (j = 1)), rfl, k1, by simp only [Ex.size]; omega⟩
    · refine Gv.bnd c1 fun d ⟨x, e, sz⟩ => ?_
      subst e
      refine Gv.bnd (h1 2 (by decide) (by decide)) fun d ⟨j, j0, j1, e⟩ => ?_
      subst e
      rw [col_i j0 j1]
      exact Gv.pur ⟨.flt x (.tab (decide (j = 1))), rfl, k1, by simp only [Ex.size]; simp at sz; omega⟩
  have rest : 2 ≤ k → Gv (bnd (ft [.row, .dat (.int ((k : Int) - 1))]) fun a => bnd (lft (addD (.int 1) a)) fun a => bnd (fp [.row, .dat (.list [.str "union", .str "union", .str "intersection", .str "difference", .str "difference"])]) fun w => bnd (ff [.row, .dat a]) fun x => bnd (lft (subD (.int k) a)) fun b => bnd (ff [.row, .dat b]) fun y => bnd (ft [.row, .dat (.int 6)]) fun z => bnd (lft (eqD z (.int 0))) fun z => if z = true then bnd (fc [.row, .dat (.int 1)]) fun q => pur (PyData.tuple [.str "filter", q, .tuple [w, x, y]]) else pur (PyData.tuple [w, x, y])) (fun d => ∃ e : Ex, d = e.d ∧ e.leaves ≤ k ∧ e.size ≤ 10 * k - 5) := by
    intro k2
    refine Gv.bnd (h1 _ (by omega) (by omega)) fun d ⟨i, i0, i1, e⟩ => ?_
    subst e
    have ea : addD (.int 1) (.int i) = some (.int (1 + i)) := rfl
    rw [ea, lft_some', bnd_pur]
    refine Gv.bnd (h3 _ (by simp) (by simp)) fun w mw => ?_
    have en : (1 + i : Int) = ((1 + i.toNat : Nat) : Int) := by omega
    rw [en]
    refine Gv.bnd (h4 _ (by omega) (by omega) (by omega)) fun d ⟨x, e, lx, sx⟩ => ?_
    subst e
    have es : subD (.int (k : Int)) (.int ((1 + i.toNat : Nat) : Int)) = some (.int ((k - (1 + i.toNat) : Nat) : Int)) := by
      show some (PyData.int _) = _
      congr 2
      omega
    rw [es, lft_some', bnd_pur]
    refine Gv.bnd (h4 _ (by omega) (by omega) (by omega)) fun d ⟨y, e, ly, sy⟩ => ?_
    subst e
    obtain ⟨o, ho⟩ : ∃ o : Op3, w = .str (Str.ofString o.s) := by
      simp at mw
      rcases mw with rfl | rfl | rfl
      · exact ⟨.uni, rfl⟩
      · exact ⟨.int, rfl⟩
      · exact ⟨.dif, rfl⟩
    subst ho
    refine Gv.bnd (h1 6 (by decide) (by decide)) fun d ⟨j, j0, j1, e⟩ => ?_
    subst e
    rw [eq_ii, lft_some', bnd_pur]
    split
    · refine Gv.bnd c1 fun d ⟨q, e, sq⟩ => ?_
      subst e
      exact Gv.pur ⟨.flt q (.op o x y), rfl, by simp only [Ex.leaves]; omega, by simp only [Ex.size]; simp at sq; omega⟩
    · exact Gv.pur ⟨.op o x y, rfl, by simp only [Ex.leaves]; omega, by simp only [Ex.size]; omega⟩
  simp [dFun_eq, d__law_expression, fin_bnS, bnd_bnd, bnS_bnd, sq_bnS, bnd_id, lt_ii]
  by_cases hk : (k : Int) < 2
  · simp only [hk, if_true]
    simpa [lt_ii] using leaf
  · simp only [hk, if_false]
    refine Gv.bnd (h1 7 (by decide) (by decide)) fun d ⟨i, i0, i1, e⟩ => ?_
    subst e
    rw [eq_ii, lft_some', bnd_pur]
    split
    · exact leaf
    · have es : subD (.int (k : Int)) (.int 1) = some (.int ((k : Int) - 1)) := rfl
      rw [es, lft_some', bnd_pur]
      exact rest (by omega)
end LW
namespace LW
open PySem PySem.Spec PyProof.Rows L2 DL
abbrev SpTuples (f : Fs) (m : Nat) : Prop := (∀ x : Cnd, x.size ≤ m → f [.dat x.d] = pur (.int ((x.size : Nat) : Int))) ∧ ∀ e : Ex, e.size ≤ m → f [.dat e.d] = pur (.int ((e.size : Nat) : Int))
theorem isa_c (x : Cnd) : isA x.d .tuple = true := by cases x <;> rfl
theorem isa_e (x : Ex) : isA x.d .tuple = true := by cases x <;> rfl
theorem isa_col (b : Bool) : isA (colD b) .tuple = false := by cases b <;> rfl
theorem tuples_step {f : Fs} {m : Nat} (h : SpTuples f m) : SpTuples (dFun 1 2 (d__law_tuples f)) (m + 1) := by
  obtain ⟨h1, h2⟩ := h
  refine ⟨fun x hx => ?_, fun e he => ?_⟩
  · cases x with
    | p => simp [dFun_eq, d__law_tuples, Cnd.d, Cnd.size, itmD, sumD, intsD, addD]
    | q => simp [dFun_eq, d__law_tuples, Cnd.d, Cnd.size, itmD, sumD, intsD, addD]
    | not c =>
      have hc := h1 c (by simp [Cnd.size] at hx; omega)
      simp [dFun_eq, d__law_tuples, Cnd.d, Cnd.size, itmD, isa_c, truD, hc, sumD, intsD, addD]
      refine congrArg (fun z => pur (PyData.int z)) ?_
      omega
    | and c d =>
      have hc := h1 c (by simp [Cnd.size] at hx; omega)
      have hd := h1 d (by simp [Cnd.size] at hx; omega)
      simp [dFun_eq, d__law_tuples, Cnd.d, Cnd.size, itmD, isa_c, truD, hc, hd, sumD, intsD, addD]
      refine congrArg (fun z => pur (PyData.int z)) ?_
      omega
    | or c d =>
      have hc := h1 c (by simp [Cnd.size] at hx; omega)
      have hd := h1 d (by simp [Cnd.size] at hx; omega)
      simp [dFun_eq, d__law_tuples, Cnd.d, Cnd.size, itmD, isa_c, truD, hc, hd, sumD, intsD, addD]
      refine congrArg (fun z => pur (PyData.int z)) ?_
      omega
  · cases e with
    | tab b => simp [dFun_eq, d__law_tuples, Ex.d, Ex.size, itmD, isa_col, truD, sumD, intsD, addD]
    | op w e f =>
      have hc := h2 e (by simp [Ex.size] at he; omega)
      have hd := h2 f (by simp [Ex.size] at he; omega)
      simp [dFun_eq, d__law_tuples, Ex.d, Ex.size, itmD, isa_e, truD, hc, hd, sumD, intsD, addD]
      refine congrArg (fun z => pur (PyData.int z)) ?_
      omega
    | flt c e =>
      have hc := h1 c (by simp [Ex.size] at he; omega)
      have hd := h2 e (by simp [Ex.size] at he; omega)
      simp [dFun_eq, d__law_tuples, Ex.d, Ex.size, itmD, isa_c, isa_e, truD, hc, hd, sumD, intsD, addD]
      refine congrArg (fun z => pur (PyData.int z)) ?_
      omega
abbrev IsTree (k : Nat) (d : D) : Prop := ∃ e : Ex, d = e.d ∧ e.leaves ≤ k ∧ e.size ≤ 12
abbrev SpTree (f : Fs) : Prop := ∀ k : Nat, 2 ≤ k → k ≤ 4 → Gv (f [.row, .dat (.int k)]) (IsTree k)
theorem tree_ok {fe ft : Fs} (h1 : SpLawEx fe 4) (h2 : SpTuples ft 35) : SpTree (dFun 2 3 (d__law_tree fe ft)) := by
  intro k k2 k4
  simp [dFun_eq, d__law_tree, fin_bnS, bnd_bnd, bnS_bnd, sq_bnS, bnd_id]
  refine Gv.bnd (h1 k (by omega) k4 (by omega)) fun d ⟨e, ed, el, es⟩ => ?_
  subst ed
  have q := h2.2 e (by omega)
  have lt_ii : ∀ i j : Int, ltD (.int i) (.int j) = some (decide (i < j)) := fun i j => rfl
  rw [q, bnd_pur, lt_ii, lft_some', bnd_pur]
  split
  · rename_i c
    have c' := of_decide_eq_true c
    exact Gv.pur ⟨e, rfl, el, by omega⟩
  · exact Gv.pur ⟨.op .uni (.tab false) (.tab true), rfl, by simp only [Ex.leaves]; omega, by simp only [Ex.size]; omega⟩
abbrev OkEx (e : Ex) : Prop := e.size ≤ 30 ∧ e.leaves ≤ 6
end LW
namespace PW
open PySem PySem.Spec PyProof.Rows L2 DL LW
theorem neg_b (b : Bool) : dFun 1 1 d__negation [.dat (.bool b)] = pur (.bool !b) := by
  simp [dFun_eq, d__negation, isD, truD]
theorem neg_n : dFun 1 1 d__negation [.dat .none] = pur .none := by
  simp [dFun_eq, d__negation, isD, truD]
theorem vo_i (i : Int) : dFun 1 1 d_value_order [.dat (.int i)] = pur (.int i) := by
  simp [dFun_eq, d_value_order, isD, negD]
theorem vo_n : dFun 1 1 d_value_order [.dat .none] = pur (.int (-1)) := by
  simp [dFun_eq, d_value_order, isD, negD]
def isIntTo : D → Int → Bool
  | .int i, g => decide (0 ≤ i) && decide (i ≤ g)
  | _, _ => false
abbrev SpIntTo (f : Fs) : Prop := ∀ (d : D) (g : Int), NoDict d → f [.dat d, .dat (.int g)] = pur (.bool (isIntTo d g))
theorem int_to : SpIntTo (dFun 2 2 d_is_integer_to) := by
  intro d g h
  cases d with
  | int i =>
    by_cases h0 : 0 ≤ i <;> simp [dFun_eq, d_is_integer_to, isA, truD, leD, h0, isIntTo]
  | dict kvs => exact absurd rfl (h kvs)
  | _ => simp [dFun_eq, d_is_integer_to, isA, truD, leD, isIntTo]
def vunder (n : N3) : D → Bool
  | .none => (match n with | .none => false | _ => true)
  | d => isIntTo d 9
abbrev SpVu (f : Fs) : Prop := ∀ a b c n e d, NoDict d → f [.dat (wayD a b c n e), .dat d] = pur (.bool (vunder n d))
theorem vu {f : Fs} (hf : SpIntTo f) : SpVu (dFun 2 2 (d__is_value_under f)) := by
  intro a b c n e d h
  cases d with
  | none => cases n <;> simp [dFun_eq, d__is_value_under, isD, c_NULLS, way_3, vunder, N3.s]
  | _ => simp [dFun_eq, d__is_value_under, isD, c_GREATEST_VALUE, vunder, hf _ _ h]
abbrev SpRow (f : Fs) : Prop := ∀ a b c n e u v, NoDict u → NoDict v → f [.dat (wayD a b c n e), .dat (.tuple [u, v])] = pur (.bool (vunder n u && vunder n v))
theorem is_row {f : Fs} (hf : SpVu f) : SpRow (dFun 2 3 (d_is_row f)) := by
  intro a b c n e u v hu hv
  simp [dFun_eq, d_is_row, isA, truD, c_ROW_LENGTH, lenD, itmD, hf _ _ _ _ _ _ hu, hf _ _ _ _ _ _ hv, allD, bools]
abbrev SpSem (f : Fs) : Prop := ∀ a b c n e, f [.dat (wayD a b c n e)] = pur (.bool true)
theorem sem : SpSem (dFun 1 3 d_is_semantics) := by
  intro a b c n e
  have h1 : inD (.str (if a then "bag" else "set")) (.tuple [.str "bag", .str "set"]) = some true := by cases a <;> (rw [in_tup _ _ rfl rfl]; simp)
  have h2 : inD (.str (if b then "maximum" else "sum")) (.tuple [.str "maximum", .str "sum"]) = some true := by cases b <;> (rw [in_tup _ _ rfl rfl]; simp)
  have h3 : inD (.str (if c then "count" else "kind")) (.tuple [.str "count", .str "kind"]) = some true := by cases c <;> (rw [in_tup _ _ rfl rfl]; simp)
  have h4 : inD (.str (Str.ofString n.s)) (.tuple [.str "none", .str "unknown", .str "value"]) = some true := by cases n <;> (rw [in_tup _ _ rfl rfl]; simp [N3.s])
  have h5 : inD (.str (if e then "null" else "zero")) (.tuple [.str "null", .str "zero"]) = some true := by cases e <;> (rw [in_tup _ _ rfl rfl]; simp)
  simp [dFun_eq, d_is_semantics, isA, truD, c_WORDS, lenD, wayD, zipD, h1, h2, h3, h4, h5, allD, bools]
abbrev SpFits (f : Fs) : Prop := (∀ d, NoDict d → f [.dat d, .dat (.str "column")] = pur (.bool (isIntTo d 1))) ∧ (∀ d, NoDict d → f [.dat d, .dat (.str "number")] = pur (.bool (isIntTo d 9))) ∧ ∀ d, NoDict d → f [.dat d, .dat (.str "filter")] = pur (.bool true)
@[simp] theorem gi_c : kinD k_GREATEST (.str "column") = some true := by simp [kinD, k_GREATEST, List.lookup]
@[simp] theorem gi_n : kinD k_GREATEST (.str "number") = some true := by simp [kinD, k_GREATEST, List.lookup]
@[simp] theorem gi_f : kinD k_GREATEST (.str "filter") = some false := by simp [kinD, k_GREATEST, List.lookup]
@[simp] theorem gg_c : kgetD k_GREATEST (.str "column") = some (.int 1) := by simp [kgetD, k_GREATEST, List.lookup]
@[simp] theorem gg_n : kgetD k_GREATEST (.str "number") = some (.int 9) := by simp [kgetD, k_GREATEST, List.lookup]
theorem fits {f : Fs} (hf : SpIntTo f) : SpFits (dFun 2 2 (d__fits f)) := by
  refine ⟨fun d h => ?_, fun d h => ?_, fun d h => ?_⟩ <;> simp [dFun_eq, d__fits, hf _ _ h]
theorem col_ok (c : Bool) : isIntTo (colD c) 1 = true := by cases c <;> rfl
theorem col_nd (c : Bool) : NoDict (colD c) := by intro k e; cases c <;> simp [colD] at e
theorem fget {k w : String} {d : D} (h : List.lookup [Str.ofString k, Str.ofString w] t_FORMS = some d) : tgetD t_FORMS (.tuple [.str (Str.ofString k), .str (Str.ofString w)]) = some d := by
  show List.lookup [Str.ofString k, Str.ofString w] t_FORMS = some d
  exact h
theorem fnin {k w : String} {d : D} (h : List.lookup [Str.ofString k, Str.ofString w] t_FORMS = some d) : tninD t_FORMS (.tuple [.str (Str.ofString k), .str (Str.ofString w)]) = some false := by
  show some (!(List.lookup [Str.ofString k, Str.ofString w] t_FORMS).isSome) = some false
  rw [h]; rfl
theorem lk_less : List.lookup [Str.ofString "filter", Str.ofString "less"] t_FORMS = some (.tuple [.str "column", .str "number"]) := by simp [t_FORMS, List.lookup]
@[simp] theorem fg_less : tgetD t_FORMS (.tuple [.str "filter", .str "less"]) = some (.tuple [.str "column", .str "number"]) := fget lk_less
@[simp] theorem fn_less : tninD t_FORMS (.tuple [.str "filter", .str "less"]) = some false := fnin lk_less
theorem lk_equal : List.lookup [Str.ofString "filter", Str.ofString "equal"] t_FORMS = some (.tuple [.str "column", .str "number"]) := by simp [t_FORMS, List.lookup]
@[simp] theorem fg_equal : tgetD t_FORMS (.tuple [.str "filter", .str "equal"]) = some (.tuple [.str "column", .str "number"]) := fget lk_equal
@[simp] theorem fn_equal : tninD t_FORMS (.tuple [.str "filter", .str "equal"]) = some false := fnin lk_equal
theorem lk_same : List.lookup [Str.ofString "filter", Str.ofString "same"] t_FORMS = some (.tuple []) := by simp [t_FORMS, List.lookup]
@[simp] theorem fg_same : tgetD t_FORMS (.tuple [.str "filter", .str "same"]) = some (.tuple []) := fget lk_same
@[simp] theorem fn_same : tninD t_FORMS (.tuple [.str "filter", .str "same"]) = some false := fnin lk_same
theorem lk_null : List.lookup [Str.ofString "filter", Str.ofString "null"] t_FORMS = some (.tuple [.str "column"]) := by simp [t_FORMS, List.lookup]
@[simp] theorem fg_null : tgetD t_FORMS (.tuple [.str "filter", .str "null"]) = some (.tuple [.str "column"]) := fget lk_null
@[simp] theorem fn_null : tninD t_FORMS (.tuple [.str "filter", .str "null"]) = some false := fnin lk_null
theorem lk_not : List.lookup [Str.ofString "filter", Str.ofString "not"] t_FORMS = some (.tuple [.str "filter"]) := by simp [t_FORMS, List.lookup]
@[simp] theorem fg_not : tgetD t_FORMS (.tuple [.str "filter", .str "not"]) = some (.tuple [.str "filter"]) := fget lk_not
@[simp] theorem fn_not : tninD t_FORMS (.tuple [.str "filter", .str "not"]) = some false := fnin lk_not
theorem lk_and : List.lookup [Str.ofString "filter", Str.ofString "and"] t_FORMS = some (.tuple [.str "filter", .str "filter"]) := by simp [t_FORMS, List.lookup]
@[simp] theorem fg_and : tgetD t_FORMS (.tuple [.str "filter", .str "and"]) = some (.tuple [.str "filter", .str "filter"]) := fget lk_and
@[simp] theorem fn_and : tninD t_FORMS (.tuple [.str "filter", .str "and"]) = some false := fnin lk_and
theorem lk_or : List.lookup [Str.ofString "filter", Str.ofString "or"] t_FORMS = some (.tuple [.str "filter", .str "filter"]) := by simp [t_FORMS, List.lookup]
@[simp] theorem fg_or : tgetD t_FORMS (.tuple [.str "filter", .str "or"]) = some (.tuple [.str "filter", .str "filter"]) := fget lk_or
@[simp] theorem fn_or : tninD t_FORMS (.tuple [.str "filter", .str "or"]) = some false := fnin lk_or
abbrev SpForm (f : Fs) : Prop := ∀ x : Flt, x.ok = true → f [.dat x.d, .dat (.str "filter")] = pur (.bool true)
theorem has_form {f : Fs} (hf : SpFits f) : SpForm (dFun 2 5 (d__has_form f)) := by
  intro x hx
  obtain ⟨h1, h2, h3⟩ := hf
  have n9 : ∀ n : Int, (decide (0 ≤ n) && decide (n ≤ 9)) = true → isIntTo (.int n) 9 = true := fun n h => h
  cases x with
  | less c n => simp [dFun_eq, d__has_form, Flt.d, isA, truD, lenD, addD, zipD, h1 _ (col_nd _), h2 _ (int_nd _), h3 _ (Flt.nd _), col_ok, allD, bools, n9 n hx]
  | equal c n => simp [dFun_eq, d__has_form, Flt.d, isA, truD, lenD, addD, zipD, h1 _ (col_nd _), h2 _ (int_nd _), h3 _ (Flt.nd _), col_ok, allD, bools, n9 n hx]
  | _ => simp [dFun_eq, d__has_form, Flt.d, isA, truD, lenD, addD, zipD, h1 _ (col_nd _), h2 _ (int_nd _), h3 _ (Flt.nd _), col_ok, allD, bools]
def prF (x : Flt) : D := .tuple [x.d, .str "filter"]
abbrev SpInner (f : Fs) : Prop := ∀ x : Flt, f [.dat x.d, .dat (.str "filter")] = pur (.list (x.inner.map prF))
theorem inner_f : SpInner (dFun 2 5 d__inner_tuples) := by
  intro x
  cases x <;> simp [dFun_eq, d__inner_tuples, Flt.d, Flt.inner, prF, zipD]
end PW
namespace PW
open PySem PySem.Spec PyProof.Rows L2 DL LW
def total : List Flt → Nat
  | [] => 0
  | x :: xs => x.size + total xs
theorem total_app : ∀ xs ys : List Flt, total (xs ++ ys) = total xs + total ys
  | [], ys => by simp [total]
  | x :: xs, ys => by simp [total, total_app xs ys]; omega
theorem total_inner (x : Flt) : x.size = total x.inner + 1 := by cases x <;> simp [Flt.size, Flt.inner, total] <;> omega
theorem size_pos (x : Flt) : 1 ≤ x.size := by rw [total_inner]; omega
theorem total_len : ∀ xs : List Flt, xs.length ≤ total xs
  | [] => by simp [total]
  | x :: xs => by have := total_len xs; have := size_pos x; simp [total]; omega
theorem inner_ok (x : Flt) (h : x.ok = true) : ∀ y ∈ x.inner, y.ok = true := by
  cases x <;> simp_all [Flt.inner, Flt.ok]
abbrev tupBody (fh fi : Fs) : Ev → Ms := seqM (sPopT (.tup [5, 6]) 3)
    (seqM (sIf (dOr (dCmp eqD (dFn lenD (dCons (dVar 4) (dNil))) (dVar 2)) (dNot (dTru (dCl 2 fh (dCons (dVar 5) (dCons (dVar 6) (dNil))))))) (sRet (dLit .none)) (sNil))
    (seqM (sApp 4 (dVar 5))
    (sExt 3 (dCl 2 fi (dCons (dVar 5) (dCons (dVar 6) (dNil)))))))
theorem popT_app (v k m : D) (ys : List D) (a b : D) (fo : Slot) (s5 s6 : Slot) : popT (.tup [5, 6]) 3 [.dat v, .dat k, .dat m, .own (.l (ys ++ [.tuple [a, b]])), fo, s5, s6] = some (ys, [a, b]) := by
  simp [popT]
theorem tup_loop {fh fi : Fs} (h1 : SpForm fh) (h2 : SpInner fi) (v k : D) : ∀ (n : Nat) (xs L : List Flt) (s5 s6 : Slot), (∀ x ∈ xs, x.ok = true) → L.length + total xs ≤ 20 → total xs < n →
    ∃ L' t5 t6, whileN (dTru (dVar 3)) (tupBody fh fi) n [.dat v, .dat k, .dat (.int 20), .own (.l (xs.map prF)), .own (.l (L.map Flt.d)), s5, s6] = nxM [.dat v, .dat k, .dat (.int 20), .own (.l []), .own (.l (List.map Flt.d L')), t5, t6] := by
  intro n
  induction n with
  | zero => intro xs L s5 s6 _ _ h; omega
  | succ n ih =>
    intro xs L s5 s6 hok ht hn
    rw [whileN_s]
    by_cases hx : xs = []
    · subst hx
      refine ⟨L, s5, s6, ?_⟩
      simp [truD]
    · obtain ⟨ys, y, rfl⟩ : ∃ ys y, xs = ys ++ [y] := ⟨xs.dropLast, xs.getLast hx, (List.dropLast_concat_getLast hx).symm⟩
      have hy : y.ok = true := hok y (by simp)
      rw [total_app] at ht hn
      have e1 := total_inner y
      simp only [total, Nat.add_zero] at ht hn
      have hlen : ys.length + y.inner.length ≤ sizeLine := by
        have a := total_len ys
        have b := total_len y.inner
        exact size_ok _ (by omega)
      have hL : L.length < sizeLine := Nat.lt_of_lt_of_le (by omega : L.length < 31) (size_ok 31)
      obtain ⟨L', t5, t6, he⟩ := ih (ys ++ y.inner) (L ++ [y]) (.dat y.d) (.dat (.str "filter")) (fun z hz => by
        rcases List.mem_append.mp hz with q | q
        · exact hok z (by simp [q])
        · exact inner_ok y hy z q) (by rw [total_app, List.length_append]; simp; omega) (by rw [total_app]; omega)
      refine ⟨L', t5, t6, ?_⟩
      rw [← he]
      have hne : ¬ ((L.length : Int) = 20) := by omega
      have hp : (ys ++ [y]).map prF = ys.map prF ++ [.tuple [y.d, .str "filter"]] := by simp [prF]
      rw [hp]
      simp [truD, popT_app, lenD, hne, h1 y hy, h2 y, hlen, hL]
abbrev SpTup (f : Fs) : Prop := ∀ x : Flt, x.ok = true → x.size ≤ 20 → ∃ L : List D, f [.dat x.d, .dat (.str "filter"), .dat (.int 20)] = pur (.list L)
theorem tuples_ok {fh fi : Fs} (h1 : SpForm fh) (h2 : SpInner fi) : SpTup (dFun 3 7 (d_tuples_of fh fi)) := by
  intro x hok hx
  obtain ⟨L', t5, t6, he⟩ := tup_loop h1 h2 x.d (.str "filter") 64 [x] [] .hid .hid (by simpa using hok) (by simpa [total] using hx) (by simp [total]; omega)
  refine ⟨L'.map Flt.d, ?_⟩
  rw [dFun_eq]
  simp only [d_tuples_of]
  simp only [List.map_cons, List.map_nil, prF] at he
  simp [he]
abbrev SpIsFilter (f : Fs) : Prop := ∀ x : Flt, x.ok = true → x.size ≤ 20 → f [.dat x.d] = pur (.bool true)
theorem isn_list (ds : List D) : isnD (.list ds) .none = some true := rfl
theorem is_filter {ft : Fs} (h1 : SpTup ft) : SpIsFilter (dFun 1 1 (d_is_filter ft)) := by
  intro x hx hs
  obtain ⟨L, e⟩ := h1 x hx hs
  simp [dFun_eq, d_is_filter, c_MOST_TUPLES, e, isn_list]
end PW
namespace PW
open PySem PySem.Spec PyProof.Rows L2 DL LW
abbrev SpNeg (f : Fs) : Prop := ∀ t, f [.dat (td t)] = pur (td (tnot t))
theorem neg : SpNeg (dFun 1 1 d__negation) := by
  intro t
  cases t with
  | none => exact neg_n
  | some b => exact neg_b b
abbrev SpVo (f : Fs) : Prop := ∀ x : Vl, f [.dat x.d] = pur (.int x.ord)
theorem vo : SpVo (dFun 1 1 d_value_order) := by
  intro x
  cases x with
  | nul => exact vo_n
  | int i => exact vo_i i
end PW
namespace PW
open PySem PySem.Spec PyProof.Rows L2 DL LW
def ords (r : LW.Row) : List Int := r.map Vl.ord
def ordD (r : LW.Row) : D := .tuple ((ords r).map .int)
theorem rk_ord (v : Vl) : v.rk = v.ord + 1 := by cases v <;> simp [Vl.rk, Vl.ord]
theorem ords_lt : ∀ r s : LW.Row, (ords r < ords s) ↔ (rnk r < rnk s)
  | [], [] => by simp [ords, rnk]
  | [], _ :: _ => by simp [ords, rnk]
  | _ :: _, [] => by simp [ords, rnk]
  | u :: r, v :: s => by
    have ih := ords_lt r s
    unfold ords rnk at ih ⊢
    simp only [List.map_cons, List.cons_lt_cons_iff, rk_ord, ih]
    constructor
    · rintro (h | ⟨h1, h2⟩)
      · exact .inl (by omega)
      · exact .inr ⟨by omega, h2⟩
    · rintro (h | ⟨h1, h2⟩)
      · exact .inl (by omega)
      · exact .inr ⟨by omega, h2⟩
abbrev SpOrd (f : Fs) : Prop := ∀ r : LW.Row, r.length ≤ lim → f [.dat (rowD r)] = pur (ordD r)
theorem row_ord {f : Fs} (hf : SpVo f) : SpOrd (dFun 1 2 (d_row_order f)) := by
  intro r hr
  have core : ∀ x, compGo (.name 1) dYes (dCl 1 f (dCons (dVar 1) (dNil))) [.dat x, .hid] (r.map Vl.d) = pur ((ords r).map .int) := by
    intro x
    have e : (ords r).map PyData.int = r.map fun v => PyData.int v.ord := by rw [ords, List.map_map]; rfl
    rw [e]
    exact compGo_all Vl.d (fun v => PyData.int v.ord) r fun v hv => ⟨_, rfl, by simp [hf v]⟩
  have hl : (ords r).length ≤ sizeLine := big_ok (by simpa [ords] using hr)
  simp [dFun_eq, d_row_order, rowD, itmD, core, hl, tupleD, ordD]
/-- rows of some values, not too many -/
def fair (rs : List LW.Row) : Prop := ∀ r ∈ rs, r ≠ [] ∧ r.length ≤ lim
end PW
namespace PW
open PySem PySem.Spec PyProof.Rows L2 DL LW
def valK (kv : List Kc) (k : List Leaf) : Int := (getKv kv k).getD 0
end PW
namespace PW
open PySem PySem.Spec PyProof.Rows L2 DL LW
end PW
namespace PW
open PySem PySem.Spec PyProof.Rows L2 DL LW
theorem once_mem : ∀ (rs acc : List LW.Row), acc.Nodup → (onceGo acc rs).Nodup ∧ ∀ r, r ∈ onceGo acc rs ↔ r ∈ acc ∨ r ∈ rs
  | [], acc, h => ⟨h, fun r => by simp [onceGo]⟩
  | s :: rs, acc, h => by
    have nd : (acc ++ if s ∈ acc then [] else [s]).Nodup := by
      split
      · simpa using h
      · rename_i hn
        rw [List.nodup_append]
        exact ⟨h, by simp, fun x hx y hy z => hn (by rw [List.mem_singleton.mp hy] at z; rw [← z]; exact hx)⟩
    obtain ⟨a, b⟩ := once_mem rs _ nd
    refine ⟨a, fun r => ?_⟩
    show r ∈ onceGo (acc ++ if s ∈ acc then [] else [s]) rs ↔ _
    rw [b r]
    by_cases hs : s ∈ acc
    · simp only [hs, if_true, List.append_nil, List.mem_cons]
      constructor
      · rintro (h | h)
        · exact .inl h
        · exact .inr (.inr h)
      · rintro (h | rfl | h)
        · exact .inl h
        · exact .inl hs
        · exact .inr h
    · simp only [hs, if_false, List.mem_append, List.mem_singleton, List.mem_cons, List.not_mem_nil, or_false]
      constructor
      · rintro ((h | h) | h)
        · exact .inl h
        · exact .inr (.inl h)
        · exact .inr (.inr h)
      · rintro (h | h | h)
        · exact .inl (.inl h)
        · exact .inl (.inr h)
        · exact .inr h
theorem count_nd {us : List LW.Row} (h : us.Nodup) (r : LW.Row) : us.count r = if r ∈ us then 1 else 0 := by
  split
  · rename_i hm
    exact Nat.le_antisymm (List.nodup_iff_count.mp h r) (List.count_pos_iff.mpr hm)
  · rename_i hm
    exact List.count_eq_zero.mpr hm
theorem srt_once {rs us : List LW.Row} (hn : ∀ r ∈ rs, nnR r) (nd : us.Nodup) (mem : ∀ r, r ∈ us ↔ r ∈ rs) : srtR us = srtR (onceR rs) := by
  obtain ⟨a, b⟩ := once_mem rs [] List.nodup_nil
  have hb : ∀ r, r ∈ onceR rs ↔ r ∈ rs := fun r => (b r).trans (by simp)
  refine srt_count (fun r hr => hn r ((hb r).mp hr)) (fun r => ?_) (srt_sorted us)
  rw [(srt_perm us).count_eq, count_nd nd, count_nd (show (onceR rs).Nodup from a)]
  by_cases h : r ∈ rs
  · rw [if_pos ((hb r).mpr h), if_pos ((mem r).mpr h)]
  · rw [if_neg fun z => h ((hb r).mp z), if_neg fun z => h ((mem r).mp z)]
/-- rows as they come: of some values, each a value of the document -/
structure Fair (rs : List LW.Row) : Prop where
  fair : fair rs
  nn : ∀ r ∈ rs, nnR r
end PW
namespace PW
open PySem PySem.Spec PyProof.Rows L2 DL LW
@[simp] theorem dGetK_eq (fo fe ff : Ev → Mn D) (ev : Ev) : dGetK fo fe ff ev = bnd (fo ev) fun x => if isDct x = true then bnd (fe ev) fun y => bnd (ff ev) fun z => lft (getKD x y z) else stk := rfl
end PW
namespace PW
open PySem PySem.Spec PyProof.Rows L2 DL LW
end PW
namespace PW
open PySem PySem.Spec PyProof.Rows L2 DL LW
theorem ok_two {n : N3} {r : LW.Row} (h : okRow n r) : ∃ u v, r = [u, v] := by
  obtain ⟨u, v, e, _⟩ := h
  exact ⟨u, v, e⟩
theorem bools_map {α : Type} (p : α → Bool) : ∀ L : List α, bools (L.map fun a => PyData.bool (p a)) = some (L.map p)
  | [] => rfl
  | a :: L => by
    have ih := bools_map p L
    simp [bools, ih]
end PW
namespace PW
open PySem PySem.Spec PyProof.Rows L2 DL LW
end PW
namespace PW
open PySem PySem.Spec PyProof.Rows L2 DL LW
end PW
namespace PW
open PySem PySem.Spec PyProof.Rows L2 DL LW
theorem fair_join {n : N3} {xs ys : List LW.Row} (hx : ∀ r ∈ xs, okRow n r) (hy : ∀ r ∈ ys, okRow n r) : Fair (joinR n xs ys) := by
  have k : ∀ r ∈ joinR n xs ys, ∃ u v w : Vl, r = [u, v, w] ∧ u.nn = true ∧ v.nn = true ∧ w.nn = true := fun r hr => by
    obtain ⟨p, hp, h2⟩ := List.mem_flatMap.mp hr
    obtain ⟨s, hs, rfl⟩ := List.mem_map.mp h2
    obtain ⟨u, v, rfl, hu, hv⟩ := hx p hp
    obtain ⟨u', v', rfl, hu', hv'⟩ := hy s (List.mem_filter.mp hs).1
    exact ⟨u, v, v', rfl, okU_nn hu, okU_nn hv, okU_nn hv'⟩
  refine ⟨fun r hr => ?_, fun r hr z hz => ?_⟩
  · obtain ⟨u, v, w, rfl, _⟩ := k r hr
    exact ⟨by simp, by rw [lim_eq]; simp⟩
  · obtain ⟨u, v, w, rfl, h1, h2, h3⟩ := k r hr
    simp only [List.mem_cons, List.not_mem_nil, or_false] at hz
    rcases hz with rfl | rfl | rfl <;> assumption
end PW
namespace PW
open PySem PySem.Spec PyProof.Rows L2 DL LW
theorem lt_ordD (r s : LW.Row) : PySem.W.dataLt (ordD s) (ordD r) = decide (ords s < ords r) := by
  unfold ordD
  rw [PySem.W.dataLt_tuple]
  exact PySem.W.dataLt_ints _ _
theorem depth_ord (r : LW.Row) : (ordD r).depth ≤ 1 := by
  simp only [ordD, PyData.depth, PySem.W.depth_ints]
  omega
theorem plain_ord (r : LW.Row) : (ordD r).plain = true := by simp only [ordD, PyData.plain, plain_ints]
theorem okLt_ord (r s : LW.Row) : okLt (ordD r) (ordD s) = true := by
  have h1 := depth_ord r
  have h2 : PySem.W.alike (ordD r) (ordD s) = true := by
    simp only [ordD, PySem.W.alike]
    exact PySem.W.alike_ints _ _
  have h3 : nnD (ordD r) = true := rfl
  have h4 : min (ordD r).depth (ordD s).depth ≤ 60 := by omega
  simp [okLt, h2, h3, h4, plain_ord]
theorem gt_ord {r s : LW.Row} (h : leR r s = true) : gtxD (ordD r) (ordD s) = some false := by
  unfold gtxD
  rw [if_pos (okLt_ord r s), lt_ordD]
  have : ¬ ords s < ords r := fun z => by
    have h2 : rnk r ≤ rnk s := by simpa [leR] using h
    exact h2 ((ords_lt s r).mp z)
  simp [this]
theorem lay_ints : ∀ is : List Int, PyData.canLayAll0 (is.map PyData.int) = true
  | [] => rfl
  | i :: is => by simp [PyData.canLayAll0, PyData.canLay0, lay_ints is]
theorem eq_ordD (r s : LW.Row) : eqD (ordD r) (ordD s) = some (decide (ords r = ords s)) := by
  unfold eqD
  rw [if_pos ⟨by simp [SeqAt.shaped, ordD, PyData.canLay0, PyData.depth, lay_ints, PySem.W.depth_ints], by simp [SeqAt.shaped, ordD, PyData.canLay0, PyData.depth, lay_ints, PySem.W.depth_ints]⟩]
  simp only [ordD, PyData.eqv, eqv_ints]
theorem ords_rnk (r : LW.Row) : rnk r = (ords r).map (· + 1) := by
  unfold rnk ords
  rw [List.map_map]
  exact List.map_congr_left fun v _ => rk_ord v
abbrev ascB : Ev → Ms := pIf (dOr (dCmp gtxD (dVar 3) (dVar 4)) (dAnd (dCmp eqD (dVar 3) (dVar 4)) (dNot (dTru (dVar 1))))) (pRet (dLit (.bool false))) (sNil)
theorem asc_loop (x1 x2 x5 : DL.Slot) (bag : Bool) : ∀ (L : List (LW.Row × LW.Row)) (s3 s4 : DL.Slot), (∀ p ∈ L, leR p.1 p.2 = true ∧ (bag = false → ords p.1 ≠ ords p.2)) →
    ∃ s3' s4', forGo (.tup [3, 4]) ascB (L.map fun p => PyData.tuple [ordD p.1, ordD p.2]) [x1, .dat (.bool bag), x2, s3, s4, x5] = nxM [x1, .dat (.bool bag), x2, s3', s4', x5]
  | [], s3, s4, _ => ⟨s3, s4, rfl⟩
  | p :: L, s3, s4, h => by
    obtain ⟨a, b, q⟩ := asc_loop x1 x2 x5 bag L (.dat (ordD p.1)) (.dat (ordD p.2)) fun x hx => h x (List.mem_cons_of_mem _ hx)
    refine ⟨a, b, ?_⟩
    obtain ⟨h1, h2⟩ := h p List.mem_cons_self
    rw [List.map_cons, forGo_cons, ← q]
    have g := gt_ord h1
    have e := eq_ordD p.1 p.2
    cases bag with
    | true => by_cases z : ords p.1 = ords p.2 <;> simp [g, e, z, truD]
    | false => simp [g, e, h2 rfl, truD]
abbrev SpAsc (f : Fs) : Prop := ∀ (rs : List LW.Row) (bag : Bool), rs.length ≤ lim → Fair rs → (rs.Pairwise fun r s => leR r s = true) → (bag = false → rs.Nodup) → f [.dat (rowsT rs), .dat (.bool bag)] = pur (.bool true)
theorem zip_next {rs : List LW.Row} {R : LW.Row → LW.Row → Prop} (h : rs.Pairwise R) : ∀ p ∈ rs.zip (rs.drop 1), R p.1 p.2 := by
  induction rs with
  | nil => intro p hp; cases hp
  | cons r rs ih =>
    intro p hp
    have hc := List.pairwise_cons.mp h
    cases rs with
    | nil => cases hp
    | cons s rs =>
      simp only [List.drop_succ_cons, List.drop_zero, List.zip_cons_cons, List.mem_cons] at hp
      rcases hp with rfl | hp
      · exact hc.1 s List.mem_cons_self
      · exact ih hc.2 p (by simpa using hp)
theorem asc_ok {f : Fs} (hf : SpOrd f) : SpAsc (dFun 2 6 (d__is_ascending f)) := by
  intro rs bag hl hfr hs hnd
  have q := fun w1 w2 w3 w4 w5 => compGo_all (t := .name 5) (e := dCl 1 f (dCons (dVar 5) (dNil))) (ev := [w1, w2, w3, w4, w5, .hid]) rowD ordD rs fun r hr => ⟨_, rfl, by simp [hf r (hfr.fair r hr).2]⟩
  have hz : rs.length ≤ sizeLine := big_ok hl
  have it : itmD (rowsT rs) = some (rs.map rowD) := rfl
  have lo : slLo (.list (rs.map ordD)) (.int 1) = some (.list ((rs.map ordD).drop 1)) := by
    simp
  have zp : zipD [.list (rs.map ordD), .list ((rs.map ordD).drop 1)] = some ((rs.zip (rs.drop 1)).map fun p => PyData.tuple [ordD p.1, ordD p.2]) := by
    show some _ = some _
    rw [← List.map_drop, List.zip_map, List.map_map]
    rfl
  obtain ⟨a, b, lp⟩ := asc_loop (.dat (rowsT rs)) (.dat (.list (rs.map ordD))) .hid bag (rs.zip (rs.drop 1)) .hid .hid fun p hp => ⟨zip_next hs p hp, fun hb e => by
    have hm := List.of_mem_zip (a := p.1) (b := p.2) hp
    have n1 := hfr.nn p.1 hm.1
    have n2 := hfr.nn p.2 (List.mem_of_mem_drop hm.2)
    have e2 : p.1 = p.2 := rnk_inj n1 n2 (by rw [ords_rnk, ords_rnk, e])
    exact zip_next (R := fun r s => r ≠ s) (hnd hb) p hp e2⟩
  simp only [List.drop_one] at lo zp lp
  rw [dFun_eq]
  simp [d__is_ascending, it, q, hz, lo, zp, sFor_f, lp]
end PW
namespace PW
open PySem PySem.Spec PyProof.Rows L2 DL LW
abbrev SpChkS (f : Fs) : Prop := ∀ a b c n e, f [.dat (wayD a b c n e)] = pur .none
theorem chkS {f : Fs} (h : SpSem f) : SpChkS (dFun 1 1 (d_check_semantics f)) := by
  intro a b c n e
  simp [dFun_eq, d_check_semantics, h a b c n e, truD]
theorem fair_ok {n : N3} {rs : List LW.Row} (h : ∀ r ∈ rs, okRow n r) : Fair rs :=
  ⟨fun r hr => by obtain ⟨u, v, rfl, _⟩ := h r hr; exact ⟨by simp, by rw [lim_eq]; simp⟩, fun r hr => okRow.nn (h r hr)⟩
/-- a table of the document, as data -/
structure TabOk (a : Bool) (n : N3) (rs : List LW.Row) : Prop where
  len : rs.length ≤ 12
  ok : ∀ r ∈ rs, okRow n r
  asc : rs.Pairwise fun r s => leR r s = true
  nd : a = false → rs.Nodup
abbrev SpTab (f : Fs) : Prop := ∀ a b c n e (rs : List LW.Row), TabOk a n rs → f [.dat (wayD a b c n e), .dat (rowsT rs)] = pur (.bool true)
theorem nd_vl (v : Vl) : NoDict v.d := by cases v <;> intro kvs h <;> cases h
theorem vu_ok {n : N3} {v : Vl} (h : v.okU n = true) : vunder n v.d = true := by
  cases v with
  | nul => cases n <;> simp_all [Vl.okU, vunder, Vl.d]
  | int i => simpa [Vl.okU, vunder, Vl.d, isIntTo] using h
theorem tab_ok {fc fr fa : Fs} (h1 : SpChkS fc) (h2 : SpRow fr) (h3 : SpAsc fa) : SpTab (dFun 2 3 (d_is_table fc fr fa)) := by
  intro a b c n e rs T
  have hl : rs.length ≤ lim := Nat.le_trans T.len (by rw [lim_eq]; decide)
  have hz : rs.length ≤ sizeLine := big_ok hl
  have q := fun w => compGo_all (t := .name 2) (e := dCl 2 fr (dCons (dVar 0) (dCons (dVar 2) (dNil)))) (ev := [.dat (wayD a b c n e), w, .hid]) rowD (fun _ => PyData.bool true) rs fun r hr => by
    obtain ⟨u, v, rfl, hu, hv⟩ := T.ok r hr
    have z : fr [.dat (wayD a b c n e), .dat (rowD [u, v])] = pur (.bool (vunder n u.d && vunder n v.d)) := h2 a b c n e u.d v.d (nd_vl u) (nd_vl v)
    rw [vu_ok hu, vu_ok hv] at z
    exact ⟨_, rfl, by simp [z]⟩
  have al : allD [PyData.list (rs.map fun _ => PyData.bool true)] = some (.bool true) := by
    show (bools _).map _ = _
    rw [bools_map (fun _ => true) rs]
    simp
  have it : itmD (rowsT rs) = some (rs.map rowD) := rfl
  have is : isA (rowsT rs) .tuple = true := rfl
  have ln : lenD [rowsT rs] = some (.int (rs.length : Nat)) := by show some (PyData.int ((rs.map rowD).length : Nat)) = _; rw [List.length_map]
  have gt : gtD (.int (rs.length : Nat)) (.int 12) = some false := by
    have := T.len
    simp [gtD]
    omega
  have z := h3 rs a hl (fair_ok T.ok) T.asc T.nd
  have eb : eqD (.str (if a then "bag" else "set")) (.str "bag") = some a := by cases a <;> simp
  cases a <;> simp [dFun_eq, d_is_table, h1 _ b c n e, it, q, hz, al, is, ln, gt, c_MOST_ROWS, c_DUPLICATES, way_0, z, truD]
end PW
namespace PT
open PySem PySem.Spec PyProof.Rows L2 DL LW PW
theorem ten {i : Int} (h0 : 0 ≤ i) (h9 : i ≤ 9) : i = 0 ∨ i = 1 ∨ i = 2 ∨ i = 3 ∨ i = 4 ∨ i = 5 ∨ i = 6 ∨ i = 7 ∨ i = 8 ∨ i = 9 := by omega
end PT
namespace PT
open PySem PySem.Spec PyProof.Rows L2 DL LW PW
theorem hi_l (l s : List D) : slHi (.list (l ++ s)) (.int (l.length : Nat)) = some (.list l) := by
  show some (PyData.list (cutL (l ++ s) none (some (l.length : Int)))) = _
  unfold cutL
  rw [HT.sIx_nat, HT.sIx_none, List.length_append, Nat.min_eq_left (by omega)]
  simp
theorem lo_l (l s : List D) : slLo (.list (l ++ s)) (.int (l.length : Nat)) = some (.list s) := by
  show some (PyData.list (cutL (l ++ s) (some (l.length : Int)) none)) = _
  unfold cutL
  rw [HT.sIx_nat, HT.sIx_none, List.length_append, Nat.min_eq_left (by omega)]
  simp
theorem dats_map (l : List D) : dats (l.map Slot.dat) = some l := by
  induction l with
  | nil => rfl
  | cons x l ih => simp [dats, ih]
@[simp] theorem dStar_eq (f : Ev → Mn D) (g : Ev → Mn (List DL.Slot)) (ev : Ev) : dStar f g ev = bnd (f ev) fun x => bnd (lft (itmD x)) fun ds => bnd (g ev) fun ss => pur (ds.map .dat ++ ss) := rfl
abbrev SpNumb (f : Fs) : Prop := ∀ i : Int, 0 ≤ i → i ≤ 9 → f [.dat (.str (toString i))] = pur (.int i)
abbrev bodyP (fn : Fs) : Ev → Ms := pIf (dTin PW.t_FORMS (dTup (dCons (dLit (.str "filter")) (dCons (dVar 2) (dNil))))) (seqM (pSet 3 (dFn lenD (dCons (dTget PW.t_FORMS (dTup (dCons (dLit (.str "filter")) (dCons (dVar 2) (dNil))))) (dNil))))
    (pSet 1 (dLst (dCons (dTup (dCons (dVar 2) (dStar (dBin slHi (dVar 1) (dVar 3)) (dNil)))) (dStar (dBin slLo (dVar 1) (dVar 3)) (dNil)))))) (pSet 1 (dLst (dCons (dCl 1 fn (dCons (dVar 2) (dNil))) (dStar (dVar 1) (dNil)))))
theorem itm_l (l : List D) : itmD (.list l) = some l := rfl
theorem step_n {fn : Fs} (hn : SpNumb fn) {i : Int} (h0 : 0 ≤ i) (h9 : i ≤ 9) (rest stk : List D) (w0 s2 s3 : DL.Slot) (hl : stk.length < 1000) :
    forGo (.name 2) (bodyP fn) (.str (toString i) :: rest) [w0, .dat (.list stk), s2, s3] = forGo (.name 2) (bodyP fn) rest [w0, .dat (.list (.int i :: stk)), .dat (.str (toString i)), s3] := by
  have z : tinD PW.t_FORMS (.tuple [.str "filter", .str (toString i)]) = some false := by
    rcases ten h0 h9 with rfl | rfl | rfl | rfl | rfl | rfl | rfl | rfl | rfl | rfl <;> rfl
  have hz : stk.length + 1 ≤ sizeLine := by rw [sizeLine_eq]; omega
  have hi := hn i h0 h9
  generalize (Str.ofString (toString i)) = wd at z hi ⊢
  rw [forGo_cons]
  simp [bodyP, z, hi, itm_l, dats, dats_map, hz]
theorem step_w {fn : Fs} {x : Str} {m : Nat} {ps : List D} (ht : tinD PW.t_FORMS (.tuple [.str "filter", .str x]) = some true) (hg : tgetD PW.t_FORMS (.tuple [.str "filter", .str x]) = some (.tuple ps)) (hm : ps.length = m)
    (l rest stk : List D) (hll : l.length = m) (w0 s2 s3 : DL.Slot) (hl : stk.length < 1000) (hm2 : m ≤ 2) :
    forGo (.name 2) (bodyP fn) (.str x :: rest) [w0, .dat (.list (l ++ stk)), s2, s3] = forGo (.name 2) (bodyP fn) rest [w0, .dat (.list (.tuple (.str x :: l) :: stk)), .dat (.str x), .dat (.int (m : Nat))] := by
  have hz : stk.length + 1 ≤ sizeLine := by rw [sizeLine_eq]; omega
  have hy : l.length + 1 ≤ sizeLine := by rw [sizeLine_eq]; omega
  have ln : lenD [.tuple ps] = some (.int (m : Nat)) := by rw [← hm]; rfl
  have e1 := hi_l l stk
  have e2 := lo_l l stk
  rw [hll] at e1 e2
  rw [forGo_cons]
  simp [bodyP, ht, hg, ln, e1, e2, itm_l, dats, dats_map, hz, hy]
def colS (c : Bool) : Str := Str.ofString (toString (if c then (1 : Int) else 0))
def toks : Flt → List Str
  | .less c n => ["less", colS c, Str.ofString (toString n)]
  | .equal c n => ["equal", colS c, Str.ofString (toString n)]
  | .same => ["same"]
  | .null c => ["null", colS c]
  | .not f => "not" :: toks f
  | .and f g => "and" :: (toks f ++ toks g)
  | .or f g => "or" :: (toks f ++ toks g)
theorem parse {fn : Fs} (hn : SpNumb fn) : ∀ x : Flt, x.ok = true → ∀ (rest stk : List D) (w0 s2 s3 : DL.Slot), stk.length + x.size < 900 →
    ∃ t2 t3, forGo (.name 2) (bodyP fn) ((toks x).reverse.map PyData.str ++ rest) [w0, .dat (.list stk), s2, s3] = forGo (.name 2) (bodyP fn) rest [w0, .dat (.list (x.d :: stk)), t2, t3]
  | .less c n, h, rest, stk, w0, s2, s3, hl => by
    simp only [Flt.ok, Bool.and_eq_true, decide_eq_true_eq] at h
    simp only [Flt.size] at hl
    have a := step_n hn h.1 h.2 (.str (colS c) :: .str "less" :: rest) stk w0 s2 s3 (by omega)
    have b := step_n hn (i := if c then 1 else 0) (by split <;> omega) (by split <;> omega) (.str "less" :: rest) (.int n :: stk) w0 (.dat (.str (Str.ofString (toString n)))) s3 (by simp only [List.length_cons]; omega)
    have d := step_w (fn := fn) (x := "less") (m := 2) (by rfl) (by rfl) rfl [colD c, .int n] rest stk rfl w0 (.dat (.str (colS c))) s3 (by omega) (by omega)
    exact ⟨_, _, a.trans (b.trans d)⟩
  | .equal c n, h, rest, stk, w0, s2, s3, hl => by
    simp only [Flt.ok, Bool.and_eq_true, decide_eq_true_eq] at h
    simp only [Flt.size] at hl
    have a := step_n hn h.1 h.2 (.str (colS c) :: .str "equal" :: rest) stk w0 s2 s3 (by omega)
    have b := step_n hn (i := if c then 1 else 0) (by split <;> omega) (by split <;> omega) (.str "equal" :: rest) (.int n :: stk) w0 (.dat (.str (Str.ofString (toString n)))) s3 (by simp only [List.length_cons]; omega)
    have d := step_w (fn := fn) (x := "equal") (m := 2) (by rfl) (by rfl) rfl [colD c, .int n] rest stk rfl w0 (.dat (.str (colS c))) s3 (by omega) (by omega)
    exact ⟨_, _, a.trans (b.trans d)⟩
  | .same, h, rest, stk, w0, s2, s3, hl => by
    have d := step_w (fn := fn) (x := "same") (m := 0) (by rfl) (by rfl) rfl [] rest stk rfl w0 s2 s3 (by omega) (by omega)
    exact ⟨_, _, d⟩
  | .null c, h, rest, stk, w0, s2, s3, hl => by
    simp only [Flt.size] at hl
    have b := step_n hn (i := if c then 1 else 0) (by split <;> omega) (by split <;> omega) (.str "null" :: rest) stk w0 s2 s3 (by omega)
    have d := step_w (fn := fn) (x := "null") (m := 1) (by rfl) (by rfl) rfl [colD c] rest stk rfl w0 (.dat (.str (colS c))) s3 (by omega) (by omega)
    exact ⟨_, _, b.trans d⟩
  | .not f, h, rest, stk, w0, s2, s3, hl => by
    simp only [Flt.size] at hl
    obtain ⟨t2, t3, q⟩ := parse hn f h (.str "not" :: rest) stk w0 s2 s3 (by omega)
    have d := step_w (fn := fn) (x := "not") (m := 1) (by rfl) (by rfl) rfl [f.d] rest stk rfl w0 t2 t3 (by omega) (by omega)
    refine ⟨_, _, Eq.trans ?_ (q.trans d)⟩
    simp [toks]
  | .and f g, h, rest, stk, w0, s2, s3, hl => by
    simp only [Flt.ok, Bool.and_eq_true] at h
    simp only [Flt.size] at hl
    obtain ⟨t2, t3, q⟩ := parse hn g h.2 ((toks f).reverse.map PyData.str ++ (.str "and" :: rest)) stk w0 s2 s3 (by omega)
    obtain ⟨u2, u3, p⟩ := parse hn f h.1 (.str "and" :: rest) (g.d :: stk) w0 t2 t3 (by simp only [List.length_cons]; omega)
    have d := step_w (fn := fn) (x := "and") (m := 2) (by rfl) (by rfl) rfl [f.d, g.d] rest stk rfl w0 u2 u3 (by omega) (by omega)
    refine ⟨_, _, Eq.trans ?_ (q.trans (p.trans d))⟩
    simp [toks]
  | .or f g, h, rest, stk, w0, s2, s3, hl => by
    simp only [Flt.ok, Bool.and_eq_true] at h
    simp only [Flt.size] at hl
    obtain ⟨t2, t3, q⟩ := parse hn g h.2 ((toks f).reverse.map PyData.str ++ (.str "or" :: rest)) stk w0 s2 s3 (by omega)
    obtain ⟨u2, u3, p⟩ := parse hn f h.1 (.str "or" :: rest) (g.d :: stk) w0 t2 t3 (by simp only [List.length_cons]; omega)
    have d := step_w (fn := fn) (x := "or") (m := 2) (by rfl) (by rfl) rfl [f.d, g.d] rest stk rfl w0 u2 u3 (by omega) (by omega)
    refine ⟨_, _, Eq.trans ?_ (q.trans (p.trans d))⟩
    simp [toks]
abbrev SpParts (f : Fs) : Prop := ∀ x : Flt, x.ok = true → x.size ≤ 20 → f [.dat (.list ((toks x).map PyData.str))] = pur (.list [x.d])
theorem parts_ok {fn : Fs} (hn : SpNumb fn) : SpParts (dFun 1 4 (d__parts_in fn)) := by
  intro x ok hs
  obtain ⟨t2, t3, q⟩ := parse hn x ok [] [] (.dat (.list ((toks x).map PyData.str))) .hid .hid (by simp only [List.length_nil]; omega)
  rw [List.append_nil, forGo_nil, List.map_reverse] at q
  have rv : revL (.list ((toks x).map PyData.str)) = some ((toks x).map PyData.str).reverse := rfl
  rw [dFun_eq]
  simp [d__parts_in, sFor_f, rv, q, dats]
end PT
namespace PT
open PySem PySem.Spec PyProof.Rows L2 DL LW PW
end PT
namespace PT
open PySem PySem.Spec PyProof.Rows L2 DL LW PW
end PT
namespace PT
open PySem PySem.Spec PyProof.Rows L2 DL LW PW
end PT
namespace LT
open PySem PySem.Spec PyProof.Rows L2 DL LW PW PT
end LT
namespace DL
open PySem PySem.Spec PyProof.Rows L2
section
end
end DL
namespace PT
open PySem PySem.Spec PyProof.Rows L2 DL LW PW
abbrev fInt : Fs := dFun 2 2 PW.d_is_integer_to
abbrev fVu : Fs := dFun 2 2 (PW.d__is_value_under fInt)
abbrev fRow : Fs := dFun 2 3 (PW.d_is_row fVu)
abbrev fSem : Fs := dFun 1 3 PW.d_is_semantics
abbrev fChkS : Fs := dFun 1 1 (PW.d_check_semantics fSem)
abbrev fVo : Fs := dFun 1 1 PW.d_value_order
abbrev fOrd : Fs := dFun 1 2 (PW.d_row_order fVo)
abbrev fAsc : Fs := dFun 2 6 (PW.d__is_ascending fOrd)
abbrev fTab : Fs := dFun 2 3 (PW.d_is_table fChkS fRow fAsc)
abbrev fFits : Fs := dFun 2 2 (PW.d__fits fInt)
abbrev fForm : Fs := dFun 2 5 (PW.d__has_form fFits)
abbrev fInn : Fs := dFun 2 5 PW.d__inner_tuples
abbrev fTup : Fs := dFun 3 7 (PW.d_tuples_of fForm fInn)
abbrev fIsF : Fs := dFun 1 1 (PW.d_is_filter fTup)
def badT : List Str := ["", "--", "0", "0,", ",0", "0,0;1,1", "0,0; ", "0,0 ; 1,1", "10,0", "-1,0", "0,0,0", "Null,0", "1,0; 0,1", " 0,0", "0, 0", "0,0;  1,1", "00,1", "0,0; -", "x,0", "None,0"]
end PT
namespace PX
open PySem PySem.Spec PyProof.Rows L2 DL LW
def isIntTo : D → Int → Bool
  | .int i, g => decide (0 ≤ i) && decide (i ≤ g)
  | _, _ => false
abbrev SpIntTo (f : Fs) : Prop := ∀ (d : D) (g : Int), NoDict d → f [.dat d, .dat (.int g)] = pur (.bool (isIntTo d g))
theorem int_to : SpIntTo (dFun 2 2 PW.d_is_integer_to) := by
  intro d g h
  cases d with
  | int i =>
    by_cases h0 : 0 ≤ i <;> simp [dFun_eq, PW.d_is_integer_to, isA, truD, leD, h0, isIntTo]
  | dict kvs => exact absurd rfl (h kvs)
  | _ => simp [dFun_eq, PW.d_is_integer_to, isA, truD, leD, isIntTo]
inductive Nd where
  | c (x : Cnd)
  | e (x : Ex)
def Nd.d : Nd → D
  | .c x => x.d
  | .e x => x.d
def Nd.kind : Nd → String
  | .c _ => "condition"
  | .e _ => "expression"
def Nd.pr (x : Nd) : D := .tuple [x.d, .str (Str.ofString x.kind)]
def Nd.inner : Nd → List Nd
  | .c (.not k) => [.c k]
  | .c (.and k l) => [.c k, .c l]
  | .c (.or k l) => [.c k, .c l]
  | .c .p => []
  | .c .q => []
  | .e (.tab _) => []
  | .e (.op _ a b) => [.e a, .e b]
  | .e (.flt k a) => [.c k, .e a]
def Nd.size : Nd → Nat
  | .c x => x.size
  | .e x => x.size
def Nd.leaf : Nd → Nat
  | .e (.tab _) => 1
  | _ => 0
def Nd.leaves : Nd → Nat
  | .c _ => 0
  | .e x => x.leaves
theorem col_nd (c : Bool) : NoDict (colD c) := by intro k e; cases c <;> simp [colD] at e
theorem col_ok (c : Bool) : isIntTo (colD c) 1 = true := by cases c <;> rfl
@[simp] theorem gi_e : kinD PW.k_GREATEST (.str "expression") = some false := by simp [kinD, PW.k_GREATEST, List.lookup]
@[simp] theorem gi_c : kinD PW.k_GREATEST (.str "condition") = some false := by simp [kinD, PW.k_GREATEST, List.lookup]
@[simp] theorem gi_p : kinD PW.k_GREATEST (.str "place") = some true := by simp [kinD, PW.k_GREATEST, List.lookup]
@[simp] theorem gg_p : kgetD PW.k_GREATEST (.str "place") = some (.int 1) := by simp [kgetD, PW.k_GREATEST, List.lookup]
abbrev SpFits (f : Fs) : Prop := (∀ d, f [.dat d, .dat (.str "expression")] = pur (.bool true)) ∧ (∀ d, f [.dat d, .dat (.str "condition")] = pur (.bool true)) ∧ ∀ b, f [.dat (colD b), .dat (.str "place")] = pur (.bool true)
theorem fits {f : Fs} (hf : SpIntTo f) : SpFits (dFun 2 2 (PW.d__fits f)) := by
  refine ⟨fun d => ?_, fun d => ?_, fun b => ?_⟩ <;> simp [dFun_eq, PW.d__fits, hf _ _ (col_nd _), col_ok]
theorem fget {k w : String} {d : D} (h : List.lookup [Str.ofString k, Str.ofString w] PW.t_FORMS = some d) : tgetD PW.t_FORMS (.tuple [.str (Str.ofString k), .str (Str.ofString w)]) = some d := by
  show List.lookup [Str.ofString k, Str.ofString w] PW.t_FORMS = some d
  exact h
theorem fnin {k w : String} {d : D} (h : List.lookup [Str.ofString k, Str.ofString w] PW.t_FORMS = some d) : tninD PW.t_FORMS (.tuple [.str (Str.ofString k), .str (Str.ofString w)]) = some false := by
  show some (!(List.lookup [Str.ofString k, Str.ofString w] PW.t_FORMS).isSome) = some false
  rw [h]; rfl
theorem lk_c_p : List.lookup [Str.ofString "condition", Str.ofString "p"] PW.t_FORMS = some (.tuple []) := by simp [PW.t_FORMS, List.lookup]
@[simp] theorem fg_c_p : tgetD PW.t_FORMS (.tuple [.str "condition", .str "p"]) = some (.tuple []) := fget lk_c_p
@[simp] theorem fn_c_p : tninD PW.t_FORMS (.tuple [.str "condition", .str "p"]) = some false := fnin lk_c_p
theorem lk_c_q : List.lookup [Str.ofString "condition", Str.ofString "q"] PW.t_FORMS = some (.tuple []) := by simp [PW.t_FORMS, List.lookup]
@[simp] theorem fg_c_q : tgetD PW.t_FORMS (.tuple [.str "condition", .str "q"]) = some (.tuple []) := fget lk_c_q
@[simp] theorem fn_c_q : tninD PW.t_FORMS (.tuple [.str "condition", .str "q"]) = some false := fnin lk_c_q
theorem lk_c_not : List.lookup [Str.ofString "condition", Str.ofString "not"] PW.t_FORMS = some (.tuple [.str "condition"]) := by simp [PW.t_FORMS, List.lookup]
@[simp] theorem fg_c_not : tgetD PW.t_FORMS (.tuple [.str "condition", .str "not"]) = some (.tuple [.str "condition"]) := fget lk_c_not
@[simp] theorem fn_c_not : tninD PW.t_FORMS (.tuple [.str "condition", .str "not"]) = some false := fnin lk_c_not
theorem lk_c_and : List.lookup [Str.ofString "condition", Str.ofString "and"] PW.t_FORMS = some (.tuple [.str "condition", .str "condition"]) := by simp [PW.t_FORMS, List.lookup]
@[simp] theorem fg_c_and : tgetD PW.t_FORMS (.tuple [.str "condition", .str "and"]) = some (.tuple [.str "condition", .str "condition"]) := fget lk_c_and
@[simp] theorem fn_c_and : tninD PW.t_FORMS (.tuple [.str "condition", .str "and"]) = some false := fnin lk_c_and
theorem lk_c_or : List.lookup [Str.ofString "condition", Str.ofString "or"] PW.t_FORMS = some (.tuple [.str "condition", .str "condition"]) := by simp [PW.t_FORMS, List.lookup]
@[simp] theorem fg_c_or : tgetD PW.t_FORMS (.tuple [.str "condition", .str "or"]) = some (.tuple [.str "condition", .str "condition"]) := fget lk_c_or
@[simp] theorem fn_c_or : tninD PW.t_FORMS (.tuple [.str "condition", .str "or"]) = some false := fnin lk_c_or
theorem lk_e_table : List.lookup [Str.ofString "expression", Str.ofString "table"] PW.t_FORMS = some (.tuple [.str "place"]) := by simp [PW.t_FORMS, List.lookup]
@[simp] theorem fg_e_table : tgetD PW.t_FORMS (.tuple [.str "expression", .str "table"]) = some (.tuple [.str "place"]) := fget lk_e_table
@[simp] theorem fn_e_table : tninD PW.t_FORMS (.tuple [.str "expression", .str "table"]) = some false := fnin lk_e_table
theorem lk_e_union : List.lookup [Str.ofString "expression", Str.ofString "union"] PW.t_FORMS = some (.tuple [.str "expression", .str "expression"]) := by simp [PW.t_FORMS, List.lookup]
@[simp] theorem fg_e_union : tgetD PW.t_FORMS (.tuple [.str "expression", .str "union"]) = some (.tuple [.str "expression", .str "expression"]) := fget lk_e_union
@[simp] theorem fn_e_union : tninD PW.t_FORMS (.tuple [.str "expression", .str "union"]) = some false := fnin lk_e_union
theorem lk_e_intersection : List.lookup [Str.ofString "expression", Str.ofString "intersection"] PW.t_FORMS = some (.tuple [.str "expression", .str "expression"]) := by simp [PW.t_FORMS, List.lookup]
@[simp] theorem fg_e_intersection : tgetD PW.t_FORMS (.tuple [.str "expression", .str "intersection"]) = some (.tuple [.str "expression", .str "expression"]) := fget lk_e_intersection
@[simp] theorem fn_e_intersection : tninD PW.t_FORMS (.tuple [.str "expression", .str "intersection"]) = some false := fnin lk_e_intersection
theorem lk_e_difference : List.lookup [Str.ofString "expression", Str.ofString "difference"] PW.t_FORMS = some (.tuple [.str "expression", .str "expression"]) := by simp [PW.t_FORMS, List.lookup]
@[simp] theorem fg_e_difference : tgetD PW.t_FORMS (.tuple [.str "expression", .str "difference"]) = some (.tuple [.str "expression", .str "expression"]) := fget lk_e_difference
@[simp] theorem fn_e_difference : tninD PW.t_FORMS (.tuple [.str "expression", .str "difference"]) = some false := fnin lk_e_difference
theorem lk_e_filter : List.lookup [Str.ofString "expression", Str.ofString "filter"] PW.t_FORMS = some (.tuple [.str "condition", .str "expression"]) := by simp [PW.t_FORMS, List.lookup]
@[simp] theorem fg_e_filter : tgetD PW.t_FORMS (.tuple [.str "expression", .str "filter"]) = some (.tuple [.str "condition", .str "expression"]) := fget lk_e_filter
@[simp] theorem fn_e_filter : tninD PW.t_FORMS (.tuple [.str "expression", .str "filter"]) = some false := fnin lk_e_filter
abbrev SpHas (f : Fs) : Prop := ∀ x : Nd, f [.dat x.d, .dat (.str (Str.ofString x.kind))] = pur (.bool true)
theorem has_form {f : Fs} (hf : SpFits f) : SpHas (dFun 2 5 (PW.d__has_form f)) := by
  intro x
  obtain ⟨h1, h2, h3⟩ := hf
  cases x with
  | c x => cases x <;> simp [dFun_eq, PW.d__has_form, Nd.d, Nd.kind, Cnd.d, isA, truD, lenD, addD, zipD, h2, allD, bools]
  | e x =>
    cases x with
    | op w a b => cases w <;> simp [dFun_eq, PW.d__has_form, Nd.d, Nd.kind, Ex.d, Op3.s, isA, truD, lenD, addD, zipD, h1, allD, bools]
    | _ => simp [dFun_eq, PW.d__has_form, Nd.d, Nd.kind, Ex.d, isA, truD, lenD, addD, zipD, h1, h2, h3, allD, bools]
abbrev SpInn (f : Fs) : Prop := ∀ x : Nd, f [.dat x.d, .dat (.str (Str.ofString x.kind))] = pur (.list (x.inner.map Nd.pr))
theorem inner_t : SpInn (dFun 2 5 PW.d__inner_tuples) := by
  intro x
  cases x with
  | c x => cases x <;> simp [dFun_eq, PW.d__inner_tuples, Nd.d, Nd.kind, Nd.inner, Nd.pr, Cnd.d, zipD]
  | e x =>
    cases x with
    | op w a b => cases w <;> simp [dFun_eq, PW.d__inner_tuples, Nd.d, Nd.kind, Nd.inner, Nd.pr, Ex.d, Op3.s, zipD]
    | _ => simp [dFun_eq, PW.d__inner_tuples, Nd.d, Nd.kind, Nd.inner, Nd.pr, Ex.d, zipD]
def total : List Nd → Nat
  | [] => 0
  | x :: xs => x.size + total xs
def lvs : List Nd → Nat
  | [] => 0
  | x :: xs => x.leaves + lvs xs
def lf : List Nd → Nat
  | [] => 0
  | x :: xs => x.leaf + lf xs
theorem total_app : ∀ xs ys : List Nd, total (xs ++ ys) = total xs + total ys
  | [], ys => by simp [total]
  | x :: xs, ys => by simp [total, total_app xs ys]; omega
theorem lvs_app : ∀ xs ys : List Nd, lvs (xs ++ ys) = lvs xs + lvs ys
  | [], ys => by simp [lvs]
  | x :: xs, ys => by simp [lvs, lvs_app xs ys]; omega
theorem lf_app : ∀ xs ys : List Nd, lf (xs ++ ys) = lf xs + lf ys
  | [], ys => by simp [lf]
  | x :: xs, ys => by simp [lf, lf_app xs ys]; omega
theorem total_inner (x : Nd) : x.size = total x.inner + 1 := by
  cases x with
  | c x => cases x <;> simp [Nd.size, Cnd.size, Nd.inner, total] <;> omega
  | e x => cases x <;> simp [Nd.size, Ex.size, Nd.inner, total] <;> omega
theorem lvs_inner (x : Nd) : x.leaves = lvs x.inner + x.leaf := by
  cases x with
  | c x => cases x <;> simp [Nd.leaves, Nd.inner, lvs, Nd.leaf]
  | e x => cases x <;> simp [Nd.leaves, Ex.leaves, Nd.inner, lvs, Nd.leaf]
theorem size_pos (x : Nd) : 1 ≤ x.size := by rw [total_inner]; omega
theorem total_len : ∀ xs : List Nd, xs.length ≤ total xs
  | [] => by simp [total]
  | x :: xs => by have := total_len xs; have := size_pos x; simp [total]; omega
abbrev tupBody (fh fi : Fs) : Ev → Ms := seqM (sPopT (.tup [5, 6]) 3)
    (seqM (sIf (dOr (dCmp eqD (dFn lenD (dCons (dVar 4) (dNil))) (dVar 2)) (dNot (dTru (dCl 2 fh (dCons (dVar 5) (dCons (dVar 6) (dNil))))))) (sRet (dLit .none)) (sNil))
    (seqM (sApp 4 (dVar 5))
    (sExt 3 (dCl 2 fi (dCons (dVar 5) (dCons (dVar 6) (dNil)))))))
def slotOk (s : DL.Slot) : Prop := s = .hid ∨ ∃ d, s = .dat d
theorem popT_app (v k m : D) (ys : List D) (a b : D) (fo : DL.Slot) (s5 s6 : DL.Slot) : popT (.tup [5, 6]) 3 [.dat v, .dat k, .dat m, .own (.l (ys ++ [.tuple [a, b]])), fo, s5, s6] = some (ys, [a, b]) := by
  simp [popT]
theorem tup_loop {fh fi : Fs} (h1 : SpHas fh) (h2 : SpInn fi) (v k : D) : ∀ (n : Nat) (xs L : List Nd) (s5 s6 : DL.Slot), L.length + total xs ≤ 30 → total xs < n → slotOk s5 → slotOk s6 →
    ∃ L' t5 t6, whileN (dTru (dVar 3)) (tupBody fh fi) n [.dat v, .dat k, .dat (.int 30), .own (.l (xs.map Nd.pr)), .own (.l (L.map Nd.d)), s5, s6] = nxM [.dat v, .dat k, .dat (.int 30), .own (.l []), .own (.l (L'.map Nd.d)), t5, t6] ∧ lf L' = lf L + lvs xs ∧ L'.length ≤ 30 := by
  intro n
  induction n with
  | zero => intro xs L s5 s6 _ h; omega
  | succ n ih =>
    intro xs L s5 s6 ht hn q5 q6
    rw [whileN_s]
    by_cases hx : xs = []
    · subst hx
      refine ⟨L, s5, s6, ?_, by simp [lvs], by simpa [total] using ht⟩
      simp [truD]
    · obtain ⟨ys, y, rfl⟩ : ∃ ys y, xs = ys ++ [y] := ⟨xs.dropLast, xs.getLast hx, (List.dropLast_concat_getLast hx).symm⟩
      rw [total_app] at ht hn
      have e1 := total_inner y
      have e2 := lvs_inner y
      simp only [total, Nat.add_zero] at ht hn
      have hlen : ys.length + y.inner.length ≤ sizeLine := by
        have a := total_len ys
        have b := total_len y.inner
        exact size_ok _ (by omega)
      have hL : L.length < sizeLine := Nat.lt_of_lt_of_le (by omega : L.length < 31) (size_ok 31)
      obtain ⟨L', t5, t6, he, hl, hn'⟩ := ih (ys ++ y.inner) (L ++ [y]) (.dat y.d) (.dat (.str (Str.ofString y.kind))) (by rw [total_app, List.length_append]; simp; omega) (by rw [total_app]; omega) (.inr ⟨_, rfl⟩) (.inr ⟨_, rfl⟩)
      refine ⟨L', t5, t6, ?_, ?_, hn'⟩
      · rw [← he]
        have hne : ¬ ((L.length : Int) = 30) := by omega
        have hp : (ys ++ [y]).map Nd.pr = ys.map Nd.pr ++ [.tuple [y.d, .str (Str.ofString y.kind)]] := by simp [Nd.pr]
        rw [hp]
        simp [truD, popT_app, lenD, hne, h1 y, h2 y, hlen, hL]
      · rw [hl, lf_app, lvs_app, lvs_app]
        simp [lf, lvs]
        omega
abbrev SpTup (f : Fs) : Prop := ∀ x : Nd, x.size ≤ 30 → ∃ L : List Nd, f [.dat x.d, .dat (.str (Str.ofString x.kind)), .dat (.int 30)] = pur (.list (L.map Nd.d)) ∧ lf L = x.leaves ∧ L.length ≤ 30
theorem tuples_ok {fh fi : Fs} (h1 : SpHas fh) (h2 : SpInn fi) : SpTup (dFun 3 7 (PW.d_tuples_of fh fi)) := by
  intro x hx
  obtain ⟨L', t5, t6, he, hl, hn⟩ := tup_loop h1 h2 x.d (.str (Str.ofString x.kind)) 64 [x] [] .hid .hid (by simpa [total] using hx) (by simp [total]; omega) (.inl rfl) (.inl rfl)
  refine ⟨L', ?_, by simpa [lf, lvs] using hl, hn⟩
  rw [dFun_eq]
  simp only [PW.d_tuples_of]
  simp only [List.map_cons, List.map_nil, Nd.pr] at he
  simp [he]
end PX
namespace PX
open PySem PySem.Spec PyProof.Rows L2 DL LW
def Nd.word : Nd → String
  | .c .p => "p"
  | .c .q => "q"
  | .c (.not _) => "not"
  | .c (.and _ _) => "and"
  | .c (.or _ _) => "or"
  | .e (.tab _) => "table"
  | .e (.op w _ _) => w.s
  | .e (.flt _ _) => "filter"
theorem word_ix (x : Nd) : ixD x.d (.int 0) = some (.str (Str.ofString x.word)) := by
  cases x with
  | c x => cases x <;> simp [Nd.d, Cnd.d, Nd.word]
  | e x => cases x <;> simp [Nd.d, Ex.d, Nd.word]
theorem word_leaf (x : Nd) : (x.word == "table") = decide (x.leaf = 1) := by
  cases x with
  | c x => cases x <;> rfl
  | e x =>
    cases x with
    | op w a b => cases w <;> rfl
    | _ => rfl
theorem leaf_le (x : Nd) : x.leaf = 0 ∨ x.leaf = 1 := by
  cases x with
  | c x => exact .inl rfl
  | e x => cases x <;> simp [Nd.leaf]
theorem lf_filter : ∀ L : List Nd, (L.filter fun x => x.word == "table").length = lf L
  | [] => rfl
  | x :: L => by
    rw [List.filter_cons, word_leaf]
    rcases leaf_le x with h | h
    · simp [h, lf, lf_filter L]
    · simp [h, lf, lf_filter L]; omega
abbrev SpAmong (f : Fs) : Prop := ∀ L : List Nd, L.length ≤ 30 → f [.dat (.list (L.map Nd.d))] = pur (.int ((lf L : Nat) : Int))
theorem among_ok : SpAmong (dFun 1 2 PW.d__leaves_among) := by
  intro L hL
  have go : compGo (.name 1) (dCmp eqD (dBin ixD (dVar 1) (dLit (.int 0))) (dLit (.str "table"))) (dVar 1) [.dat (.list (L.map Nd.d)), .hid] (L.map Nd.d) = pur ((L.filter fun x => x.word == "table").map Nd.d) := by
    refine compGo_on Nd.d Nd.d (fun x => x.word == "table") L fun x hx => ⟨[x.d], rfl, ?_, fun _ => ?_⟩
    · simp [word_ix]
    · simp
  have hl0 : (L.filter fun x => x.word == "table").length ≤ 30 := Nat.le_trans (List.length_filter_le _ _) hL
  rw [lf_filter] at hl0
  have hl : lf L ≤ sizeLine := size_ok _ (by omega)
  simp [dFun_eq, PW.d__leaves_among, itmD, go, lenD, hl, lf_filter]
abbrev SpIsEx (f : Fs) : Prop := ∀ e : Ex, e.size ≤ 30 → e.leaves ≤ 6 → f [.dat e.d] = pur (.bool true)
theorem isn_list (ds : List D) : isnD (.list ds) .none = some true := rfl
theorem is_ex {ft fa : Fs} (h1 : SpTup ft) (h2 : SpAmong fa) : SpIsEx (dFun 1 2 (PW.d_is_expression ft fa)) := by
  intro e hs hl
  obtain ⟨L, e1, e2, e3⟩ := h1 (.e e) hs
  have e4 := h2 L e3
  have e5 : ((lf L : Nat) : Int) ≤ 6 := by rw [e2]; simp only [Nd.leaves]; omega
  simp only [Nd.d, Nd.kind] at e1
  simp [dFun_eq, PW.d_is_expression, PW.c_MOST_TUPLES_expressions, PW.c_MOST_LEAVES, e1, isn_list, truD, e4, leD, e5]
end PX
namespace LZ
open PySem PySem.Spec PyProof.Rows L2 DL
end LZ
namespace PW
open PySem PySem.Spec PyProof.Rows L2 DL LW
theorem TabOk.sq {a : Bool} {n : N3} {xs ys : List LW.Row} (T : TabOk a n xs) (U : TabOk a n ys) : (xs.length + ys.length) * (xs.length + ys.length) ≤ LW.lim := by
  have h : xs.length + ys.length ≤ 24 := by have := T.len; have := U.len; omega
  exact Nat.le_trans (Nat.mul_le_mul h h) (by rw [lim_eq]; decide)
theorem TabOk.two {a : Bool} {n : N3} {xs : List LW.Row} (T : TabOk a n xs) : LW.two xs := fun r hr => ok_two (T.ok r hr)
theorem chkF {f : Fs} (h : SpIsFilter f) : ∀ x : Flt, x.ok = true → x.size ≤ 20 → dFun 1 1 (d_check_filter f) [.dat x.d] = pur .none := by
  intro x h1 h2
  simp [dFun_eq, d_check_filter, h x h1 h2, truD]
end PW
namespace PW
open PySem PySem.Spec PyProof.Rows L2 DL LW
theorem mtch_eq {n : N3} {k l : Vl} (h : isT (mtch n k l) = true) : k = l := by
  cases k with
  | nul =>
    cases l with
    | nul => rfl
    | int j => cases n <;> simp [mtch, Vl.isN, N3.unk, isT] at h
  | int i =>
    cases l with
    | nul => cases n <;> simp [mtch, Vl.isN, N3.unk, isT] at h
    | int j =>
      by_cases e : i = j
      · rw [e]
      · cases n <;> simp [mtch, Vl.isN, N3.unk, isT, e] at h
theorem join_nodup {n : N3} {xs ys : List LW.Row} (hx : ∀ r ∈ xs, okRow n r) (hy : ∀ r ∈ ys, okRow n r) (nx : xs.Nodup) (ny : ys.Nodup) : (joinR n xs ys).Nodup := by
  unfold joinR
  refine List.pairwise_flatMap.mpr ⟨fun r hr => ?_, ?_⟩
  · unfold joinOne
    rw [List.pairwise_map]
    refine List.Pairwise.imp_of_mem (fun {s t} hs ht ne => ?_) (List.Pairwise.filter _ ny)
    intro e
    obtain ⟨u, v, rfl, _⟩ := hx r hr
    obtain ⟨hs1, hs2⟩ := List.mem_filter.mp hs
    obtain ⟨ht1, ht2⟩ := List.mem_filter.mp ht
    obtain ⟨a, b, rfl, _⟩ := hy s hs1
    obtain ⟨c, d, rfl, _⟩ := hy t ht1
    have e1 : u = a := mtch_eq hs2
    have e2 : u = c := mtch_eq ht2
    have e3 : b = d := by simpa using e
    exact ne (by rw [← e1, ← e2, e3])
  · refine List.Pairwise.imp_of_mem (fun {p q} hp hq ne => ?_) nx
    intro x h1 y h2 e
    obtain ⟨s, _, rfl⟩ := List.mem_map.mp h1
    obtain ⟨t, _, rfl⟩ := List.mem_map.mp h2
    obtain ⟨u, v, rfl, _⟩ := hx p hp
    obtain ⟨u', v', rfl, _⟩ := hx q hq
    exact ne (List.append_inj e rfl).1
/-- the value of a drawn table -/
theorem tab_of {a : Bool} {n : N3} {most : Nat} {rs : List LW.Row} (h : IsTab a n most rs) (hm : most ≤ 12) : TabOk a n (srtR rs) := by
  obtain ⟨h1, h2, h3⟩ := h
  exact ⟨by rw [(srt_perm rs).length_eq]; omega, fun r hr => h2 r ((srt_perm rs).mem_iff.mp hr), srt_sorted rs, fun ha => (srt_perm rs).nodup_iff.mpr (h3 ha)⟩
end PW
namespace PW
open PySem PySem.Spec PyProof.Rows L2 DL LW
structure Rw (w : Nat) (a : Bool) (n : N3) (rs : List LW.Row) : Prop where
  row : ∀ r ∈ rs, r.length = w ∧ ∀ v ∈ r, Vl.okU n v = true
  nd : a = false → rs.Nodup
section
variable {w : Nat} {a b c : Bool} {n : N3} {rs xs ys : List LW.Row}
theorem Rw.fair (h : Rw w a n rs) (h0 : 0 < w) (h3 : w ≤ 3) : Fair rs :=
  ⟨fun r hr => ⟨fun e => by have := (h.row r hr).1; rw [e] at this; simp at this; omega, by rw [(h.row r hr).1, lim_eq]; omega⟩, fun r hr v hv => okU_nn ((h.row r hr).2 v hv)⟩
theorem Rw.ok2 (h : Rw 2 a n rs) : ∀ r ∈ rs, okRow n r := fun r hr => by
  obtain ⟨h1, h2⟩ := h.row r hr
  rcases r with _ | ⟨u, _ | ⟨v, _ | ⟨x, t⟩⟩⟩
  · simp at h1
  · simp at h1
  · exact ⟨u, v, rfl, h2 u (by simp), h2 v (by simp)⟩
  · simp at h1
theorem Rw.of2 (h : ∀ r ∈ rs, okRow n r) (nd : a = false → rs.Nodup) : Rw 2 a n rs := ⟨fun r hr => by
  obtain ⟨u, v, rfl, hu, hv⟩ := h r hr
  refine ⟨rfl, fun x hx => ?_⟩
  simp only [List.mem_cons, List.not_mem_nil, or_false] at hx
  rcases hx with rfl | rfl <;> assumption, nd⟩
theorem Rw.two (h : Rw 2 a n rs) : LW.two rs := fun r hr => ok_two (h.ok2 r hr)
theorem Rw.sub (h : Rw w a n rs) {ss : List LW.Row} (s : ss.Sublist rs) : Rw w a n ss := ⟨fun r hr => h.row r (s.subset hr), fun e => (h.nd e).sublist s⟩
theorem Rw.srt (h : Rw w a n rs) : Rw w a n (srtR rs) := ⟨fun r hr => h.row r ((srt_perm rs).mem_iff.mp hr), fun e => (srt_perm rs).nodup_iff.mpr (h.nd e)⟩
theorem Rw.once (h : Rw w a n rs) : Rw w a n (srtR (onceR rs)) := Rw.srt ⟨fun r hr => h.row r ((once_sub _ [] r hr).resolve_left (by simp)), fun _ => (once_mem rs [] List.nodup_nil).1⟩
theorem join_rows (hx : Rw 2 a n xs) (hy : Rw 2 a n ys) : Rw 3 a n (joinR n xs ys) := by
  refine ⟨fun r hr => ?_, fun e => join_nodup hx.ok2 hy.ok2 (hx.nd e) (hy.nd e)⟩
  obtain ⟨s, hs, h⟩ := List.mem_flatMap.mp hr
  obtain ⟨t, ht, rfl⟩ := List.mem_map.mp h
  obtain ⟨u, v, rfl, hu, hv⟩ := hx.ok2 s hs
  obtain ⟨x, y, rfl, hx', hy'⟩ := hy.ok2 t (List.mem_filter.mp ht).1
  refine ⟨rfl, fun z hz => ?_⟩
  simp only [List.drop_succ_cons, List.drop_zero, List.cons_append, List.nil_append, List.mem_cons, List.not_mem_nil, or_false] at hz
  rcases hz with rfl | rfl | rfl <;> assumption
/-- a join of sets has no doubles -/
theorem join_same (hx : Rw 2 a n xs) (hy : Rw 2 a n ys) : srtR (if a = true then joinR n xs ys else onceR (joinR n xs ys)) = srtR (joinR n xs ys) := by
  cases a with
  | true => rfl
  | false =>
    have f := fair_join hx.ok2 hy.ok2
    exact (srt_once f.nn (join_nodup hx.ok2 hy.ok2 (hx.nd rfl) (hy.nd rfl)) fun r => Iff.rfl).symm
theorem Rw.join (hx : Rw 2 a n xs) (hy : Rw 2 a n ys) : Rw 3 a n (srtR (if a = true then joinR n xs ys else onceR (joinR n xs ys))) := by
  rw [join_same hx hy]
  exact (join_rows hx hy).srt
theorem TabOk.rw {rs : List LW.Row} (T : TabOk a n rs) : Rw 2 a n rs := Rw.of2 T.ok T.nd
end
end PW
namespace PW
open PySem PySem.Spec PyProof.Rows L2 DL LW
inductive Wd where
  | uni | int | dif | sel | prj | prs | jn | semi | anti | notin | tot | cnt | dis | pls | no | et | vel
  deriving DecidableEq
def Wd.s : Wd → String
  | .uni => "union" | .int => "intersection" | .dif => "difference" | .sel => "select" | .prj => "project" | .prs => "pairs" | .jn => "join"
  | .semi => "semijoin" | .anti => "antijoin" | .notin => "not_in" | .tot => "total" | .cnt => "count" | .dis => "distinct" | .pls => "plus"
  | .no => "not" | .et => "and" | .vel => "or"
inductive Sd where
  | v (s : String)
  | u (w : Wd) (x : Sd)
  | b (w : Wd) (x y : Sd)
def Sd.d : Sd → D
  | .v s => .str (Str.ofString s)
  | .u w x => .tuple [.str (Str.ofString w.s), x.d]
  | .b w x y => .tuple [.str (Str.ofString w.s), x.d, y.d]
inductive Va where
  | T (w l : Nat) (rs : List LW.Row)
  | F (k : Nat) (x : Flt)
  | N (i : Option Int)
def Va.d : Va → D
  | .T _ _ rs => rowsT rs
  | .F _ x => x.d
  | .N i => oiD i
def Va.Ok (a : Bool) (n : N3) : Va → Prop
  | .T w l rs => Rw w a n rs ∧ rs.length ≤ l ∧ 0 < w ∧ w ≤ 3 ∧ l ≤ 900
  | .F k x => x.size ≤ k
  | .N _ => True
def plusO : Option Int → Option Int → Option Int
  | some i, some j => some (i + j)
  | _, _ => none
def cutS (a : Bool) (m : Nat) (rs : List LW.Row) : List LW.Row := srtR (if a = true then cutR m rs else onceR (cutR m rs))
def bothS (a b c : Bool) (o : Op3) (xs ys : List LW.Row) : List LW.Row := srtR (bothR a b c o xs ys)
def joinS (n : N3) (xs ys : List LW.Row) : List LW.Row := srtR (joinR n xs ys)
def onceS (xs : List LW.Row) : List LW.Row := srtR (onceR xs)
section
variable (a b c : Bool) (n : N3) (e : Bool)
def appO (o : Op3) : Va → Va → Option Va
  | .T w l xs, .T w' m ys => if w = w' ∧ l + m ≤ 900 then some (.T w (l + m) (bothS a b c o xs ys)) else none
  | _, _ => none
def appK (o : Kp3) : Va → Va → Option Va
  | .T w l xs, .T w' m ys => if w = 2 ∧ w' = 2 then some (.T 2 l (keptR n o xs ys)) else none
  | _, _ => none
def app1 : Wd → Va → Option Va
  | .prj, .T w l rs => if w = 2 then some (.T 1 l (cutS a 1 rs)) else none
  | .prs, .T w l rs => if w = 3 then some (.T 2 l (cutS a 2 rs)) else none
  | .tot, .T w l rs => if w = 2 then some (.N (totR e rs)) else none
  | .cnt, .T w l rs => some (.N (some ((rs.length : Nat) : Int)))
  | .dis, .T w l rs => some (.T w l (onceS rs))
  | .no, .F k x => if k ≤ 19 then some (.F (k + 1) (.not x)) else none
  | _, _ => none
def app2 : Wd → Va → Va → Option Va
  | .uni, x, y => appO a b c .uni x y
  | .int, x, y => appO a b c .int x y
  | .dif, x, y => appO a b c .dif x y
  | .semi, x, y => appK n .semi x y
  | .anti, x, y => appK n .anti x y
  | .notin, x, y => appK n .notin x y
  | .sel, .T w l xs, .F k x => if w = 2 ∧ k ≤ 20 then some (.T 2 l (selR n x xs)) else none
  | .jn, .T w l xs, .T w' m ys => if w = 2 ∧ w' = 2 ∧ l * m ≤ 900 then some (.T 3 (l * m) (joinS n xs ys)) else none
  | .pls, .N i, .N j => some (.N (plusO i j))
  | .et, .F k x, .F l y => if k + l ≤ 19 then some (.F (k + l + 1) (.and x y)) else none
  | .vel, .F k x, .F l y => if k + l ≤ 19 then some (.F (k + l + 1) (.or x y)) else none
  | _, _, _ => none
def Sd.val (env : List (String × Va)) : Sd → Option Va
  | .v s => env.lookup s
  | .u w x => (x.val env).bind fun p => app1 a e w p
  | .b w x y => (x.val env).bind fun p => (y.val env).bind fun q => app2 a b c n w p q
end
section
variable {a b c : Bool} {n : N3} {e : Bool}
theorem sq_ok {l m : Nat} (h : l + m ≤ 900) : (l + m) * (l + m) ≤ lim := Nat.le_trans (Nat.mul_le_mul h h) (by rw [lim_eq]; decide)
end
end PW
namespace PW
open PySem PySem.Spec PyProof.Rows L2 DL LW
theorem lim900 {m : Nat} (h : m ≤ 900) : m ≤ lim := by rw [lim_eq]; omega
section
end
end PW
namespace PW
open PySem PySem.Spec PyProof.Rows L2 DL LW
structure Idn where
  name : String
  l : Sd
  r : Sd
def Sd.nms : Sd → List String
  | .v s => [s]
  | .u _ x => x.nms
  | .b _ x y => x.nms ++ y.nms
def Idn.names (i : Idn) : List String := ["A", "B", "C", "p", "q"].filter fun s => decide (s ∈ i.l.nms ++ i.r.nms)
def wordOf (s : String) : String := if s ∈ ["A", "B", "C"] then "table" else "filter"
end PW
namespace PW
open PySem PySem.Spec PyProof.Rows L2 DL LW
end PW
namespace PW
open PySem PySem.Spec PyProof.Rows L2 DL LW
structure Ar where
  xs : List LW.Row
  ys : List LW.Row
  zs : List LW.Row
  p : Flt
  q : Flt
def Ar.at (A : Ar) (s : String) : Va := if s = "A" then .T 2 12 A.xs else if s = "B" then .T 2 12 A.ys else if s = "C" then .T 2 12 A.zs else if s = "p" then .F 3 A.p else .F 3 A.q
structure Ar.Ok (A : Ar) (a : Bool) (n : N3) : Prop where
  x : TabOk a n A.xs
  y : TabOk a n A.ys
  z : TabOk a n A.zs
  p1 : A.p.ok = true
  p2 : A.p.size ≤ 3
  q1 : A.q.ok = true
  q2 : A.q.size ≤ 3
def Ar.env (A : Ar) (l : List String) : List (String × Va) := l.map fun s => (s, A.at s)
def Ar.tup (A : Ar) (l : List String) : D := .tuple (l.map fun s => (A.at s).d)
end PW
namespace PW
open PySem PySem.Spec PyProof.Rows L2 DL LW
section
variable {a b c : Bool} {n : N3} {e : Bool} {f : Fs}
theorem ok_lim {w l : Nat} {xs : List LW.Row} (h : (Va.T w l xs).Ok a n) : xs.length ≤ 900 := Nat.le_trans h.2.1 h.2.2.2.2
theorem ok_row {w l : Nat} {xs : List LW.Row} (h : (Va.T w l xs).Ok a n) : ∀ r ∈ xs, r.length ≤ lim := fun r hr => by
  have := (h.1.row r hr).1
  have := h.2.2.2.1
  rw [lim_eq]; omega
theorem lb (h : SpBoth f) (o : Op3) {w l m : Nat} {us vs : List LW.Row} (hu : (Va.T w l us).Ok a n) (hv : (Va.T w m vs).Ok a n) (g : l + m ≤ 900) : f [.dat (wayD a b c n e), .dat (.str (Str.ofString o.s)), .dat (rowsT us), .dat (rowsT vs)] = pur (rowsT (bothS a b c o us vs)) :=
  h a b c n e o us vs (sq_ok (by have := hu.2.1; have := hv.2.1; omega)) (ok_row hu) (ok_row hv)
theorem lk (h : SpKept f) (o : Kp3) {l m : Nat} {us vs : List LW.Row} (hu : (Va.T 2 l us).Ok a n) (hv : (Va.T 2 m vs).Ok a n) : f [.dat (wayD a b c n e), .dat (rowsT us), .dat (rowsT vs), .dat (.str (Str.ofString o.s))] = pur (rowsT (keptR n o us vs)) :=
  h a b c n e us vs o (lim900 (ok_lim hu)) (lim900 (ok_lim hv)) hu.1.two hv.1.two
theorem lo (h : SpOnce f) {w l : Nat} {us : List LW.Row} (hu : (Va.T w l us).Ok a n) : f [.dat (rowsT us)] = pur (rowsT (onceS us)) := (h us (lim900 (ok_lim hu)) (ok_row hu)).2
theorem lt (h : SpTotal f) {l : Nat} {us : List LW.Row} (hu : (Va.T 2 l us).Ok a n) : f [.dat (wayD a b c n e), .dat (rowsT us)] = pur (oiD (totR e us)) := h a b c n e us (lim900 (ok_lim hu)) hu.1.two
end
end PW
namespace PW
open PySem PySem.Spec PyProof.Rows L2 DL LW
section
end
def GoodA (a : Bool) (n : N3) (s : String) (d : D) : Prop := if wordOf s = "table" then ∃ xs, TabOk a n xs ∧ d = rowsT xs else ∃ x : Flt, d = x.d ∧ x.ok = true ∧ x.size ≤ 3
def GoodL (a : Bool) (n : N3) : List String → List D → Prop
  | [], [] => True
  | s :: l, d :: ds => GoodA a n s d ∧ GoodL a n l ds
  | _, _ => False
theorem GoodL.len {a : Bool} {n : N3} : ∀ {l : List String} {ds : List D}, GoodL a n l ds → ds.length = l.length
  | [], [], _ => rfl
  | t :: l, e :: ds, g => by simp [GoodL.len g.2]
  | [], _ :: _, g => g.elim
  | _ :: _, [], g => g.elim
end PW
namespace PX
open PySem PySem.Spec PyProof.Rows L2 DL LW
section
end
theorem ex_pos (e : Ex) : 1 ≤ e.size := by cases e <;> simp [Ex.size]
end PX
namespace PW
open PySem PySem.Spec PyProof.Rows L2 DL LW
section
end
end PW
namespace PX
open PySem PySem.Spec PyProof.Rows L2 DL LW
section
end
end PX
namespace PX
open PySem PySem.Spec PyProof.Rows L2 DL LW
end PX
namespace PX
open PySem PySem.Spec PyProof.Rows L2 DL LW
def arg (t g : Nat) : List Nat := List.range' (t - g) (min t g + 1 - (t - g))
end PX
namespace PX
open PySem PySem.Spec PyProof.Rows L2 DL LW
end PX
namespace PX
open PySem PySem.Spec PyProof.Rows L2 DL LW
end PX
namespace PX
open PySem PySem.Spec PyProof.Rows L2 DL LW
end PX
namespace PT
open PySem PySem.Spec PyProof.Rows L2 DL LW PW
abbrev fChkF : Fs := dFun 1 1 (PW.d_check_filter fIsF)
theorem chkS_sp : SpChkS fChkS := chkS sem
theorem tab_sp : SpTab fTab := tab_ok chkS_sp (is_row (vu int_to)) (asc_ok (row_ord vo))
theorem isF_sp : SpIsFilter fIsF := is_filter (tuples_ok (has_form (fits int_to)) inner_f)
theorem chkF_sp : ∀ x : Flt, x.ok = true → x.size ≤ 20 → fChkF [.dat x.d] = pur .none := chkF isF_sp
end PT
namespace PR
open PySem PySem.Spec PyProof.Rows L2 DL
variable [Xk]
def d_check_tables (f_is_table : List Slot → Mn D) : Ev → Ms :=
    sFor false (dRng enumTD (dCons (dVar 1) (dNil))) (.tup [2, 3]) (pIf (dNot (dTru (dCl 2 f_is_table (dCons (dVar 0) (dCons (dVar 3) (dNil)))))) (sRaiseI "BadTable" (dVar 2)) (sNil))
def d__check_expressions (f_is_expression : List Slot → Mn D) : Ev → Ms :=
    sFor false (dRng enumTD (dCons (dVar 0) (dNil))) (.tup [1, 2]) (pIf (dNot (dTru (dCl 1 f_is_expression (dCons (dVar 2) (dNil))))) (sRaiseI "BadExpression" (dVar 1)) (sNil))
end PR
namespace PR
open PySem PySem.Spec PyProof.Rows L2 DL LW PW
variable [Xk]
abbrev z0 : Fs := fun _ _ => none
abbrev g_check_tables : Fs := dFun 2 4 (PR.d_check_tables PT.fTab)
abbrev g__leaves_among : Fs := dFun 1 2 (PW.d__leaves_among)
abbrev g_is_expression : Fs := dFun 1 2 (PW.d_is_expression PT.fTup PR.g__leaves_among)
abbrev g__check_expressions : Fs := dFun 1 3 (PR.d__check_expressions PR.g_is_expression)
abbrev g_union : Fs := dFun 3 3 (PW.d_union PR.g_check_tables z0)
abbrev g_intersection : Fs := dFun 3 3 (PW.d_intersection PR.g_check_tables z0)
abbrev g_difference : Fs := dFun 3 3 (PW.d_difference PR.g_check_tables z0)
abbrev g_project : Fs := dFun 2 2 (PW.d_project PR.g_check_tables z0)
abbrev g_join : Fs := dFun 3 3 (PW.d_join PR.g_check_tables z0)
abbrev g_semijoin : Fs := dFun 3 3 (PW.d_semijoin PR.g_check_tables z0)
abbrev g_antijoin : Fs := dFun 3 3 (PW.d_antijoin PR.g_check_tables z0)
abbrev g_not_in : Fs := dFun 3 3 (PW.d_not_in PR.g_check_tables z0)
abbrev g_distinct : Fs := dFun 2 2 (PW.d_distinct PR.g_check_tables z0)
abbrev g_total : Fs := dFun 2 2 (PW.d_total PR.g_check_tables z0)
abbrev g_select : Fs := dFun 3 3 (PW.d_select PR.g_check_tables PT.fChkF z0)
abbrev g_truth : Fs := dFun 3 3 (PW.d_truth PT.fChkS PT.fChkF PT.fRow z0)
abbrev g_evaluate : Fs := dFun 6 9 (PW.d_evaluate PT.fChkS PR.g__check_expressions PR.g_check_tables PT.fChkF z0 z0 z0)
abbrev g__is_truth : Fs := dFun 2 2 (PW.d__is_truth)
abbrev g__is_case : Fs := dFun 2 5 (PW.d__is_case PT.fInt PR.g__is_truth)
abbrev g_count_at : Fs := dFun 3 3 (PW.d_count_at PT.fChkS PR.g__check_expressions PR.g__is_case z0)
abbrev g_least_difference : Fs := dFun 3 4 (PW.d_least_difference PT.fChkS PR.g__check_expressions z0 z0 z0)
abbrev g_equal_for_all : Fs := dFun 3 3 (PW.d_equal_for_all PR.g_least_difference)
abbrev g_is_identity : Fs := dFun 1 1 (PW.d_is_identity)
abbrev g_check_identity : Fs := dFun 1 1 (PW.d_check_identity PR.g_is_identity)
abbrev g_holds : Fs := dFun 2 4 (PW.d_holds PT.fChkS PR.g_check_identity)
abbrev g_counterexample : Fs := dFun 2 3 (PW.d_counterexample PR.g_holds z0 z0)
abbrev g_profile : Fs := dFun 1 2 (PW.d_profile PT.fChkS z0 z0)
abbrev g_write_table : Fs := dFun 2 4 (PT.d_write_table PR.g_check_tables z0)
abbrev g_write_filter : Fs := dFun 1 1 (PT.d_write_filter PT.fChkF z0)
abbrev g_holds_for (fa : Fs) : Fs := dFun 3 6 (PW.d_holds_for PT.fChkS PR.g_check_identity fa z0 z0)
end PR
namespace LX
open PySem PySem.Spec PyProof.Rows L2 DL
end LX
namespace LY
open PySem PySem.Spec PyProof.Rows L2 DL
end LY
namespace DL
open PySem PySem.Spec PyProof.Rows L2 LamX
section
end
end DL
namespace DL
open PySem PySem.Spec PyProof.Rows L2 LamX
abbrev oneArg (z : Str) (p p2 : Pos) (i : Int) (k : Nat) : Arguments := { posonlyargs := [], args := [⟨z, none, p⟩], vararg := none, kwonlyargs := [], kw_defaults := [], kwarg := none, defaults := [.Constant (.int i) k p2] }
theorem lamB_one {body : Expr} {scope : Scope} {z : Str} {p p2 : Pos} {i : Int} {k : Nat} (h : scope.names.lookup z = some .local) : LamB (oneArg z p p2 i k) body scope (fun y => y = z) := .inr ⟨by simp, z, h, fun q cl doc pm cv ctv t v => ⟨_, rfl, by
  have hz : (z == z) = true := beq_self_eq_true z
  simp [List.lookup, hz]⟩⟩
/-- the scope of a lambda whose local names are zs -/
def lamPB (sc scope : Scope) (zs : List Str) : Bool := (match scope.kind with
  | .function => true
  | _ => false) && (!scope.isCoroutine && (!scope.isGenerator && scope.names.all fun y => match y.2 with
  | .cell => false
  | .local => zs.contains y.1
  | .free => (match sc.names.lookup y.1 with
    | some .cell => true
    | some .free => true
    | _ => false)
  | _ => true))
theorem lamPB_ok {sc scope : Scope} {zs : List Str} (h : lamPB sc scope zs = true) : LamP sc scope (fun y => y ∈ zs) := by
  unfold lamPB at h
  obtain ⟨h1, h⟩ := Bool.and_eq_true_iff.mp h
  obtain ⟨h2, h⟩ := Bool.and_eq_true_iff.mp h
  obtain ⟨h3, h4⟩ := Bool.and_eq_true_iff.mp h
  have al := fun y hy => List.all_eq_true.mp h4 y hy
  refine ⟨?_, by simpa using h2, by simpa using h3, fun y hy e => ?_, fun y hy e => ?_, fun y hy e => ?_⟩
  · split at h1
    · assumption
    · cases h1
  · have z := al y hy
    rw [e] at z
    cases z
  · have z := al y hy
    rw [e] at z
    simpa using z
  · have z := al y hy
    rw [e] at z
    replace z : (match sc.names.lookup y.1 with
      | some .cell => true
      | some .free => true
      | _ => false) = true := z
    split at z
    · rename_i q; exact .inl q
    · rename_i q; exact .inr q
    · cases z
/-- the slots whose name is z -/
def maskB (N : List Str) (z : Str) (ms : List Nat) : Bool := (List.range N.length).all fun i => N[i]? != some z || ms.contains i
theorem maskB_ok {N : List Str} {z : Str} {ms : List Nat} (h : maskB N z ms = true) {i : Nat} {y : Str} (e : N[i]? = some y) (ey : y = z) : i ∈ ms := by
  subst ey
  have l : i < N.length := (List.getElem?_eq_some_iff.mp e).1
  have q := List.all_eq_true.mp h i (List.mem_range.mpr l)
  rw [e] at q
  simpa using q
variable [Xk]
section
variable {G : Gm} {k : Nat} {sc : Sx} {N : List Str} {d : LamD} {fb : Ev → Mn D}
theorem klam_none (hp : d.params = noArgs) (hb : lamPB sc.sc d.scope [] = true) (h : SE G k ⟨d.scope, fun _ => false⟩ N d.body fb) : KLam G k sc N d [] fb :=
  ⟨⟨fun y => y ∈ ([] : List Str), lamPB_ok hb, by rw [hp]; exact .inl ⟨rfl, fun q cl doc pm cv ctv => rfl⟩, fun i y _ e => by cases e⟩, h⟩
theorem klam_one {z : Str} {p p2 : Pos} {i : Int} {k0 : Nat} {ms : List Nat} (hp : d.params = oneArg z p p2 i k0) (hl : d.scope.names.lookup z = some .local) (hb : lamPB sc.sc d.scope [z] = true) (hm : maskB N z ms = true) (h : SE G k ⟨d.scope, fun _ => false⟩ N d.body fb) : KLam G k sc N d ms fb :=
  ⟨⟨fun y => y ∈ [z], lamPB_ok hb, by rw [hp]; exact (lamB_one (p := p) (p2 := p2) (i := i) (k := k0) hl).imp id id, fun i y e m => maskB_ok hm e (List.mem_singleton.mp m)⟩, h⟩
end
theorem oks_none {sc : Scope} {d : LamD} (hp : d.params = noArgs) (hb : lamPB sc d.scope [] = true) : d.OkS sc := ⟨by rw [hp]; exact .inl rfl, by rw [hp]; rfl, ⟨_, lamPB_ok hb⟩⟩
theorem oks_one {sc : Scope} {d : LamD} {z : Str} {p p2 : Pos} {i : Int} {k0 : Nat} (hp : d.params = oneArg z p p2 i k0) (hb : lamPB sc d.scope [z] = true) : d.OkS sc := ⟨by rw [hp]; exact .inr ⟨_, _, _, rfl⟩, by rw [hp], ⟨_, lamPB_ok hb⟩⟩
end DL
namespace DL
open PySem PySem.Spec PyProof.Rows L2 LamX
variable [Xk]
section
variable {ev : Ev} {i j : Nat} {l m : List Nat} {tell : Str → Option Int → Option D} {rs rs' : RS}
@[simp] theorem dTold_pur (d : D) : dTold tell (pur d) = pur (.str "") := rfl
@[simp] theorem dTold_stk : dTold tell stk = stk := rfl
theorem dTold_exc {x : Str} {n : Option Int} {d : D} (h : tell x n = some d) : dTold tell (exc x n) = pur d := by
  funext rs
  show (match tell x n with
    | some d => some (Out.val d, rs)
    | none => none) = _
  rw [h]
  rfl
theorem dCallK_at {ms : Nat → List Nat} {fB : Nat → Ev → Mn D} {fe : Ev → Mn D} (e : ev[i]? = some (.fns l)) : dCallK tell i ms fB fe ev = bnd (fe ev) fun d => match d with
    | .int j => if 0 ≤ j then (match l[j.toNat]? with
      | some n => dTold tell (fB n (wipeE ev (ms n)))
      | none => fun _ => none) else fun _ => none
    | _ => fun _ => none := by
  unfold dCallK
  rw [e]
  try rfl
/-- drawn: the index is below the number of them -/
theorem dCallK_drawn {ms : Nat → List Nat} {fB : Nat → Ev → Mn D} {fe : Ev → Mn D} {a n : Nat} (e : ev[i]? = some (.fns l)) (hf : fe ev rs = some (.val (.int a), rs')) (hn : l[a]? = some n) : dCallK tell i ms fB fe ev rs = dTold tell (fB n (wipeE ev (ms n))) rs' := by
  rw [dCallK_at e]
  unfold bnd
  rw [hf]
  show (if (0 : Int) ≤ (a : Int) then (match l[((a : Int)).toNat]? with
      | some n => dTold tell (fB n (wipeE ev (ms n)))
      | none => fun _ => none) else fun _ => none) rs' = _
  rw [if_pos (Int.natCast_nonneg a), Int.toNat_natCast, hn]
end
end DL
namespace DL
open PySem PySem.Spec PyProof.Rows L2 LamX
def lamsE : List Expr → List LamD
  | .Lambda a b s p :: es => ⟨a, b, s, p⟩ :: lamsE es
  | _ :: es => lamsE es
  | [] => []
def lamsIn : Stmt → List LamD
  | .Assign _ (.List es _) _ => lamsE es
  | .Assign _ (.BinOp _ _ (.List es _) _) _ => lamsE es
  | _ => []
def lam0 : LamD := ⟨noArgs, .Constant .none 0 ⟨0, 0, 0, 0⟩, ⟨.function, [], false, false, []⟩, ⟨0, 0, 0, 0⟩⟩
def okSB (sc : Scope) (d : LamD) : Bool := match d.params with
  | ⟨[], [], none, [], [], none, []⟩ => lamPB sc d.scope []
  | ⟨[], [⟨z, none, _⟩], none, [], [], none, [.Constant (.int _) _ _]⟩ => lamPB sc d.scope [z] && (match d.scope.names.lookup z with
    | some .local => true
    | _ => false)
  | _ => false
def msOf (N : List Str) (d : LamD) : List Nat := match d.params with
  | ⟨[], [⟨z, none, _⟩], none, [], [], none, [.Constant (.int _) _ _]⟩ => (List.range N.length).filter fun i => N[i]? == some z
  | _ => []
theorem okSB_ok {sc : Scope} {d : LamD} (h : okSB sc d = true) : d.OkS sc := by
  unfold okSB at h
  split at h
  · rename_i e
    exact oks_none e h
  · rename_i e
    exact oks_one e (Bool.and_eq_true_iff.mp h).1
  · cases h
theorem oks_all {sc : Scope} {ds : List LamD} (h : ds.all (okSB sc) = true) : ∀ d ∈ ds, d.OkS sc := fun d hd => okSB_ok (List.all_eq_true.mp h d hd)
variable [Xk]
section
variable {G : Gm} {k : Nat} {sc : Sx} {N : List Str}
theorem klam_of {d : LamD} {fb : Ev → Mn D} (h : okSB sc.sc d = true) (hb : SE G k ⟨d.scope, fun _ => false⟩ N d.body fb) : KLam G k sc N d (msOf N d) fb := by
  unfold okSB at h
  split at h
  · rename_i e
    have q : msOf N d = [] := by unfold msOf; rw [e]
    rw [q]
    exact klam_none e h hb
  · rename_i z p i k0 p2 e
    obtain ⟨h1, h2⟩ := Bool.and_eq_true_iff.mp h
    have q : msOf N d = (List.range N.length).filter fun i => N[i]? == some z := by unfold msOf; rw [e]
    rw [q]
    refine klam_one e ?_ h1 ?_ hb
    · split at h2
      · assumption
      · cases h2
    · unfold maskB
      rw [List.all_eq_true]
      intro i hi
      by_cases hz : N[i]? = some z
      · have : i ∈ (List.range N.length).filter fun i => N[i]? == some z := List.mem_filter.mpr ⟨hi, by simp [hz]⟩
        simp only [Bool.or_eq_true]
        exact .inr (by simpa using this)
      · simp [hz]
  · cases h
inductive KLs (G : Gm) (k : Nat) (N : List Str) : List LamD → List (Ev → Mn D) → Prop
  | nil : KLs G k N [] []
  | cons {d : LamD} {fb : Ev → Mn D} {ds : List LamD} {fs : List (Ev → Mn D)} : SE G k ⟨d.scope, fun _ => false⟩ N d.body fb → KLs G k N ds fs → KLs G k N (d :: ds) (fb :: fs)
theorem KLs.at_ {ds : List LamD} {fs : List (Ev → Mn D)} {ms : List (List Nat)} (h : KLs G k N ds fs) (ok : ds.all (okSB sc.sc) = true) (hm : ms = ds.map (msOf N)) : ∀ (n : Nat) (d : LamD), ds[n]? = some d → KLam G k sc N d (ms.getD n []) (fs.getD n fun _ => stk) := by
  subst hm
  induction h with
  | nil => intro n d e; simp at e
  | @cons d0 fb ds fs hb _ ih =>
    obtain ⟨o1, o2⟩ : okSB sc.sc d0 = true ∧ ds.all (okSB sc.sc) = true := by
      rw [List.all_cons] at ok
      exact Bool.and_eq_true_iff.mp ok
    intro n d e
    cases n with
    | zero =>
      cases e
      exact klam_of o1 hb
    | succ n =>
      have e' : ds[n]? = some d := by simpa using e
      have q := ih o2 n d e'
      simpa using q
end
end DL
namespace ST
open PySem PySem.Spec PyProof.Rows L2
abbrev txH (P : Program) (w : World) (ws : List Str) : Int := tupleKeyHash (PySem.strKind P w) ws
abbrev Wd (P : Program) (w : World) (H : Heap) (ws : List Str) (b : Addr) : Prop := IsTupleKey (PySem.strKind P w) H ws b
abbrev Mb := Addr × List Str
def ents (P : Program) (w : World) (Ms : List Mb) : List (Int × Value) := Ms.map fun m => (txH P w m.2, .ref m.1)
section
end
end ST
namespace ST
open PySem PySem.Spec PyProof.Rows L2
structure TxSet (P : Program) (w : World) (H : Heap) (a : Addr) (Ms : List Mb) (es : Array (Int × Value)) (ep : Nat) (t : SetTable) : Prop where
  obj : ∃ o, H.get? a = some o ∧ o.ExactSet ∧ o.data = .set es ep t
  lst : es.toList = ents P w Ms
  tab : TabOk t (Ms.map fun m => txH P w m.2)
  uni : (Ms.map (·.2)).Nodup
  mem : ∀ m ∈ Ms, Wd P w H m.2 m.1
  led : w.params.followText "set-order" = true ∨ t.led = true
  wide : Ms.length * 5 < t.mask * 3
  few : Ms.length < 64
section
variable {P : Program} {w : World} {Ar : Around} {Er : Value → Shared → Prop} {st : Shared} {a : Addr} {Ms : List Mb} {es : Array (Int × Value)} {ep : Nat} {t : SetTable}
theorem TxSet.row (R : TxSet P w st.heap a Ms es ep t) {i : Nat} {m : Mb} (e : Ms[i]? = some m) : es[i]? = some (txH P w m.2, Value.ref m.1) := by
  rw [← Array.getElem?_toList, R.lst]
  unfold ents
  rw [List.getElem?_map, e]
  rfl
/-- the c-th place of the way of h -/
abbrev pl (t : SetTable) (h : Int) (c : Nat) : SetTable.Probe := nth t.mask (runAt t.mask (SetTable.bits h % (t.mask + 1)) (SetTable.bits h)) c
end
end ST
namespace ST
open PySem PySem.Spec PyProof.Rows L2
section
variable {P : Program} {w : World} {Ar : Around} {Er : Value → Shared → Prop} {st : Shared} {a : Addr} {Ms : List Mb} {es : Array (Int × Value)} {ep : Nat} {t : SetTable}
theorem pick_all {α : Type} : ∀ (l : List α) , (List.range l.length).filterMap (fun i => l[i]?) = l
  | [] => rfl
  | x :: l => by
    rw [List.length_cons, List.range_succ_eq_map, List.filterMap_cons_some (by rfl), List.filterMap_map]
    exact congrArg (x :: ·) (pick_all l)
end
end ST
namespace ST
open PySem PySem.Spec PyProof.Rows L2
/-- what is in after the first i of ks -/
structure Hit (ks : List Mb) (i : Nat) (Ms : List Mb) : Prop where
  sub : ∀ m ∈ Ms, m ∈ ks.take i
  all : ∀ m ∈ ks.take i, m.2 ∈ Ms.map (·.2)
  len : Ms.length ≤ i
theorem Hit.nil (ks : List Mb) : Hit ks 0 [] := ⟨fun _ z => (nomatch z), fun _ z => (by simp at z), Nat.le_refl _⟩
section
variable {P : Program} {w : World} {Ar : Around} {Er : Value → Shared → Prop} {st : Shared} {a : Addr}
theorem TxSet.keep {H H' : Heap} {Ms : List Mb} {es : Array (Int × Value)} {ep : Nat} {t : SetTable} (R : TxSet P w H a Ms es ep t) (h1 : ∀ o, H.get? a = some o → H'.get? a = some o) (h2 : ∀ m ∈ Ms, Wd P w H' m.2 m.1) : TxSet P w H' a Ms es ep t := by
  obtain ⟨o, e, z⟩ := R.obj
  exact ⟨⟨o, h1 o e, z⟩, R.lst, R.tab, R.uni, h2, R.led, R.wide, R.few⟩
end
end ST
namespace ST
open PySem PySem.Spec PyProof.Rows L2
section
end
end ST
namespace ST
open PySem PySem.Spec PyProof.Rows L2
section
end
end ST
namespace ST
open PySem PySem.Spec PyProof.Rows L2 DL
/-- the set at a, its members apart -/
structure TxB (P : Program) (w : World) (a : Addr) (Ms : List Mb) (h : Heap) : Prop where
  ex : ∃ (es : Array (Int × Value)) (ep : Nat) (t : SetTable), (∃ o, h.get? a = some o ∧ o.ExactSet ∧ o.data = .set es ep t) ∧ es.toList = ents P w Ms ∧ TabOk t (Ms.map fun m => txH P w m.2) ∧ (Ms.map (·.2)).Nodup ∧
    (w.params.followText "set-order" = true ∨ t.led = true) ∧ Ms.length * 5 < t.mask * 3 ∧ Ms.length < 64
theorem TxSet.bare {P : Program} {w : World} {h : Heap} {a : Addr} {Ms : List Mb} {es : Array (Int × Value)} {ep : Nat} {t : SetTable} (R : TxSet P w h a Ms es ep t) : TxB P w a Ms h := ⟨es, ep, t, R.obj, R.lst, R.tab, R.uni, R.led, R.wide, R.few⟩
theorem TxB.set {P : Program} {w : World} {h : Heap} {a : Addr} {Ms : List Mb} (B : TxB P w a Ms h) (mm : ∀ m ∈ Ms, Wd P w h m.2 m.1) : ∃ es ep t, TxSet P w h a Ms es ep t := by
  obtain ⟨es, ep, t, z1, z2, z3, z4, z5, z6, z7⟩ := B.ex
  exact ⟨es, ep, t, z1, z2, z3, z4, mm, z5, z6, z7⟩
section
end
end ST
namespace DL
open PySem PySem.Spec PyProof.Rows L2 ST
section
end
end DL
namespace ST
open PySem PySem.Spec PyProof.Rows L2 DL
section
end
section
end
end ST
namespace ST
open PySem PySem.Spec PyProof.Rows L2
section
end
end ST
namespace ST
open PySem PySem.Spec PyProof.Rows L2
section
end
end ST
namespace DL
open PySem PySem.Spec PyProof.Rows L2 ST
section
end
end DL
namespace ST
open PySem PySem.Spec PyProof.Rows L2 DL
section
end
end ST
namespace DL
open PySem PySem.Spec PyProof.Rows L2 ST
section
end
end DL
namespace ST
open PySem PySem.Spec PyProof.Rows L2 HT
theorem back_adj (n : Nat) : Builtin.Slice.sliceAdjust none none (-1) (n : Int) = ((n : Int) - 1, -1) := rfl
theorem back_places (n : Nat) : Builtin.Slice.slicePlaces ((n : Int) - 1) (-1) (-1) = n := by
  unfold Builtin.Slice.slicePlaces
  have h1 : ¬ ((-1 : Int) > 0) := by omega
  simp only [h1, if_false]
  split
  · have : ((n : Int) - 1 - -1 - 1) / (- -1) = (n : Int) - 1 := by
      rw [show (- -1 : Int) = 1 from rfl, Int.ediv_one]
      omega
    omega
  · omega
theorem fm_congr {α β : Type} {f g : α → Option β} : ∀ (l : List α), (∀ x ∈ l, f x = g x) → l.filterMap f = l.filterMap g
  | [], _ => rfl
  | x :: l, h => by
    rw [List.filterMap_cons, List.filterMap_cons, h x List.mem_cons_self, fm_congr l fun y z => h y (List.mem_cons_of_mem _ z)]
theorem back_pick (xs : Array Value) : ((List.range xs.size).filterMap fun (k : Nat) => xs[(((xs.size : Int) - 1) + (k : Int) * (-1)).toNat]?).toArray = xs.toList.reverse.toArray := by
  congr 1
  have e : ∀ k ∈ List.range xs.size, xs[(((xs.size : Int) - 1) + (k : Int) * (-1)).toNat]? = xs.toList.reverse[k]? := fun k hk => by
    have lt := List.mem_range.mp hk
    have e1 : (((xs.size : Int) - 1) + (k : Int) * (-1)).toNat = xs.size - 1 - k := by omega
    rw [e1, List.getElem?_reverse (by rw [Array.length_toList]; exact lt), Array.length_toList, Array.getElem?_toList]
  rw [fm_congr _ e]
  have z := pick_all (α := Value) xs.toList.reverse
  rw [List.length_reverse, Array.length_toList] at z
  exact z
section
variable {P : Program} {w : World} {Ar : Around} {Er : Value → Shared → Prop} {st : Shared}
theorem get_back {t sl : Addr} {its : Array Value} {vs : Value} {Qr : Value → Shared → Prop} (ht : IsTup st.heap t its) (hs : st.heap.IsSliceOf sl .none .none vs) (ps : IsPart vs (some (-1)))
    (q : Qr (.ref st.heap.objs.size) { st with heap := st.heap.push { cls := .type "tuple", data := .seq its.toList.reverse.toArray } }) (hz : its.size ≤ sizeLine) : wpAny (model P w) Ar (getItem (.ref t) (.ref sl)) Qr Er st := by
  obtain ⟨os, hos, hcs, hds⟩ := id hs
  have hT : st.TypeIs (.ref sl) "slice" := ⟨os, hos, hcs⟩
  have room : sizeOk (.seq its.toList.reverse.toArray) := by
    show its.toList.reverse.toArray.size ≤ sizeLine
    rw [List.size_toArray, List.length_reverse, Array.length_toList]
    exact hz
  unfold getItem
  try with_reducible refine wpAny_holding (?_)
  first | refine wpAny_bind (wpAny_pure (?_)) | skip
  refine wpAny_bind (wpAny_sequenceKey ht.typeIs (by decide) (?_))
  refine wpAny_bind (wpAny_callSpecial?_slot (name := Str.ofString "__getitem__") ht.typeIs PyProof.Rows.slot_tuple_getitem (wpAny_call_entry PyProof.Rows.slot_tuple_getitem ht.typeIs entry_tuple_getitem ?_ (args_tuple_getitem _ _)))
  show wpAny (model P w) _ (Builtin.Tuple.tupleItemsOf (.ref t) >>= _) _ _ st
  refine wpAny_bind (tupleItemsOf_ ht (wpAny_bind (wpAny_typeOf hT ?_)))
  rw [if_pos (by decide)]
  refine wpAny_bind ?_
  unfold Builtin.Slice.sliceApplied Builtin.Slice.sliceFields
  refine wpAny_bind (wpAny_bind (wpAny_field hos hds (x := .none) rfl (wpAny_bind (wpAny_field hos hds (x := .none) rfl (wpAny_bind (wpAny_field hos hds (x := vs) rfl (wpAny_pure (?_))))))))
  refine wpAny_bind (slicePart_ ps ?_)
  show wpAny (model P w) _ (if ((-1 : Int) == 0) = true then _ else _) _ _ st
  rw [if_neg (by decide)]
  refine wpAny_bind (slicePart_none (wpAny_bind (slicePart_none (wpAny_bind (wpAny_pure (?_))))))
  show wpAny (model P w) _ (match Builtin.Slice.sliceAdjust none none (-1) (its.size : Int) with | (lo, hi) => pure (lo, (-1 : Int), Builtin.Slice.slicePlaces lo hi (-1))) _ _ st
  rw [back_adj]
  show wpAny (model P w) _ (pure ((its.size : Int) - 1, (-1 : Int), Builtin.Slice.slicePlaces ((its.size : Int) - 1) (-1) (-1))) _ _ st
  rw [back_places]
  refine wpAny_pure ?_
  have no : ¬ (((its.size : Int) - 1 == 0 && (-1 : Int) == 1 && its.size == its.size) = true) := by
    intro z
    rw [Bool.and_eq_true, Bool.and_eq_true] at z
    exact absurd z.1.2 (by decide)
  show wpAny (model P w) _ (if (((its.size : Int) - 1 == 0 && (-1 : Int) == 1 && its.size == its.size) = true) then _ else _) _ _ st
  rw [if_neg no, back_pick]
  first
    | exact wpAny_bind (m := Builtin.Tuple.tupleExact _) (wpAny_newObj_type (wpAny_pure ⟨_, rfl, wpAny_pure q⟩) room)
    | exact wpAny_bind (m := Builtin.Tuple.tupleExact _) (wpAny_newObj_type (wpAny_bind (wpAny_pure (wpAny_pure ⟨_, rfl, wpAny_pure q⟩))) room)
    | exact wpAny_bind (wpAny_bind (m := Builtin.Tuple.tupleExact _) (wpAny_newObj_type (wpAny_pure (wpAny_pure ⟨_, rfl, wpAny_pure q⟩)) room))
    | exact wpAny_bind (wpAny_bind (m := Builtin.Tuple.tupleExact _) (wpAny_newObj_type (wpAny_pure ⟨_, rfl, wpAny_pure q⟩) room))
end
section
variable {X : Cx}
def tRevT (K : PySem.W.Frag) (te : TE) : TE := fun σ H Q => te σ H fun x H1 => ∃ a xs, x = .ref a ∧ SqT K H1 a xs ∧ ∀ p, H1 p = none → Q (.ref p) (upd H1 p (.tup xs.reverse))
theorem pe_revT {e : Expr} {te : TE} {k : Nat} {p1 p2 p3 pos : Pos} (he : PE X e te) : PE X (.Subscript e (.Slice none none (some (.UnaryOp .USub (.Constant (.int 1) k p1) p2)) p3) pos) (tRevT X.K te) := by
  refine ⟨fun pins s σ H Q I h => ?_⟩
  refine Subscript_ (thn (he.run pins s σ H _ I h) fun v s1 ⟨x, H1, I1, r1, a, xs, ex, hx, q⟩ => ?_)
  subst ex
  cases r1
  have one : PO X (some (.UnaryOp .USub (.Constant (.int 1) k p1) p2)) (tPart (tUn (rU fun i => .int (-i)) (tC (.int 1)))) := po_some (pe_un un_neg pe_int)
  refine wpAny_Slice (thn (po_none.run pins s1 σ H1 (fun o H2 => o = none ∧ H2 = H1) I1 ⟨rfl, rfl⟩) fun vl s2 ⟨lo, H2, I2, pl, el, e2⟩ => ?_)
  subst el e2
  refine thn (po_none.run pins s2 σ H2 (fun o H3 => o = none ∧ H3 = H2) I2 ⟨rfl, rfl⟩) fun vu s3 ⟨up, H3, I3, pu, eu, e3⟩ => ?_
  subst eu e3
  refine thn (one.run pins s3 σ H3 (fun o H4 => o = some (-1) ∧ H4 = H3) I3 ⟨1, rfl, -1, rfl, rfl, rfl⟩) fun vs s4 ⟨o, H4, I4, ps, eo, e4⟩ => ?_
  subst eo e4
  cases pl
  cases pu
  have I5 : Inv X pins σ H4 { s4 with heap := s4.heap.push { cls := .type "slice", data := .fields #[.none, .none, vs] } } := I4.kept (t' := s4.toks) fun b ob z => Heap.get?_push_of_some _ z
  obtain ⟨its, r, ht, hz⟩ := I5.tuple hx
  have len := r.length
  show wpAny (model X.prog X.w) X.A (subscriptTail e (.Slice none none (some (.UnaryOp .USub (.Constant (.int 1) k p1) p2)) p3) (.ref a) (.ref s4.heap.objs.size)) (EP X pins σ Q) X.xe { s4 with heap := s4.heap.push { cls := .type "slice", data := .fields #[.none, .none, vs] } }
  refine tail_any (ops := [.ref a, .ref s4.heap.objs.size]) ht.typeIs (PyProof.Rows.slot_tuple_getitem.lookup) ?_ (by with_unfolding_all rfl)
  refine get_back ht (Heap.IsSliceOf.new _ .none .none vs) ps ?_ (by rw [List.size_toArray]; omega)
  exact ⟨.ref _, _, I5.laid (t' := s4.toks) (o := .tup xs.reverse) (fun b ob z => Heap.get?_push_of_some _ z) (Nat.le_refl _) ⟨by rw [List.length_reverse]; exact hz, _, r.reverse, ⟨_, Heap.get?_push_size _ rfl, rfl, 0, rfl⟩⟩, rfl, q _ (I5.hok.fresh (Nat.le_refl _))⟩
end
end ST
namespace DL
open PySem PySem.Spec PyProof.Rows L2 ST
def revD : D → Option D
  | .tuple ds => some (.tuple ds.reverse)
  | _ => none
variable [Xk]
section
variable {G : Gm} {k : Nat} {sc : Sx} {N : List Str}
theorem dal_reverse {K : PySem.W.Frag} {M : Addr → Prop} {H : Hp} : ∀ {xs : List V} {ds : List D}, DaL K M H xs ds → DaL K M H xs.reverse ds.reverse
  | _, _, .nil => .nil
  | _, _, .cons h t => by
    rw [List.reverse_cons, List.reverse_cons]
    exact (dal_reverse t).append (.cons h .nil)
def dRev (f : Ev → Mn D) (ev : Ev) : Mn D := bnd (f ev) fun x => lft (revD x)
@[simp] theorem dRev_eq (f : Ev → Mn D) (ev : Ev) : dRev f ev = bnd (f ev) fun x => lft (revD x) := rfl
theorem e_rev {e : Expr} {f : Ev → Mn D} {n : Nat} {p1 p2 p3 pos : Pos} (he : SE G k sc N e f) : SE G k sc N (.Subscript e (.Slice none none (some (.UnaryOp .USub (.Constant (.int 1) n p1) p2)) p3) pos) (dRev f) :=
  e_one (rl := fun X x H Q => ∃ a xs, x = .ref a ∧ SqT X.K H a xs ∧ ∀ p, H p = none → Q (.ref p) (upd H p (.tup xs.reverse))) he (fun X t g h => pe_revT h) fun X M H x dx d Q g ml hx e hq => by
    unfold revD at e
    split at e
    · cases e
      cases hx with
      | tup h t => exact ⟨_, _, rfl, by rw [g.hK]; exact h, fun p hp => hq _ _ (same_upd hp) (Da.newT ml hp (dal_reverse t))⟩
    · cases e
end
end DL
noncomputable section
namespace K09
open PySem PySem.Spec PyProof.Rows L2 DL LamX
structure Tp (G : Gm) : Prop where
  b_all : Mg0 G "all"
  b_any : Mg0 G "any"
  b_bool : Mg0 G "bool"
  b_dict : Mg0 G "dict"
  b_enumerate : Mg0 G "enumerate"
  b_int : Mg0 G "int"
  b_isinstance : Mg0 G "isinstance"
  b_len : Mg0 G "len"
  b_list : Mg0 G "list"
  b_range : Mg0 G "range"
  b_sorted : Mg0 G "sorted"
  b_str : Mg0 G "str"
  b_sum : Mg0 G "sum"
  b_tuple : Mg0 G "tuple"
  b_zip : Mg0 G "zip"
  c_CASE_LENGTH : GlD G "CASE_LENGTH" PW.c_CASE_LENGTH
  c_DUPLICATES : GlD G "DUPLICATES" PW.c_DUPLICATES
  c_GREATEST_COUNT : GlD G "GREATEST_COUNT" PW.c_GREATEST_COUNT
  c_GREATEST_VALUE : GlD G "GREATEST_VALUE" PW.c_GREATEST_VALUE
  c_MOST_LEAVES : GlD G "MOST_LEAVES" PW.c_MOST_LEAVES
  c_MOST_ROWS : GlD G "MOST_ROWS" PW.c_MOST_ROWS
  c_MOST_TUPLES_expressions : GlD G "MOST_TUPLES_expressions" PW.c_MOST_TUPLES_expressions
  c_MOST_TUPLES_filters : GlD G "MOST_TUPLES_filters" PW.c_MOST_TUPLES_filters
  c_NO_ROW : GlD G "NO_ROW" PT.c_NO_ROW
  c_NULLS : GlD G "NULLS" PW.c_NULLS
  c_ROW_LENGTH : GlD G "ROW_LENGTH" PW.c_ROW_LENGTH
  c_TABLE_NAMES : GlD G "TABLE_NAMES" PW.c_TABLE_NAMES
  c_WORDS : GlD G "WORDS" PW.c_WORDS
  k_GREATEST : GlK G "GREATEST" PW.k_GREATEST
  k_HOLDS_WITH : GlK G "HOLDS_WITH" PW.k_HOLDS_WITH
  k_SIDES : GlK G "SIDES" PW.k_SIDES
  t_FORMS : GlT G "FORMS" PW.t_FORMS
  x_BadArguments : ExcF G "BadArguments"
  x_BadCase : ExcF G "BadCase"
  x_BadFilter : ExcF G "BadFilter"
  x_BadIdentity : ExcF G "BadIdentity"
  x_BadRow : ExcF G "BadRow"
  x_BadSemantics : ExcF G "BadSemantics"
  y_BadExpression : ExcI G "BadExpression"
  y_BadTable : ExcI G "BadTable"
variable [Xk]
theorem sc_is_semantics : FnScope N_is_semantics P_is_semantics (defScope st_is_semantics) := ⟨rfl, rfl, rfl, by decide +kernel, rfl, by decide +kernel, by decide +kernel⟩
theorem s_is_semantics {G : Gm} {k : Nat} (B : Tp G)  (hk : 1 ≤ k) : SB G k ⟨defScope st_is_semantics, fun _ => true⟩ N_is_semantics (defBody st_is_semantics) (PW.d_is_semantics) :=
    s_cons (P_if (t_w (w_or (t_not (t_val (e_isi1 .tuple (e_var 0) PyProof.Rows.boot_tuple B.b_isinstance B.b_tuple))) (w_or1 (T_cmp c_ne (e_len (a_cons (e_var 0) (a_nil)) B.b_len) (e_len (a_cons (e_glob B.c_WORDS) (a_nil)) B.b_len))))) (s_one (P_ret (e_bl))) (s_nil))
    (s_one (P_ret (e_all (a_cons (e_lc [("part", 1), ("words", 2)] (i_zip (a_cons (e_var 0) (a_cons (e_glob B.c_WORDS) (a_nil))) B.b_zip) (g_tup [1, 2] (.cons (by rfl) (by rfl) (.cons (by rfl) (by rfl) (.nil)))) (p_nil) (E_cmp (c_in hk) (e_var 1) (e_var 2))) (a_nil)) B.b_all)))
theorem sc_check_semantics : FnScope N_check_semantics P_check_semantics (defScope st_check_semantics) := ⟨rfl, rfl, rfl, by decide +kernel, rfl, by decide +kernel, by decide +kernel⟩
theorem s_check_semantics {G : Gm} {k : Nat} (B : Tp G) {j_is_semantics : Nat} {f_is_semantics : List Slot → Mn D} (F_is_semantics : FO G j_is_semantics "is_semantics" 1 f_is_semantics) (h_is_semantics : j_is_semantics ≤ k) : SB G k ⟨defScope st_check_semantics, fun _ => true⟩ N_check_semantics (defBody st_check_semantics) (PW.d_check_semantics f_is_semantics) :=
    s_one (P_if (t_not (t_val (e_call F_is_semantics (a_cons (e_var 0) (a_nil)) h_is_semantics))) (s_one (s_raise B.x_BadSemantics)) (s_nil))
theorem sc_is_integer_to : FnScope N_is_integer_to P_is_integer_to (defScope st_is_integer_to) := ⟨rfl, rfl, rfl, by decide +kernel, rfl, by decide +kernel, by decide +kernel⟩
theorem s_is_integer_to {G : Gm} {k : Nat} (B : Tp G)  : SB G k ⟨defScope st_is_integer_to, fun _ => true⟩ N_is_integer_to (defBody st_is_integer_to) (PW.d_is_integer_to) :=
    s_cons (P_if (t_w (w_or (t_not (t_val (e_isi1 .int (e_var 0) PyProof.Rows.boot_int B.b_isinstance B.b_int))) (w_or1 (t_val (e_isi1 .bool (e_var 0) PyProof.Rows.boot_bool B.b_isinstance B.b_bool))))) (s_one (P_ret (e_bl))) (s_nil))
    (s_one (P_ret (e_chain c_le c_le (e_int) (e_var 0) (e_var 1))))
theorem sc_is_row : FnScope N_is_row P_is_row (defScope st_is_row) := ⟨rfl, rfl, rfl, by decide +kernel, rfl, by decide +kernel, by decide +kernel⟩
theorem s_is_row {G : Gm} {k : Nat} (B : Tp G) {j__is_value_under : Nat} {f__is_value_under : List Slot → Mn D} (F__is_value_under : FO G j__is_value_under "_is_value_under" 2 f__is_value_under) (h__is_value_under : j__is_value_under ≤ k) : SB G k ⟨defScope st_is_row, fun _ => true⟩ N_is_row (defBody st_is_row) (PW.d_is_row f__is_value_under) :=
    s_cons (P_if (t_w (w_or (t_not (t_val (e_isi1 .tuple (e_var 1) PyProof.Rows.boot_tuple B.b_isinstance B.b_tuple))) (w_or1 (T_cmp c_ne (e_len (a_cons (e_var 1) (a_nil)) B.b_len) (e_glob B.c_ROW_LENGTH))))) (s_one (P_ret (e_bl))) (s_nil))
    (s_one (P_ret (e_all (a_cons (e_lc [("part", 2)] (i_seq (e_var 1)) (g_name 2) (p_nil) (e_call F__is_value_under (a_cons (e_var 0) (a_cons (e_var 2) (a_nil))) h__is_value_under)) (a_nil)) B.b_all)))
theorem sc__is_value_under : FnScope N__is_value_under P__is_value_under (defScope st__is_value_under) := ⟨rfl, rfl, rfl, by decide +kernel, rfl, by decide +kernel, by decide +kernel⟩
theorem s__is_value_under {G : Gm} {k : Nat} (B : Tp G) {j_is_integer_to : Nat} {f_is_integer_to : List Slot → Mn D} (F_is_integer_to : FO G j_is_integer_to "is_integer_to" 2 f_is_integer_to) (h_is_integer_to : j_is_integer_to ≤ k) : SB G k ⟨defScope st__is_value_under, fun _ => true⟩ N__is_value_under (defBody st__is_value_under) (PW.d__is_value_under f_is_integer_to) :=
    s_cons (P_if (T_cmp c_is (e_var 1) (e_non)) (s_one (P_ret (E_cmp c_ne (E_ix (e_var 0) (e_glob B.c_NULLS)) (e_str)))) (s_nil))
    (s_one (P_ret (e_call F_is_integer_to (a_cons (e_var 1) (a_cons (e_glob B.c_GREATEST_VALUE) (a_nil))) h_is_integer_to)))
theorem sc_value_order : FnScope N_value_order P_value_order (defScope st_value_order) := ⟨rfl, rfl, rfl, by decide +kernel, rfl, by decide +kernel, by decide +kernel⟩
theorem s_value_order {G : Gm} {k : Nat}  : SB G k ⟨defScope st_value_order, fun _ => true⟩ N_value_order (defBody st_value_order) (PW.d_value_order) :=
    s_one (P_ret (e_if (T_cmp c_is (e_var 0) (e_non)) (E_neg (e_int)) (e_var 0)))
theorem sc_row_order : FnScope N_row_order P_row_order (defScope st_row_order) := ⟨rfl, rfl, rfl, by decide +kernel, rfl, by decide +kernel, by decide +kernel⟩
theorem s_row_order {G : Gm} {k : Nat} (B : Tp G) {j_value_order : Nat} {f_value_order : List Slot → Mn D} (F_value_order : FO G j_value_order "value_order" 1 f_value_order) (h_value_order : j_value_order ≤ k) : SB G k ⟨defScope st_row_order, fun _ => true⟩ N_row_order (defBody st_row_order) (PW.d_row_order f_value_order) :=
    s_one (P_ret (e_tuple (a_cons (e_lc [("value", 1)] (i_seq (e_var 0)) (g_name 1) (p_nil) (e_call F_value_order (a_cons (e_var 1) (a_nil)) h_value_order)) (a_nil)) B.b_tuple))
theorem sc_is_table : FnScope N_is_table P_is_table (defScope st_is_table) := ⟨rfl, rfl, rfl, by decide +kernel, rfl, by decide +kernel, by decide +kernel⟩
theorem s_is_table {G : Gm} {k : Nat} (B : Tp G) {j_check_semantics : Nat} {f_check_semantics : List Slot → Mn D} (F_check_semantics : FO G j_check_semantics "check_semantics" 1 f_check_semantics) (h_check_semantics : j_check_semantics ≤ k) {j_is_row : Nat} {f_is_row : List Slot → Mn D} (F_is_row : FO G j_is_row "is_row" 2 f_is_row) (h_is_row : j_is_row ≤ k) {j__is_ascending : Nat} {f__is_ascending : List Slot → Mn D} (F__is_ascending : FO G j__is_ascending "_is_ascending" 2 f__is_ascending) (h__is_ascending : j__is_ascending ≤ k) : SB G k ⟨defScope st_is_table, fun _ => true⟩ N_is_table (defBody st_is_table) (PW.d_is_table f_check_semantics f_is_row f__is_ascending) :=
    s_cons (P_expr (e_call F_check_semantics (a_cons (e_var 0) (a_nil)) h_check_semantics))
    (s_cons (P_if (t_w (w_or (t_not (t_val (e_isi1 .tuple (e_var 1) PyProof.Rows.boot_tuple B.b_isinstance B.b_tuple))) (w_or1 (T_cmp c_gt (e_len (a_cons (e_var 1) (a_nil)) B.b_len) (e_glob B.c_MOST_ROWS))))) (s_one (P_ret (e_bl))) (s_nil))
    (s_cons (P_if (t_not (t_val (e_all (a_cons (e_lc [("row", 2)] (i_seq (e_var 1)) (g_name 2) (p_nil) (e_call F_is_row (a_cons (e_var 0) (a_cons (e_var 2) (a_nil))) h_is_row)) (a_nil)) B.b_all))) (s_one (P_ret (e_bl))) (s_nil))
    (s_one (P_ret (e_call F__is_ascending (a_cons (e_var 1) (a_cons (E_cmp c_eq (E_ix (e_var 0) (e_glob B.c_DUPLICATES)) (e_str)) (a_nil))) h__is_ascending)))))
theorem sc__is_ascending : FnScope N__is_ascending P__is_ascending (defScope st__is_ascending) := ⟨rfl, rfl, rfl, by decide +kernel, rfl, by decide +kernel, by decide +kernel⟩
theorem s__is_ascending {G : Gm} {k : Nat} (B : Tp G) {j_row_order : Nat} {f_row_order : List Slot → Mn D} (F_row_order : FO G j_row_order "row_order" 1 f_row_order) (h_row_order : j_row_order ≤ k) (hk : 1 ≤ k) : SB G k ⟨defScope st__is_ascending, fun _ => true⟩ N__is_ascending (defBody st__is_ascending) (PW.d__is_ascending f_row_order) :=
    s_cons (P_setLc 2 [("row", 5)] (i_seq (e_var 0)) (g_name 5) (p_nil) (e_call F_row_order (a_cons (e_var 5) (a_nil)) h_row_order))
    (s_cons (s_for false (i_zip (a_cons (e_var 2) (a_cons (E_slLo (e_var 2) (e_int)) (a_nil))) B.b_zip) (g_tup [3, 4] (.cons (by rfl) (by rfl) (.cons (by rfl) (by rfl) (.nil)))) (s_one (P_if (t_w (w_or (T_cmp (c_gtx hk) (e_var 3) (e_var 4)) (w_or1 (t_w (w_and (T_cmp c_eq (e_var 3) (e_var 4)) (w_and1 (t_not (t_val (e_var 1))))))))) (s_one (P_ret (e_bl))) (s_nil))))
    (s_one (P_ret (e_bl))))
theorem sc_check_tables : FnScope N_check_tables P_check_tables (defScope st_check_tables) := ⟨rfl, rfl, rfl, by decide +kernel, rfl, by decide +kernel, by decide +kernel⟩
theorem s_check_tables {G : Gm} {k : Nat} (B : Tp G) {j_is_table : Nat} {f_is_table : List Slot → Mn D} (F_is_table : FO G j_is_table "is_table" 2 f_is_table) (h_is_table : j_is_table ≤ k) (h2 : 2 ≤ k) : SB G k ⟨defScope st_check_tables, fun _ => true⟩ N_check_tables (defBody st_check_tables) (PR.d_check_tables f_is_table) :=
    s_one (s_for false (i_enumT (a_cons (e_var 1) (a_nil)) B.b_enumerate) (g_tup [2, 3] (.cons (by rfl) (by rfl) (.cons (by rfl) (by rfl) (.nil)))) (s_one (P_if (t_not (t_val (e_call F_is_table (a_cons (e_var 0) (a_cons (e_var 3) (a_nil))) h_is_table))) (s_one (s_raiseI B.y_BadTable (e_var 2) h2)) (s_nil))))
theorem sc_tuples_of : FnScope N_tuples_of P_tuples_of (defScope st_tuples_of) := ⟨rfl, rfl, rfl, by decide +kernel, rfl, by decide +kernel, by decide +kernel⟩
theorem s_tuples_of {G : Gm} {k : Nat} (B : Tp G) {j__has_form : Nat} {f__has_form : List Slot → Mn D} (F__has_form : FO G j__has_form "_has_form" 2 f__has_form) (h__has_form : j__has_form ≤ k) {j__inner_tuples : Nat} {f__inner_tuples : List Slot → Mn D} (F__inner_tuples : FO G j__inner_tuples "_inner_tuples" 2 f__inner_tuples) (h__inner_tuples : j__inner_tuples ≤ k) : SB G k ⟨defScope st_tuples_of, fun _ => true⟩ N_tuples_of (defBody st_tuples_of) (PW.d_tuples_of f__has_form f__inner_tuples) :=
    s_cons (s_own 3 (a_cons (e_tup (a_cons (e_var 0) (a_cons (e_var 1) (a_nil)))) (a_nil)))
    (s_cons (s_own 4 (a_nil))
    (s_cons (s_while 64 (t_val (e_var 3)) (s_cons (s_popT (.tup [5, 6]) 3 (g_tup [5, 6] (.cons (by rfl) (by rfl) (.cons (by rfl) (by rfl) (.nil)))))
    (s_cons (s_if (t_w (w_or (T_cmp c_eq (e_len (a_cons (e_var 4) (a_nil)) B.b_len) (e_var 2)) (w_or1 (t_not (t_val (e_call F__has_form (a_cons (e_var 5) (a_cons (e_var 6) (a_nil))) h__has_form)))))) (s_one (s_ret (e_non))) (s_nil))
    (s_cons (s_app 4 (e_var 5))
    (s_one (s_ext 3 (e_call F__inner_tuples (a_cons (e_var 5) (a_cons (e_var 6) (a_nil))) h__inner_tuples)))))))
    (s_one (s_ret (e_var 4)))))
theorem sc__has_form : FnScope N__has_form P__has_form (defScope st__has_form) := ⟨rfl, rfl, rfl, by decide +kernel, rfl, by decide +kernel, by decide +kernel⟩
theorem s__has_form {G : Gm} {k : Nat} (B : Tp G) {j__fits : Nat} {f__fits : List Slot → Mn D} (F__fits : FO G j__fits "_fits" 2 f__fits) (h__fits : j__fits ≤ k) : SB G k ⟨defScope st__has_form, fun _ => true⟩ N__has_form (defBody st__has_form) (PW.d__has_form f__fits) :=
    s_cons (P_if (t_w (w_or (t_not (t_val (e_isi1 .tuple (e_var 0) PyProof.Rows.boot_tuple B.b_isinstance B.b_tuple))) (w_or1 (T_cmp c_eq (e_len (a_cons (e_var 0) (a_nil)) B.b_len) (e_int))))) (s_one (P_ret (e_bl))) (s_nil))
    (s_cons (P_if (t_w (w_or (t_not (t_val (e_isi1 .str (E_ix (e_var 0) (e_int)) PyProof.Rows.boot_str B.b_isinstance B.b_str))) (w_or1 (T_tnin B.t_FORMS (e_tup (a_cons (e_var 1) (a_cons (E_ix (e_var 0) (e_int)) (a_nil)))))))) (s_one (P_ret (e_bl))) (s_nil))
    (s_cons (P_set 2 (E_tget B.t_FORMS (e_tup (a_cons (e_var 1) (a_cons (E_ix (e_var 0) (e_int)) (a_nil))))))
    (s_cons (P_if (T_cmp c_ne (e_len (a_cons (e_var 0) (a_nil)) B.b_len) (E_add (e_int) (e_len (a_cons (e_var 2) (a_nil)) B.b_len))) (s_one (P_ret (e_bl))) (s_nil))
    (s_one (P_ret (e_all (a_cons (e_lc [("part", 3), ("part_kind", 4)] (i_zip (a_cons (E_slLo (e_var 0) (e_int)) (a_cons (e_var 2) (a_nil))) B.b_zip) (g_tup [3, 4] (.cons (by rfl) (by rfl) (.cons (by rfl) (by rfl) (.nil)))) (p_nil) (e_call F__fits (a_cons (e_var 3) (a_cons (e_var 4) (a_nil))) h__fits)) (a_nil)) B.b_all))))))
theorem sc__fits : FnScope N__fits P__fits (defScope st__fits) := ⟨rfl, rfl, rfl, by decide +kernel, rfl, by decide +kernel, by decide +kernel⟩
theorem s__fits {G : Gm} {k : Nat} (B : Tp G) {j_is_integer_to : Nat} {f_is_integer_to : List Slot → Mn D} (F_is_integer_to : FO G j_is_integer_to "is_integer_to" 2 f_is_integer_to) (h_is_integer_to : j_is_integer_to ≤ k) : SB G k ⟨defScope st__fits, fun _ => true⟩ N__fits (defBody st__fits) (PW.d__fits f_is_integer_to) :=
    s_cons (P_if (T_kin B.k_GREATEST (e_var 1)) (s_one (P_ret (e_call F_is_integer_to (a_cons (e_var 0) (a_cons (E_kget B.k_GREATEST (e_var 1)) (a_nil))) h_is_integer_to))) (s_nil))
    (s_one (P_ret (e_bl)))
theorem sc__inner_tuples : FnScope N__inner_tuples P__inner_tuples (defScope st__inner_tuples) := ⟨rfl, rfl, rfl, by decide +kernel, rfl, by decide +kernel, by decide +kernel⟩
theorem s__inner_tuples {G : Gm} {k : Nat} (B : Tp G)  : SB G k ⟨defScope st__inner_tuples, fun _ => true⟩ N__inner_tuples (defBody st__inner_tuples) (PW.d__inner_tuples) :=
    s_cons (P_set 2 (E_tget B.t_FORMS (e_tup (a_cons (e_var 1) (a_cons (E_ix (e_var 0) (e_int)) (a_nil))))))
    (s_one (P_ret (e_lc [("part", 3), ("part_kind", 4)] (i_zip (a_cons (E_slLo (e_var 0) (e_int)) (a_cons (e_var 2) (a_nil))) B.b_zip) (g_tup [3, 4] (.cons (by rfl) (by rfl) (.cons (by rfl) (by rfl) (.nil)))) (p_one (T_knin B.k_GREATEST (e_var 4))) (e_tup (a_cons (e_var 3) (a_cons (e_var 4) (a_nil)))))))
theorem sc_is_filter : FnScope N_is_filter P_is_filter (defScope st_is_filter) := ⟨rfl, rfl, rfl, by decide +kernel, rfl, by decide +kernel, by decide +kernel⟩
theorem s_is_filter {G : Gm} {k : Nat} (B : Tp G) {j_tuples_of : Nat} {f_tuples_of : List Slot → Mn D} (F_tuples_of : FO G j_tuples_of "tuples_of" 3 f_tuples_of) (h_tuples_of : j_tuples_of ≤ k) : SB G k ⟨defScope st_is_filter, fun _ => true⟩ N_is_filter (defBody st_is_filter) (PW.d_is_filter f_tuples_of) :=
    s_one (P_ret (E_cmp c_isn (e_call F_tuples_of (a_cons (e_var 0) (a_cons (e_str) (a_cons (e_glob B.c_MOST_TUPLES_filters) (a_nil)))) h_tuples_of) (e_non)))
theorem sc_check_filter : FnScope N_check_filter P_check_filter (defScope st_check_filter) := ⟨rfl, rfl, rfl, by decide +kernel, rfl, by decide +kernel, by decide +kernel⟩
theorem s_check_filter {G : Gm} {k : Nat} (B : Tp G) {j_is_filter : Nat} {f_is_filter : List Slot → Mn D} (F_is_filter : FO G j_is_filter "is_filter" 1 f_is_filter) (h_is_filter : j_is_filter ≤ k) : SB G k ⟨defScope st_check_filter, fun _ => true⟩ N_check_filter (defBody st_check_filter) (PW.d_check_filter f_is_filter) :=
    s_one (P_if (t_not (t_val (e_call F_is_filter (a_cons (e_var 0) (a_nil)) h_is_filter))) (s_one (s_raise B.x_BadFilter)) (s_nil))
theorem sc_truth : FnScope N_truth P_truth (defScope st_truth) := ⟨rfl, rfl, rfl, by decide +kernel, rfl, by decide +kernel, by decide +kernel⟩
theorem s_truth {G : Gm} {k : Nat} (B : Tp G) {j_check_semantics : Nat} {f_check_semantics : List Slot → Mn D} (F_check_semantics : FO G j_check_semantics "check_semantics" 1 f_check_semantics) (h_check_semantics : j_check_semantics ≤ k) {j_check_filter : Nat} {f_check_filter : List Slot → Mn D} (F_check_filter : FO G j_check_filter "check_filter" 1 f_check_filter) (h_check_filter : j_check_filter ≤ k) {j_is_row : Nat} {f_is_row : List Slot → Mn D} (F_is_row : FO G j_is_row "is_row" 2 f_is_row) (h_is_row : j_is_row ≤ k) {j_truth_of : Nat} {f_truth_of : List Slot → Mn D} (F_truth_of : FO G j_truth_of "truth_of" 3 f_truth_of) (h_truth_of : j_truth_of ≤ k) : SB G k ⟨defScope st_truth, fun _ => true⟩ N_truth (defBody st_truth) (PW.d_truth f_check_semantics f_check_filter f_is_row f_truth_of) :=
    s_cons (P_expr (e_call F_check_semantics (a_cons (e_var 0) (a_nil)) h_check_semantics))
    (s_cons (P_expr (e_call F_check_filter (a_cons (e_var 1) (a_nil)) h_check_filter))
    (s_cons (P_if (t_not (t_val (e_call F_is_row (a_cons (e_var 0) (a_cons (e_var 2) (a_nil))) h_is_row))) (s_one (s_raise B.x_BadRow)) (s_nil))
    (s_one (P_ret (e_call F_truth_of (a_cons (e_var 0) (a_cons (e_var 1) (a_cons (e_var 2) (a_nil)))) h_truth_of)))))
theorem sc_union : FnScope N_union P_union (defScope st_union) := ⟨rfl, rfl, rfl, by decide +kernel, rfl, by decide +kernel, by decide +kernel⟩
theorem s_union {G : Gm} {k : Nat} {j_check_tables : Nat} {f_check_tables : List Slot → Mn D} (F_check_tables : FO G j_check_tables "check_tables" 2 f_check_tables) (h_check_tables : j_check_tables ≤ k) {j_union_of : Nat} {f_union_of : List Slot → Mn D} (F_union_of : FO G j_union_of "union_of" 3 f_union_of) (h_union_of : j_union_of ≤ k) : SB G k ⟨defScope st_union, fun _ => true⟩ N_union (defBody st_union) (PW.d_union f_check_tables f_union_of) :=
    s_cons (P_expr (e_call F_check_tables (a_cons (e_var 0) (a_cons (e_tup (a_cons (e_var 1) (a_cons (e_var 2) (a_nil)))) (a_nil))) h_check_tables))
    (s_one (P_ret (e_call F_union_of (a_cons (e_var 0) (a_cons (e_var 1) (a_cons (e_var 2) (a_nil)))) h_union_of)))
theorem sc_intersection : FnScope N_intersection P_intersection (defScope st_intersection) := ⟨rfl, rfl, rfl, by decide +kernel, rfl, by decide +kernel, by decide +kernel⟩
theorem s_intersection {G : Gm} {k : Nat} {j_check_tables : Nat} {f_check_tables : List Slot → Mn D} (F_check_tables : FO G j_check_tables "check_tables" 2 f_check_tables) (h_check_tables : j_check_tables ≤ k) {j_intersection_of : Nat} {f_intersection_of : List Slot → Mn D} (F_intersection_of : FO G j_intersection_of "intersection_of" 3 f_intersection_of) (h_intersection_of : j_intersection_of ≤ k) : SB G k ⟨defScope st_intersection, fun _ => true⟩ N_intersection (defBody st_intersection) (PW.d_intersection f_check_tables f_intersection_of) :=
    s_cons (P_expr (e_call F_check_tables (a_cons (e_var 0) (a_cons (e_tup (a_cons (e_var 1) (a_cons (e_var 2) (a_nil)))) (a_nil))) h_check_tables))
    (s_one (P_ret (e_call F_intersection_of (a_cons (e_var 0) (a_cons (e_var 1) (a_cons (e_var 2) (a_nil)))) h_intersection_of)))
theorem sc_difference : FnScope N_difference P_difference (defScope st_difference) := ⟨rfl, rfl, rfl, by decide +kernel, rfl, by decide +kernel, by decide +kernel⟩
theorem s_difference {G : Gm} {k : Nat} {j_check_tables : Nat} {f_check_tables : List Slot → Mn D} (F_check_tables : FO G j_check_tables "check_tables" 2 f_check_tables) (h_check_tables : j_check_tables ≤ k) {j_difference_of : Nat} {f_difference_of : List Slot → Mn D} (F_difference_of : FO G j_difference_of "difference_of" 3 f_difference_of) (h_difference_of : j_difference_of ≤ k) : SB G k ⟨defScope st_difference, fun _ => true⟩ N_difference (defBody st_difference) (PW.d_difference f_check_tables f_difference_of) :=
    s_cons (P_expr (e_call F_check_tables (a_cons (e_var 0) (a_cons (e_tup (a_cons (e_var 1) (a_cons (e_var 2) (a_nil)))) (a_nil))) h_check_tables))
    (s_one (P_ret (e_call F_difference_of (a_cons (e_var 0) (a_cons (e_var 1) (a_cons (e_var 2) (a_nil)))) h_difference_of)))
theorem sc_select : FnScope N_select P_select (defScope st_select) := ⟨rfl, rfl, rfl, by decide +kernel, rfl, by decide +kernel, by decide +kernel⟩
theorem s_select {G : Gm} {k : Nat} {j_check_tables : Nat} {f_check_tables : List Slot → Mn D} (F_check_tables : FO G j_check_tables "check_tables" 2 f_check_tables) (h_check_tables : j_check_tables ≤ k) {j_check_filter : Nat} {f_check_filter : List Slot → Mn D} (F_check_filter : FO G j_check_filter "check_filter" 1 f_check_filter) (h_check_filter : j_check_filter ≤ k) {j_selection_of : Nat} {f_selection_of : List Slot → Mn D} (F_selection_of : FO G j_selection_of "selection_of" 3 f_selection_of) (h_selection_of : j_selection_of ≤ k) : SB G k ⟨defScope st_select, fun _ => true⟩ N_select (defBody st_select) (PW.d_select f_check_tables f_check_filter f_selection_of) :=
    s_cons (P_expr (e_call F_check_tables (a_cons (e_var 0) (a_cons (e_tup (a_cons (e_var 1) (a_nil))) (a_nil))) h_check_tables))
    (s_cons (P_expr (e_call F_check_filter (a_cons (e_var 2) (a_nil)) h_check_filter))
    (s_one (P_ret (e_call F_selection_of (a_cons (e_var 0) (a_cons (e_var 1) (a_cons (e_var 2) (a_nil)))) h_selection_of))))
theorem sc_project : FnScope N_project P_project (defScope st_project) := ⟨rfl, rfl, rfl, by decide +kernel, rfl, by decide +kernel, by decide +kernel⟩
theorem s_project {G : Gm} {k : Nat} {j_check_tables : Nat} {f_check_tables : List Slot → Mn D} (F_check_tables : FO G j_check_tables "check_tables" 2 f_check_tables) (h_check_tables : j_check_tables ≤ k) {j_projection_of : Nat} {f_projection_of : List Slot → Mn D} (F_projection_of : FO G j_projection_of "projection_of" 2 f_projection_of) (h_projection_of : j_projection_of ≤ k) : SB G k ⟨defScope st_project, fun _ => true⟩ N_project (defBody st_project) (PW.d_project f_check_tables f_projection_of) :=
    s_cons (P_expr (e_call F_check_tables (a_cons (e_var 0) (a_cons (e_tup (a_cons (e_var 1) (a_nil))) (a_nil))) h_check_tables))
    (s_one (P_ret (e_call F_projection_of (a_cons (e_var 0) (a_cons (e_var 1) (a_nil))) h_projection_of)))
theorem sc_join : FnScope N_join P_join (defScope st_join) := ⟨rfl, rfl, rfl, by decide +kernel, rfl, by decide +kernel, by decide +kernel⟩
theorem s_join {G : Gm} {k : Nat} {j_check_tables : Nat} {f_check_tables : List Slot → Mn D} (F_check_tables : FO G j_check_tables "check_tables" 2 f_check_tables) (h_check_tables : j_check_tables ≤ k) {j_join_of : Nat} {f_join_of : List Slot → Mn D} (F_join_of : FO G j_join_of "join_of" 3 f_join_of) (h_join_of : j_join_of ≤ k) : SB G k ⟨defScope st_join, fun _ => true⟩ N_join (defBody st_join) (PW.d_join f_check_tables f_join_of) :=
    s_cons (P_expr (e_call F_check_tables (a_cons (e_var 0) (a_cons (e_tup (a_cons (e_var 1) (a_cons (e_var 2) (a_nil)))) (a_nil))) h_check_tables))
    (s_one (P_ret (e_call F_join_of (a_cons (e_var 0) (a_cons (e_var 1) (a_cons (e_var 2) (a_nil)))) h_join_of)))
theorem sc_semijoin : FnScope N_semijoin P_semijoin (defScope st_semijoin) := ⟨rfl, rfl, rfl, by decide +kernel, rfl, by decide +kernel, by decide +kernel⟩
theorem s_semijoin {G : Gm} {k : Nat} {j_check_tables : Nat} {f_check_tables : List Slot → Mn D} (F_check_tables : FO G j_check_tables "check_tables" 2 f_check_tables) (h_check_tables : j_check_tables ≤ k) {j_semijoin_of : Nat} {f_semijoin_of : List Slot → Mn D} (F_semijoin_of : FO G j_semijoin_of "semijoin_of" 3 f_semijoin_of) (h_semijoin_of : j_semijoin_of ≤ k) : SB G k ⟨defScope st_semijoin, fun _ => true⟩ N_semijoin (defBody st_semijoin) (PW.d_semijoin f_check_tables f_semijoin_of) :=
    s_cons (P_expr (e_call F_check_tables (a_cons (e_var 0) (a_cons (e_tup (a_cons (e_var 1) (a_cons (e_var 2) (a_nil)))) (a_nil))) h_check_tables))
    (s_one (P_ret (e_call F_semijoin_of (a_cons (e_var 0) (a_cons (e_var 1) (a_cons (e_var 2) (a_nil)))) h_semijoin_of)))
theorem sc_antijoin : FnScope N_antijoin P_antijoin (defScope st_antijoin) := ⟨rfl, rfl, rfl, by decide +kernel, rfl, by decide +kernel, by decide +kernel⟩
theorem s_antijoin {G : Gm} {k : Nat} {j_check_tables : Nat} {f_check_tables : List Slot → Mn D} (F_check_tables : FO G j_check_tables "check_tables" 2 f_check_tables) (h_check_tables : j_check_tables ≤ k) {j_antijoin_of : Nat} {f_antijoin_of : List Slot → Mn D} (F_antijoin_of : FO G j_antijoin_of "antijoin_of" 3 f_antijoin_of) (h_antijoin_of : j_antijoin_of ≤ k) : SB G k ⟨defScope st_antijoin, fun _ => true⟩ N_antijoin (defBody st_antijoin) (PW.d_antijoin f_check_tables f_antijoin_of) :=
    s_cons (P_expr (e_call F_check_tables (a_cons (e_var 0) (a_cons (e_tup (a_cons (e_var 1) (a_cons (e_var 2) (a_nil)))) (a_nil))) h_check_tables))
    (s_one (P_ret (e_call F_antijoin_of (a_cons (e_var 0) (a_cons (e_var 1) (a_cons (e_var 2) (a_nil)))) h_antijoin_of)))
theorem sc_not_in : FnScope N_not_in P_not_in (defScope st_not_in) := ⟨rfl, rfl, rfl, by decide +kernel, rfl, by decide +kernel, by decide +kernel⟩
theorem s_not_in {G : Gm} {k : Nat} {j_check_tables : Nat} {f_check_tables : List Slot → Mn D} (F_check_tables : FO G j_check_tables "check_tables" 2 f_check_tables) (h_check_tables : j_check_tables ≤ k) {j_not_in_of : Nat} {f_not_in_of : List Slot → Mn D} (F_not_in_of : FO G j_not_in_of "not_in_of" 3 f_not_in_of) (h_not_in_of : j_not_in_of ≤ k) : SB G k ⟨defScope st_not_in, fun _ => true⟩ N_not_in (defBody st_not_in) (PW.d_not_in f_check_tables f_not_in_of) :=
    s_cons (P_expr (e_call F_check_tables (a_cons (e_var 0) (a_cons (e_tup (a_cons (e_var 1) (a_cons (e_var 2) (a_nil)))) (a_nil))) h_check_tables))
    (s_one (P_ret (e_call F_not_in_of (a_cons (e_var 0) (a_cons (e_var 1) (a_cons (e_var 2) (a_nil)))) h_not_in_of)))
theorem sc_distinct : FnScope N_distinct P_distinct (defScope st_distinct) := ⟨rfl, rfl, rfl, by decide +kernel, rfl, by decide +kernel, by decide +kernel⟩
theorem s_distinct {G : Gm} {k : Nat} {j_check_tables : Nat} {f_check_tables : List Slot → Mn D} (F_check_tables : FO G j_check_tables "check_tables" 2 f_check_tables) (h_check_tables : j_check_tables ≤ k) {j_each_once : Nat} {f_each_once : List Slot → Mn D} (F_each_once : FO G j_each_once "each_once" 1 f_each_once) (h_each_once : j_each_once ≤ k) : SB G k ⟨defScope st_distinct, fun _ => true⟩ N_distinct (defBody st_distinct) (PW.d_distinct f_check_tables f_each_once) :=
    s_cons (P_expr (e_call F_check_tables (a_cons (e_var 0) (a_cons (e_tup (a_cons (e_var 1) (a_nil))) (a_nil))) h_check_tables))
    (s_one (P_ret (e_call F_each_once (a_cons (e_var 1) (a_nil)) h_each_once)))
theorem sc_total : FnScope N_total P_total (defScope st_total) := ⟨rfl, rfl, rfl, by decide +kernel, rfl, by decide +kernel, by decide +kernel⟩
theorem s_total {G : Gm} {k : Nat} {j_check_tables : Nat} {f_check_tables : List Slot → Mn D} (F_check_tables : FO G j_check_tables "check_tables" 2 f_check_tables) (h_check_tables : j_check_tables ≤ k) {j_total_of : Nat} {f_total_of : List Slot → Mn D} (F_total_of : FO G j_total_of "total_of" 2 f_total_of) (h_total_of : j_total_of ≤ k) : SB G k ⟨defScope st_total, fun _ => true⟩ N_total (defBody st_total) (PW.d_total f_check_tables f_total_of) :=
    s_cons (P_expr (e_call F_check_tables (a_cons (e_var 0) (a_cons (e_tup (a_cons (e_var 1) (a_nil))) (a_nil))) h_check_tables))
    (s_one (P_ret (e_call F_total_of (a_cons (e_var 0) (a_cons (e_var 1) (a_nil))) h_total_of)))
theorem sc_is_identity : FnScope N_is_identity P_is_identity (defScope st_is_identity) := ⟨rfl, rfl, rfl, by decide +kernel, rfl, by decide +kernel, by decide +kernel⟩
theorem s_is_identity {G : Gm} {k : Nat} (B : Tp G)  : SB G k ⟨defScope st_is_identity, fun _ => true⟩ N_is_identity (defBody st_is_identity) (PW.d_is_identity) :=
    s_one (P_ret (e_and (e_isi1 .str (e_var 0) PyProof.Rows.boot_str B.b_isinstance B.b_str) (e_or1 (E_kin B.k_SIDES (e_var 0)))))
theorem sc_check_identity : FnScope N_check_identity P_check_identity (defScope st_check_identity) := ⟨rfl, rfl, rfl, by decide +kernel, rfl, by decide +kernel, by decide +kernel⟩
theorem s_check_identity {G : Gm} {k : Nat} (B : Tp G) {j_is_identity : Nat} {f_is_identity : List Slot → Mn D} (F_is_identity : FO G j_is_identity "is_identity" 1 f_is_identity) (h_is_identity : j_is_identity ≤ k) : SB G k ⟨defScope st_check_identity, fun _ => true⟩ N_check_identity (defBody st_check_identity) (PW.d_check_identity f_is_identity) :=
    s_one (P_if (t_not (t_val (e_call F_is_identity (a_cons (e_var 0) (a_nil)) h_is_identity))) (s_one (s_raise B.x_BadIdentity)) (s_nil))
theorem sc_holds_for : FnScope N_holds_for P_holds_for (defScope st_holds_for) := ⟨rfl, rfl, rfl, by decide +kernel, rfl, by decide +kernel, by decide +kernel⟩
theorem s_holds_for {G : Gm} {k : Nat} (B : Tp G) {j_check_semantics : Nat} {f_check_semantics : List Slot → Mn D} (F_check_semantics : FO G j_check_semantics "check_semantics" 1 f_check_semantics) (h_check_semantics : j_check_semantics ≤ k) {j_check_identity : Nat} {f_check_identity : List Slot → Mn D} (F_check_identity : FO G j_check_identity "check_identity" 1 f_check_identity) (h_check_identity : j_check_identity ≤ k) {j__are_arguments : Nat} {f__are_arguments : List Slot → Mn D} (F__are_arguments : FO G j__are_arguments "_are_arguments" 3 f__are_arguments) (h__are_arguments : j__are_arguments ≤ k) {j__names_of : Nat} {f__names_of : List Slot → Mn D} (F__names_of : FO G j__names_of "_names_of" 1 f__names_of) (h__names_of : j__names_of ≤ k) {j__value_of : Nat} {f__value_of : List Slot → Mn D} (F__value_of : FO G j__value_of "_value_of" 3 f__value_of) (h__value_of : j__value_of ≤ k) : SB G k ⟨defScope st_holds_for, fun _ => true⟩ N_holds_for (defBody st_holds_for) (PW.d_holds_for f_check_semantics f_check_identity f__are_arguments f__names_of f__value_of) :=
    s_cons (P_expr (e_call F_check_semantics (a_cons (e_var 0) (a_nil)) h_check_semantics))
    (s_cons (P_expr (e_call F_check_identity (a_cons (e_var 1) (a_nil)) h_check_identity))
    (s_cons (P_if (t_not (t_val (e_call F__are_arguments (a_cons (e_var 0) (a_cons (e_var 1) (a_cons (e_var 2) (a_nil)))) h__are_arguments))) (s_one (s_raise B.x_BadArguments)) (s_nil))
    (s_cons (P_set 3 (e_dz (a_cons (e_call F__names_of (a_cons (e_var 1) (a_nil)) h__names_of) (a_cons (e_var 2) (a_nil))) B.b_dict B.b_zip))
    (s_cons (P_tgt (E_kget B.k_SIDES (e_var 1)) (g_tup [4, 5] (.cons (by rfl) (by rfl) (.cons (by rfl) (by rfl) (.nil)))))
    (s_one (P_ret (E_cmp c_eq (e_call F__value_of (a_cons (e_var 0) (a_cons (e_var 4) (a_cons (e_var 3) (a_nil)))) h__value_of) (e_call F__value_of (a_cons (e_var 0) (a_cons (e_var 5) (a_cons (e_var 3) (a_nil)))) h__value_of))))))))
theorem sc_holds : FnScope N_holds P_holds (defScope st_holds) := ⟨rfl, rfl, rfl, by decide +kernel, rfl, by decide +kernel, by decide +kernel⟩
theorem s_holds {G : Gm} {k : Nat} (B : Tp G) {j_check_semantics : Nat} {f_check_semantics : List Slot → Mn D} (F_check_semantics : FO G j_check_semantics "check_semantics" 1 f_check_semantics) (h_check_semantics : j_check_semantics ≤ k) {j_check_identity : Nat} {f_check_identity : List Slot → Mn D} (F_check_identity : FO G j_check_identity "check_identity" 1 f_check_identity) (h_check_identity : j_check_identity ≤ k) (hk : 1 ≤ k) : SB G k ⟨defScope st_holds, fun _ => true⟩ N_holds (defBody st_holds) (PW.d_holds f_check_semantics f_check_identity) :=
    s_cons (P_expr (e_call F_check_semantics (a_cons (e_var 0) (a_nil)) h_check_semantics))
    (s_cons (P_expr (e_call F_check_identity (a_cons (e_var 1) (a_nil)) h_check_identity))
    (s_one (P_ret (e_any (a_cons (e_lc [("words", 2)] (i_seq (E_kget B.k_HOLDS_WITH (e_var 1))) (g_name 2) (p_nil) (e_all (a_cons (e_lc [("word", 3)] (i_seq (e_var 2)) (g_name 3) (p_nil) (E_cmp (c_in hk) (e_var 3) (e_var 0))) (a_nil)) B.b_all)) (a_nil)) B.b_any))))
theorem sc_counterexample : FnScope N_counterexample P_counterexample (defScope st_counterexample) := ⟨rfl, rfl, rfl, by decide +kernel, rfl, by decide +kernel, by decide +kernel⟩
theorem s_counterexample {G : Gm} {k : Nat} (B : Tp G) {j_holds : Nat} {f_holds : List Slot → Mn D} (F_holds : FO G j_holds "holds" 2 f_holds) (h_holds : j_holds ≤ k) {j__broken_by : Nat} {f__broken_by : List Slot → Mn D} (F__broken_by : FO G j__broken_by "_broken_by" 2 f__broken_by) (h__broken_by : j__broken_by ≤ k) {j__argument : Nat} {f__argument : List Slot → Mn D} (F__argument : FO G j__argument "_argument" 1 f__argument) (h__argument : j__argument ≤ k) : SB G k ⟨defScope st_counterexample, fun _ => true⟩ N_counterexample (defBody st_counterexample) (PW.d_counterexample f_holds f__broken_by f__argument) :=
    s_cons (P_if (t_val (e_call F_holds (a_cons (e_var 0) (a_cons (e_var 1) (a_nil))) h_holds)) (s_one (P_ret (e_non))) (s_nil))
    (s_one (P_ret (e_tuple (a_cons (e_lc [("letters", 2)] (i_seq (e_call F__broken_by (a_cons (e_var 0) (a_cons (e_var 1) (a_nil))) h__broken_by)) (g_name 2) (p_nil) (e_call F__argument (a_cons (e_var 2) (a_nil)) h__argument)) (a_nil)) B.b_tuple)))
theorem sc_is_expression : FnScope N_is_expression P_is_expression (defScope st_is_expression) := ⟨rfl, rfl, rfl, by decide +kernel, rfl, by decide +kernel, by decide +kernel⟩
theorem s_is_expression {G : Gm} {k : Nat} (B : Tp G) {j_tuples_of : Nat} {f_tuples_of : List Slot → Mn D} (F_tuples_of : FO G j_tuples_of "tuples_of" 3 f_tuples_of) (h_tuples_of : j_tuples_of ≤ k) {j__leaves_among : Nat} {f__leaves_among : List Slot → Mn D} (F__leaves_among : FO G j__leaves_among "_leaves_among" 1 f__leaves_among) (h__leaves_among : j__leaves_among ≤ k) : SB G k ⟨defScope st_is_expression, fun _ => true⟩ N_is_expression (defBody st_is_expression) (PW.d_is_expression f_tuples_of f__leaves_among) :=
    s_cons (P_set 1 (e_call F_tuples_of (a_cons (e_var 0) (a_cons (e_str) (a_cons (e_glob B.c_MOST_TUPLES_expressions) (a_nil)))) h_tuples_of))
    (s_one (P_ret (e_and (E_cmp c_isn (e_var 1) (e_non)) (e_or1 (E_cmp c_le (e_call F__leaves_among (a_cons (e_var 1) (a_nil)) h__leaves_among) (e_glob B.c_MOST_LEAVES))))))
theorem sc__leaves_among : FnScope N__leaves_among P__leaves_among (defScope st__leaves_among) := ⟨rfl, rfl, rfl, by decide +kernel, rfl, by decide +kernel, by decide +kernel⟩
theorem s__leaves_among {G : Gm} {k : Nat} (B : Tp G)  : SB G k ⟨defScope st__leaves_among, fun _ => true⟩ N__leaves_among (defBody st__leaves_among) (PW.d__leaves_among) :=
    s_one (P_ret (e_len (a_cons (e_lc [("part", 1)] (i_seq (e_var 0)) (g_name 1) (p_one (T_cmp c_eq (E_ix (e_var 1) (e_int)) (e_str))) (e_var 1)) (a_nil)) B.b_len))
theorem sc__check_expressions : FnScope N__check_expressions P__check_expressions (defScope st__check_expressions) := ⟨rfl, rfl, rfl, by decide +kernel, rfl, by decide +kernel, by decide +kernel⟩
theorem s__check_expressions {G : Gm} {k : Nat} (B : Tp G) {j_is_expression : Nat} {f_is_expression : List Slot → Mn D} (F_is_expression : FO G j_is_expression "is_expression" 1 f_is_expression) (h_is_expression : j_is_expression ≤ k) (h2 : 2 ≤ k) : SB G k ⟨defScope st__check_expressions, fun _ => true⟩ N__check_expressions (defBody st__check_expressions) (PR.d__check_expressions f_is_expression) :=
    s_one (s_for false (i_enumT (a_cons (e_var 0) (a_nil)) B.b_enumerate) (g_tup [1, 2] (.cons (by rfl) (by rfl) (.cons (by rfl) (by rfl) (.nil)))) (s_one (P_if (t_not (t_val (e_call F_is_expression (a_cons (e_var 2) (a_nil)) h_is_expression))) (s_one (s_raiseI B.y_BadExpression (e_var 1) h2)) (s_nil))))
theorem sc_evaluate : FnScope N_evaluate P_evaluate (defScope st_evaluate) := ⟨rfl, rfl, rfl, by decide +kernel, rfl, by decide +kernel, by decide +kernel⟩
theorem s_evaluate {G : Gm} {k : Nat} (B : Tp G) {j_check_semantics : Nat} {f_check_semantics : List Slot → Mn D} (F_check_semantics : FO G j_check_semantics "check_semantics" 1 f_check_semantics) (h_check_semantics : j_check_semantics ≤ k) {j__check_expressions : Nat} {f__check_expressions : List Slot → Mn D} (F__check_expressions : FO G j__check_expressions "_check_expressions" 1 f__check_expressions) (h__check_expressions : j__check_expressions ≤ k) {j_check_tables : Nat} {f_check_tables : List Slot → Mn D} (F_check_tables : FO G j_check_tables "check_tables" 2 f_check_tables) (h_check_tables : j_check_tables ≤ k) {j_check_filter : Nat} {f_check_filter : List Slot → Mn D} (F_check_filter : FO G j_check_filter "check_filter" 1 f_check_filter) (h_check_filter : j_check_filter ≤ k) {j_each_once : Nat} {f_each_once : List Slot → Mn D} (F_each_once : FO G j_each_once "each_once" 1 f_each_once) (h_each_once : j_each_once ≤ k) {j_truth_of : Nat} {f_truth_of : List Slot → Mn D} (F_truth_of : FO G j_truth_of "truth_of" 3 f_truth_of) (h_truth_of : j_truth_of ≤ k) {j__count_of : Nat} {f__count_of : List Slot → Mn D} (F__count_of : FO G j__count_of "_count_of" 3 f__count_of) (h__count_of : j__count_of ≤ k) (hk : 1 ≤ k) : SB G k ⟨defScope st_evaluate, fun _ => true⟩ N_evaluate (defBody st_evaluate) (PW.d_evaluate f_check_semantics f__check_expressions f_check_tables f_check_filter f_each_once f_truth_of f__count_of) :=
    s_cons (s_expr (e_call F_check_semantics (a_cons (e_var 0) (a_nil)) h_check_semantics))
    (s_cons (s_expr (e_call F__check_expressions (a_cons (e_tup (a_cons (e_var 1) (a_nil))) (a_nil)) h__check_expressions))
    (s_cons (s_expr (e_call F_check_tables (a_cons (e_var 0) (a_cons (e_tup (a_cons (e_var 2) (a_cons (e_var 3) (a_nil)))) (a_nil))) h_check_tables))
    (s_cons (s_expr (e_call F_check_filter (a_cons (e_var 4) (a_nil)) h_check_filter))
    (s_cons (s_expr (e_call F_check_filter (a_cons (e_var 5) (a_nil)) h_check_filter))
    (s_cons (s_own 6 (a_nil))
    (s_cons (s_for false (i_seq (e_call F_each_once (a_cons (E_add (e_var 2) (e_var 3)) (a_nil)) h_each_once)) (g_name 7) (s_cons (s_set 8 (e_tup (a_cons (e_count hk (e_var 2) (e_var 7)) (a_cons (e_count hk (e_var 3) (e_var 7)) (a_cons (e_call F_truth_of (a_cons (e_var 0) (a_cons (e_var 4) (a_cons (e_var 7) (a_nil)))) h_truth_of) (a_cons (e_call F_truth_of (a_cons (e_var 0) (a_cons (e_var 5) (a_cons (e_var 7) (a_nil)))) h_truth_of) (a_nil)))))))
    (s_one (s_ext 6 (e_mulx (e_lst (a_cons (e_var 7) (a_nil))) (e_call F__count_of (a_cons (e_var 0) (a_cons (e_var 1) (a_cons (e_var 8) (a_nil)))) h__count_of))))))
    (s_one (s_ret (e_tuple (a_cons (e_var 6) (a_nil)) B.b_tuple)))))))))
theorem sc_count_at : FnScope N_count_at P_count_at (defScope st_count_at) := ⟨rfl, rfl, rfl, by decide +kernel, rfl, by decide +kernel, by decide +kernel⟩
theorem s_count_at {G : Gm} {k : Nat} (B : Tp G) {j_check_semantics : Nat} {f_check_semantics : List Slot → Mn D} (F_check_semantics : FO G j_check_semantics "check_semantics" 1 f_check_semantics) (h_check_semantics : j_check_semantics ≤ k) {j__check_expressions : Nat} {f__check_expressions : List Slot → Mn D} (F__check_expressions : FO G j__check_expressions "_check_expressions" 1 f__check_expressions) (h__check_expressions : j__check_expressions ≤ k) {j__is_case : Nat} {f__is_case : List Slot → Mn D} (F__is_case : FO G j__is_case "_is_case" 2 f__is_case) (h__is_case : j__is_case ≤ k) {j__count_of : Nat} {f__count_of : List Slot → Mn D} (F__count_of : FO G j__count_of "_count_of" 3 f__count_of) (h__count_of : j__count_of ≤ k) : SB G k ⟨defScope st_count_at, fun _ => true⟩ N_count_at (defBody st_count_at) (PW.d_count_at f_check_semantics f__check_expressions f__is_case f__count_of) :=
    s_cons (P_expr (e_call F_check_semantics (a_cons (e_var 0) (a_nil)) h_check_semantics))
    (s_cons (P_expr (e_call F__check_expressions (a_cons (e_tup (a_cons (e_var 1) (a_nil))) (a_nil)) h__check_expressions))
    (s_cons (P_if (t_not (t_val (e_call F__is_case (a_cons (e_var 0) (a_cons (e_var 2) (a_nil))) h__is_case))) (s_one (s_raise B.x_BadCase)) (s_nil))
    (s_one (P_ret (e_call F__count_of (a_cons (e_var 0) (a_cons (e_var 1) (a_cons (e_var 2) (a_nil)))) h__count_of)))))
theorem sc__is_case : FnScope N__is_case P__is_case (defScope st__is_case) := ⟨rfl, rfl, rfl, by decide +kernel, rfl, by decide +kernel, by decide +kernel⟩
theorem s__is_case {G : Gm} {k : Nat} (B : Tp G) {j_is_integer_to : Nat} {f_is_integer_to : List Slot → Mn D} (F_is_integer_to : FO G j_is_integer_to "is_integer_to" 2 f_is_integer_to) (h_is_integer_to : j_is_integer_to ≤ k) {j__is_truth : Nat} {f__is_truth : List Slot → Mn D} (F__is_truth : FO G j__is_truth "_is_truth" 2 f__is_truth) (h__is_truth : j__is_truth ≤ k) : SB G k ⟨defScope st__is_case, fun _ => true⟩ N__is_case (defBody st__is_case) (PW.d__is_case f_is_integer_to f__is_truth) :=
    s_cons (P_if (t_w (w_or (t_not (t_val (e_isi1 .tuple (e_var 1) PyProof.Rows.boot_tuple B.b_isinstance B.b_tuple))) (w_or1 (T_cmp c_ne (e_len (a_cons (e_var 1) (a_nil)) B.b_len) (e_glob B.c_CASE_LENGTH))))) (s_one (P_ret (e_bl))) (s_nil))
    (s_cons (P_set 2 (e_if (T_cmp c_eq (E_ix (e_var 0) (e_glob B.c_DUPLICATES)) (e_str)) (e_int) (e_glob B.c_GREATEST_COUNT)))
    (s_cons (P_if (t_not (t_val (e_all (a_cons (e_lc [("count", 4)] (i_seq (E_slHi (e_var 1) (e_int))) (g_name 4) (p_nil) (e_call F_is_integer_to (a_cons (e_var 4) (a_cons (e_var 2) (a_nil))) h_is_integer_to)) (a_nil)) B.b_all))) (s_one (P_ret (e_bl))) (s_nil))
    (s_one (P_ret (e_all (a_cons (e_lc [("part", 3)] (i_seq (E_slLo (e_var 1) (e_int))) (g_name 3) (p_nil) (e_call F__is_truth (a_cons (e_var 0) (a_cons (e_var 3) (a_nil))) h__is_truth)) (a_nil)) B.b_all)))))
theorem sc__is_truth : FnScope N__is_truth P__is_truth (defScope st__is_truth) := ⟨rfl, rfl, rfl, by decide +kernel, rfl, by decide +kernel, by decide +kernel⟩
theorem s__is_truth {G : Gm} {k : Nat} (B : Tp G)  : SB G k ⟨defScope st__is_truth, fun _ => true⟩ N__is_truth (defBody st__is_truth) (PW.d__is_truth) :=
    s_cons (P_if (T_cmp c_is (e_var 1) (e_non)) (s_one (P_ret (E_cmp c_eq (E_ix (e_var 0) (e_glob B.c_NULLS)) (e_str)))) (s_nil))
    (s_one (P_ret (e_isi1 .bool (e_var 1) PyProof.Rows.boot_bool B.b_isinstance B.b_bool)))
theorem sc_equal_for_all : FnScope N_equal_for_all P_equal_for_all (defScope st_equal_for_all) := ⟨rfl, rfl, rfl, by decide +kernel, rfl, by decide +kernel, by decide +kernel⟩
theorem s_equal_for_all {G : Gm} {k : Nat} {j_least_difference : Nat} {f_least_difference : List Slot → Mn D} (F_least_difference : FO G j_least_difference "least_difference" 3 f_least_difference) (h_least_difference : j_least_difference ≤ k) : SB G k ⟨defScope st_equal_for_all, fun _ => true⟩ N_equal_for_all (defBody st_equal_for_all) (PW.d_equal_for_all f_least_difference) :=
    s_one (P_ret (E_cmp c_is (e_call F_least_difference (a_cons (e_var 0) (a_cons (e_var 1) (a_cons (e_var 2) (a_nil)))) h_least_difference) (e_non)))
theorem sc_least_difference : FnScope N_least_difference P_least_difference (defScope st_least_difference) := ⟨rfl, rfl, rfl, by decide +kernel, rfl, by decide +kernel, by decide +kernel⟩
theorem s_least_difference {G : Gm} {k : Nat} {j_check_semantics : Nat} {f_check_semantics : List Slot → Mn D} (F_check_semantics : FO G j_check_semantics "check_semantics" 1 f_check_semantics) (h_check_semantics : j_check_semantics ≤ k) {j__check_expressions : Nat} {f__check_expressions : List Slot → Mn D} (F__check_expressions : FO G j__check_expressions "_check_expressions" 1 f__check_expressions) (h__check_expressions : j__check_expressions ≤ k) {j__cases : Nat} {f__cases : List Slot → Mn D} (F__cases : FO G j__cases "_cases" 2 f__cases) (h__cases : j__cases ≤ k) {j__greatest_needed : Nat} {f__greatest_needed : List Slot → Mn D} (F__greatest_needed : FO G j__greatest_needed "_greatest_needed" 3 f__greatest_needed) (h__greatest_needed : j__greatest_needed ≤ k) {j__count_of : Nat} {f__count_of : List Slot → Mn D} (F__count_of : FO G j__count_of "_count_of" 3 f__count_of) (h__count_of : j__count_of ≤ k) : SB G k ⟨defScope st_least_difference, fun _ => true⟩ N_least_difference (defBody st_least_difference) (PW.d_least_difference f_check_semantics f__check_expressions f__cases f__greatest_needed f__count_of) :=
    s_cons (P_expr (e_call F_check_semantics (a_cons (e_var 0) (a_nil)) h_check_semantics))
    (s_cons (P_expr (e_call F__check_expressions (a_cons (e_tup (a_cons (e_var 1) (a_cons (e_var 2) (a_nil)))) (a_nil)) h__check_expressions))
    (s_cons (s_for false (i_seq (e_call F__cases (a_cons (e_var 0) (a_cons (e_call F__greatest_needed (a_cons (e_var 0) (a_cons (e_var 1) (a_cons (e_var 2) (a_nil)))) h__greatest_needed) (a_nil))) h__cases)) (g_name 3) (s_one (P_if (T_cmp c_ne (e_call F__count_of (a_cons (e_var 0) (a_cons (e_var 1) (a_cons (e_var 3) (a_nil)))) h__count_of) (e_call F__count_of (a_cons (e_var 0) (a_cons (e_var 2) (a_cons (e_var 3) (a_nil)))) h__count_of)) (s_one (P_ret (e_var 3))) (s_nil))))
    (s_one (P_ret (e_non)))))
theorem sc_profile : FnScope N_profile P_profile (defScope st_profile) := ⟨rfl, rfl, rfl, by decide +kernel, rfl, by decide +kernel, by decide +kernel⟩
theorem s_profile {G : Gm} {k : Nat} (B : Tp G) {j_check_semantics : Nat} {f_check_semantics : List Slot → Mn D} (F_check_semantics : FO G j_check_semantics "check_semantics" 1 f_check_semantics) (h_check_semantics : j_check_semantics ≤ k) {j_identities : Nat} {f_identities : List Slot → Mn D} (F_identities : FO G j_identities "identities" 0 f_identities) (h_identities : j_identities ≤ k) {j_holds : Nat} {f_holds : List Slot → Mn D} (F_holds : FO G j_holds "holds" 2 f_holds) (h_holds : j_holds ≤ k) : SB G k ⟨defScope st_profile, fun _ => true⟩ N_profile (defBody st_profile) (PW.d_profile f_check_semantics f_identities f_holds) :=
    s_cons (P_expr (e_call F_check_semantics (a_cons (e_var 0) (a_nil)) h_check_semantics))
    (s_one (P_ret (e_tuple (a_cons (e_lc [("identity", 1)] (i_seq (e_call0 F_identities h_identities)) (g_name 1) (p_one (t_val (e_call F_holds (a_cons (e_var 0) (a_cons (e_var 1) (a_nil))) h_holds))) (e_var 1)) (a_nil)) B.b_tuple)))
theorem sc_write_table : FnScope N_write_table P_write_table (defScope st_write_table) := ⟨rfl, rfl, rfl, by decide +kernel, rfl, by decide +kernel, by decide +kernel⟩
theorem s_write_table {G : Gm} {k : Nat} (B : Tp G) {j_check_tables : Nat} {f_check_tables : List Slot → Mn D} (F_check_tables : FO G j_check_tables "check_tables" 2 f_check_tables) (h_check_tables : j_check_tables ≤ k) {j_value_text : Nat} {f_value_text : List Slot → Mn D} (F_value_text : FO G j_value_text "value_text" 1 f_value_text) (h_value_text : j_value_text ≤ k) : SB G k ⟨defScope st_write_table, fun _ => true⟩ N_write_table (defBody st_write_table) (PT.d_write_table f_check_tables f_value_text) :=
    s_cons (P_expr (e_call F_check_tables (a_cons (e_var 0) (a_cons (e_tup (a_cons (e_var 1) (a_nil))) (a_nil))) h_check_tables))
    (s_cons (P_if (T_cmp c_eq (e_len (a_cons (e_var 1) (a_nil)) B.b_len) (e_int)) (s_one (P_ret (e_glob B.c_NO_ROW))) (s_nil))
    (s_one (P_ret (e_join (e_str) (e_lc [("row", 2)] (i_seq (e_var 1)) (g_name 2) (p_nil) (e_join (e_str) (e_lc [("value", 3)] (i_seq (e_var 2)) (g_name 3) (p_nil) (e_call F_value_text (a_cons (e_var 3) (a_nil)) h_value_text))))))))
theorem sc_write_filter : FnScope N_write_filter P_write_filter (defScope st_write_filter) := ⟨rfl, rfl, rfl, by decide +kernel, rfl, by decide +kernel, by decide +kernel⟩
theorem s_write_filter {G : Gm} {k : Nat} {j_check_filter : Nat} {f_check_filter : List Slot → Mn D} (F_check_filter : FO G j_check_filter "check_filter" 1 f_check_filter) (h_check_filter : j_check_filter ≤ k) {j__text_of : Nat} {f__text_of : List Slot → Mn D} (F__text_of : FO G j__text_of "_text_of" 1 f__text_of) (h__text_of : j__text_of ≤ k) : SB G k ⟨defScope st_write_filter, fun _ => true⟩ N_write_filter (defBody st_write_filter) (PT.d_write_filter f_check_filter f__text_of) :=
    s_cons (P_expr (e_call F_check_filter (a_cons (e_var 0) (a_nil)) h_check_filter))
    (s_one (P_ret (e_call F__text_of (a_cons (e_var 0) (a_nil)) h__text_of)))
theorem sc__law_taken : FnScope N__law_taken P__law_taken (defScope st__law_taken) := ⟨rfl, rfl, rfl, by decide +kernel, rfl, by decide +kernel, by decide +kernel⟩
theorem sc__law_pick : FnScope N__law_pick P__law_pick (defScope st__law_pick) := ⟨rfl, rfl, rfl, by decide +kernel, rfl, by decide +kernel, by decide +kernel⟩
theorem s__law_pick {G : Gm} {k : Nat} (B : Tp G) {j__law_taken : Nat} {f__law_taken : List Slot → Mn D} (F__law_taken : FO G j__law_taken "_law_taken" 2 f__law_taken) (h__law_taken : j__law_taken ≤ k) : SB G k ⟨defScope st__law_pick, fun _ => true⟩ N__law_pick (defBody st__law_pick) (LW.d__law_pick f__law_taken) :=
    s_one (P_ret (E_ix (e_var 1) (e_call F__law_taken (a_row 0 (a_cons (e_len (a_cons (e_var 1) (a_nil)) B.b_len) (a_nil))) h__law_taken)))
theorem sc__law_semantics : FnScope N__law_semantics P__law_semantics (defScope st__law_semantics) := ⟨rfl, rfl, rfl, by decide +kernel, rfl, by decide +kernel, by decide +kernel⟩
theorem s__law_semantics {G : Gm} {k : Nat} {j__law_pick : Nat} {f__law_pick : List Slot → Mn D} (F__law_pick : FO G j__law_pick "_law_pick" 2 f__law_pick) (h__law_pick : j__law_pick ≤ k) : SB G k ⟨defScope st__law_semantics, fun _ => true⟩ N__law_semantics (defBody st__law_semantics) (LW.d__law_semantics f__law_pick) :=
    s_cons (P_par 1 2 (a_cons (e_call F__law_pick (a_row 0 (a_cons (e_lst (a_cons (e_str) (a_cons (e_str) (a_cons (e_str) (a_nil))))) (a_nil))) h__law_pick) (a_cons (e_call F__law_pick (a_row 0 (a_cons (e_lst (a_cons (e_str) (a_cons (e_str) (a_nil)))) (a_nil))) h__law_pick) (a_nil))))
    (s_cons (P_par 3 4 (a_cons (e_call F__law_pick (a_row 0 (a_cons (e_lst (a_cons (e_str) (a_cons (e_str) (a_nil)))) (a_nil))) h__law_pick) (a_cons (e_call F__law_pick (a_row 0 (a_cons (e_lst (a_cons (e_str) (a_cons (e_str) (a_cons (e_str) (a_cons (e_str) (a_nil)))))) (a_nil))) h__law_pick) (a_nil))))
    (s_one (P_ret (e_tup (a_cons (e_var 1) (a_cons (e_var 2) (a_cons (e_var 3) (a_cons (e_var 4) (a_cons (e_call F__law_pick (a_row 0 (a_cons (e_lst (a_cons (e_str) (a_cons (e_str) (a_nil)))) (a_nil))) h__law_pick) (a_nil))))))))))
theorem sc__law_rank : FnScope N__law_rank P__law_rank (defScope st__law_rank) := ⟨rfl, rfl, rfl, by decide +kernel, rfl, by decide +kernel, by decide +kernel⟩
theorem s__law_rank {G : Gm} {k : Nat}  : SB G k ⟨defScope st__law_rank, fun _ => true⟩ N__law_rank (defBody st__law_rank) (LW.d__law_rank) :=
    s_one (P_ret (e_lc [("value", 1)] (i_seq (e_var 0)) (g_name 1) (p_nil) (e_if (T_cmp c_is (e_var 1) (e_non)) (e_int) (E_add (e_var 1) (e_int)))))
theorem sc__law_sorted : FnScope N__law_sorted P__law_sorted (defScope st__law_sorted) := ⟨rfl, rfl, rfl, by decide +kernel, rfl, by decide +kernel, by decide +kernel⟩
theorem s__law_sorted {G : Gm} {k : Nat} (B : Tp G) {j__law_rank : Nat} {f__law_rank : List Slot → Mn D} (F__law_rank : FO G j__law_rank "_law_rank" 1 f__law_rank) (h__law_rank : j__law_rank ≤ k) (hk : 1 ≤ k) : SB G k ⟨defScope st__law_sorted, fun _ => true⟩ N__law_sorted (defBody st__law_sorted) (LW.d__law_sorted f__law_rank) :=
    s_cons (s_own 1 (a_nil))
    (s_cons (s_for false (i_seq (e_sorted hk (a_cons (e_lc [("k", 4), ("line", 3)] (i_enum (a_cons (e_var 0) (a_nil)) B.b_enumerate) (g_tup [4, 3] (.cons (by rfl) (by rfl) (.cons (by rfl) (by rfl) (.nil)))) (p_nil) (e_tup (a_cons (e_call F__law_rank (a_cons (e_var 3) (a_nil)) h__law_rank) (a_cons (e_var 4) (a_nil))))) (a_nil)) B.b_sorted)) (g_tup [2, 3] (.cons (by rfl) (by rfl) (.cons (by rfl) (by rfl) (.nil)))) (s_one (s_app 1 (E_ix (e_var 0) (e_var 3)))))
    (s_one (s_ret (e_tuple (a_cons (e_var 1) (a_nil)) B.b_tuple))))
theorem sc__law_value : FnScope N__law_value P__law_value (defScope st__law_value) := ⟨rfl, rfl, rfl, by decide +kernel, rfl, by decide +kernel, by decide +kernel⟩
theorem s__law_value {G : Gm} {k : Nat} {j__law_taken : Nat} {f__law_taken : List Slot → Mn D} (F__law_taken : FO G j__law_taken "_law_taken" 2 f__law_taken) (h__law_taken : j__law_taken ≤ k) {j__law_pick : Nat} {f__law_pick : List Slot → Mn D} (F__law_pick : FO G j__law_pick "_law_pick" 2 f__law_pick) (h__law_pick : j__law_pick ≤ k) : SB G k ⟨defScope st__law_value, fun _ => true⟩ N__law_value (defBody st__law_value) (LW.d__law_value f__law_taken f__law_pick) :=
    s_cons (P_if (t_w (w_and (T_cmp c_ne (E_ix (e_var 1) (e_int)) (e_str)) (w_and1 (T_cmp c_eq (e_call F__law_taken (a_row 0 (a_cons (e_int) (a_nil))) h__law_taken) (e_int))))) (s_one (P_ret (e_non))) (s_nil))
    (s_one (P_ret (e_call F__law_pick (a_row 0 (a_cons (e_lst (a_cons (e_int) (a_cons (e_int) (a_cons (e_int) (a_cons (e_int) (a_cons (e_int) (a_cons (e_call F__law_taken (a_row 0 (a_cons (e_int) (a_nil))) h__law_taken) (a_nil)))))))) (a_nil))) h__law_pick)))
theorem sc__law_table : FnScope N__law_table P__law_table (defScope st__law_table) := ⟨rfl, rfl, rfl, by decide +kernel, rfl, by decide +kernel, by decide +kernel⟩
theorem s__law_table {G : Gm} {k : Nat} (B : Tp G) {j__law_taken : Nat} {f__law_taken : List Slot → Mn D} (F__law_taken : FO G j__law_taken "_law_taken" 2 f__law_taken) (h__law_taken : j__law_taken ≤ k) {j__law_pick : Nat} {f__law_pick : List Slot → Mn D} (F__law_pick : FO G j__law_pick "_law_pick" 2 f__law_pick) (h__law_pick : j__law_pick ≤ k) {j__law_value : Nat} {f__law_value : List Slot → Mn D} (F__law_value : FO G j__law_value "_law_value" 2 f__law_value) (h__law_value : j__law_value ≤ k) {j__law_sorted : Nat} {f__law_sorted : List Slot → Mn D} (F__law_sorted : FO G j__law_sorted "_law_sorted" 1 f__law_sorted) (h__law_sorted : j__law_sorted ≤ k) (hk : 1 ≤ k) : SB G k ⟨defScope st__law_table, fun _ => true⟩ N__law_table (defBody st__law_table) (LW.d__law_table f__law_taken f__law_pick f__law_value f__law_sorted) :=
    s_cons (s_own 3 (a_nil))
    (s_cons (s_for false (i_range1 (a_cons (e_call F__law_taken (a_row 0 (a_cons (E_add (e_var 2) (e_int)) (a_nil))) h__law_taken) (a_nil)) B.b_range) (g_name 4) (s_cons (s_set 5 (e_if (t_w (w_and (T_cmp c_ne (e_var 3) (e_lst (a_nil))) (w_and1 (T_cmp c_eq (e_call F__law_taken (a_row 0 (a_cons (e_int) (a_nil))) h__law_taken) (e_int))))) (e_call F__law_pick (a_row 0 (a_cons (e_var 3) (a_nil))) h__law_pick) (e_tup (a_cons (e_call F__law_value (a_row 0 (a_cons (e_var 1) (a_nil))) h__law_value) (a_cons (e_call F__law_value (a_row 0 (a_cons (e_var 1) (a_nil))) h__law_value) (a_nil))))))
    (s_one (s_if (t_w (w_or (T_cmp c_eq (E_ix (e_var 1) (e_int)) (e_str)) (w_or1 (T_cmp (c_nin hk) (e_var 5) (e_var 3))))) (s_one (s_app 3 (e_var 5))) (s_nil)))))
    (s_one (s_ret (e_call F__law_sorted (a_cons (e_var 3) (a_nil)) h__law_sorted))))
theorem sc__law_filter : FnScope N__law_filter P__law_filter (defScope st__law_filter) := ⟨rfl, rfl, rfl, by decide +kernel, rfl, by decide +kernel, by decide +kernel⟩
theorem s__law_filter {G : Gm} {k : Nat} (B : Tp G) {j__law_taken : Nat} {f__law_taken : List Slot → Mn D} (F__law_taken : FO G j__law_taken "_law_taken" 2 f__law_taken) (h__law_taken : j__law_taken ≤ k) {j__law_pick : Nat} {f__law_pick : List Slot → Mn D} (F__law_pick : FO G j__law_pick "_law_pick" 2 f__law_pick) (h__law_pick : j__law_pick ≤ k) {j__law_filter : Nat} {f__law_filter : List Slot → Mn D} (F__law_filter : FO G j__law_filter "_law_filter" 2 f__law_filter) (h__law_filter : j__law_filter ≤ k) : SB G k ⟨defScope st__law_filter, fun _ => true⟩ N__law_filter (defBody st__law_filter) (LW.d__law_filter f__law_taken f__law_pick f__law_filter) :=
    s_cons (P_set 2 (e_call F__law_taken (a_row 0 (a_cons (E_add (e_int) (e_mulx (e_int) (e_intc (a_cons (E_cmp c_gt (e_var 1) (e_int)) (a_nil)) B.b_int))) (a_nil))) h__law_taken))
    (s_cons (P_if (T_cmp c_lt (e_var 2) (e_int)) (s_cons (P_set 3 (e_call F__law_pick (a_row 0 (a_cons (e_lst (a_cons (e_str) (a_cons (e_str) (a_nil)))) (a_nil))) h__law_pick))
    (s_one (P_ret (E_ix (e_lst (a_cons (e_tup (a_cons (e_var 3) (a_cons (e_call F__law_taken (a_row 0 (a_cons (e_int) (a_nil))) h__law_taken) (a_cons (e_call F__law_taken (a_row 0 (a_cons (e_int) (a_nil))) h__law_taken) (a_nil))))) (a_cons (e_tup (a_cons (e_var 3) (a_cons (e_call F__law_taken (a_row 0 (a_cons (e_int) (a_nil))) h__law_taken) (a_cons (e_int) (a_nil))))) (a_cons (e_tup (a_cons (e_str) (a_nil))) (a_cons (e_tup (a_cons (e_str) (a_cons (e_call F__law_taken (a_row 0 (a_cons (e_int) (a_nil))) h__law_taken) (a_nil)))) (a_nil)))))) (e_var 2))))) (s_nil))
    (s_cons (P_if (T_cmp c_eq (e_var 2) (e_int)) (s_one (P_ret (e_tup (a_cons (e_str) (a_cons (e_int) (a_cons (e_int) (a_nil))))))) (s_nil))
    (s_cons (P_if (T_cmp c_eq (e_var 2) (e_int)) (s_one (P_ret (e_tup (a_cons (e_str) (a_cons (e_call F__law_filter (a_row 0 (a_cons (E_sub (e_var 1) (e_int)) (a_nil))) h__law_filter) (a_nil)))))) (s_nil))
    (s_one (P_ret (e_tup (a_cons (e_call F__law_pick (a_row 0 (a_cons (e_lst (a_cons (e_str) (a_cons (e_str) (a_nil)))) (a_nil))) h__law_pick) (a_cons (e_call F__law_filter (a_row 0 (a_cons (E_sub (e_var 1) (e_int)) (a_nil))) h__law_filter) (a_cons (e_call F__law_filter (a_row 0 (a_cons (E_sub (e_var 1) (e_int)) (a_nil))) h__law_filter) (a_nil))))))))))
theorem sc__law_condition : FnScope N__law_condition P__law_condition (defScope st__law_condition) := ⟨rfl, rfl, rfl, by decide +kernel, rfl, by decide +kernel, by decide +kernel⟩
theorem s__law_condition {G : Gm} {k : Nat} (B : Tp G) {j__law_taken : Nat} {f__law_taken : List Slot → Mn D} (F__law_taken : FO G j__law_taken "_law_taken" 2 f__law_taken) (h__law_taken : j__law_taken ≤ k) {j__law_pick : Nat} {f__law_pick : List Slot → Mn D} (F__law_pick : FO G j__law_pick "_law_pick" 2 f__law_pick) (h__law_pick : j__law_pick ≤ k) {j__law_condition : Nat} {f__law_condition : List Slot → Mn D} (F__law_condition : FO G j__law_condition "_law_condition" 2 f__law_condition) (h__law_condition : j__law_condition ≤ k) : SB G k ⟨defScope st__law_condition, fun _ => true⟩ N__law_condition (defBody st__law_condition) (LW.d__law_condition f__law_taken f__law_pick f__law_condition) :=
    s_cons (P_set 2 (e_call F__law_taken (a_row 0 (a_cons (E_add (e_int) (e_mulx (e_int) (e_intc (a_cons (E_cmp c_gt (e_var 1) (e_int)) (a_nil)) B.b_int))) (a_nil))) h__law_taken))
    (s_cons (P_if (T_cmp c_lt (e_var 2) (e_int)) (s_one (P_ret (e_call F__law_pick (a_row 0 (a_cons (e_lst (a_cons (e_tup (a_cons (e_str) (a_nil))) (a_cons (e_tup (a_cons (e_str) (a_nil))) (a_cons (e_tup (a_cons (e_str) (a_nil))) (a_nil))))) (a_nil))) h__law_pick))) (s_nil))
    (s_cons (P_if (T_cmp c_eq (e_var 2) (e_int)) (s_one (P_ret (e_tup (a_cons (e_str) (a_cons (e_call F__law_condition (a_row 0 (a_cons (E_sub (e_var 1) (e_int)) (a_nil))) h__law_condition) (a_nil)))))) (s_nil))
    (s_one (P_ret (e_tup (a_cons (e_call F__law_pick (a_row 0 (a_cons (e_lst (a_cons (e_str) (a_cons (e_str) (a_nil)))) (a_nil))) h__law_pick) (a_cons (e_call F__law_condition (a_row 0 (a_cons (E_sub (e_var 1) (e_int)) (a_nil))) h__law_condition) (a_cons (e_call F__law_condition (a_row 0 (a_cons (E_sub (e_var 1) (e_int)) (a_nil))) h__law_condition) (a_nil)))))))))
theorem sc__law_expression : FnScope N__law_expression P__law_expression (defScope st__law_expression) := ⟨rfl, rfl, rfl, by decide +kernel, rfl, by decide +kernel, by decide +kernel⟩
theorem s__law_expression {G : Gm} {k : Nat} {j__law_taken : Nat} {f__law_taken : List Slot → Mn D} (F__law_taken : FO G j__law_taken "_law_taken" 2 f__law_taken) (h__law_taken : j__law_taken ≤ k) {j__law_condition : Nat} {f__law_condition : List Slot → Mn D} (F__law_condition : FO G j__law_condition "_law_condition" 2 f__law_condition) (h__law_condition : j__law_condition ≤ k) {j__law_pick : Nat} {f__law_pick : List Slot → Mn D} (F__law_pick : FO G j__law_pick "_law_pick" 2 f__law_pick) (h__law_pick : j__law_pick ≤ k) {j__law_expression : Nat} {f__law_expression : List Slot → Mn D} (F__law_expression : FO G j__law_expression "_law_expression" 2 f__law_expression) (h__law_expression : j__law_expression ≤ k) : SB G k ⟨defScope st__law_expression, fun _ => true⟩ N__law_expression (defBody st__law_expression) (LW.d__law_expression f__law_taken f__law_condition f__law_pick f__law_expression) :=
    s_cons (P_if (t_w (w_or (T_cmp c_lt (e_var 1) (e_int)) (w_or1 (T_cmp c_eq (e_call F__law_taken (a_row 0 (a_cons (e_int) (a_nil))) h__law_taken) (e_int))))) (s_one (P_ret (e_if (T_cmp c_gt (e_call F__law_taken (a_row 0 (a_cons (e_int) (a_nil))) h__law_taken) (e_int)) (e_tup (a_cons (e_str) (a_cons (e_call F__law_taken (a_row 0 (a_cons (e_int) (a_nil))) h__law_taken) (a_nil)))) (e_tup (a_cons (e_str) (a_cons (e_call F__law_condition (a_row 0 (a_cons (e_int) (a_nil))) h__law_condition) (a_cons (e_tup (a_cons (e_str) (a_cons (e_call F__law_taken (a_row 0 (a_cons (e_int) (a_nil))) h__law_taken) (a_nil)))) (a_nil)))))))) (s_nil))
    (s_cons (P_set 2 (E_add (e_int) (e_call F__law_taken (a_row 0 (a_cons (E_sub (e_var 1) (e_int)) (a_nil))) h__law_taken)))
    (s_cons (P_set 3 (e_call F__law_pick (a_row 0 (a_cons (e_lst (a_cons (e_str) (a_cons (e_str) (a_cons (e_str) (a_cons (e_str) (a_cons (e_str) (a_nil))))))) (a_nil))) h__law_pick))
    (s_cons (P_set 4 (e_tup (a_cons (e_var 3) (a_cons (e_call F__law_expression (a_row 0 (a_cons (e_var 2) (a_nil))) h__law_expression) (a_cons (e_call F__law_expression (a_row 0 (a_cons (E_sub (e_var 1) (e_var 2)) (a_nil))) h__law_expression) (a_nil))))))
    (s_one (P_ret (e_if (T_cmp c_eq (e_call F__law_taken (a_row 0 (a_cons (e_int) (a_nil))) h__law_taken) (e_int)) (e_tup (a_cons (e_str) (a_cons (e_call F__law_condition (a_row 0 (a_cons (e_int) (a_nil))) h__law_condition) (a_cons (e_var 4) (a_nil))))) (e_var 4)))))))
theorem sc__law_tuples : FnScope N__law_tuples P__law_tuples (defScope st__law_tuples) := ⟨rfl, rfl, rfl, by decide +kernel, rfl, by decide +kernel, by decide +kernel⟩
theorem s__law_tuples {G : Gm} {k : Nat} (B : Tp G) {j__law_tuples : Nat} {f__law_tuples : List Slot → Mn D} (F__law_tuples : FO G j__law_tuples "_law_tuples" 1 f__law_tuples) (h__law_tuples : j__law_tuples ≤ k) : SB G k ⟨defScope st__law_tuples, fun _ => true⟩ N__law_tuples (defBody st__law_tuples) (LW.d__law_tuples f__law_tuples) :=
    s_one (P_ret (E_add (e_int) (e_sum (a_cons (e_lc [("part", 1)] (i_seq (E_slLo (e_var 0) (e_int))) (g_name 1) (p_one (t_val (e_isi1 .tuple (e_var 1) PyProof.Rows.boot_tuple B.b_isinstance B.b_tuple))) (e_call F__law_tuples (a_cons (e_var 1) (a_nil)) h__law_tuples)) (a_nil)) B.b_sum)))
theorem sc__law_tree : FnScope N__law_tree P__law_tree (defScope st__law_tree) := ⟨rfl, rfl, rfl, by decide +kernel, rfl, by decide +kernel, by decide +kernel⟩
theorem s__law_tree {G : Gm} {k : Nat} {j__law_expression : Nat} {f__law_expression : List Slot → Mn D} (F__law_expression : FO G j__law_expression "_law_expression" 2 f__law_expression) (h__law_expression : j__law_expression ≤ k) {j__law_tuples : Nat} {f__law_tuples : List Slot → Mn D} (F__law_tuples : FO G j__law_tuples "_law_tuples" 1 f__law_tuples) (h__law_tuples : j__law_tuples ≤ k) : SB G k ⟨defScope st__law_tree, fun _ => true⟩ N__law_tree (defBody st__law_tree) (LW.d__law_tree f__law_expression f__law_tuples) :=
    s_cons (P_set 2 (e_call F__law_expression (a_row 0 (a_cons (e_var 1) (a_nil))) h__law_expression))
    (s_one (P_ret (e_if (T_cmp c_lt (e_call F__law_tuples (a_cons (e_var 2) (a_nil)) h__law_tuples) (e_int)) (e_var 2) (e_tup (a_cons (e_str) (a_cons (e_tup (a_cons (e_str) (a_cons (e_int) (a_nil)))) (a_cons (e_tup (a_cons (e_str) (a_cons (e_int) (a_nil)))) (a_nil))))))))
theorem sc__law_bad_table : FnScope N__law_bad_table P__law_bad_table (defScope st__law_bad_table) := ⟨rfl, rfl, rfl, by decide +kernel, rfl, by decide +kernel, by decide +kernel⟩
theorem s__law_bad_table {G : Gm} {k : Nat} (B : Tp G) {j__law_taken : Nat} {f__law_taken : List Slot → Mn D} (F__law_taken : FO G j__law_taken "_law_taken" 2 f__law_taken) (h__law_taken : j__law_taken ≤ k) : SB G k ⟨defScope st__law_bad_table, fun _ => true⟩ N__law_bad_table (defBody st__law_bad_table) (LW.d__law_bad_table f__law_taken) :=
    s_cons (P_set 2 (e_lst (a_cons (e_non) (a_cons (e_lst (a_nil)) (a_cons (e_tup (a_cons (e_tup (a_cons (e_int) (a_cons (e_int) (a_cons (e_int) (a_nil))))) (a_nil))) (a_cons (e_tup (a_cons (e_tup (a_cons (e_int) (a_nil))) (a_nil))) (a_cons (e_tup (a_cons (e_lst (a_cons (e_int) (a_cons (e_int) (a_nil)))) (a_nil))) (a_cons (e_tup (a_cons (e_tup (a_cons (e_int) (a_cons (e_int) (a_nil)))) (a_nil))) (a_cons (e_tup (a_cons (e_tup (a_cons (E_neg (e_int)) (a_cons (e_int) (a_nil)))) (a_nil))) (a_cons (e_tup (a_cons (e_tup (a_cons (e_bl) (a_cons (e_int) (a_nil)))) (a_nil))) (a_cons (e_tup (a_cons (e_tup (a_cons (e_int) (a_cons (e_int) (a_nil)))) (a_cons (e_tup (a_cons (e_int) (a_cons (e_int) (a_nil)))) (a_nil)))) (a_cons (e_mulx (e_tup (a_cons (e_tup (a_cons (e_int) (a_cons (e_int) (a_nil)))) (a_nil))) (e_int)) (a_cons (e_int) (a_cons (e_tup (a_cons (e_tup (a_cons (e_int) (a_cons (e_int) (a_nil)))) (a_cons (e_tup (a_cons (e_int) (a_cons (e_int) (a_nil)))) (a_nil)))) (a_cons (e_tup (a_cons (e_tup (a_cons (e_str) (a_cons (e_int) (a_nil)))) (a_nil))) (a_nil))))))))))))))))
    (s_cons (P_if (T_cmp c_eq (E_ix (e_var 1) (e_int)) (e_str)) (s_one (P_set 2 (E_add (e_var 2) (e_lst (a_cons (e_tup (a_cons (e_tup (a_cons (e_non) (a_cons (e_int) (a_nil)))) (a_nil))) (a_cons (e_tup (a_cons (e_tup (a_cons (e_int) (a_cons (e_non) (a_nil)))) (a_nil))) (a_nil))))))) (s_one (P_set 2 (E_add (e_var 2) (e_lst (a_cons (e_tup (a_cons (e_tup (a_cons (e_int) (a_cons (e_int) (a_nil)))) (a_cons (e_tup (a_cons (e_non) (a_cons (e_int) (a_nil)))) (a_nil)))) (a_cons (e_tup (a_cons (e_tup (a_cons (e_int) (a_cons (e_int) (a_nil)))) (a_cons (e_tup (a_cons (e_int) (a_cons (e_non) (a_nil)))) (a_nil)))) (a_nil))))))))
    (s_one (P_ret (e_if (t_w (w_or (T_cmp c_eq (E_ix (e_var 1) (e_int)) (e_str)) (w_or1 (T_cmp c_gt (e_call F__law_taken (a_row 0 (a_cons (e_int) (a_nil))) h__law_taken) (e_int))))) (E_ix (e_var 2) (e_call F__law_taken (a_row 0 (a_cons (e_len (a_cons (e_var 2) (a_nil)) B.b_len) (a_nil))) h__law_taken)) (e_tup (a_cons (e_tup (a_cons (e_int) (a_cons (e_int) (a_nil)))) (a_cons (e_tup (a_cons (e_int) (a_cons (e_int) (a_nil)))) (a_nil))))))))
theorem sc_law : FnScope N_law P_law (defScope st_law) := ⟨rfl, rfl, rfl, by decide +kernel, rfl, by decide +kernel, by decide +kernel⟩
abbrev lawAt (j : Nat) : Stmt := (defBody st_law).getD j (.Pass ⟨0, 0, 0, 0⟩)
abbrev sxL : Sx := ⟨defScope st_law, fun _ => true⟩
theorem up2 {j k : Nat} (h : j ≤ k) : j ≤ k + 2 := Nat.le_trans h (Nat.le_add_right _ _)
theorem sc7 : FnScope N5 ["work"] (defScope st__law_wrong) := ⟨rfl, rfl, rfl, by decide +kernel, rfl, by decide +kernel, by decide +kernel⟩
theorem gv7 {G : Gm} {CS : Addr} {Cs : Nat → Addr} (B : Tp G) (F : Wr7 G CS Cs) (X : Cx) (g : Addr) (cdg : Value) (q : Str) (hK : X.K = G.K) (hmg : X.mg = G.mg) : GivesTo X N5 "_law_wrong" (defScope st__law_wrong) g cdg (defBody st__law_wrong) "work" q (TTx G tell7) :=
  wrong_gives7 hK hmg F B.b_isinstance sc7 rfl (by decide +kernel) rfl rfl rfl rfl rfl
abbrev lam (j i : Nat) : LamD := (lamsIn (lawAt j)).getD i lam0
def T_lam : List LamD := [lam 4 0, lam 4 1, lam 4 2, lam 4 3, lam 4 4, lam 5 0, lam 5 1, lam 5 2, lam 5 3, lam 5 4, lam 6 0, lam 6 1, lam 6 2, lam 7 0, lam 7 1, lam 8 0, lam 8 1, lam 8 2, lam 9 0, lam 9 1, lam 10 0, lam 10 1, lam 13 0, lam 13 1, lam 13 2, lam 14 0, lam 14 1, lam 15 0, lam 15 1, lam 15 2, lam 17 0, lam 17 1, lam 17 2, lam 17 3, lam 18 0, lam 18 1, lam 25 0, lam 25 1, lam 25 2, lam 26 0, lam 26 1]
def ms_lam : List (List Nat) := [[], [7], [], [], [], [], [], [], [], [], [], [], [], [], [], [], [], [], [], [], [], [], [], [], [], [], [], [], [], [], [], [], [], [], [], [], [], [], [], [], []]
abbrev msF (n : Nat) : List Nat := ms_lam.getD n []
theorem ms_ok : ms_lam = T_lam.map (msOf N_law) := by decide +kernel
theorem ok_lam : T_lam.all (okSB sxL.sc) = true := by decide +kernel
abbrev fb_0 : Ev → Mn D := dCl 3 PR.g_union (dCons (dVar 6) (dCons (dLit .none) (dCons (dLit .none) (dNil))))
theorem b_0 {G : Gm} {k : Nat} (B : Tp G) {j_union : Nat} (F_union : FO G j_union "union" 3 PR.g_union) (h_union : j_union ≤ k) : SE G k ⟨(lam 4 0).scope, fun _ => false⟩ N_law (lam 4 0).body fb_0 :=
    e_call F_union (a_cons (e_var 6) (a_cons (e_non) (a_cons (e_non) (a_nil)))) h_union
abbrev fb_1 : Ev → Mn D := dCl 3 PR.g_intersection (dCons (dVar 6) (dCons (dLit (.int 0)) (dCons (dLit (.int 0)) (dNil))))
theorem b_1 {G : Gm} {k : Nat} (B : Tp G) {j_intersection : Nat} (F_intersection : FO G j_intersection "intersection" 3 PR.g_intersection) (h_intersection : j_intersection ≤ k) : SE G k ⟨(lam 4 1).scope, fun _ => false⟩ N_law (lam 4 1).body fb_1 :=
    e_call F_intersection (a_cons (e_var 6) (a_cons (e_int) (a_cons (e_int) (a_nil)))) h_intersection
abbrev fb_2 : Ev → Mn D := dCl 3 PR.g_difference (dCons (dVar 6) (dCons (dLit (.int 0)) (dCons (dLit (.int 0)) (dNil))))
theorem b_2 {G : Gm} {k : Nat} (B : Tp G) {j_difference : Nat} (F_difference : FO G j_difference "difference" 3 PR.g_difference) (h_difference : j_difference ≤ k) : SE G k ⟨(lam 4 2).scope, fun _ => false⟩ N_law (lam 4 2).body fb_2 :=
    e_call F_difference (a_cons (e_var 6) (a_cons (e_int) (a_cons (e_int) (a_nil)))) h_difference
abbrev fb_3 : Ev → Mn D := dCl 3 PR.g_select (dCons (dVar 6) (dCons (dLit (.int 0)) (dCons (dLit (.int 0)) (dNil))))
theorem b_3 {G : Gm} {k : Nat} (B : Tp G) {j_select : Nat} (F_select : FO G j_select "select" 3 PR.g_select) (h_select : j_select ≤ k) : SE G k ⟨(lam 4 3).scope, fun _ => false⟩ N_law (lam 4 3).body fb_3 :=
    e_call F_select (a_cons (e_var 6) (a_cons (e_int) (a_cons (e_int) (a_nil)))) h_select
abbrev fb_4 : Ev → Mn D := dCl 2 PR.g_project (dCons (dVar 6) (dCons (dLit (.int 0)) (dNil)))
theorem b_4 {G : Gm} {k : Nat} (B : Tp G) {j_project : Nat} (F_project : FO G j_project "project" 2 PR.g_project) (h_project : j_project ≤ k) : SE G k ⟨(lam 4 4).scope, fun _ => false⟩ N_law (lam 4 4).body fb_4 :=
    e_call F_project (a_cons (e_var 6) (a_cons (e_int) (a_nil))) h_project
abbrev fb_5 : Ev → Mn D := dCl 3 PR.g_join (dCons (dVar 6) (dCons (dLit (.int 0)) (dCons (dLit (.int 0)) (dNil))))
theorem b_5 {G : Gm} {k : Nat} (B : Tp G) {j_join : Nat} (F_join : FO G j_join "join" 3 PR.g_join) (h_join : j_join ≤ k) : SE G k ⟨(lam 5 0).scope, fun _ => false⟩ N_law (lam 5 0).body fb_5 :=
    e_call F_join (a_cons (e_var 6) (a_cons (e_int) (a_cons (e_int) (a_nil)))) h_join
abbrev fb_6 : Ev → Mn D := dCl 3 PR.g_semijoin (dCons (dVar 6) (dCons (dLit (.int 0)) (dCons (dLit (.int 0)) (dNil))))
theorem b_6 {G : Gm} {k : Nat} (B : Tp G) {j_semijoin : Nat} (F_semijoin : FO G j_semijoin "semijoin" 3 PR.g_semijoin) (h_semijoin : j_semijoin ≤ k) : SE G k ⟨(lam 5 1).scope, fun _ => false⟩ N_law (lam 5 1).body fb_6 :=
    e_call F_semijoin (a_cons (e_var 6) (a_cons (e_int) (a_cons (e_int) (a_nil)))) h_semijoin
abbrev fb_7 : Ev → Mn D := dCl 3 PR.g_antijoin (dCons (dVar 6) (dCons (dLit (.int 0)) (dCons (dLit (.int 0)) (dNil))))
theorem b_7 {G : Gm} {k : Nat} (B : Tp G) {j_antijoin : Nat} (F_antijoin : FO G j_antijoin "antijoin" 3 PR.g_antijoin) (h_antijoin : j_antijoin ≤ k) : SE G k ⟨(lam 5 2).scope, fun _ => false⟩ N_law (lam 5 2).body fb_7 :=
    e_call F_antijoin (a_cons (e_var 6) (a_cons (e_int) (a_cons (e_int) (a_nil)))) h_antijoin
abbrev fb_8 : Ev → Mn D := dCl 3 PR.g_not_in (dCons (dVar 6) (dCons (dLit (.int 0)) (dCons (dLit (.int 0)) (dNil))))
theorem b_8 {G : Gm} {k : Nat} (B : Tp G) {j_not_in : Nat} (F_not_in : FO G j_not_in "not_in" 3 PR.g_not_in) (h_not_in : j_not_in ≤ k) : SE G k ⟨(lam 5 3).scope, fun _ => false⟩ N_law (lam 5 3).body fb_8 :=
    e_call F_not_in (a_cons (e_var 6) (a_cons (e_int) (a_cons (e_int) (a_nil)))) h_not_in
abbrev fb_9 : Ev → Mn D := dCl 2 PR.g_distinct (dCons (dVar 6) (dCons (dLit (.int 0)) (dNil)))
theorem b_9 {G : Gm} {k : Nat} (B : Tp G) {j_distinct : Nat} (F_distinct : FO G j_distinct "distinct" 2 PR.g_distinct) (h_distinct : j_distinct ≤ k) : SE G k ⟨(lam 5 4).scope, fun _ => false⟩ N_law (lam 5 4).body fb_9 :=
    e_call F_distinct (a_cons (e_var 6) (a_cons (e_int) (a_nil))) h_distinct
abbrev fb_10 : Ev → Mn D := dCl 2 PR.g_total (dCons (dVar 6) (dCons (dLit (.int 0)) (dNil)))
theorem b_10 {G : Gm} {k : Nat} (B : Tp G) {j_total : Nat} (F_total : FO G j_total "total" 2 PR.g_total) (h_total : j_total ≤ k) : SE G k ⟨(lam 6 0).scope, fun _ => false⟩ N_law (lam 6 0).body fb_10 :=
    e_call F_total (a_cons (e_var 6) (a_cons (e_int) (a_nil))) h_total
abbrev fb_11 : Ev → Mn D := dCl 3 PR.g_truth (dCons (dVar 6) (dCons (dLit (.int 0)) (dCons (dLit (.int 0)) (dNil))))
theorem b_11 {G : Gm} {k : Nat} (B : Tp G) {j_truth : Nat} (F_truth : FO G j_truth "truth" 3 PR.g_truth) (h_truth : j_truth ≤ k) : SE G k ⟨(lam 6 1).scope, fun _ => false⟩ N_law (lam 6 1).body fb_11 :=
    e_call F_truth (a_cons (e_var 6) (a_cons (e_int) (a_cons (e_int) (a_nil)))) h_truth
abbrev fb_12 : Ev → Mn D := dCl 6 PR.g_evaluate (dCons (dVar 6) (dCons (dLit (.int 0)) (dCons (dLit (.int 0)) (dCons (dLit (.int 0)) (dCons (dLit (.int 0)) (dCons (dLit (.int 0)) (dNil)))))))
theorem b_12 {G : Gm} {k : Nat} (B : Tp G) {j_evaluate : Nat} (F_evaluate : FO G j_evaluate "evaluate" 6 PR.g_evaluate) (h_evaluate : j_evaluate ≤ k) : SE G k ⟨(lam 6 2).scope, fun _ => false⟩ N_law (lam 6 2).body fb_12 :=
    e_call F_evaluate (a_cons (e_var 6) (a_cons (e_int) (a_cons (e_int) (a_cons (e_int) (a_cons (e_int) (a_cons (e_int) (a_nil))))))) h_evaluate
abbrev fb_13 : Ev → Mn D := dCl 3 PR.g_count_at (dCons (dVar 6) (dCons (dLit (.int 0)) (dCons (dLit (.int 0)) (dNil))))
theorem b_13 {G : Gm} {k : Nat} (B : Tp G) {j_count_at : Nat} (F_count_at : FO G j_count_at "count_at" 3 PR.g_count_at) (h_count_at : j_count_at ≤ k) : SE G k ⟨(lam 7 0).scope, fun _ => false⟩ N_law (lam 7 0).body fb_13 :=
    e_call F_count_at (a_cons (e_var 6) (a_cons (e_int) (a_cons (e_int) (a_nil)))) h_count_at
abbrev fb_14 : Ev → Mn D := dCl 3 PR.g_equal_for_all (dCons (dVar 6) (dCons (dLit (.int 0)) (dCons (dLit (.int 0)) (dNil))))
theorem b_14 {G : Gm} {k : Nat} (B : Tp G) {j_equal_for_all : Nat} (F_equal_for_all : FO G j_equal_for_all "equal_for_all" 3 PR.g_equal_for_all) (h_equal_for_all : j_equal_for_all ≤ k) : SE G k ⟨(lam 7 1).scope, fun _ => false⟩ N_law (lam 7 1).body fb_14 :=
    e_call F_equal_for_all (a_cons (e_var 6) (a_cons (e_int) (a_cons (e_int) (a_nil)))) h_equal_for_all
abbrev fb_15 : Ev → Mn D := dCl 3 PR.g_least_difference (dCons (dVar 6) (dCons (dLit (.int 0)) (dCons (dLit (.int 0)) (dNil))))
theorem b_15 {G : Gm} {k : Nat} (B : Tp G) {j_least_difference : Nat} (F_least_difference : FO G j_least_difference "least_difference" 3 PR.g_least_difference) (h_least_difference : j_least_difference ≤ k) : SE G k ⟨(lam 8 0).scope, fun _ => false⟩ N_law (lam 8 0).body fb_15 :=
    e_call F_least_difference (a_cons (e_var 6) (a_cons (e_int) (a_cons (e_int) (a_nil)))) h_least_difference
abbrev fb_16 : Ev → Mn D := dCl 3 (PR.g_holds_for PR.z0) (dCons (dVar 6) (dCons (dLit (.int 0)) (dCons (dLit (.int 0)) (dNil))))
theorem b_16 {G : Gm} {k : Nat} (B : Tp G) {j_holds_for : Nat} (F_holds_for : FO G j_holds_for "holds_for" 3 (PR.g_holds_for PR.z0)) (h_holds_for : j_holds_for ≤ k) : SE G k ⟨(lam 8 1).scope, fun _ => false⟩ N_law (lam 8 1).body fb_16 :=
    e_call F_holds_for (a_cons (e_var 6) (a_cons (e_int) (a_cons (e_int) (a_nil)))) h_holds_for
abbrev fb_17 : Ev → Mn D := dCl 2 PR.g_holds (dCons (dVar 6) (dCons (dLit (.int 0)) (dNil)))
theorem b_17 {G : Gm} {k : Nat} (B : Tp G) {j_holds : Nat} (F_holds : FO G j_holds "holds" 2 PR.g_holds) (h_holds : j_holds ≤ k) : SE G k ⟨(lam 8 2).scope, fun _ => false⟩ N_law (lam 8 2).body fb_17 :=
    e_call F_holds (a_cons (e_var 6) (a_cons (e_int) (a_nil))) h_holds
abbrev fb_18 : Ev → Mn D := dCl 2 PR.g_counterexample (dCons (dVar 6) (dCons (dLit (.int 0)) (dNil)))
theorem b_18 {G : Gm} {k : Nat} (B : Tp G) {j_counterexample : Nat} (F_counterexample : FO G j_counterexample "counterexample" 2 PR.g_counterexample) (h_counterexample : j_counterexample ≤ k) : SE G k ⟨(lam 9 0).scope, fun _ => false⟩ N_law (lam 9 0).body fb_18 :=
    e_call F_counterexample (a_cons (e_var 6) (a_cons (e_int) (a_nil))) h_counterexample
abbrev fb_19 : Ev → Mn D := dCl 1 PR.g_profile (dCons (dVar 6) (dNil))
theorem b_19 {G : Gm} {k : Nat} (B : Tp G) {j_profile : Nat} (F_profile : FO G j_profile "profile" 1 PR.g_profile) (h_profile : j_profile ≤ k) : SE G k ⟨(lam 9 1).scope, fun _ => false⟩ N_law (lam 9 1).body fb_19 :=
    e_call F_profile (a_cons (e_var 6) (a_nil)) h_profile
abbrev fb_20 : Ev → Mn D := dCl 2 PT.fTab (dCons (dVar 6) (dCons (dTup (dNil)) (dNil)))
theorem b_20 {G : Gm} {k : Nat} (B : Tp G) {j_is_table : Nat} (F_is_table : FO G j_is_table "is_table" 2 PT.fTab) (h_is_table : j_is_table ≤ k) : SE G k ⟨(lam 10 0).scope, fun _ => false⟩ N_law (lam 10 0).body fb_20 :=
    e_call F_is_table (a_cons (e_var 6) (a_cons (e_tup (a_nil)) (a_nil))) h_is_table
abbrev fb_21 : Ev → Mn D := dCl 2 PR.g_write_table (dCons (dVar 6) (dCons (dLit (.int 0)) (dNil)))
theorem b_21 {G : Gm} {k : Nat} (B : Tp G) {j_write_table : Nat} (F_write_table : FO G j_write_table "write_table" 2 PR.g_write_table) (h_write_table : j_write_table ≤ k) : SE G k ⟨(lam 10 1).scope, fun _ => false⟩ N_law (lam 10 1).body fb_21 :=
    e_call F_write_table (a_cons (e_var 6) (a_cons (e_int) (a_nil))) h_write_table
abbrev fb_22 : Ev → Mn D := dCl 2 PR.g_project (dCons (dVar 2) (dCons (dVar 6) (dNil)))
theorem b_22 {G : Gm} {k : Nat} (B : Tp G) {j_project : Nat} (F_project : FO G j_project "project" 2 PR.g_project) (h_project : j_project ≤ k) : SE G k ⟨(lam 13 0).scope, fun _ => false⟩ N_law (lam 13 0).body fb_22 :=
    e_call F_project (a_cons (e_var 2) (a_cons (e_var 6) (a_nil))) h_project
abbrev fb_23 : Ev → Mn D := dCl 3 PR.g_union (dCons (dVar 2) (dCons (dVar 6) (dCons (dLit .none) (dNil))))
theorem b_23 {G : Gm} {k : Nat} (B : Tp G) {j_union : Nat} (F_union : FO G j_union "union" 3 PR.g_union) (h_union : j_union ≤ k) : SE G k ⟨(lam 13 1).scope, fun _ => false⟩ N_law (lam 13 1).body fb_23 :=
    e_call F_union (a_cons (e_var 2) (a_cons (e_var 6) (a_cons (e_non) (a_nil)))) h_union
abbrev fb_24 : Ev → Mn D := dCl 3 PR.g_select (dCons (dVar 2) (dCons (dVar 6) (dCons (dLit .none) (dNil))))
theorem b_24 {G : Gm} {k : Nat} (B : Tp G) {j_select : Nat} (F_select : FO G j_select "select" 3 PR.g_select) (h_select : j_select ≤ k) : SE G k ⟨(lam 13 2).scope, fun _ => false⟩ N_law (lam 13 2).body fb_24 :=
    e_call F_select (a_cons (e_var 2) (a_cons (e_var 6) (a_cons (e_non) (a_nil)))) h_select
abbrev fb_25 : Ev → Mn D := dCl 6 PR.g_evaluate (dCons (dVar 2) (dCons (dVar 4) (dCons (dVar 6) (dCons (dLit .none) (dCons (dLit .none) (dCons (dLit .none) (dNil)))))))
theorem b_25 {G : Gm} {k : Nat} (B : Tp G) {j_evaluate : Nat} (F_evaluate : FO G j_evaluate "evaluate" 6 PR.g_evaluate) (h_evaluate : j_evaluate ≤ k) : SE G k ⟨(lam 14 0).scope, fun _ => false⟩ N_law (lam 14 0).body fb_25 :=
    e_call F_evaluate (a_cons (e_var 2) (a_cons (e_var 4) (a_cons (e_var 6) (a_cons (e_non) (a_cons (e_non) (a_cons (e_non) (a_nil))))))) h_evaluate
abbrev fb_26 : Ev → Mn D := dCl 2 PR.g_total (dCons (dVar 2) (dCons (dVar 6) (dNil)))
theorem b_26 {G : Gm} {k : Nat} (B : Tp G) {j_total : Nat} (F_total : FO G j_total "total" 2 PR.g_total) (h_total : j_total ≤ k) : SE G k ⟨(lam 14 1).scope, fun _ => false⟩ N_law (lam 14 1).body fb_26 :=
    e_call F_total (a_cons (e_var 2) (a_cons (e_var 6) (a_nil))) h_total
abbrev fb_27 : Ev → Mn D := dCl 2 PR.g_write_table (dCons (dVar 2) (dCons (dVar 6) (dNil)))
theorem b_27 {G : Gm} {k : Nat} (B : Tp G) {j_write_table : Nat} (F_write_table : FO G j_write_table "write_table" 2 PR.g_write_table) (h_write_table : j_write_table ≤ k) : SE G k ⟨(lam 15 0).scope, fun _ => false⟩ N_law (lam 15 0).body fb_27 :=
    e_call F_write_table (a_cons (e_var 2) (a_cons (e_var 6) (a_nil))) h_write_table
abbrev fb_28 : Ev → Mn D := dCl 2 PR.g_distinct (dCons (dVar 2) (dCons (dVar 6) (dNil)))
theorem b_28 {G : Gm} {k : Nat} (B : Tp G) {j_distinct : Nat} (F_distinct : FO G j_distinct "distinct" 2 PR.g_distinct) (h_distinct : j_distinct ≤ k) : SE G k ⟨(lam 15 1).scope, fun _ => false⟩ N_law (lam 15 1).body fb_28 :=
    e_call F_distinct (a_cons (e_var 2) (a_cons (e_var 6) (a_nil))) h_distinct
abbrev fb_29 : Ev → Mn D := dCl 3 PR.g_join (dCons (dVar 2) (dCons (dVar 6) (dCons (dVar 6) (dNil))))
theorem b_29 {G : Gm} {k : Nat} (B : Tp G) {j_join : Nat} (F_join : FO G j_join "join" 3 PR.g_join) (h_join : j_join ≤ k) : SE G k ⟨(lam 15 2).scope, fun _ => false⟩ N_law (lam 15 2).body fb_29 :=
    e_call F_join (a_cons (e_var 2) (a_cons (e_var 6) (a_cons (e_var 6) (a_nil)))) h_join
abbrev fb_30 : Ev → Mn D := dCl 3 PR.g_difference (dCons (dVar 2) (dCons (dVar 7) (dCons (dVar 6) (dNil))))
theorem b_30 {G : Gm} {k : Nat} (B : Tp G) {j_difference : Nat} (F_difference : FO G j_difference "difference" 3 PR.g_difference) (h_difference : j_difference ≤ k) : SE G k ⟨(lam 17 0).scope, fun _ => false⟩ N_law (lam 17 0).body fb_30 :=
    e_call F_difference (a_cons (e_var 2) (a_cons (e_var 7) (a_cons (e_var 6) (a_nil)))) h_difference
abbrev fb_31 : Ev → Mn D := dCl 3 PR.g_not_in (dCons (dVar 2) (dCons (dVar 7) (dCons (dVar 6) (dNil))))
theorem b_31 {G : Gm} {k : Nat} (B : Tp G) {j_not_in : Nat} (F_not_in : FO G j_not_in "not_in" 3 PR.g_not_in) (h_not_in : j_not_in ≤ k) : SE G k ⟨(lam 17 1).scope, fun _ => false⟩ N_law (lam 17 1).body fb_31 :=
    e_call F_not_in (a_cons (e_var 2) (a_cons (e_var 7) (a_cons (e_var 6) (a_nil)))) h_not_in
abbrev fb_32 : Ev → Mn D := dCl 6 PR.g_evaluate (dCons (dVar 2) (dCons (dVar 4) (dCons (dVar 7) (dCons (dVar 6) (dCons (dLit .none) (dCons (dLit .none) (dNil)))))))
theorem b_32 {G : Gm} {k : Nat} (B : Tp G) {j_evaluate : Nat} (F_evaluate : FO G j_evaluate "evaluate" 6 PR.g_evaluate) (h_evaluate : j_evaluate ≤ k) : SE G k ⟨(lam 17 2).scope, fun _ => false⟩ N_law (lam 17 2).body fb_32 :=
    e_call F_evaluate (a_cons (e_var 2) (a_cons (e_var 4) (a_cons (e_var 7) (a_cons (e_var 6) (a_cons (e_non) (a_cons (e_non) (a_nil))))))) h_evaluate
abbrev fb_33 : Ev → Mn D := dCl 3 PR.g_semijoin (dCons (dVar 2) (dCons (dVar 7) (dCons (dVar 6) (dNil))))
theorem b_33 {G : Gm} {k : Nat} (B : Tp G) {j_semijoin : Nat} (F_semijoin : FO G j_semijoin "semijoin" 3 PR.g_semijoin) (h_semijoin : j_semijoin ≤ k) : SE G k ⟨(lam 17 3).scope, fun _ => false⟩ N_law (lam 17 3).body fb_33 :=
    e_call F_semijoin (a_cons (e_var 2) (a_cons (e_var 7) (a_cons (e_var 6) (a_nil)))) h_semijoin
abbrev fb_34 : Ev → Mn D := dCl 3 PR.g_antijoin (dCons (dVar 2) (dCons (dVar 7) (dCons (dVar 6) (dNil))))
theorem b_34 {G : Gm} {k : Nat} (B : Tp G) {j_antijoin : Nat} (F_antijoin : FO G j_antijoin "antijoin" 3 PR.g_antijoin) (h_antijoin : j_antijoin ≤ k) : SE G k ⟨(lam 18 0).scope, fun _ => false⟩ N_law (lam 18 0).body fb_34 :=
    e_call F_antijoin (a_cons (e_var 2) (a_cons (e_var 7) (a_cons (e_var 6) (a_nil)))) h_antijoin
abbrev fb_35 : Ev → Mn D := dCl 3 PR.g_intersection (dCons (dVar 2) (dCons (dVar 7) (dCons (dVar 6) (dNil))))
theorem b_35 {G : Gm} {k : Nat} (B : Tp G) {j_intersection : Nat} (F_intersection : FO G j_intersection "intersection" 3 PR.g_intersection) (h_intersection : j_intersection ≤ k) : SE G k ⟨(lam 18 1).scope, fun _ => false⟩ N_law (lam 18 1).body fb_35 :=
    e_call F_intersection (a_cons (e_var 2) (a_cons (e_var 7) (a_cons (e_var 6) (a_nil)))) h_intersection
abbrev fb_36 : Ev → Mn D := dCl 3 PR.g_select (dCons (dVar 2) (dCons (dVar 7) (dCons (dVar 6) (dNil))))
theorem b_36 {G : Gm} {k : Nat} (B : Tp G) {j_select : Nat} (F_select : FO G j_select "select" 3 PR.g_select) (h_select : j_select ≤ k) : SE G k ⟨(lam 25 0).scope, fun _ => false⟩ N_law (lam 25 0).body fb_36 :=
    e_call F_select (a_cons (e_var 2) (a_cons (e_var 7) (a_cons (e_var 6) (a_nil)))) h_select
abbrev fb_37 : Ev → Mn D := dCl 3 PR.g_truth (dCons (dVar 2) (dCons (dVar 6) (dCons (dLit .none) (dNil))))
theorem b_37 {G : Gm} {k : Nat} (B : Tp G) {j_truth : Nat} (F_truth : FO G j_truth "truth" 3 PR.g_truth) (h_truth : j_truth ≤ k) : SE G k ⟨(lam 25 1).scope, fun _ => false⟩ N_law (lam 25 1).body fb_37 :=
    e_call F_truth (a_cons (e_var 2) (a_cons (e_var 6) (a_cons (e_non) (a_nil)))) h_truth
abbrev fb_38 : Ev → Mn D := dCl 6 PR.g_evaluate (dCons (dVar 2) (dCons (dVar 4) (dCons (dVar 7) (dCons (dVar 7) (dCons (dVar 6) (dCons (dLit .none) (dNil)))))))
theorem b_38 {G : Gm} {k : Nat} (B : Tp G) {j_evaluate : Nat} (F_evaluate : FO G j_evaluate "evaluate" 6 PR.g_evaluate) (h_evaluate : j_evaluate ≤ k) : SE G k ⟨(lam 25 2).scope, fun _ => false⟩ N_law (lam 25 2).body fb_38 :=
    e_call F_evaluate (a_cons (e_var 2) (a_cons (e_var 4) (a_cons (e_var 7) (a_cons (e_var 7) (a_cons (e_var 6) (a_cons (e_non) (a_nil))))))) h_evaluate
abbrev fb_39 : Ev → Mn D := dCl 6 PR.g_evaluate (dCons (dVar 2) (dCons (dVar 4) (dCons (dVar 7) (dCons (dVar 7) (dCons (dVar 3) (dCons (dVar 6) (dNil)))))))
theorem b_39 {G : Gm} {k : Nat} (B : Tp G) {j_evaluate : Nat} (F_evaluate : FO G j_evaluate "evaluate" 6 PR.g_evaluate) (h_evaluate : j_evaluate ≤ k) : SE G k ⟨(lam 26 0).scope, fun _ => false⟩ N_law (lam 26 0).body fb_39 :=
    e_call F_evaluate (a_cons (e_var 2) (a_cons (e_var 4) (a_cons (e_var 7) (a_cons (e_var 7) (a_cons (e_var 3) (a_cons (e_var 6) (a_nil))))))) h_evaluate
abbrev fb_40 : Ev → Mn D := dCl 1 PR.g_write_filter (dCons (dVar 6) (dNil))
theorem b_40 {G : Gm} {k : Nat} (B : Tp G) {j_write_filter : Nat} (F_write_filter : FO G j_write_filter "write_filter" 1 PR.g_write_filter) (h_write_filter : j_write_filter ≤ k) : SE G k ⟨(lam 26 1).scope, fun _ => false⟩ N_law (lam 26 1).body fb_40 :=
    e_call F_write_filter (a_cons (e_var 6) (a_nil)) h_write_filter
def fb_lam : List (Ev → Mn D) := [fb_0, fb_1, fb_2, fb_3, fb_4, fb_5, fb_6, fb_7, fb_8, fb_9, fb_10, fb_11, fb_12, fb_13, fb_14, fb_15, fb_16, fb_17, fb_18, fb_19, fb_20, fb_21, fb_22, fb_23, fb_24, fb_25, fb_26, fb_27, fb_28, fb_29, fb_30, fb_31, fb_32, fb_33, fb_34, fb_35, fb_36, fb_37, fb_38, fb_39, fb_40]
abbrev fB (n : Nat) : Ev → Mn D := fb_lam.getD n fun _ => stk
theorem k_lam {G : Gm} {k : Nat} (B : Tp G) {j_union : Nat} (F_union : FO G j_union "union" 3 PR.g_union) (h_union : j_union ≤ k) {j_intersection : Nat} (F_intersection : FO G j_intersection "intersection" 3 PR.g_intersection) (h_intersection : j_intersection ≤ k) {j_difference : Nat} (F_difference : FO G j_difference "difference" 3 PR.g_difference) (h_difference : j_difference ≤ k) {j_select : Nat} (F_select : FO G j_select "select" 3 PR.g_select) (h_select : j_select ≤ k) {j_project : Nat} (F_project : FO G j_project "project" 2 PR.g_project) (h_project : j_project ≤ k) {j_join : Nat} (F_join : FO G j_join "join" 3 PR.g_join) (h_join : j_join ≤ k) {j_semijoin : Nat} (F_semijoin : FO G j_semijoin "semijoin" 3 PR.g_semijoin) (h_semijoin : j_semijoin ≤ k) {j_antijoin : Nat} (F_antijoin : FO G j_antijoin "antijoin" 3 PR.g_antijoin) (h_antijoin : j_antijoin ≤ k) {j_not_in : Nat} (F_not_in : FO G j_not_in "not_in" 3 PR.g_not_in) (h_not_in : j_not_in ≤ k) {j_distinct : Nat} (F_distinct : FO G j_distinct "distinct" 2 PR.g_distinct) (h_distinct : j_distinct ≤ k) {j_total : Nat} (F_total : FO G j_total "total" 2 PR.g_total) (h_total : j_total ≤ k) {j_truth : Nat} (F_truth : FO G j_truth "truth" 3 PR.g_truth) (h_truth : j_truth ≤ k) {j_evaluate : Nat} (F_evaluate : FO G j_evaluate "evaluate" 6 PR.g_evaluate) (h_evaluate : j_evaluate ≤ k) {j_count_at : Nat} (F_count_at : FO G j_count_at "count_at" 3 PR.g_count_at) (h_count_at : j_count_at ≤ k) {j_equal_for_all : Nat} (F_equal_for_all : FO G j_equal_for_all "equal_for_all" 3 PR.g_equal_for_all) (h_equal_for_all : j_equal_for_all ≤ k) {j_least_difference : Nat} (F_least_difference : FO G j_least_difference "least_difference" 3 PR.g_least_difference) (h_least_difference : j_least_difference ≤ k) {j_holds_for : Nat} (F_holds_for : FO G j_holds_for "holds_for" 3 (PR.g_holds_for PR.z0)) (h_holds_for : j_holds_for ≤ k) {j_holds : Nat} (F_holds : FO G j_holds "holds" 2 PR.g_holds) (h_holds : j_holds ≤ k) {j_counterexample : Nat} (F_counterexample : FO G j_counterexample "counterexample" 2 PR.g_counterexample) (h_counterexample : j_counterexample ≤ k) {j_profile : Nat} (F_profile : FO G j_profile "profile" 1 PR.g_profile) (h_profile : j_profile ≤ k) {j_is_table : Nat} (F_is_table : FO G j_is_table "is_table" 2 PT.fTab) (h_is_table : j_is_table ≤ k) {j_write_table : Nat} (F_write_table : FO G j_write_table "write_table" 2 PR.g_write_table) (h_write_table : j_write_table ≤ k) {j_write_filter : Nat} (F_write_filter : FO G j_write_filter "write_filter" 1 PR.g_write_filter) (h_write_filter : j_write_filter ≤ k) : KLs G k N_law T_lam fb_lam :=
    .cons (b_0 B F_union h_union) (.cons (b_1 B F_intersection h_intersection) (.cons (b_2 B F_difference h_difference) (.cons (b_3 B F_select h_select) (.cons (b_4 B F_project h_project) (.cons (b_5 B F_join h_join) (.cons (b_6 B F_semijoin h_semijoin) (.cons (b_7 B F_antijoin h_antijoin) (.cons (b_8 B F_not_in h_not_in) (.cons (b_9 B F_distinct h_distinct) (.cons (b_10 B F_total h_total) (.cons (b_11 B F_truth h_truth) (.cons (b_12 B F_evaluate h_evaluate) (.cons (b_13 B F_count_at h_count_at) (.cons (b_14 B F_equal_for_all h_equal_for_all) (.cons (b_15 B F_least_difference h_least_difference) (.cons (b_16 B F_holds_for h_holds_for) (.cons (b_17 B F_holds h_holds) (.cons (b_18 B F_counterexample h_counterexample) (.cons (b_19 B F_profile h_profile) (.cons (b_20 B F_is_table h_is_table) (.cons (b_21 B F_write_table h_write_table) (.cons (b_22 B F_project h_project) (.cons (b_23 B F_union h_union) (.cons (b_24 B F_select h_select) (.cons (b_25 B F_evaluate h_evaluate) (.cons (b_26 B F_total h_total) (.cons (b_27 B F_write_table h_write_table) (.cons (b_28 B F_distinct h_distinct) (.cons (b_29 B F_join h_join) (.cons (b_30 B F_difference h_difference) (.cons (b_31 B F_not_in h_not_in) (.cons (b_32 B F_evaluate h_evaluate) (.cons (b_33 B F_semijoin h_semijoin) (.cons (b_34 B F_antijoin h_antijoin) (.cons (b_35 B F_intersection h_intersection) (.cons (b_36 B F_select h_select) (.cons (b_37 B F_truth h_truth) (.cons (b_38 B F_evaluate h_evaluate) (.cons (b_39 B F_evaluate h_evaluate) (.cons (b_40 B F_write_filter h_write_filter) (.nil)))))))))))))))))))))))))))))))))))))))))
def c1 (f__law_tree : List Slot → Mn D) (f__law_filter : List Slot → Mn D) (f__law_semantics : List Slot → Mn D) : Ev → Ms :=
    pTgt (.tup [2, 3, 4]) (dTup (dCons (dCl 1 f__law_semantics (dRow 1 (dNil))) (dCons (dCl 2 f__law_filter (dRow 1 (dCons (dLit (.int 1)) (dNil)))) (dCons (dCl 2 f__law_tree (dRow 1 (dCons (dLit (.int 3)) (dNil)))) (dNil)))))
theorem s_1 {G : Gm} {k : Nat} {X0 : Cx} {CS : Addr} {Cs : Nat → Addr} (B : Tp G) (FN : IsFns X0 T_lam) (F7 : Wr7 G CS Cs) (W : FnW G "_law_wrong" st__law_wrong) (hk : 1 ≤ k) (hT : ∀ (n : Nat) (d : LamD), T_lam[n]? = some d → KLam G k sxL N_law d (msF n) (fB n)) {j__law_tree : Nat} {f__law_tree : List Slot → Mn D} (F__law_tree : FO G j__law_tree "_law_tree" 2 f__law_tree) (h__law_tree : j__law_tree ≤ k) {j__law_filter : Nat} {f__law_filter : List Slot → Mn D} (F__law_filter : FO G j__law_filter "_law_filter" 2 f__law_filter) (h__law_filter : j__law_filter ≤ k) {j__law_semantics : Nat} {f__law_semantics : List Slot → Mn D} (F__law_semantics : FO G j__law_semantics "_law_semantics" 1 f__law_semantics) (h__law_semantics : j__law_semantics ≤ k) : SS G (k + 2) sxL N_law (lawAt 1) (c1 f__law_tree f__law_filter f__law_semantics) :=
    P_tgt (e_tup (a_cons (e_call F__law_semantics (a_row 1 (a_nil)) (up2 h__law_semantics)) (a_cons (e_call F__law_filter (a_row 1 (a_cons (e_int) (a_nil))) (up2 h__law_filter)) (a_cons (e_call F__law_tree (a_row 1 (a_cons (e_int) (a_nil))) (up2 h__law_tree)) (a_nil))))) (g_tup [2, 3, 4] (.cons (by rfl) (by rfl) (.cons (by rfl) (by rfl) (.cons (by rfl) (by rfl) (.nil)))))
def c2  : Ev → Ms :=
    pSet 5 (dLst (dCons (dLit .none) (dCons (dTup (dNil)) (dCons (dFn listD (dCons (dVar 2) (dNil))) (dCons (dBin slHi (dVar 2) (dLit (.int 4))) (dCons (dBin addD (dVar 2) (dTup (dCons (dLit (.str "zero")) (dNil)))) (dCons (dBin addD (dTup (dCons (dLit (.str "Bag")) (dNil))) (dBin slLo (dVar 2) (dLit (.int 1)))) (dCons (dBin addD (dBin addD (dBin slHi (dVar 2) (dLit (.int 1))) (dTup (dCons (dLit (.str "both")) (dNil)))) (dBin slLo (dVar 2) (dLit (.int 2)))) (dCons (dBin addD (dBin slHi (dVar 2) (dLit (.int 3))) (dTup (dCons (dLit .none) (dCons (dLit (.str "zero")) (dNil))))) (dCons (dBin addD (dBin slHi (dVar 2) (dLit (.int 4))) (dTup (dCons (dLit (.str "0")) (dNil)))) (dCons (dLit (.str "bag")) (dCons (dRev (dVar 2)) (dNil)))))))))))))
theorem s_2 {G : Gm} {k : Nat} {X0 : Cx} {CS : Addr} {Cs : Nat → Addr} (B : Tp G) (FN : IsFns X0 T_lam) (F7 : Wr7 G CS Cs) (W : FnW G "_law_wrong" st__law_wrong) (hk : 1 ≤ k) (hT : ∀ (n : Nat) (d : LamD), T_lam[n]? = some d → KLam G k sxL N_law d (msF n) (fB n))  : SS G (k + 2) sxL N_law (lawAt 2) (c2 ) :=
    P_set 5 (e_lst (a_cons (e_non) (a_cons (e_tup (a_nil)) (a_cons (e_list (a_cons (e_var 2) (a_nil)) B.b_list) (a_cons (E_slHi (e_var 2) (e_int)) (a_cons (E_add (e_var 2) (e_tup (a_cons (e_str) (a_nil)))) (a_cons (E_add (e_tup (a_cons (e_str) (a_nil))) (E_slLo (e_var 2) (e_int))) (a_cons (E_add (E_add (E_slHi (e_var 2) (e_int)) (e_tup (a_cons (e_str) (a_nil)))) (E_slLo (e_var 2) (e_int))) (a_cons (E_add (E_slHi (e_var 2) (e_int)) (e_tup (a_cons (e_non) (a_cons (e_str) (a_nil))))) (a_cons (E_add (E_slHi (e_var 2) (e_int)) (e_tup (a_cons (e_str) (a_nil)))) (a_cons (e_str) (a_cons (e_rev (e_var 2)) (a_nil)))))))))))))
def c3 (f__law_table : List Slot → Mn D) (f__law_taken : List Slot → Mn D) : Ev → Ms :=
    pTgt (.tup [6, 7]) (dTup (dCons (dBin ixD (dVar 5) (dCl 2 f__law_taken (dRow 1 (dCons (dLit (.int 11)) (dNil))))) (dCons (dCl 3 f__law_table (dRow 1 (dCons (dVar 2) (dCons (dLit (.int 4)) (dNil))))) (dNil))))
theorem s_3 {G : Gm} {k : Nat} {X0 : Cx} {CS : Addr} {Cs : Nat → Addr} (B : Tp G) (FN : IsFns X0 T_lam) (F7 : Wr7 G CS Cs) (W : FnW G "_law_wrong" st__law_wrong) (hk : 1 ≤ k) (hT : ∀ (n : Nat) (d : LamD), T_lam[n]? = some d → KLam G k sxL N_law d (msF n) (fB n)) {j__law_table : Nat} {f__law_table : List Slot → Mn D} (F__law_table : FO G j__law_table "_law_table" 3 f__law_table) (h__law_table : j__law_table ≤ k) {j__law_taken : Nat} {f__law_taken : List Slot → Mn D} (F__law_taken : FO G j__law_taken "_law_taken" 2 f__law_taken) (h__law_taken : j__law_taken ≤ k) : SS G (k + 2) sxL N_law (lawAt 3) (c3 f__law_table f__law_taken) :=
    P_tgt (e_tup (a_cons (E_ix (e_var 5) (e_call F__law_taken (a_row 1 (a_cons (e_int) (a_nil))) (up2 h__law_taken))) (a_cons (e_call F__law_table (a_row 1 (a_cons (e_var 2) (a_cons (e_int) (a_nil)))) (up2 h__law_table)) (a_nil)))) (g_tup [6, 7] (.cons (by rfl) (by rfl) (.cons (by rfl) (by rfl) (.nil))))
def c4  : Ev → Ms :=
    sFns 8 [0, 1, 2, 3, 4]
theorem s_4 {G : Gm} {k : Nat} {X0 : Cx} {CS : Addr} {Cs : Nat → Addr} (B : Tp G) (FN : IsFns X0 T_lam) (F7 : Wr7 G CS Cs) (W : FnW G "_law_wrong" st__law_wrong) (hk : 1 ≤ k) (hT : ∀ (n : Nat) (d : LamD), T_lam[n]? = some d → KLam G k sxL N_law d (msF n) (fB n))  : SS G (k + 2) sxL N_law (lawAt 4) (c4 ) :=
    s_fns FN 8 [0, 1, 2, 3, 4] (ds := [lam 4 0, lam 4 1, lam 4 2, lam 4 3, lam 4 4]) (by kernel_rfl) (oks_all (by decide +kernel)) (by exact size_ok 5) (by kernel_rfl)
def c5  : Ev → Ms :=
    sFnsAdd 8 8 [5, 6, 7, 8, 9]
theorem s_5 {G : Gm} {k : Nat} {X0 : Cx} {CS : Addr} {Cs : Nat → Addr} (B : Tp G) (FN : IsFns X0 T_lam) (F7 : Wr7 G CS Cs) (W : FnW G "_law_wrong" st__law_wrong) (hk : 1 ≤ k) (hT : ∀ (n : Nat) (d : LamD), T_lam[n]? = some d → KLam G k sxL N_law d (msF n) (fB n))  : SS G (k + 2) sxL N_law (lawAt 5) (c5 ) :=
    s_fnsAdd FN 8 8 [5, 6, 7, 8, 9] (ds := [lam 5 0, lam 5 1, lam 5 2, lam 5 3, lam 5 4]) (by kernel_rfl) (oks_all (by decide +kernel)) (by kernel_rfl)
def c6  : Ev → Ms :=
    sFnsAdd 8 8 [10, 11, 12]
theorem s_6 {G : Gm} {k : Nat} {X0 : Cx} {CS : Addr} {Cs : Nat → Addr} (B : Tp G) (FN : IsFns X0 T_lam) (F7 : Wr7 G CS Cs) (W : FnW G "_law_wrong" st__law_wrong) (hk : 1 ≤ k) (hT : ∀ (n : Nat) (d : LamD), T_lam[n]? = some d → KLam G k sxL N_law d (msF n) (fB n))  : SS G (k + 2) sxL N_law (lawAt 6) (c6 ) :=
    s_fnsAdd FN 8 8 [10, 11, 12] (ds := [lam 6 0, lam 6 1, lam 6 2]) (by kernel_rfl) (oks_all (by decide +kernel)) (by kernel_rfl)
def c7  : Ev → Ms :=
    sFnsAdd 8 8 [13, 14]
theorem s_7 {G : Gm} {k : Nat} {X0 : Cx} {CS : Addr} {Cs : Nat → Addr} (B : Tp G) (FN : IsFns X0 T_lam) (F7 : Wr7 G CS Cs) (W : FnW G "_law_wrong" st__law_wrong) (hk : 1 ≤ k) (hT : ∀ (n : Nat) (d : LamD), T_lam[n]? = some d → KLam G k sxL N_law d (msF n) (fB n))  : SS G (k + 2) sxL N_law (lawAt 7) (c7 ) :=
    s_fnsAdd FN 8 8 [13, 14] (ds := [lam 7 0, lam 7 1]) (by kernel_rfl) (oks_all (by decide +kernel)) (by kernel_rfl)
def c8  : Ev → Ms :=
    sFnsAdd 8 8 [15, 16, 17]
theorem s_8 {G : Gm} {k : Nat} {X0 : Cx} {CS : Addr} {Cs : Nat → Addr} (B : Tp G) (FN : IsFns X0 T_lam) (F7 : Wr7 G CS Cs) (W : FnW G "_law_wrong" st__law_wrong) (hk : 1 ≤ k) (hT : ∀ (n : Nat) (d : LamD), T_lam[n]? = some d → KLam G k sxL N_law d (msF n) (fB n))  : SS G (k + 2) sxL N_law (lawAt 8) (c8 ) :=
    s_fnsAdd FN 8 8 [15, 16, 17] (ds := [lam 8 0, lam 8 1, lam 8 2]) (by kernel_rfl) (oks_all (by decide +kernel)) (by kernel_rfl)
def c9  : Ev → Ms :=
    sFnsAdd 8 8 [18, 19]
theorem s_9 {G : Gm} {k : Nat} {X0 : Cx} {CS : Addr} {Cs : Nat → Addr} (B : Tp G) (FN : IsFns X0 T_lam) (F7 : Wr7 G CS Cs) (W : FnW G "_law_wrong" st__law_wrong) (hk : 1 ≤ k) (hT : ∀ (n : Nat) (d : LamD), T_lam[n]? = some d → KLam G k sxL N_law d (msF n) (fB n))  : SS G (k + 2) sxL N_law (lawAt 9) (c9 ) :=
    s_fnsAdd FN 8 8 [18, 19] (ds := [lam 9 0, lam 9 1]) (by kernel_rfl) (oks_all (by decide +kernel)) (by kernel_rfl)
def c10  : Ev → Ms :=
    sFnsAdd 8 8 [20, 21]
theorem s_10 {G : Gm} {k : Nat} {X0 : Cx} {CS : Addr} {Cs : Nat → Addr} (B : Tp G) (FN : IsFns X0 T_lam) (F7 : Wr7 G CS Cs) (W : FnW G "_law_wrong" st__law_wrong) (hk : 1 ≤ k) (hT : ∀ (n : Nat) (d : LamD), T_lam[n]? = some d → KLam G k sxL N_law d (msF n) (fB n))  : SS G (k + 2) sxL N_law (lawAt 10) (c10 ) :=
    s_fnsAdd FN 8 8 [20, 21] (ds := [lam 10 0, lam 10 1]) (by kernel_rfl) (oks_all (by decide +kernel)) (by kernel_rfl)
def c11 (f__law_taken : List Slot → Mn D) : Ev → Ms :=
    pIf (dOr (dCmp neD (dCallK tell7 8 msF fB (dCl 2 f__law_taken (dRow 1 (dCons (dLit (.int 22)) (dNil))))) (dLit (.str "semantics"))) (dOr (dCmp isnD (dCl 1 PT.fSem (dCons (dVar 6) (dNil))) (dLit (.bool false))) (dCmp isnD (dCl 1 PT.fSem (dCons (dVar 2) (dNil))) (dLit (.bool true))))) (pRet (dLit (.bool false))) (sNil)
theorem s_11 {G : Gm} {k : Nat} {X0 : Cx} {CS : Addr} {Cs : Nat → Addr} (B : Tp G) (FN : IsFns X0 T_lam) (F7 : Wr7 G CS Cs) (W : FnW G "_law_wrong" st__law_wrong) (hk : 1 ≤ k) (hT : ∀ (n : Nat) (d : LamD), T_lam[n]? = some d → KLam G k sxL N_law d (msF n) (fB n)) {j_is_semantics : Nat} (F_is_semantics : FO G j_is_semantics "is_semantics" 1 PT.fSem) (h_is_semantics : j_is_semantics ≤ k) {j__law_taken : Nat} {f__law_taken : List Slot → Mn D} (F__law_taken : FO G j__law_taken "_law_taken" 2 f__law_taken) (h__law_taken : j__law_taken ≤ k) : SS G (k + 2) sxL N_law (lawAt 11) (c11 f__law_taken) :=
    P_if (t_w (w_or (T_cmp c_ne (e_callK FN 8 msF fB W sc7 rfl (.inl rfl) (fun X g cdg q hK hmg => gv7 B F7 X g cdg q hK hmg) hT (e_call F__law_taken (a_row 1 (a_cons (e_int) (a_nil))) (up2 h__law_taken)) (fun _ _ => rfl)) (e_str)) (w_or (T_cmp c_isn (e_call F_is_semantics (a_cons (e_var 6) (a_nil)) (up2 h_is_semantics)) (e_bl)) (w_or1 (T_cmp c_isn (e_call F_is_semantics (a_cons (e_var 2) (a_nil)) (up2 h_is_semantics)) (e_bl)))))) (s_one (P_ret (e_bl))) (s_nil)
def c12 (f__law_bad_table : List Slot → Mn D) : Ev → Ms :=
    pSet 6 (dCl 2 f__law_bad_table (dRow 1 (dCons (dVar 2) (dNil))))
theorem s_12 {G : Gm} {k : Nat} {X0 : Cx} {CS : Addr} {Cs : Nat → Addr} (B : Tp G) (FN : IsFns X0 T_lam) (F7 : Wr7 G CS Cs) (W : FnW G "_law_wrong" st__law_wrong) (hk : 1 ≤ k) (hT : ∀ (n : Nat) (d : LamD), T_lam[n]? = some d → KLam G k sxL N_law d (msF n) (fB n)) {j__law_bad_table : Nat} {f__law_bad_table : List Slot → Mn D} (F__law_bad_table : FO G j__law_bad_table "_law_bad_table" 2 f__law_bad_table) (h__law_bad_table : j__law_bad_table ≤ k) : SS G (k + 2) sxL N_law (lawAt 12) (c12 f__law_bad_table) :=
    P_set 6 (e_call F__law_bad_table (a_row 1 (a_cons (e_var 2) (a_nil))) (up2 h__law_bad_table))
def c13  : Ev → Ms :=
    sFns 8 [22, 23, 24]
theorem s_13 {G : Gm} {k : Nat} {X0 : Cx} {CS : Addr} {Cs : Nat → Addr} (B : Tp G) (FN : IsFns X0 T_lam) (F7 : Wr7 G CS Cs) (W : FnW G "_law_wrong" st__law_wrong) (hk : 1 ≤ k) (hT : ∀ (n : Nat) (d : LamD), T_lam[n]? = some d → KLam G k sxL N_law d (msF n) (fB n))  : SS G (k + 2) sxL N_law (lawAt 13) (c13 ) :=
    s_fns FN 8 [22, 23, 24] (ds := [lam 13 0, lam 13 1, lam 13 2]) (by kernel_rfl) (oks_all (by decide +kernel)) (by exact size_ok 3) (by kernel_rfl)
def c14  : Ev → Ms :=
    sFnsAdd 8 8 [25, 26]
theorem s_14 {G : Gm} {k : Nat} {X0 : Cx} {CS : Addr} {Cs : Nat → Addr} (B : Tp G) (FN : IsFns X0 T_lam) (F7 : Wr7 G CS Cs) (W : FnW G "_law_wrong" st__law_wrong) (hk : 1 ≤ k) (hT : ∀ (n : Nat) (d : LamD), T_lam[n]? = some d → KLam G k sxL N_law d (msF n) (fB n))  : SS G (k + 2) sxL N_law (lawAt 14) (c14 ) :=
    s_fnsAdd FN 8 8 [25, 26] (ds := [lam 14 0, lam 14 1]) (by kernel_rfl) (oks_all (by decide +kernel)) (by kernel_rfl)
def c15  : Ev → Ms :=
    sFnsAdd 8 8 [27, 28, 29]
theorem s_15 {G : Gm} {k : Nat} {X0 : Cx} {CS : Addr} {Cs : Nat → Addr} (B : Tp G) (FN : IsFns X0 T_lam) (F7 : Wr7 G CS Cs) (W : FnW G "_law_wrong" st__law_wrong) (hk : 1 ≤ k) (hT : ∀ (n : Nat) (d : LamD), T_lam[n]? = some d → KLam G k sxL N_law d (msF n) (fB n))  : SS G (k + 2) sxL N_law (lawAt 15) (c15 ) :=
    s_fnsAdd FN 8 8 [27, 28, 29] (ds := [lam 15 0, lam 15 1, lam 15 2]) (by kernel_rfl) (oks_all (by decide +kernel)) (by kernel_rfl)
def c16 (f__law_taken : List Slot → Mn D) : Ev → Ms :=
    pIf (dOr (dCmp neD (dCallK tell7 8 msF fB (dCl 2 f__law_taken (dRow 1 (dCons (dLit (.int 8)) (dNil))))) (dTup (dCons (dLit (.str "table")) (dCons (dLit (.int 0)) (dNil))))) (dOr (dCmp isnD (dCl 2 PT.fTab (dCons (dVar 2) (dCons (dVar 6) (dNil)))) (dLit (.bool false))) (dCmp isnD (dCl 2 PT.fTab (dCons (dVar 2) (dCons (dVar 7) (dNil)))) (dLit (.bool true))))) (pRet (dLit (.bool false))) (sNil)
theorem s_16 {G : Gm} {k : Nat} {X0 : Cx} {CS : Addr} {Cs : Nat → Addr} (B : Tp G) (FN : IsFns X0 T_lam) (F7 : Wr7 G CS Cs) (W : FnW G "_law_wrong" st__law_wrong) (hk : 1 ≤ k) (hT : ∀ (n : Nat) (d : LamD), T_lam[n]? = some d → KLam G k sxL N_law d (msF n) (fB n)) {j_is_table : Nat} (F_is_table : FO G j_is_table "is_table" 2 PT.fTab) (h_is_table : j_is_table ≤ k) {j__law_taken : Nat} {f__law_taken : List Slot → Mn D} (F__law_taken : FO G j__law_taken "_law_taken" 2 f__law_taken) (h__law_taken : j__law_taken ≤ k) : SS G (k + 2) sxL N_law (lawAt 16) (c16 f__law_taken) :=
    P_if (t_w (w_or (T_cmp c_ne (e_callK FN 8 msF fB W sc7 rfl (.inl rfl) (fun X g cdg q hK hmg => gv7 B F7 X g cdg q hK hmg) hT (e_call F__law_taken (a_row 1 (a_cons (e_int) (a_nil))) (up2 h__law_taken)) (fun _ _ => rfl)) (e_tup (a_cons (e_str) (a_cons (e_int) (a_nil))))) (w_or (T_cmp c_isn (e_call F_is_table (a_cons (e_var 2) (a_cons (e_var 6) (a_nil))) (up2 h_is_table)) (e_bl)) (w_or1 (T_cmp c_isn (e_call F_is_table (a_cons (e_var 2) (a_cons (e_var 7) (a_nil))) (up2 h_is_table)) (e_bl)))))) (s_one (P_ret (e_bl))) (s_nil)
def c17  : Ev → Ms :=
    sFns 8 [30, 31, 32, 33]
theorem s_17 {G : Gm} {k : Nat} {X0 : Cx} {CS : Addr} {Cs : Nat → Addr} (B : Tp G) (FN : IsFns X0 T_lam) (F7 : Wr7 G CS Cs) (W : FnW G "_law_wrong" st__law_wrong) (hk : 1 ≤ k) (hT : ∀ (n : Nat) (d : LamD), T_lam[n]? = some d → KLam G k sxL N_law d (msF n) (fB n))  : SS G (k + 2) sxL N_law (lawAt 17) (c17 ) :=
    s_fns FN 8 [30, 31, 32, 33] (ds := [lam 17 0, lam 17 1, lam 17 2, lam 17 3]) (by kernel_rfl) (oks_all (by decide +kernel)) (by exact size_ok 4) (by kernel_rfl)
def c18  : Ev → Ms :=
    sFnsAdd 8 8 [34, 35]
theorem s_18 {G : Gm} {k : Nat} {X0 : Cx} {CS : Addr} {Cs : Nat → Addr} (B : Tp G) (FN : IsFns X0 T_lam) (F7 : Wr7 G CS Cs) (W : FnW G "_law_wrong" st__law_wrong) (hk : 1 ≤ k) (hT : ∀ (n : Nat) (d : LamD), T_lam[n]? = some d → KLam G k sxL N_law d (msF n) (fB n))  : SS G (k + 2) sxL N_law (lawAt 18) (c18 ) :=
    s_fnsAdd FN 8 8 [34, 35] (ds := [lam 18 0, lam 18 1]) (by kernel_rfl) (oks_all (by decide +kernel)) (by kernel_rfl)
def c19 (f__law_taken : List Slot → Mn D) : Ev → Ms :=
    pIf (dCmp neD (dCallK tell7 8 msF fB (dCl 2 f__law_taken (dRow 1 (dCons (dLit (.int 6)) (dNil))))) (dTup (dCons (dLit (.str "table")) (dCons (dLit (.int 1)) (dNil))))) (pRet (dLit (.bool false))) (sNil)
theorem s_19 {G : Gm} {k : Nat} {X0 : Cx} {CS : Addr} {Cs : Nat → Addr} (B : Tp G) (FN : IsFns X0 T_lam) (F7 : Wr7 G CS Cs) (W : FnW G "_law_wrong" st__law_wrong) (hk : 1 ≤ k) (hT : ∀ (n : Nat) (d : LamD), T_lam[n]? = some d → KLam G k sxL N_law d (msF n) (fB n)) {j__law_taken : Nat} {f__law_taken : List Slot → Mn D} (F__law_taken : FO G j__law_taken "_law_taken" 2 f__law_taken) (h__law_taken : j__law_taken ≤ k) : SS G (k + 2) sxL N_law (lawAt 19) (c19 f__law_taken) :=
    P_if (T_cmp c_ne (e_callK FN 8 msF fB W sc7 rfl (.inl rfl) (fun X g cdg q hK hmg => gv7 B F7 X g cdg q hK hmg) hT (e_call F__law_taken (a_row 1 (a_cons (e_int) (a_nil))) (up2 h__law_taken)) (fun _ _ => rfl)) (e_tup (a_cons (e_str) (a_cons (e_int) (a_nil))))) (s_one (P_ret (e_bl))) (s_nil)
def c20  : Ev → Ms :=
    pSet 9 (dTup (dCons (dLit (.str "same")) (dNil)))
theorem s_20 {G : Gm} {k : Nat} {X0 : Cx} {CS : Addr} {Cs : Nat → Addr} (B : Tp G) (FN : IsFns X0 T_lam) (F7 : Wr7 G CS Cs) (W : FnW G "_law_wrong" st__law_wrong) (hk : 1 ≤ k) (hT : ∀ (n : Nat) (d : LamD), T_lam[n]? = some d → KLam G k sxL N_law d (msF n) (fB n))  : SS G (k + 2) sxL N_law (lawAt 20) (c20 ) :=
    P_set 9 (e_tup (a_cons (e_str) (a_nil)))
def c21  : Ev → Ms :=
    sFor false (dRng rng1 (dCons (dLit (.int 20)) (dNil))) (.name 10) (pSet 9 (dTup (dCons (dLit (.str "not")) (dCons (dVar 9) (dNil)))))
theorem s_21 {G : Gm} {k : Nat} {X0 : Cx} {CS : Addr} {Cs : Nat → Addr} (B : Tp G) (FN : IsFns X0 T_lam) (F7 : Wr7 G CS Cs) (W : FnW G "_law_wrong" st__law_wrong) (hk : 1 ≤ k) (hT : ∀ (n : Nat) (d : LamD), T_lam[n]? = some d → KLam G k sxL N_law d (msF n) (fB n))  : SS G (k + 2) sxL N_law (lawAt 21) (c21 ) :=
    s_for false (i_range1 (a_cons (e_int) (a_nil)) B.b_range) (g_name 10) (s_one (P_set 9 (e_tup (a_cons (e_str) (a_cons (e_var 9) (a_nil))))))
def c22  : Ev → Ms :=
    pSet 5 (dLst (dCons (dLit .none) (dCons (dTup (dNil)) (dCons (dTup (dCons (dLit (.str "less")) (dCons (dLit (.int 0)) (dNil)))) (dCons (dTup (dCons (dLit (.str "less")) (dCons (dLit (.int 2)) (dCons (dLit (.int 0)) (dNil))))) (dCons (dTup (dCons (dLit (.str "equal")) (dCons (dLit (.int 0)) (dCons (dLit (.int 10)) (dNil))))) (dCons (dTup (dCons (dLit (.str "equal")) (dCons (dLit .none) (dCons (dLit (.int 0)) (dNil))))) (dCons (dTup (dCons (dLit (.str "same")) (dCons (dLit (.int 0)) (dNil)))) (dCons (dTup (dCons (dLit (.str "null")) (dNil))) (dCons (dTup (dCons (dLit (.str "null")) (dCons (dLit (.int 2)) (dNil)))) (dCons (dTup (dCons (dLit (.str "not")) (dNil))) (dCons (dTup (dCons (dLit (.str "not")) (dCons (dVar 3) (dCons (dVar 3) (dNil))))) (dCons (dTup (dCons (dLit (.str "and")) (dCons (dVar 3) (dNil)))) (dCons (dVar 9) (dNil)))))))))))))))
theorem s_22 {G : Gm} {k : Nat} {X0 : Cx} {CS : Addr} {Cs : Nat → Addr} (B : Tp G) (FN : IsFns X0 T_lam) (F7 : Wr7 G CS Cs) (W : FnW G "_law_wrong" st__law_wrong) (hk : 1 ≤ k) (hT : ∀ (n : Nat) (d : LamD), T_lam[n]? = some d → KLam G k sxL N_law d (msF n) (fB n))  : SS G (k + 2) sxL N_law (lawAt 22) (c22 ) :=
    P_set 5 (e_lst (a_cons (e_non) (a_cons (e_tup (a_nil)) (a_cons (e_tup (a_cons (e_str) (a_cons (e_int) (a_nil)))) (a_cons (e_tup (a_cons (e_str) (a_cons (e_int) (a_cons (e_int) (a_nil))))) (a_cons (e_tup (a_cons (e_str) (a_cons (e_int) (a_cons (e_int) (a_nil))))) (a_cons (e_tup (a_cons (e_str) (a_cons (e_non) (a_cons (e_int) (a_nil))))) (a_cons (e_tup (a_cons (e_str) (a_cons (e_int) (a_nil)))) (a_cons (e_tup (a_cons (e_str) (a_nil))) (a_cons (e_tup (a_cons (e_str) (a_cons (e_int) (a_nil)))) (a_cons (e_tup (a_cons (e_str) (a_nil))) (a_cons (e_tup (a_cons (e_str) (a_cons (e_var 3) (a_cons (e_var 3) (a_nil))))) (a_cons (e_tup (a_cons (e_str) (a_cons (e_var 3) (a_nil)))) (a_cons (e_var 9) (a_nil)))))))))))))))
def c23  : Ev → Ms :=
    pSet 5 (dBin addD (dVar 5) (dLst (dCons (dTup (dCons (dLit (.str "or")) (dCons (dVar 3) (dCons (dLit .none) (dNil))))) (dCons (dLst (dCons (dLit (.str "same")) (dNil))) (dCons (dLit (.str "same")) (dCons (dTup (dCons (dLit (.str "Same")) (dNil))) (dCons (dTup (dCons (dLit (.str "less")) (dCons (dLit (.bool true)) (dCons (dLit (.int 0)) (dNil))))) (dCons (dTup (dCons (dLit (.str "p")) (dNil))) (dCons (dTup (dCons (dLit (.int 0)) (dNil))) (dCons (dTup (dCons (dLit (.str "not")) (dCons (dTup (dCons (dLit (.str "p")) (dNil))) (dNil)))) (dNil)))))))))))
theorem s_23 {G : Gm} {k : Nat} {X0 : Cx} {CS : Addr} {Cs : Nat → Addr} (B : Tp G) (FN : IsFns X0 T_lam) (F7 : Wr7 G CS Cs) (W : FnW G "_law_wrong" st__law_wrong) (hk : 1 ≤ k) (hT : ∀ (n : Nat) (d : LamD), T_lam[n]? = some d → KLam G k sxL N_law d (msF n) (fB n))  : SS G (k + 2) sxL N_law (lawAt 23) (c23 ) :=
    P_set 5 (E_add (e_var 5) (e_lst (a_cons (e_tup (a_cons (e_str) (a_cons (e_var 3) (a_cons (e_non) (a_nil))))) (a_cons (e_lst (a_cons (e_str) (a_nil))) (a_cons (e_str) (a_cons (e_tup (a_cons (e_str) (a_nil))) (a_cons (e_tup (a_cons (e_str) (a_cons (e_bl) (a_cons (e_int) (a_nil))))) (a_cons (e_tup (a_cons (e_str) (a_nil))) (a_cons (e_tup (a_cons (e_int) (a_nil))) (a_cons (e_tup (a_cons (e_str) (a_cons (e_tup (a_cons (e_str) (a_nil))) (a_nil)))) (a_nil)))))))))))
def c24 (f__law_taken : List Slot → Mn D) : Ev → Ms :=
    pSet 6 (dBin ixD (dVar 5) (dCl 2 f__law_taken (dRow 1 (dCons (dLit (.int 21)) (dNil)))))
theorem s_24 {G : Gm} {k : Nat} {X0 : Cx} {CS : Addr} {Cs : Nat → Addr} (B : Tp G) (FN : IsFns X0 T_lam) (F7 : Wr7 G CS Cs) (W : FnW G "_law_wrong" st__law_wrong) (hk : 1 ≤ k) (hT : ∀ (n : Nat) (d : LamD), T_lam[n]? = some d → KLam G k sxL N_law d (msF n) (fB n)) {j__law_taken : Nat} {f__law_taken : List Slot → Mn D} (F__law_taken : FO G j__law_taken "_law_taken" 2 f__law_taken) (h__law_taken : j__law_taken ≤ k) : SS G (k + 2) sxL N_law (lawAt 24) (c24 f__law_taken) :=
    P_set 6 (E_ix (e_var 5) (e_call F__law_taken (a_row 1 (a_cons (e_int) (a_nil))) (up2 h__law_taken)))
def c25  : Ev → Ms :=
    sFns 8 [36, 37, 38]
theorem s_25 {G : Gm} {k : Nat} {X0 : Cx} {CS : Addr} {Cs : Nat → Addr} (B : Tp G) (FN : IsFns X0 T_lam) (F7 : Wr7 G CS Cs) (W : FnW G "_law_wrong" st__law_wrong) (hk : 1 ≤ k) (hT : ∀ (n : Nat) (d : LamD), T_lam[n]? = some d → KLam G k sxL N_law d (msF n) (fB n))  : SS G (k + 2) sxL N_law (lawAt 25) (c25 ) :=
    s_fns FN 8 [36, 37, 38] (ds := [lam 25 0, lam 25 1, lam 25 2]) (by kernel_rfl) (oks_all (by decide +kernel)) (by exact size_ok 3) (by kernel_rfl)
def c26  : Ev → Ms :=
    sFnsAdd 8 8 [39, 40]
theorem s_26 {G : Gm} {k : Nat} {X0 : Cx} {CS : Addr} {Cs : Nat → Addr} (B : Tp G) (FN : IsFns X0 T_lam) (F7 : Wr7 G CS Cs) (W : FnW G "_law_wrong" st__law_wrong) (hk : 1 ≤ k) (hT : ∀ (n : Nat) (d : LamD), T_lam[n]? = some d → KLam G k sxL N_law d (msF n) (fB n))  : SS G (k + 2) sxL N_law (lawAt 26) (c26 ) :=
    s_fnsAdd FN 8 8 [39, 40] (ds := [lam 26 0, lam 26 1]) (by kernel_rfl) (oks_all (by decide +kernel)) (by kernel_rfl)
def c27 (f__law_taken : List Slot → Mn D) : Ev → Ms :=
    pIf (dCmp neD (dCallK tell7 8 msF fB (dCl 2 f__law_taken (dRow 1 (dCons (dLit (.int 5)) (dNil))))) (dLit (.str "filter"))) (pRet (dLit (.bool false))) (sNil)
theorem s_27 {G : Gm} {k : Nat} {X0 : Cx} {CS : Addr} {Cs : Nat → Addr} (B : Tp G) (FN : IsFns X0 T_lam) (F7 : Wr7 G CS Cs) (W : FnW G "_law_wrong" st__law_wrong) (hk : 1 ≤ k) (hT : ∀ (n : Nat) (d : LamD), T_lam[n]? = some d → KLam G k sxL N_law d (msF n) (fB n)) {j__law_taken : Nat} {f__law_taken : List Slot → Mn D} (F__law_taken : FO G j__law_taken "_law_taken" 2 f__law_taken) (h__law_taken : j__law_taken ≤ k) : SS G (k + 2) sxL N_law (lawAt 27) (c27 f__law_taken) :=
    P_if (T_cmp c_ne (e_callK FN 8 msF fB W sc7 rfl (.inl rfl) (fun X g cdg q hK hmg => gv7 B F7 X g cdg q hK hmg) hT (e_call F__law_taken (a_row 1 (a_cons (e_int) (a_nil))) (up2 h__law_taken)) (fun _ _ => rfl)) (e_str)) (s_one (P_ret (e_bl))) (s_nil)
def c28  : Ev → Ms :=
    pRet (dAndV (dCmpE isD (dCl 1 PT.fIsF (dCons (dVar 6) (dNil))) (dLit (.bool false))) (dCmpE isD (dCl 1 PT.fIsF (dCons (dBin ixD (dVar 9) (dLit (.int 1))) (dNil))) (dLit (.bool true))))
theorem s_28 {G : Gm} {k : Nat} {X0 : Cx} {CS : Addr} {Cs : Nat → Addr} (B : Tp G) (FN : IsFns X0 T_lam) (F7 : Wr7 G CS Cs) (W : FnW G "_law_wrong" st__law_wrong) (hk : 1 ≤ k) (hT : ∀ (n : Nat) (d : LamD), T_lam[n]? = some d → KLam G k sxL N_law d (msF n) (fB n)) {j_is_filter : Nat} (F_is_filter : FO G j_is_filter "is_filter" 1 PT.fIsF) (h_is_filter : j_is_filter ≤ k) : SS G (k + 2) sxL N_law (lawAt 28) (c28 ) :=
    P_ret (e_and (E_cmp c_is (e_call F_is_filter (a_cons (e_var 6) (a_nil)) (up2 h_is_filter)) (e_bl)) (e_or1 (E_cmp c_is (e_call F_is_filter (a_cons (E_ix (e_var 9) (e_int)) (a_nil)) (up2 h_is_filter)) (e_bl))))
end K09
noncomputable section
namespace K09
open PySem PySem.Spec PyProof.Rows L2 DL LW PW
variable [Xk]
theorem cmul2 (i : Int) : CMul i 48271 := .inr ⟨by decide, by decide⟩
theorem dat1 {K : PySem.W.Frag} {M : Addr → Prop} {r : Rw} {H : Hp} {vs : List V} {m : Int} (h : ArgL K M r H vs [.row, .dat (.int m)]) : vs = [.ref r.a, .int m] := by
  cases h with
  | row h => cases h with
    | dat d h => cases h; cases d; rfl
theorem tkF_some {ss : List Slot} {rs rs' : RS} {o : Out D} (h : tkF ss rs = some (o, rs')) : ∃ m : Int, ss = [.row, .dat (.int m)] ∧ 0 < m ∧ m < 1073741824 ∧ o = .val (.int (tk m rs).1) ∧ rs' = (tk m rs).2 := by
  unfold tkF at h
  split at h
  · rename_i m
    split at h
    · rename_i c
      cases h
      exact ⟨m, rfl, c.1, c.2, rfl, rfl⟩
    · cases h
  · cases h
theorem upd_upd' {H : Hp} {a : Addr} {o o' : HO} : upd (upd H a o) a o' = upd H a o' := by
  funext b
  by_cases h : b = a
  · subst h; rw [upd_same, upd_same]
  · rw [upd_ne h, upd_ne h, upd_ne h]
theorem fo_taken {G : Gm} (h : HasF G "_law_taken" st__law_taken P__law_taken) (B : Tp G) : FO G 1 "_law_taken" 2 tkF := by
  obtain ⟨f, fd, hmg, F, bd⟩ := h.ex
  refine ⟨f, fd, _, hmg, F.kp, bd, rfl, F.okX sc__law_taken (fun vs H Q E h => h.1) fun cdv A outer s H vs Q E hr hsp => ?_⟩
  obtain ⟨hn, M, r, ss, rs, mr, ml, row, ar, o, rs', e, w⟩ := hsp
  obtain ⟨m, rfl, h0, h1, rfl, rfl⟩ := tkF_some e
  obtain rfl := dat1 ar
  refine ⟨_, pss_cons (ps_if (pt_cmpR op_gt (pe_ix ix_list (pv 0) pe_int (fun _ _ => rfl)) pe_int (nomark _))
      (pss_cons (ps_set (i := 3) sc__law_taken.nd rfl (Or.inl rfl) (pe_op op_mod (pe_callTy call_int1 rfl B.b_int PyProof.Rows.boot_int (pa_cons (pe_ix ix_list (pv 0) pe_int (fun _ _ => rfl)) pa_nil)) (pv 1)))
      (pss_cons (ps_asg (pe_op op_fdiv (pe_ix ix_list (pv 0) pe_int (fun _ _ => rfl)) (pv 1)) (pg_sub (pv 0) pe_int set_list))
      (pss_one (ps_ret (pv 3))))) pss_nil)
    (pss_cons (ps_asg (pe_op op_add (pe_ix ix_list (pv 0) pe_int (fun _ _ => rfl)) pe_int) (pg_sub (pv 0) pe_int set_list))
    (pss_cons (ps_if (pt_cmpR op_gt (pe_ix ix_list (pv 0) pe_int (fun _ _ => rfl)) (pe_callB call_len_seq rfl B.b_len PySem.boot_len (pa_cons (pe_ix ix_list (pv 0) pe_int (fun _ _ => rfl)) pa_nil)) (nomark _))
      (pss_cons (ps_asg (pe_op op_mod (pe_callTy call_int1 rfl B.b_int PyProof.Rows.boot_int (pa_cons (pe_op op_add (pe_op op_mul (pe_ix ix_list (pv 0) pe_int (fun _ _ => rfl)) pe_int) pe_int) pa_nil)) pe_int) (pg_sub (pv 0) pe_int set_list))
      (pss_one (ps_ret (pe_op op_mod (pe_callTy call_int1 rfl B.b_int PyProof.Rows.boot_int (pa_cons (pe_op op_fdiv (pe_ix ix_list (pv 0) pe_int (fun _ _ => rfl)) pe_int) pa_nil)) (pv 1))))) pss_nil)
    (pss_cons (ps_set (i := 2) sc__law_taken.nd rfl (Or.inl rfl) (pe_ix ix_list (pe_ix ix_list (pv 0) pe_int (fun _ _ => rfl)) (pe_op op_sub (pe_ix ix_list (pv 0) pe_int (fun _ _ => rfl)) pe_int) (fun _ _ => rfl)))
    (pss_cons (ps_asg (pe_op op_mod (pe_callTy call_int1 rfl B.b_int PyProof.Rows.boot_int (pa_cons (pe_op op_add (pe_op op_add (pe_op op_mul (pe_ix ix_list (pv 0) pe_int (fun _ _ => rfl)) pe_int) (pv 2)) pe_int) pa_nil)) pe_int) (pg_sub (pv 0) pe_int set_list))
    (pss_cons (ps_if (pt_cmpR op_ge (pv 2) (pe_op op_pow pe_int pe_int) (nomark _))
      (pss_one (ps_asg (pe_op op_fdiv (pv 2) (pv 1)) (pg_sub (pv 0) pe_int set_list))) pss_nil)
    (pss_one (ps_ret (pe_op op_mod (pe_callTy call_int1 rfl B.b_int PyProof.Rows.boot_int (pa_cons (pv 2) pa_nil)) (pv 1))))))))), ?_⟩
  have hR : H r.a = some (.lst (rowV r rs)) := row.1.1
  have en : rs.ns = r.ns := row.1.2.1
  have hS : SqL G.K H r.sc (r.ns.map V.int) := row.2.sq
  have fin : ∀ (rs2 : RS) (d : Int) (H' : Hp), tk m rs = (d, rs2) → rs2.ns = rs.ns → rs2.x = rs.x → H' = upd H r.a (.lst (rowV r rs2)) → Q (.int d) H' := fun rs2 d H' e1 e2 e4 e3 => by
    subst e3
    rw [e1] at w
    exact w _ stp_upd (row_put mr row e2 e4) _ (.int d)
  refine ⟨_, rfl, r.a, _, _, _, rfl, rfl, .of hR, rfl, _, _, rfl, rfl, _, rfl, ?_⟩
  refine ite2 (fun c => ?_) (fun c => ?_)
  · have c' : 0 < rs.c := of_decide_eq_true c
    refine ⟨_, rfl, r.a, _, _, _, rfl, rfl, .of hR, rfl, .inl ⟨_, rfl, _, rfl, _, _, rfl, rfl, h0, ?_⟩⟩
    refine ⟨_, rfl, r.a, _, _, _, rfl, rfl, .of hR, rfl, _, rfl, _, _, rfl, rfl, ⟨h0, h1⟩, _, rfl, r.a, _, _, 3, rfl, rfl, hR, rfl, ?_⟩
    exact ⟨_, rfl, fin { rs with c := rs.c / m } _ _ (by unfold tk; rw [if_pos c']) rfl rfl rfl⟩
  · have c' : ¬ 0 < rs.c := of_decide_eq_false (Bool.eq_false_iff.mpr c)
    -- row[1] = row[1] + 1
    refine ⟨_, rfl, r.a, _, _, _, rfl, rfl, .of hR, rfl, _, _, rfl, rfl, _, rfl, r.a, _, _, 1, rfl, rfl, hR, rfl, ?_⟩
    have hR1 : upd H r.a (.lst [.ref r.sc, .int ((rs.a : Int) + 1), .int rs.b, .int rs.c]) r.a = some (.lst [.ref r.sc, .int ((rs.a : Int) + 1), .int rs.b, .int rs.c]) := upd_same
    have hS1 : ∀ xs, SqL G.K (upd H r.a (.lst xs)) r.sc (r.ns.map V.int) := fun xs => (sqlm_kp row.2 (stp_upd.kp mr)).sq
    refine ⟨_, rfl, r.a, _, _, _, rfl, rfl, .of hR1, rfl, _, rfl, r.a, _, _, _, rfl, rfl, .of hR1, rfl, r.sc, _, rfl, .inl (hS1 _), _, _, rfl, rfl, _, rfl, ?_⟩
    refine ite2 (fun d => ?_) (fun d => ?_)
    · have d' : ((r.ns.map V.int).length : Int) < (rs.a : Int) + 1 := of_decide_eq_true d
      rw [List.length_map] at d'
      refine ⟨_, rfl, r.a, _, _, _, rfl, rfl, .of hR1, rfl, _, _, rfl, rfl, cmul2 _, _, _, rfl, rfl, .inl ⟨_, rfl, _, _, rfl, rfl, (by show (0 : Int) < 2147483647; decide), _, rfl, r.a, _, _, 2, rfl, rfl, hR1, rfl, ?_⟩⟩
      rw [upd_upd']
      refine ⟨_, rfl, r.a, _, _, _, rfl, rfl, .of upd_same, rfl, _, _, rfl, rfl, ⟨by decide, by decide⟩, .inl ⟨_, rfl, _, rfl, _, _, rfl, rfl, h0, ?_⟩⟩
      exact fin { rs with a := rs.a + 1, b := (rs.b * 48271 + 11) % 2147483647 } _ _ (by unfold tk; rw [if_neg c', if_pos (by rw [en]; omega)]) rfl rfl rfl
    · have d' : ¬ ((r.ns.map V.int).length : Int) < (rs.a : Int) + 1 := of_decide_eq_false (Bool.eq_false_iff.mpr d)
      rw [List.length_map] at d'
      have hcell : atI (r.ns.map V.int) ((rs.a : Int) + 1 - 1) = some (.int (rs.ns.getD rs.a 0)) := by
        rw [show ((rs.a : Int) + 1 - 1) = ((rs.a : Nat) : Int) by omega]
        refine atI_nat ?_
        have hl : rs.a < r.ns.length := by omega
        rw [List.getElem?_map, List.getElem?_eq_getElem hl, en]
        simp [List.getD_eq_getElem?_getD, List.getElem?_eq_getElem hl]
      refine ⟨_, rfl, r.a, _, _, _, rfl, rfl, .of hR1, rfl, _, rfl, r.a, _, _, _, rfl, rfl, .of hR1, rfl, _, _, rfl, rfl, r.sc, _, _, _, rfl, rfl, hS1 _, hcell, ?_⟩
      refine ⟨_, rfl, r.a, _, _, _, rfl, rfl, .of hR1, rfl, _, _, rfl, rfl, cmul2 _, _, rfl, _, _, rfl, rfl, _, _, rfl, rfl, .inl ⟨_, rfl, _, _, rfl, rfl, (by show (0 : Int) < 2147483647; decide), _, rfl, r.a, _, _, 2, rfl, rfl, hR1, rfl, ?_⟩⟩
      rw [upd_upd']
      refine ⟨_, rfl, _, _, rfl, rfl, ⟨by decide, by decide, by decide⟩, _, _, rfl, rfl, _, rfl, ?_⟩
      refine ite2 (fun z => ?_) (fun z => ?_)
      · have z' : (10 : Int) ^ 18 ≤ rs.ns.getD rs.a 0 := of_decide_eq_true z
        refine ⟨_, rfl, _, rfl, _, _, rfl, rfl, ⟨h0, h1⟩, _, rfl, r.a, _, _, 3, rfl, rfl, upd_same, rfl, ?_⟩
        rw [upd_upd']
        refine ⟨_, rfl, .inl ⟨_, rfl, _, rfl, _, _, rfl, rfl, h0, ?_⟩⟩
        exact fin { rs with a := rs.a + 1, b := (rs.b * 48271 + rs.ns.getD rs.a 0 + 11) % 2147483647, c := rs.ns.getD rs.a 0 / m } _ _ (by unfold tk; rw [if_neg c', if_neg (by rw [en]; omega)]; dsimp only; rw [if_pos z']) rfl rfl rfl
      · have z' : ¬ (10 : Int) ^ 18 ≤ rs.ns.getD rs.a 0 := of_decide_eq_false (Bool.eq_false_iff.mpr z)
        refine ⟨_, rfl, .inl ⟨_, rfl, _, rfl, _, _, rfl, rfl, h0, ?_⟩⟩
        exact fin { rs with a := rs.a + 1, b := (rs.b * 48271 + rs.ns.getD rs.a 0 + 11) % 2147483647 } _ _ (by unfold tk; rw [if_neg c', if_neg (by rw [en]; omega)]; dsimp only; rw [if_neg z']) rfl rfl rfl
structure Df (G : Gm) : Prop where
  h_is_semantics : HasF G "is_semantics" st_is_semantics P_is_semantics
  h_check_semantics : HasF G "check_semantics" st_check_semantics P_check_semantics
  h_is_integer_to : HasF G "is_integer_to" st_is_integer_to P_is_integer_to
  h_is_row : HasF G "is_row" st_is_row P_is_row
  h__is_value_under : HasF G "_is_value_under" st__is_value_under P__is_value_under
  h_value_order : HasF G "value_order" st_value_order P_value_order
  h_row_order : HasF G "row_order" st_row_order P_row_order
  h_is_table : HasF G "is_table" st_is_table P_is_table
  h__is_ascending : HasF G "_is_ascending" st__is_ascending P__is_ascending
  h_check_tables : HasF G "check_tables" st_check_tables P_check_tables
  h_tuples_of : HasF G "tuples_of" st_tuples_of P_tuples_of
  h__has_form : HasF G "_has_form" st__has_form P__has_form
  h__fits : HasF G "_fits" st__fits P__fits
  h__inner_tuples : HasF G "_inner_tuples" st__inner_tuples P__inner_tuples
  h_is_filter : HasF G "is_filter" st_is_filter P_is_filter
  h_check_filter : HasF G "check_filter" st_check_filter P_check_filter
  h_truth : HasF G "truth" st_truth P_truth
  h_truth_of : HasF G "truth_of" st_truth_of P_truth_of
  h_each_once : HasF G "each_once" st_each_once P_each_once
  h_union_of : HasF G "union_of" st_union_of P_union_of
  h_intersection_of : HasF G "intersection_of" st_intersection_of P_intersection_of
  h_difference_of : HasF G "difference_of" st_difference_of P_difference_of
  h_selection_of : HasF G "selection_of" st_selection_of P_selection_of
  h_projection_of : HasF G "projection_of" st_projection_of P_projection_of
  h_join_of : HasF G "join_of" st_join_of P_join_of
  h_semijoin_of : HasF G "semijoin_of" st_semijoin_of P_semijoin_of
  h_antijoin_of : HasF G "antijoin_of" st_antijoin_of P_antijoin_of
  h_not_in_of : HasF G "not_in_of" st_not_in_of P_not_in_of
  h_total_of : HasF G "total_of" st_total_of P_total_of
  h_union : HasF G "union" st_union P_union
  h_intersection : HasF G "intersection" st_intersection P_intersection
  h_difference : HasF G "difference" st_difference P_difference
  h_select : HasF G "select" st_select P_select
  h_project : HasF G "project" st_project P_project
  h_join : HasF G "join" st_join P_join
  h_semijoin : HasF G "semijoin" st_semijoin P_semijoin
  h_antijoin : HasF G "antijoin" st_antijoin P_antijoin
  h_not_in : HasF G "not_in" st_not_in P_not_in
  h_distinct : HasF G "distinct" st_distinct P_distinct
  h_total : HasF G "total" st_total P_total
  h_identities : HasF G "identities" st_identities P_identities
  h_is_identity : HasF G "is_identity" st_is_identity P_is_identity
  h_check_identity : HasF G "check_identity" st_check_identity P_check_identity
  h_shape : HasF G "shape" st_shape P_shape
  h__names_of : HasF G "_names_of" st__names_of P__names_of
  h_holds_for : HasF G "holds_for" st_holds_for P_holds_for
  h__are_arguments : HasF G "_are_arguments" st__are_arguments P__are_arguments
  h__value_of : HasF G "_value_of" st__value_of P__value_of
  h_holds : HasF G "holds" st_holds P_holds
  h_counterexample : HasF G "counterexample" st_counterexample P_counterexample
  h__broken_by : HasF G "_broken_by" st__broken_by P__broken_by
  h__argument : HasF G "_argument" st__argument P__argument
  h_is_expression : HasF G "is_expression" st_is_expression P_is_expression
  h__leaves_among : HasF G "_leaves_among" st__leaves_among P__leaves_among
  h__check_expressions : HasF G "_check_expressions" st__check_expressions P__check_expressions
  h_evaluate : HasF G "evaluate" st_evaluate P_evaluate
  h_count_at : HasF G "count_at" st_count_at P_count_at
  h__is_case : HasF G "_is_case" st__is_case P__is_case
  h__is_truth : HasF G "_is_truth" st__is_truth P__is_truth
  h__count_of : HasF G "_count_of" st__count_of P__count_of
  h_equal_for_all : HasF G "equal_for_all" st_equal_for_all P_equal_for_all
  h_least_difference : HasF G "least_difference" st_least_difference P_least_difference
  h__greatest_needed : HasF G "_greatest_needed" st__greatest_needed P__greatest_needed
  h__cases : HasF G "_cases" st__cases P__cases
  h_profile : HasF G "profile" st_profile P_profile
  h_value_text : HasF G "value_text" st_value_text P_value_text
  h_write_table : HasF G "write_table" st_write_table P_write_table
  h_write_filter : HasF G "write_filter" st_write_filter P_write_filter
  h__text_of : HasF G "_text_of" st__text_of P__text_of
  h__law_taken : HasF G "_law_taken" st__law_taken P__law_taken
  h__law_pick : HasF G "_law_pick" st__law_pick P__law_pick
  h__law_semantics : HasF G "_law_semantics" st__law_semantics P__law_semantics
  h__law_rank : HasF G "_law_rank" st__law_rank P__law_rank
  h__law_sorted : HasF G "_law_sorted" st__law_sorted P__law_sorted
  h__law_value : HasF G "_law_value" st__law_value P__law_value
  h__law_table : HasF G "_law_table" st__law_table P__law_table
  h__law_filter : HasF G "_law_filter" st__law_filter P__law_filter
  h__law_condition : HasF G "_law_condition" st__law_condition P__law_condition
  h__law_expression : HasF G "_law_expression" st__law_expression P__law_expression
  h__law_tuples : HasF G "_law_tuples" st__law_tuples P__law_tuples
  h__law_tree : HasF G "_law_tree" st__law_tree P__law_tree
  h__law_wrong : HasF G "_law_wrong" st__law_wrong P__law_wrong
  h__law_bad_table : HasF G "_law_bad_table" st__law_bad_table P__law_bad_table
section
variable {G : Gm}
theorem cnd_pos (x : Cnd) : 1 ≤ x.size := by cases x <;> simp [Cnd.size]
theorem cf_is_integer_to (B : Tp G) (h : Df G) : FO G 1 "is_integer_to" 2 PT.fInt := fo_has (k := 0) h.h_is_integer_to sc_is_integer_to (s_is_integer_to B)
theorem cf__is_value_under (B : Tp G) (h : Df G) : FO G 2 "_is_value_under" 2 PT.fVu := fo_has (k := 1) h.h__is_value_under sc__is_value_under (s__is_value_under B (cf_is_integer_to B h) (by omega))
theorem cf_is_row (B : Tp G) (h : Df G) : FO G 3 "is_row" 2 PT.fRow := fo_has (k := 2) h.h_is_row sc_is_row (s_is_row B (cf__is_value_under B h) (by omega))
theorem cf_is_semantics (B : Tp G) (h : Df G) : FO G 2 "is_semantics" 1 PT.fSem := fo_has (k := 1) h.h_is_semantics sc_is_semantics (s_is_semantics B (by omega))
theorem cf_check_semantics (B : Tp G) (h : Df G) : FO G 3 "check_semantics" 1 PT.fChkS := fo_has (k := 2) h.h_check_semantics sc_check_semantics (s_check_semantics B (cf_is_semantics B h) (by omega))
theorem cf_value_order (B : Tp G) (h : Df G) : FO G 1 "value_order" 1 PT.fVo := fo_has (k := 0) h.h_value_order sc_value_order (s_value_order)
theorem cf_row_order (B : Tp G) (h : Df G) : FO G 2 "row_order" 1 PT.fOrd := fo_has (k := 1) h.h_row_order sc_row_order (s_row_order B (cf_value_order B h) (by omega))
theorem cf__is_ascending (B : Tp G) (h : Df G) : FO G 3 "_is_ascending" 2 PT.fAsc := fo_has (k := 2) h.h__is_ascending sc__is_ascending (s__is_ascending B (cf_row_order B h) (by omega) (by omega))
theorem cf_is_table (B : Tp G) (h : Df G) : FO G 4 "is_table" 2 PT.fTab := fo_has (k := 3) h.h_is_table sc_is_table (s_is_table B (cf_check_semantics B h) (by omega) (cf_is_row B h) (by omega) (cf__is_ascending B h) (by omega))
theorem cf__fits (B : Tp G) (h : Df G) : FO G 2 "_fits" 2 PT.fFits := fo_has (k := 1) h.h__fits sc__fits (s__fits B (cf_is_integer_to B h) (by omega))
theorem cf__has_form (B : Tp G) (h : Df G) : FO G 3 "_has_form" 2 PT.fForm := fo_has (k := 2) h.h__has_form sc__has_form (s__has_form B (cf__fits B h) (by omega))
theorem cf__inner_tuples (B : Tp G) (h : Df G) : FO G 3 "_inner_tuples" 2 PT.fInn := fo_has (k := 2) h.h__inner_tuples sc__inner_tuples (s__inner_tuples B)
theorem cf_tuples_of (B : Tp G) (h : Df G) : FO G 4 "tuples_of" 3 PT.fTup := fo_has (k := 3) h.h_tuples_of sc_tuples_of (s_tuples_of B (cf__has_form B h) (by omega) (cf__inner_tuples B h) (by omega))
theorem cf_is_filter (B : Tp G) (h : Df G) : FO G 5 "is_filter" 1 PT.fIsF := fo_has (k := 4) h.h_is_filter sc_is_filter (s_is_filter B (cf_tuples_of B h) (by omega))
theorem cf_check_filter (B : Tp G) (h : Df G) : FO G 6 "check_filter" 1 PT.fChkF := fo_has (k := 5) h.h_check_filter sc_check_filter (s_check_filter B (cf_is_filter B h) (by omega))
theorem cf_check_tables (B : Tp G) (h : Df G) : FO G 5 "check_tables" 2 PR.g_check_tables := fo_has (k := 4) h.h_check_tables sc_check_tables (s_check_tables B (cf_is_table B h) (by omega) (by omega))
theorem cf__leaves_among (B : Tp G) (h : Df G) : FO G 2 "_leaves_among" 1 PR.g__leaves_among := fo_has (k := 1) h.h__leaves_among sc__leaves_among (s__leaves_among B)
theorem cf_is_expression (B : Tp G) (h : Df G) : FO G 5 "is_expression" 1 PR.g_is_expression := fo_has (k := 4) h.h_is_expression sc_is_expression (s_is_expression B (cf_tuples_of B h) (by omega) (cf__leaves_among B h) (by omega))
theorem cf__check_expressions (B : Tp G) (h : Df G) : FO G 6 "_check_expressions" 1 PR.g__check_expressions := fo_has (k := 5) h.h__check_expressions sc__check_expressions (s__check_expressions B (cf_is_expression B h) (by omega) (by omega))
theorem cf_union (B : Tp G) (h : Df G) : FO G 6 "union" 3 PR.g_union := fo_has (k := 5) h.h_union sc_union (s_union (cf_check_tables B h) (by omega) (fo_zero (k := 1) h.h_union_of rfl) (by omega))
theorem cf_intersection (B : Tp G) (h : Df G) : FO G 6 "intersection" 3 PR.g_intersection := fo_has (k := 5) h.h_intersection sc_intersection (s_intersection (cf_check_tables B h) (by omega) (fo_zero (k := 1) h.h_intersection_of rfl) (by omega))
theorem cf_difference (B : Tp G) (h : Df G) : FO G 6 "difference" 3 PR.g_difference := fo_has (k := 5) h.h_difference sc_difference (s_difference (cf_check_tables B h) (by omega) (fo_zero (k := 1) h.h_difference_of rfl) (by omega))
theorem cf_project (B : Tp G) (h : Df G) : FO G 6 "project" 2 PR.g_project := fo_has (k := 5) h.h_project sc_project (s_project (cf_check_tables B h) (by omega) (fo_zero (k := 1) h.h_projection_of rfl) (by omega))
theorem cf_join (B : Tp G) (h : Df G) : FO G 6 "join" 3 PR.g_join := fo_has (k := 5) h.h_join sc_join (s_join (cf_check_tables B h) (by omega) (fo_zero (k := 1) h.h_join_of rfl) (by omega))
theorem cf_semijoin (B : Tp G) (h : Df G) : FO G 6 "semijoin" 3 PR.g_semijoin := fo_has (k := 5) h.h_semijoin sc_semijoin (s_semijoin (cf_check_tables B h) (by omega) (fo_zero (k := 1) h.h_semijoin_of rfl) (by omega))
theorem cf_antijoin (B : Tp G) (h : Df G) : FO G 6 "antijoin" 3 PR.g_antijoin := fo_has (k := 5) h.h_antijoin sc_antijoin (s_antijoin (cf_check_tables B h) (by omega) (fo_zero (k := 1) h.h_antijoin_of rfl) (by omega))
theorem cf_not_in (B : Tp G) (h : Df G) : FO G 6 "not_in" 3 PR.g_not_in := fo_has (k := 5) h.h_not_in sc_not_in (s_not_in (cf_check_tables B h) (by omega) (fo_zero (k := 1) h.h_not_in_of rfl) (by omega))
theorem cf_distinct (B : Tp G) (h : Df G) : FO G 6 "distinct" 2 PR.g_distinct := fo_has (k := 5) h.h_distinct sc_distinct (s_distinct (cf_check_tables B h) (by omega) (fo_zero (k := 1) h.h_each_once rfl) (by omega))
theorem cf_total (B : Tp G) (h : Df G) : FO G 6 "total" 2 PR.g_total := fo_has (k := 5) h.h_total sc_total (s_total (cf_check_tables B h) (by omega) (fo_zero (k := 1) h.h_total_of rfl) (by omega))
theorem cf_select (B : Tp G) (h : Df G) : FO G 7 "select" 3 PR.g_select := fo_has (k := 6) h.h_select sc_select (s_select (cf_check_tables B h) (by omega) (cf_check_filter B h) (by omega) (fo_zero (k := 1) h.h_selection_of rfl) (by omega))
theorem cf_truth (B : Tp G) (h : Df G) : FO G 7 "truth" 3 PR.g_truth := fo_has (k := 6) h.h_truth sc_truth (s_truth B (cf_check_semantics B h) (by omega) (cf_check_filter B h) (by omega) (cf_is_row B h) (by omega) (fo_zero (k := 1) h.h_truth_of rfl) (by omega))
theorem cf_evaluate (B : Tp G) (h : Df G) : FO G 8 "evaluate" 6 PR.g_evaluate := fo_has (k := 7) h.h_evaluate sc_evaluate (s_evaluate B (cf_check_semantics B h) (by omega) (cf__check_expressions B h) (by omega) (cf_check_tables B h) (by omega) (cf_check_filter B h) (by omega) (fo_zero (k := 1) h.h_each_once rfl) (by omega) (fo_zero (k := 1) h.h_truth_of rfl) (by omega) (fo_zero (k := 1) h.h__count_of rfl) (by omega) (by omega))
theorem cf__is_truth (B : Tp G) (h : Df G) : FO G 1 "_is_truth" 2 PR.g__is_truth := fo_has (k := 0) h.h__is_truth sc__is_truth (s__is_truth B)
theorem cf__is_case (B : Tp G) (h : Df G) : FO G 2 "_is_case" 2 PR.g__is_case := fo_has (k := 1) h.h__is_case sc__is_case (s__is_case B (cf_is_integer_to B h) (by omega) (cf__is_truth B h) (by omega))
theorem cf_count_at (B : Tp G) (h : Df G) : FO G 8 "count_at" 3 PR.g_count_at := fo_has (k := 7) h.h_count_at sc_count_at (s_count_at B (cf_check_semantics B h) (by omega) (cf__check_expressions B h) (by omega) (cf__is_case B h) (by omega) (fo_zero (k := 1) h.h__count_of rfl) (by omega))
theorem cf_least_difference (B : Tp G) (h : Df G) : FO G 8 "least_difference" 3 PR.g_least_difference := fo_has (k := 7) h.h_least_difference sc_least_difference (s_least_difference (cf_check_semantics B h) (by omega) (cf__check_expressions B h) (by omega) (fo_zero (k := 1) h.h__cases rfl) (by omega) (fo_zero (k := 1) h.h__greatest_needed rfl) (by omega) (fo_zero (k := 1) h.h__count_of rfl) (by omega))
theorem cf_equal_for_all (B : Tp G) (h : Df G) : FO G 9 "equal_for_all" 3 PR.g_equal_for_all := fo_has (k := 8) h.h_equal_for_all sc_equal_for_all (s_equal_for_all (cf_least_difference B h) (by omega))
theorem cf_is_identity (B : Tp G) (h : Df G) : FO G 1 "is_identity" 1 PR.g_is_identity := fo_has (k := 0) h.h_is_identity sc_is_identity (s_is_identity B)
theorem cf_check_identity (B : Tp G) (h : Df G) : FO G 2 "check_identity" 1 PR.g_check_identity := fo_has (k := 1) h.h_check_identity sc_check_identity (s_check_identity B (cf_is_identity B h) (by omega))
theorem cf_holds (B : Tp G) (h : Df G) : FO G 4 "holds" 2 PR.g_holds := fo_has (k := 3) h.h_holds sc_holds (s_holds B (cf_check_semantics B h) (by omega) (cf_check_identity B h) (by omega) (by omega))
theorem cf_counterexample (B : Tp G) (h : Df G) : FO G 5 "counterexample" 2 PR.g_counterexample := fo_has (k := 4) h.h_counterexample sc_counterexample (s_counterexample B (cf_holds B h) (by omega) (fo_zero (k := 1) h.h__broken_by rfl) (by omega) (fo_zero (k := 1) h.h__argument rfl) (by omega))
theorem cf_profile (B : Tp G) (h : Df G) : FO G 4 "profile" 1 PR.g_profile := fo_has (k := 3) h.h_profile sc_profile (s_profile B (cf_check_semantics B h) (by omega) (fo_zero (k := 1) h.h_identities rfl) (by omega) (fo_zero (k := 1) h.h_holds rfl) (by omega))
theorem cf_write_table (B : Tp G) (h : Df G) : FO G 6 "write_table" 2 PR.g_write_table := fo_has (k := 5) h.h_write_table sc_write_table (s_write_table B (cf_check_tables B h) (by omega) (fo_zero (k := 1) h.h_value_text rfl) (by omega))
theorem cf_write_filter (B : Tp G) (h : Df G) : FO G 7 "write_filter" 1 PR.g_write_filter := fo_has (k := 6) h.h_write_filter sc_write_filter (s_write_filter (cf_check_filter B h) (by omega) (fo_zero (k := 1) h.h__text_of rfl) (by omega))
theorem fo__law_pick (B : Tp G) (h : Df G) : ∃ f, FO G 2 "_law_pick" 2 f ∧ SpPick f := by
  exact ⟨_, fo_has (k := 1) h.h__law_pick sc__law_pick (s__law_pick B (fo_taken h.h__law_taken B) (by omega)), pick taken⟩
theorem fo__law_semantics (B : Tp G) (h : Df G) : ∃ f, FO G 3 "_law_semantics" 1 f ∧ SpLawSem f := by
  obtain ⟨g0, F0, p0⟩ := fo__law_pick B h
  exact ⟨_, fo_has (k := 2) h.h__law_semantics sc__law_semantics (s__law_semantics F0 (by omega)), law_sem p0⟩
theorem fo__law_value (B : Tp G) (h : Df G) : ∃ f, FO G 3 "_law_value" 2 f ∧ SpLawVal f := by
  obtain ⟨g1, F1, p1⟩ := fo__law_pick B h
  exact ⟨_, fo_has (k := 2) h.h__law_value sc__law_value (s__law_value (fo_taken h.h__law_taken B) (by omega) F1 (by omega)), law_val taken p1⟩
theorem fo__law_rank (B : Tp G) (h : Df G) : ∃ f, FO G 2 "_law_rank" 1 f ∧ (SpRankAll f ∧ SpRank f) := by
  exact ⟨_, fo_has (k := 1) h.h__law_rank sc__law_rank (s__law_rank), ⟨rank_all, rank⟩⟩
theorem fo__law_sorted (B : Tp G) (h : Df G) : ∃ f, FO G 4 "_law_sorted" 1 f ∧ SpSorted f := by
  obtain ⟨g0, F0, p0⟩ := fo__law_rank B h
  exact ⟨_, fo_has (k := 3) h.h__law_sorted sc__law_sorted (s__law_sorted B F0 (by omega) (by omega)), sorted_ok p0.1⟩
theorem fo__law_table (B : Tp G) (h : Df G) : ∃ f, FO G 5 "_law_table" 3 f ∧ SpTable f := by
  obtain ⟨g1, F1, p1⟩ := fo__law_pick B h
  obtain ⟨g2, F2, p2⟩ := fo__law_value B h
  obtain ⟨g3, F3, p3⟩ := fo__law_sorted B h
  exact ⟨_, fo_has (k := 4) h.h__law_table sc__law_table (s__law_table B (fo_taken h.h__law_taken B) (by omega) F1 (by omega) F2 (by omega) F3 (by omega) (by omega)), table_ok taken p1 p2 p3⟩
theorem fo__law_filter (B : Tp G) (h : Df G) : ∀ m : Nat, ∃ f, FO G (4 + m) "_law_filter" 2 f ∧ SpLawFlt f m
  | 0 => ⟨_, fo_zero h.h__law_filter rfl, fun k hk => absurd hk (by omega)⟩
  | m + 1 => by
    obtain ⟨g, F, p⟩ := fo__law_filter B h m
    obtain ⟨g1, F1, p1⟩ := fo__law_pick B h
    exact ⟨_, fo_has (k := 4 + m) h.h__law_filter sc__law_filter (s__law_filter B (fo_taken h.h__law_taken B) (by omega) F1 (by omega) F (by omega)), law_flt taken p1 p⟩
theorem fo__law_condition (B : Tp G) (h : Df G) : ∀ m : Nat, ∃ f, FO G (5 + m) "_law_condition" 2 f ∧ SpCond f m
  | 0 => ⟨_, fo_zero h.h__law_condition rfl, fun k hk => absurd hk (by omega)⟩
  | m + 1 => by
    obtain ⟨g, F, p⟩ := fo__law_condition B h m
    obtain ⟨g1, F1, p1⟩ := fo__law_pick B h
    exact ⟨_, fo_has (k := 5 + m) h.h__law_condition sc__law_condition (s__law_condition B (fo_taken h.h__law_taken B) (by omega) F1 (by omega) F (by omega)), cond_ok taken p1 p⟩
theorem fo__law_expression (B : Tp G) (h : Df G) : ∀ m : Nat, ∃ f, FO G (8 + m) "_law_expression" 2 f ∧ SpLawEx f m
  | 0 => ⟨_, fo_zero h.h__law_expression rfl, fun k k1 km => absurd km (by omega)⟩
  | m + 1 => by
    obtain ⟨g, F, p⟩ := fo__law_expression B h m
    obtain ⟨g1, F1, p1⟩ := fo__law_condition B h 2
    obtain ⟨g2, F2, p2⟩ := fo__law_pick B h
    exact ⟨_, fo_has (k := 8 + m) h.h__law_expression sc__law_expression (s__law_expression (fo_taken h.h__law_taken B) (by omega) F1 (by omega) F2 (by omega) F (by omega)), law_ex taken p1 p2 p⟩
theorem fo__law_tuples (B : Tp G) (h : Df G) : ∀ m : Nat, ∃ f, FO G (3 + m) "_law_tuples" 1 f ∧ SpTuples f m
  | 0 => ⟨_, fo_zero h.h__law_tuples rfl, ⟨fun x hx => absurd (cnd_pos x) (by omega), fun x hx => absurd (PX.ex_pos x) (by omega)⟩⟩
  | m + 1 => by
    obtain ⟨g, F, p⟩ := fo__law_tuples B h m
    exact ⟨_, fo_has (k := 3 + m) h.h__law_tuples sc__law_tuples (s__law_tuples B F (by omega)), tuples_step p⟩
theorem fo__law_tree (B : Tp G) (h : Df G) : ∃ f, FO G 40 "_law_tree" 2 f ∧ SpTree f := by
  obtain ⟨g0, F0, p0⟩ := fo__law_expression B h 4
  obtain ⟨g1, F1, p1⟩ := fo__law_tuples B h 35
  exact ⟨_, fo_has (k := 39) h.h__law_tree sc__law_tree (s__law_tree F0 (by omega) F1 (by omega)), tree_ok p0 p1⟩
end
end K09
namespace PR
open PySem PySem.Spec PyProof.Rows L2 DL LW PW
@[simp] theorem sRaiseI_eq (x : Str) (f : Ev → Mn D) (ev : Ev) : sRaiseI x f ev = bnS (bnd (f ev) fun d => lft (ixOf d)) fun i => exM x (some i) := rfl
@[simp] theorem ix0 : ixOf (.int 0) = some 0 := rfl
@[simp] theorem ix1 : ixOf (.int 1) = some 1 := rfl
theorem en1 (a : D) : enumTD [.tuple [a]] = some [.tuple [.int 0, a]] := rfl
theorem en2 (a b : D) : enumTD [.tuple [a, b]] = some [.tuple [.int 0, a], .tuple [.int 1, b]] := rfl
section
variable {W x y : D}
theorem ct1_ok {ft : Fs} (h : ft [.dat W, .dat x] = pur (.bool true)) : dFun 2 4 (d_check_tables ft) [.dat W, .dat (.tuple [x])] = pur .none := by
  simp [dFun_eq, d_check_tables, sFor_f, en1, h, truD]
theorem ct1_0 {ft : Fs} (h : ft [.dat W, .dat x] = pur (.bool false)) : dFun 2 4 (d_check_tables ft) [.dat W, .dat (.tuple [x])] = exc "BadTable" (some 0) := by
  simp [dFun_eq, d_check_tables, sFor_f, en1, h, truD]
theorem ct2_ok {ft : Fs} (h : ft [.dat W, .dat x] = pur (.bool true)) (h' : ft [.dat W, .dat y] = pur (.bool true)) : dFun 2 4 (d_check_tables ft) [.dat W, .dat (.tuple [x, y])] = pur .none := by
  simp [dFun_eq, d_check_tables, sFor_f, en2, h, h', truD]
theorem ct2_0 {ft : Fs} (h : ft [.dat W, .dat x] = pur (.bool false)) : dFun 2 4 (d_check_tables ft) [.dat W, .dat (.tuple [x, y])] = exc "BadTable" (some 0) := by
  simp [dFun_eq, d_check_tables, sFor_f, en2, h, truD]
theorem ct2_1 {ft : Fs} (h : ft [.dat W, .dat x] = pur (.bool true)) (h' : ft [.dat W, .dat y] = pur (.bool false)) : dFun 2 4 (d_check_tables ft) [.dat W, .dat (.tuple [x, y])] = exc "BadTable" (some 1) := by
  simp [dFun_eq, d_check_tables, sFor_f, en2, h, h', truD]
theorem ce1_ok {fe : Fs} (h : fe [.dat x] = pur (.bool true)) : dFun 1 3 (d__check_expressions fe) [.dat (.tuple [x])] = pur .none := by
  simp [dFun_eq, d__check_expressions, sFor_f, en1, h, truD]
theorem isE_sp : PX.SpIsEx g_is_expression := PX.is_ex (PX.tuples_ok (PX.has_form (PX.fits PX.int_to)) PX.inner_t) PX.among_ok
variable {z : D} {c : Str} {i : Option Int}
theorem uni_x {fct z1 : Fs} (h : fct [.dat W, .dat (.tuple [x, y])] = exc c i) : dFun 3 3 (PW.d_union fct z1) [.dat W, .dat x, .dat y] = exc c i := by
  simp [dFun_eq, PW.d_union, h]
theorem int_x {fct z1 : Fs} (h : fct [.dat W, .dat (.tuple [x, y])] = exc c i) : dFun 3 3 (PW.d_intersection fct z1) [.dat W, .dat x, .dat y] = exc c i := by
  simp [dFun_eq, PW.d_intersection, h]
theorem dif_x {fct z1 : Fs} (h : fct [.dat W, .dat (.tuple [x, y])] = exc c i) : dFun 3 3 (PW.d_difference fct z1) [.dat W, .dat x, .dat y] = exc c i := by
  simp [dFun_eq, PW.d_difference, h]
theorem joi_x {fct z1 : Fs} (h : fct [.dat W, .dat (.tuple [x, y])] = exc c i) : dFun 3 3 (PW.d_join fct z1) [.dat W, .dat x, .dat y] = exc c i := by
  simp [dFun_eq, PW.d_join, h]
theorem sem_x {fct z1 : Fs} (h : fct [.dat W, .dat (.tuple [x, y])] = exc c i) : dFun 3 3 (PW.d_semijoin fct z1) [.dat W, .dat x, .dat y] = exc c i := by
  simp [dFun_eq, PW.d_semijoin, h]
theorem ant_x {fct z1 : Fs} (h : fct [.dat W, .dat (.tuple [x, y])] = exc c i) : dFun 3 3 (PW.d_antijoin fct z1) [.dat W, .dat x, .dat y] = exc c i := by
  simp [dFun_eq, PW.d_antijoin, h]
theorem nin_x {fct z1 : Fs} (h : fct [.dat W, .dat (.tuple [x, y])] = exc c i) : dFun 3 3 (PW.d_not_in fct z1) [.dat W, .dat x, .dat y] = exc c i := by
  simp [dFun_eq, PW.d_not_in, h]
theorem pro_x {fct z1 : Fs} (h : fct [.dat W, .dat (.tuple [x])] = exc c i) : dFun 2 2 (PW.d_project fct z1) [.dat W, .dat x] = exc c i := by
  simp [dFun_eq, PW.d_project, h]
theorem dst_x {fct z1 : Fs} (h : fct [.dat W, .dat (.tuple [x])] = exc c i) : dFun 2 2 (PW.d_distinct fct z1) [.dat W, .dat x] = exc c i := by
  simp [dFun_eq, PW.d_distinct, h]
theorem tot_x {fct z1 : Fs} (h : fct [.dat W, .dat (.tuple [x])] = exc c i) : dFun 2 2 (PW.d_total fct z1) [.dat W, .dat x] = exc c i := by
  simp [dFun_eq, PW.d_total, h]
theorem wri_x {fct z1 : Fs} (h : fct [.dat W, .dat (.tuple [x])] = exc c i) : dFun 2 4 (PT.d_write_table fct z1) [.dat W, .dat x] = exc c i := by
  simp [dFun_eq, PT.d_write_table, h]
theorem sel_x {fcf fct z1 : Fs} (h : fct [.dat W, .dat (.tuple [x])] = exc c i) : dFun 3 3 (PW.d_select fct fcf z1) [.dat W, .dat x, .dat y] = exc c i := by
  simp [dFun_eq, PW.d_select, h]
theorem sel_f {fcf fct z1 : Fs} (h : fct [.dat W, .dat (.tuple [x])] = pur .none) (h' : fcf [.dat y] = exc c i) : dFun 3 3 (PW.d_select fct fcf z1) [.dat W, .dat x, .dat y] = exc c i := by
  simp [dFun_eq, PW.d_select, h, h']
theorem tru_f {fcf fcs fro z1 : Fs} (h : fcs [.dat W] = pur .none) (h' : fcf [.dat x] = exc c i) : dFun 3 3 (PW.d_truth fcs fcf fro z1) [.dat W, .dat x, .dat y] = exc c i := by
  simp [dFun_eq, PW.d_truth, h, h']
theorem wfi_f {fcf z1 : Fs} (h' : fcf [.dat x] = exc c i) : dFun 1 1 (PT.d_write_filter fcf z1) [.dat x] = exc c i := by
  simp [dFun_eq, PT.d_write_filter, h']
variable {e u v p q : D}
theorem eva_t {fce fcf fcs fct z1 z2 z3 : Fs} (h1 : fcs [.dat W] = pur .none) (h2 : fce [.dat (.tuple [e])] = pur .none) (h3 : fct [.dat W, .dat (.tuple [u, v])] = exc c i) : dFun 6 9 (PW.d_evaluate fcs fce fct fcf z1 z2 z3) [.dat W, .dat e, .dat u, .dat v, .dat p, .dat q] = exc c i := by
  simp [dFun_eq, PW.d_evaluate, h1, h2, h3]
theorem eva_p {fce fcf fcs fct z1 z2 z3 : Fs} (h1 : fcs [.dat W] = pur .none) (h2 : fce [.dat (.tuple [e])] = pur .none) (h3 : fct [.dat W, .dat (.tuple [u, v])] = pur .none) (h4 : fcf [.dat p] = exc c i) : dFun 6 9 (PW.d_evaluate fcs fce fct fcf z1 z2 z3) [.dat W, .dat e, .dat u, .dat v, .dat p, .dat q] = exc c i := by
  simp [dFun_eq, PW.d_evaluate, h1, h2, h3, h4]
theorem eva_q {fce fcf fcs fct z1 z2 z3 : Fs} (h1 : fcs [.dat W] = pur .none) (h2 : fce [.dat (.tuple [e])] = pur .none) (h3 : fct [.dat W, .dat (.tuple [u, v])] = pur .none) (h4 : fcf [.dat p] = pur .none) (h5 : fcf [.dat q] = exc c i) : dFun 6 9 (PW.d_evaluate fcs fce fct fcf z1 z2 z3) [.dat W, .dat e, .dat u, .dat v, .dat p, .dat q] = exc c i := by
  simp [dFun_eq, PW.d_evaluate, h1, h2, h3, h4, h5]
end
end PR
namespace PR
open PySem PySem.Spec PyProof.Rows L2 DL LW PW
def wl (a b c : Bool) (n : N3) (e : Bool) : List D := [.str (if a then "bag" else "set"), .str (if b then "maximum" else "sum"), .str (if c then "count" else "kind"), .str (Str.ofString n.s), .str (if e then "null" else "zero")]
def oddS (w : List D) : List D := [.none, .tuple [], .list w, .tuple (w.take 4), .tuple (w ++ [.str "zero"]), .tuple (.str "Bag" :: w.drop 1), .tuple (w.take 1 ++ [.str "both"] ++ w.drop 2), .tuple (w.take 3 ++ [.none, .str "zero"]), .tuple (w.take 4 ++ [.str "0"]), .str "bag", .tuple w.reverse]
theorem isS_all (a b c : Bool) (n : N3) (e : Bool) (rs : RS) : (oddS (wl a b c n e)).map (fun d => PT.fSem [.dat d] rs) = (oddS (wl a b c n e)).map fun _ => some (.val (.bool false), rs) := by
  cases a <;> cases b <;> cases c <;> cases n <;> cases e <;> kernel_rfl
theorem isS_bad {a b c : Bool} {n : N3} {e : Bool} {d : D} (h : d ∈ oddS (wl a b c n e)) : PT.fSem [.dat d] = pur (.bool false) := funext fun rs => List.map_inj_left.mp (isS_all a b c n e rs) d h
theorem isS_ok (a b c : Bool) (n : N3) (e : Bool) : PT.fSem [.dat (wayD a b c n e)] = pur (.bool true) := funext fun rs => by
  cases a <;> cases b <;> cases c <;> cases n <;> cases e <;> kernel_rfl
theorem chkS_ok (a b c : Bool) (n : N3) (e : Bool) : PT.fChkS [.dat (wayD a b c n e)] = pur .none := funext fun rs => by
  cases a <;> cases b <;> cases c <;> cases n <;> cases e <;> kernel_rfl
def badB : List D := [.none, .list [], .tuple [.tuple [.int 1, .int 2, .int 3]], .tuple [.tuple [.int 1]], .tuple [.list [.int 1, .int 2]], .tuple [.tuple [.int 0, .int 10]], .tuple [.tuple [.int (-1), .int 0]], .tuple [.tuple [.bool true, .int 0]], .tuple [.tuple [.int 1, .int 0], .tuple [.int 0, .int 1]], .tuple (List.replicate 13 (.tuple [.int 0, .int 0])), .int 5, .tuple [.tuple [.int 0, .int 1], .tuple [.int 0, .int 0]], .tuple [.tuple [.str "0", .int 0]]]
def badN : N3 → List D
  | .none => badB ++ [.tuple [.tuple [.none, .int 0]], .tuple [.tuple [.int 0, .none]]]
  | _ => badB ++ [.tuple [.tuple [.int 0, .int 0], .tuple [.none, .int 0]], .tuple [.tuple [.int 0, .int 0], .tuple [.int 0, .none]]]
def twice : D := .tuple [.tuple [.int 0, .int 0], .tuple [.int 0, .int 0]]
def badT (a : Bool) (n : N3) : List D := if a then badN n else badN n ++ [twice]
theorem tab_all (a b c : Bool) (n : N3) (e : Bool) (rs : RS) : (badT a n).map (fun d => PT.fTab [.dat (wayD a b c n e), .dat d] rs) = (badT a n).map fun _ => some (.val (.bool false), rs) := by
  cases a <;> cases b <;> cases c <;> cases n <;> cases e <;> kernel_rfl
theorem tab_bad {a b c : Bool} {n : N3} {e : Bool} {d : D} (h : d ∈ badT a n) : PT.fTab [.dat (wayD a b c n e), .dat d] = pur (.bool false) := funext fun rs => List.map_inj_left.mp (tab_all a b c n e rs) d h
theorem len_badN (n : N3) : (badN n).length = 15 := by cases n <;> rfl
theorem bt_1 (f : Fs) (a b c : Bool) (n : N3) (e : Bool) : dFun 2 3 (LW.d__law_bad_table f) [.row, .dat (wayD a b c n e)] = fin (bnS (dIf (dOr (dCmp eqD (dBin ixD (dVar 1) (dLit (.int 0))) (dLit (.str "bag"))) (dCmp gtD (dCl 2 f (dRow 0 (dCons (dLit (.int 4)) (dNil)))) (dLit (.int 0)))) (dBin ixD (dVar 2) (dCl 2 f (dRow 0 (dCons (dFn lenD (dCons (dVar 2) (dNil))) (dNil))))) (dTup (dCons (dTup (dCons (dLit (.int 0)) (dCons (dLit (.int 0)) (dNil)))) (dCons (dTup (dCons (dLit (.int 0)) (dCons (dLit (.int 0)) (dNil)))) (dNil)))) [.row, .dat (wayD a b c n e), .dat (.list (badN n))]) rtM) := funext fun rs => by
  cases a <;> cases b <;> cases c <;> cases n <;> cases e <;> kernel_rfl
theorem ix_in {ds : List D} {i : Int} (h0 : 0 ≤ i) (h1 : i < (ds.length : Nat)) : ∃ d, ixD (.list ds) (.int i) = some d ∧ d ∈ ds := by
  obtain ⟨j, rfl⟩ : ∃ j : Nat, i = (j : Int) := ⟨i.toNat, by omega⟩
  have hl : j < ds.length := by omega
  exact ⟨ds[j], atI_nat (List.getElem?_eq_getElem hl), List.getElem_mem hl⟩
theorem bt_ok {f : Fs} (h : SpTk f) (a b c : Bool) (n : N3) (e : Bool) : Gv (dFun 2 3 (LW.d__law_bad_table f) [.row, .dat (wayD a b c n e)]) fun d => d ∈ badT a n := by
  rw [bt_1]
  have q0 : ixD (wayD a b c n e) (.int 0) = some (.str (if a then "bag" else "set")) := by cases a <;> rfl
  have q1 : eqD (.str (if a then "bag" else "set")) (.str "bag") = some a := by cases a <;> simp <;> kernel_rfl
  have pk : Gv (bnd (f [.row, .dat (.int 15)]) fun i => lft (ixD (.list (badN n)) i)) fun d => d ∈ badN n := by
    refine Gv.bnd (h 15 (by decide) (by decide)) fun d ⟨i, i0, i1, ed⟩ => ?_
    subst ed
    obtain ⟨d, e1, e2⟩ := ix_in (ds := badN n) i0 (by rw [len_badN]; exact i1)
    rw [e1]
    exact Gv.pur e2
  have ln : lenD [.list (badN n)] = some (.int 15) := by
    show some (PyData.int ((badN n).length : Nat)) = _
    rw [len_badN]
    rfl
  simp [q0, q1, ln, fin_bnS, bnd_bnd, bnS_bnd, bnd_id]
  cases a with
  | true =>
    simp only [if_true, bnd_pur]
    simpa [bnd_bnd, bnd_id, badT] using pk
  | false =>
    simp only [Bool.false_eq_true, if_false]
    refine Gv.bnd (h 4 (by decide) (by decide)) fun d ⟨i, i0, i1, ed⟩ => ?_
    subst ed
    have q2 : gtD (.int i) (.int 0) = some (decide (0 < i)) := rfl
    simp only [q2]
    by_cases hi : 0 < i
    · simp only [hi, decide_true, lft_some', bnd_pur, if_true]
      exact pk.imp fun d m => List.mem_append_left _ m
    · simp only [hi, decide_false, lft_some', bnd_pur, Bool.false_eq_true, if_false]
      exact Gv.pur (List.mem_append_right _ (List.mem_singleton_self _))
def notN : Nat → D → D
  | 0, x => x
  | k + 1, x => .tuple [.str "not", notN k x]
def long : D := notN 20 (.tuple [.str "same"])
def oddF (m : D) : List D := [.none, .tuple [], .tuple [.str "less", .int 0], .tuple [.str "less", .int 2, .int 0], .tuple [.str "equal", .int 0, .int 10], .tuple [.str "equal", .none, .int 0], .tuple [.str "same", .int 0], .tuple [.str "null"], .tuple [.str "null", .int 2], .tuple [.str "not"], .tuple [.str "not", m, m], .tuple [.str "and", m], long,
  .tuple [.str "or", m, .none], .list [.str "same"], .str "same", .tuple [.str "Same"], .tuple [.str "less", .bool true, .int 0], .tuple [.str "p"], .tuple [.int 0], .tuple [.str "not", .tuple [.str "p"]]]
theorem flt_all (m : D) (rs : RS) : (oddF m).map (fun d => PT.fIsF [.dat d] rs) = (oddF m).map fun _ => some (.val (.bool false), rs) := by kernel_rfl
theorem flt_bad {m d : D} (h : d ∈ oddF m) : PT.fIsF [.dat d] = pur (.bool false) := funext fun rs => List.map_inj_left.mp (flt_all m rs) d h
theorem flt_long : PT.fIsF [.dat (notN 19 (.tuple [.str "same"]))] = pur (.bool true) := funext fun rs => by kernel_rfl
theorem chkF_x {f : Fs} {d : D} (z : f [.dat d] = pur (.bool false)) : dFun 1 1 (d_check_filter f) [.dat d] = exc "BadFilter" none := by
  simp [dFun_eq, d_check_filter, z, truD]
theorem chkF_bad {m d : D} (h : d ∈ oddF m) : PT.fChkF [.dat d] = exc "BadFilter" none := chkF_x (flt_bad h)
end PR
noncomputable section
namespace K09
open PySem PySem.Spec PyProof.Rows L2 DL LW PW LamX
def lv (W M T s5 s6 s7 s8 s9 s10 : DL.Slot) : Ev := [.hid, .row, W, M, T, s5, s6, s7, s8, s9, s10, .hid]
theorem sem_all (a b c : Bool) (n : N3) (e : Bool) (M T s5 s7 s8 s9 s10 : DL.Slot) (rs : RS) : (List.range 22).map (fun k => (PR.oddS (PR.wl a b c n e)).map fun d => dTold tell7 (fB k (wipeE (lv (.dat (wayD a b c n e)) M T s5 (.dat d) s7 s8 s9 s10) (msF k))) rs) = (List.range 22).map fun _ => (PR.oddS (PR.wl a b c n e)).map fun _ => some (.val (.str "semantics"), rs) := by
  cases a <;> cases b <;> cases c <;> cases n <;> cases e <;> kernel_rfl
end K09
noncomputable section
namespace K09
open PySem PySem.Spec PyProof.Rows L2 DL LW PW LamX
section
variable {ev : Ev} {rs rs1 : RS} {A B C : Ev → Mn Bool} {F F2 : Ev → Mn D} {d : D}
theorem pass1 {f : Ev → Ms} (hA : A ev rs = some (.val false, rs1)) : pIf A f sNil ev rs = some (.nx ev, rs1) := by
  rw [pIf_eq]
  unfold bnS
  rw [hA]
  rfl
theorem pass3 {f : Ev → Ms} (hA : A ev rs = some (.val false, rs1)) (hB : B ev = pur false) (hC : C ev = pur false) : pIf (dOr A (dOr B C)) f sNil ev rs = some (.nx ev, rs1) := by
  refine pass1 ?_
  rw [dOr_eq]
  unfold bnd
  rw [hA]
  show (dOr B C ev) rs1 = _
  rw [dOr_eq, hB, hC]
  rfl
theorem ne_at (h : F ev rs = some (.val d, rs1)) (h2 : F2 ev = pur d) (q : neD d d = some false) : dCmp neD F F2 ev rs = some (.val false, rs1) := by
  rw [dCmp_eq]
  unfold bnd
  rw [h]
  show (DL.bnd (F2 ev) fun y => lft (neD d y)) rs1 = _
  rw [h2, bnd_pur, q]
  rfl
end
theorem callK {W M T s5 s6 s7 s9 s10 : DL.Slot} {l : List Nat} {N : Nat} {v : D} (hN : l.length = N) (h0 : 0 < N) (h1 : N < 1000) (h : ∀ k ∈ l, dTold tell7 (fB k (wipeE (lv W M T s5 s6 s7 (.fns l) s9 s10) (msF k))) = pur v) (rs : RS) :
    ∃ rs1, dCallK tell7 8 msF fB (dCl 2 tkF (dRow 1 (dCons (dLit (.int (N : Nat))) (dNil)))) (lv W M T s5 s6 s7 (.fns l) s9 s10) rs = some (.val v, rs1) ∧ rs1.x = rs.x := by
  obtain ⟨d, rs1, e, ⟨i, i0, i1, rfl⟩, x1⟩ := taken (N : Nat) (by omega) (by omega) rs
  obtain ⟨j, rfl⟩ : ∃ j : Nat, i = (j : Int) := ⟨i.toNat, by omega⟩
  have hl : j < l.length := by omega
  have hf : dCl 2 tkF (dRow 1 (dCons (dLit (.int (N : Nat))) (dNil))) (lv W M T s5 s6 s7 (.fns l) s9 s10) rs = some (.val (.int (j : Int)), rs1) := e
  refine ⟨rs1, ?_, x1⟩
  rw [dCallK_drawn (l := l) rfl hf (List.getElem?_eq_getElem hl), h _ (List.getElem_mem hl)]
  rfl
theorem told_x {m : Mn D} {c : Str} {i : Option Int} {d : D} (h : m = exc c i) (t : tell7 c i = some d) : dTold tell7 m = pur d := by
  rw [h]
  exact dTold_exc t
section
variable {a b c : Bool} {n : N3} {e : Bool} {M s5 s7 s8 s9 s10 : DL.Slot} {t : Ex} {d : D}
theorem treeE (ht : OkEx t) : PR.g__check_expressions [.dat (.tuple [t.d])] = pur .none := PR.ce1_ok (PR.isE_sp t ht.1 ht.2)
theorem tab0 (hd : d ∈ PR.badT a n) (ht : OkEx t) (k : Nat) (h : k ∈ [22, 23, 24, 25, 26, 27, 28, 29]) : fB k (wipeE (lv (.dat (wayD a b c n e)) M (.dat t.d) s5 (.dat d) s7 s8 s9 s10) (msF k)) = exc "BadTable" (some 0) := by
  have z := PR.tab_bad (a := a) (b := b) (c := c) (n := n) (e := e) hd
  have S := PR.chkS_ok a b c n e
  generalize wayD a b c n e = W at z S ⊢
  simp only [List.mem_cons, List.not_mem_nil, or_false] at h
  rcases h with rfl | rfl | rfl | rfl | rfl | rfl | rfl | rfl
  · exact (show _ = PR.g_project [.dat W, .dat d] by kernel_rfl).trans (PR.pro_x (PR.ct1_0 z))
  · exact (show _ = PR.g_union [.dat W, .dat d, .dat .none] by kernel_rfl).trans (PR.uni_x (PR.ct2_0 z))
  · exact (show _ = PR.g_select [.dat W, .dat d, .dat .none] by kernel_rfl).trans (PR.sel_x (PR.ct1_0 z))
  · exact (show _ = PR.g_evaluate [.dat W, .dat t.d, .dat d, .dat .none, .dat .none, .dat .none] by kernel_rfl).trans (PR.eva_t S (treeE ht) (PR.ct2_0 z))
  · exact (show _ = PR.g_total [.dat W, .dat d] by kernel_rfl).trans (PR.tot_x (PR.ct1_0 z))
  · exact (show _ = PR.g_write_table [.dat W, .dat d] by kernel_rfl).trans (PR.wri_x (PR.ct1_0 z))
  · exact (show _ = PR.g_distinct [.dat W, .dat d] by kernel_rfl).trans (PR.dst_x (PR.ct1_0 z))
  · exact (show _ = PR.g_join [.dat W, .dat d, .dat d] by kernel_rfl).trans (PR.joi_x (PR.ct2_0 z))
theorem tab1 {A : D} (hA : PT.fTab [.dat (wayD a b c n e), .dat A] = pur (.bool true)) (hd : d ∈ PR.badT a n) (ht : OkEx t) (k : Nat) (h : k ∈ [30, 31, 32, 33, 34, 35]) : fB k (wipeE (lv (.dat (wayD a b c n e)) M (.dat t.d) s5 (.dat d) (.dat A) s8 s9 s10) (msF k)) = exc "BadTable" (some 1) := by
  have z := PR.tab_bad (a := a) (b := b) (c := c) (n := n) (e := e) hd
  have S := PR.chkS_ok a b c n e
  generalize wayD a b c n e = W at hA z S ⊢
  simp only [List.mem_cons, List.not_mem_nil, or_false] at h
  rcases h with rfl | rfl | rfl | rfl | rfl | rfl
  · exact (show _ = PR.g_difference [.dat W, .dat A, .dat d] by kernel_rfl).trans (PR.dif_x (PR.ct2_1 hA z))
  · exact (show _ = PR.g_not_in [.dat W, .dat A, .dat d] by kernel_rfl).trans (PR.nin_x (PR.ct2_1 hA z))
  · exact (show _ = PR.g_evaluate [.dat W, .dat t.d, .dat A, .dat d, .dat .none, .dat .none] by kernel_rfl).trans (PR.eva_t S (treeE ht) (PR.ct2_1 hA z))
  · exact (show _ = PR.g_semijoin [.dat W, .dat A, .dat d] by kernel_rfl).trans (PR.sem_x (PR.ct2_1 hA z))
  · exact (show _ = PR.g_antijoin [.dat W, .dat A, .dat d] by kernel_rfl).trans (PR.ant_x (PR.ct2_1 hA z))
  · exact (show _ = PR.g_intersection [.dat W, .dat A, .dat d] by kernel_rfl).trans (PR.int_x (PR.ct2_1 hA z))
theorem flt {A m m' : D} (hA : PT.fTab [.dat (wayD a b c n e), .dat A] = pur (.bool true)) (hm : PT.fChkF [.dat m] = pur .none) (hd : d ∈ PR.oddF m') (ht : OkEx t) (k : Nat) (h : k ∈ [36, 37, 38, 39, 40]) : fB k (wipeE (lv (.dat (wayD a b c n e)) (.dat m) (.dat t.d) s5 (.dat d) (.dat A) s8 s9 s10) (msF k)) = exc "BadFilter" none := by
  have z := PR.chkF_bad hd
  have S := PR.chkS_ok a b c n e
  generalize wayD a b c n e = W at hA S ⊢
  simp only [List.mem_cons, List.not_mem_nil, or_false] at h
  rcases h with rfl | rfl | rfl | rfl | rfl
  · exact (show _ = PR.g_select [.dat W, .dat A, .dat d] by kernel_rfl).trans (PR.sel_f (PR.ct1_ok hA) z)
  · exact (show _ = PR.g_truth [.dat W, .dat d, .dat .none] by kernel_rfl).trans (PR.tru_f S z)
  · exact (show _ = PR.g_evaluate [.dat W, .dat t.d, .dat A, .dat A, .dat d, .dat .none] by kernel_rfl).trans (PR.eva_p S (treeE ht) (PR.ct2_ok hA hA) z)
  · exact (show _ = PR.g_evaluate [.dat W, .dat t.d, .dat A, .dat A, .dat m, .dat d] by kernel_rfl).trans (PR.eva_q S (treeE ht) (PR.ct2_ok hA hA) hm z)
  · exact (show _ = PR.g_write_filter [.dat d] by kernel_rfl).trans (PR.wfi_f z)
end
end K09
noncomputable section
namespace K09
open PySem PySem.Spec PyProof.Rows L2 DL LW PW LamX
section
variable {ftr ffl fse fta : LW.Fs}
abbrev fBT : LW.Fs := dFun 2 3 (LW.d__law_bad_table tkF)
theorem s1_ok (h1 : SpTree ftr) (h2 : LW.SpLawFlt ffl 2) (h3 : LW.SpLawSem fse) : GvS (c1 ftr ffl fse (lv .hid .hid .hid .hid .hid .hid .hid .hid .hid)) fun ev => ∃ a b c n e x t, x.ok = true ∧ x.size ≤ 3 ∧ OkEx t ∧ ev = lv (.dat (wayD a b c n e)) (.dat (Flt.d x)) (.dat (Ex.d t)) .hid .hid .hid .hid .hid .hid := by
  have z : c1 ftr ffl fse (lv .hid .hid .hid .hid .hid .hid .hid .hid .hid) = bnS (bnd (fse [.row]) fun w => bnd (ffl [.row, .dat (.int 1)]) fun m => bnd (ftr [.row, .dat (.int 3)]) fun t => pur [w, m, t]) fun ds => nxM (setE (lv .hid .hid .hid .hid .hid .hid .hid .hid .hid) [2, 3, 4] ds) := by
    simp [c1, lv, bnd_bnd, bnS_bnd]
  rw [z, bnS_bnd]
  refine GvS.bnS h3 fun w ⟨a, b, c, n, e, ew⟩ => ?_
  rw [bnS_bnd]
  refine GvS.bnS (h2 1 (by decide)) fun m ⟨x, em, x1, x2⟩ => ?_
  rw [bnS_bnd]
  refine GvS.bnS (h1 3 (by decide) (by decide)) fun t ⟨y, et, y1, y2⟩ => ?_
  subst ew em et
  exact GvS.nx ⟨a, b, c, n, e, x, y, x1, x2, ⟨by omega, by omega⟩, rfl⟩
variable {a b c : Bool} {n : N3} {e : Bool} {M T s5 s6 s7 s8 s9 s10 : DL.Slot} {M' : D}
theorem s2_ok : c2 (lv (.dat (wayD a b c n e)) M T s5 s6 s7 s8 s9 s10) = nxM (lv (.dat (wayD a b c n e)) M T (.dat (.list (PR.oddS (PR.wl a b c n e)))) s6 s7 s8 s9 s10) := funext fun rs => by
  cases a <;> cases b <;> cases c <;> cases n <;> cases e <;> kernel_rfl
theorem s3_ok (h : SpTable fta) : GvS (c3 fta tkF (lv (.dat (wayD a b c n e)) M T (.dat (.list (PR.oddS (PR.wl a b c n e)))) s6 s7 s8 s9 s10)) fun ev => ∃ d A, d ∈ PR.oddS (PR.wl a b c n e) ∧ PT.fTab [.dat (wayD a b c n e), .dat A] = pur (.bool true) ∧ ev = lv (.dat (wayD a b c n e)) M T (.dat (.list (PR.oddS (PR.wl a b c n e)))) (.dat d) (.dat A) s8 s9 s10 := by
  generalize ho : PR.oddS (PR.wl a b c n e) = O
  have hl : O.length = 11 := by rw [← ho]; rfl
  have z : c3 fta tkF (lv (.dat (wayD a b c n e)) M T (.dat (.list O)) s6 s7 s8 s9 s10) = bnS (bnd (tkF [.row, .dat (.int 11)]) fun i => bnd (lft (ixD (.list O) i)) fun d => bnd (fta [.row, .dat (wayD a b c n e), .dat (.int 4)]) fun A => pur [d, A]) fun ds => nxM (setE (lv (.dat (wayD a b c n e)) M T (.dat (.list O)) s6 s7 s8 s9 s10) [6, 7] ds) := by
    simp [c3, lv, bnd_bnd, bnS_bnd]
  rw [z, bnS_bnd]
  refine GvS.bnS (taken 11 (by decide) (by decide)) fun i ⟨j, j0, j1, ej⟩ => ?_
  subst ej
  obtain ⟨d, e1, e2⟩ := PR.ix_in (ds := O) j0 (by rw [hl]; exact j1)
  rw [bnS_bnd, e1, lft_some', bnS_pur, bnS_bnd]
  refine GvS.bnS (h a b c n e 4 (by decide)) fun A ⟨rs, eA, it⟩ => ?_
  subst eA
  exact GvS.nx ⟨d, _, e2, PT.tab_sp a b c n e _ (tab_of it (by decide)), rfl⟩
theorem w1_ok : seqM c4 (seqM c5 (seqM c6 (seqM c7 (seqM c8 (seqM c9 c10))))) (lv (.dat (wayD a b c n e)) M T s5 s6 s7 s8 s9 s10) = nxM (lv (.dat (wayD a b c n e)) M T s5 s6 s7 (.fns (List.range 22)) s9 s10) := funext fun rs => by kernel_rfl
theorem w2_ok : seqM c13 (seqM c14 c15) (lv (.dat (wayD a b c n e)) M T s5 s6 s7 s8 s9 s10) = nxM (lv (.dat (wayD a b c n e)) M T s5 s6 s7 (.fns [22, 23, 24, 25, 26, 27, 28, 29]) s9 s10) := funext fun rs => by kernel_rfl
theorem w3_ok : seqM c17 c18 (lv (.dat (wayD a b c n e)) M T s5 s6 s7 s8 s9 s10) = nxM (lv (.dat (wayD a b c n e)) M T s5 s6 s7 (.fns [30, 31, 32, 33, 34, 35]) s9 s10) := funext fun rs => by kernel_rfl
theorem w4_ok : seqM c25 c26 (lv (.dat (wayD a b c n e)) M T s5 s6 s7 s8 s9 s10) = nxM (lv (.dat (wayD a b c n e)) M T s5 s6 s7 (.fns [36, 37, 38, 39, 40]) s9 s10) := funext fun rs => by kernel_rfl
theorem one_x {f : LW.Fs} {d : D} {i : Nat} {v w : Bool} {ev : Ev} (hi : getE ev i = some d) (h : f [.dat d] = pur (.bool v)) (q : isnD (.bool v) (.bool w) = some false) : dCmp isnD (dCl 1 f (dCons (dVar i) (dNil))) (dLit (.bool w)) ev = pur false := by
  simp [hi, h, q]
theorem two_x {f : LW.Fs} {d d' : D} {i j : Nat} {v w : Bool} {ev : Ev} (hi : getE ev i = some d) (hj : getE ev j = some d') (h : f [.dat d, .dat d'] = pur (.bool v)) (q : isnD (.bool v) (.bool w) = some false) : dCmp isnD (dCl 2 f (dCons (dVar i) (dCons (dVar j) (dNil)))) (dLit (.bool w)) ev = pur false := by
  simp [hi, hj, h, q]
theorem s11_ok {d : D} (hd : d ∈ PR.oddS (PR.wl a b c n e)) : GvS (c11 tkF (lv (.dat (wayD a b c n e)) M T s5 (.dat d) s7 (.fns (List.range 22)) s9 s10)) fun ev => ev = lv (.dat (wayD a b c n e)) M T s5 (.dat d) s7 (.fns (List.range 22)) s9 s10 := fun rs => by
  obtain ⟨rs1, e1, x1⟩ := callK (W := .dat (wayD a b c n e)) (M := M) (T := T) (s5 := s5) (s6 := .dat d) (s7 := s7) (l := List.range 22) (s9 := s9) (s10 := s10) (N := 22) (v := .str "semantics") rfl (by decide) (by decide) (fun k hk => funext fun rs => by
    have q := List.map_inj_left.mp (sem_all a b c n e M T s5 s7 (.fns (List.range 22)) s9 s10 rs) k hk
    exact List.map_inj_left.mp q d hd) rs
  exact ⟨_, rs1, pass3 (ne_at e1 rfl (by kernel_rfl)) (one_x rfl (PR.isS_bad hd) rfl) (one_x rfl (PR.isS_ok a b c n e) rfl), rfl, x1⟩
theorem s12_ok : GvS (c12 fBT (lv (.dat (wayD a b c n e)) M T s5 s6 s7 s8 s9 s10)) fun ev => ∃ d, d ∈ PR.badT a n ∧ ev = lv (.dat (wayD a b c n e)) M T s5 (.dat d) s7 s8 s9 s10 := by
  have z : c12 fBT (lv (.dat (wayD a b c n e)) M T s5 s6 s7 s8 s9 s10) = bnS (fBT [.row, .dat (wayD a b c n e)]) fun d => nxM (lv (.dat (wayD a b c n e)) M T s5 (.dat d) s7 s8 s9 s10) := rfl
  rw [z]
  exact GvS.bnS (PR.bt_ok taken a b c n e) fun d hd => GvS.nx ⟨d, hd, rfl⟩
theorem s16_ok {d A : D} {t : Ex} (hd : d ∈ PR.badT a n) (hA : PT.fTab [.dat (wayD a b c n e), .dat A] = pur (.bool true)) (ht : OkEx t) : GvS (c16 tkF (lv (.dat (wayD a b c n e)) M (.dat t.d) s5 (.dat d) (.dat A) (.fns [22, 23, 24, 25, 26, 27, 28, 29]) s9 s10)) fun ev => ev = lv (.dat (wayD a b c n e)) M (.dat t.d) s5 (.dat d) (.dat A) (.fns [22, 23, 24, 25, 26, 27, 28, 29]) s9 s10 := fun rs => by
  obtain ⟨rs1, e1, x1⟩ := callK (W := .dat (wayD a b c n e)) (M := M) (T := .dat t.d) (s5 := s5) (s6 := .dat d) (s7 := .dat A) (l := [22, 23, 24, 25, 26, 27, 28, 29]) (s9 := s9) (s10 := s10) (N := 8) (v := .tuple [.str "table", .int 0]) rfl (by decide) (by decide) (fun k hk => told_x (tab0 hd ht k hk) rfl) rs
  exact ⟨_, rs1, pass3 (ne_at e1 rfl (by kernel_rfl)) (two_x rfl rfl (PR.tab_bad hd) rfl) (two_x rfl rfl hA rfl), rfl, x1⟩
theorem s19_ok {d A : D} {t : Ex} (hd : d ∈ PR.badT a n) (hA : PT.fTab [.dat (wayD a b c n e), .dat A] = pur (.bool true)) (ht : OkEx t) : GvS (c19 tkF (lv (.dat (wayD a b c n e)) M (.dat t.d) s5 (.dat d) (.dat A) (.fns [30, 31, 32, 33, 34, 35]) s9 s10)) fun ev => ev = lv (.dat (wayD a b c n e)) M (.dat t.d) s5 (.dat d) (.dat A) (.fns [30, 31, 32, 33, 34, 35]) s9 s10 := fun rs => by
  obtain ⟨rs1, e1, x1⟩ := callK (W := .dat (wayD a b c n e)) (M := M) (T := .dat t.d) (s5 := s5) (s6 := .dat d) (s7 := .dat A) (l := [30, 31, 32, 33, 34, 35]) (s9 := s9) (s10 := s10) (N := 6) (v := .tuple [.str "table", .int 1]) rfl (by decide) (by decide) (fun k hk => told_x (tab1 hA hd ht k hk) rfl) rs
  exact ⟨_, rs1, pass1 (ne_at e1 rfl (by kernel_rfl)), rfl, x1⟩
theorem s20_ok : seqM c20 (seqM c21 (seqM c22 c23)) (lv (.dat (wayD a b c n e)) (.dat M') T s5 s6 s7 s8 s9 s10) = nxM (lv (.dat (wayD a b c n e)) (.dat M') T (.dat (.list (PR.oddF M'))) s6 s7 s8 (.dat PR.long) (.dat (.int 19))) := funext fun rs => by kernel_rfl
theorem s24_ok {O : List D} (hO : O.length = 21) : GvS (c24 tkF (lv (.dat (wayD a b c n e)) M T (.dat (.list O)) s6 s7 s8 s9 s10)) fun ev => ∃ d, d ∈ O ∧ ev = lv (.dat (wayD a b c n e)) M T (.dat (.list O)) (.dat d) s7 s8 s9 s10 := by
  have z : c24 tkF (lv (.dat (wayD a b c n e)) M T (.dat (.list O)) s6 s7 s8 s9 s10) = bnS (bnd (tkF [.row, .dat (.int 21)]) fun i => lft (ixD (.list O) i)) fun d => nxM (lv (.dat (wayD a b c n e)) M T (.dat (.list O)) (.dat d) s7 s8 s9 s10) := rfl
  rw [z, bnS_bnd]
  refine GvS.bnS (taken 21 (by decide) (by decide)) fun i ⟨j, j0, j1, ej⟩ => ?_
  subst ej
  obtain ⟨d, e1, e2⟩ := PR.ix_in (ds := O) j0 (by rw [hO]; exact j1)
  rw [e1, lft_some', bnS_pur]
  exact GvS.nx ⟨d, e2, rfl⟩
theorem s27_ok {d A m m' : D} {t : Ex} (hd : d ∈ PR.oddF m') (hm : PT.fChkF [.dat m] = pur .none) (hA : PT.fTab [.dat (wayD a b c n e), .dat A] = pur (.bool true)) (ht : OkEx t) : GvS (c27 tkF (lv (.dat (wayD a b c n e)) (.dat m) (.dat t.d) s5 (.dat d) (.dat A) (.fns [36, 37, 38, 39, 40]) s9 s10)) fun ev => ev = lv (.dat (wayD a b c n e)) (.dat m) (.dat t.d) s5 (.dat d) (.dat A) (.fns [36, 37, 38, 39, 40]) s9 s10 := fun rs => by
  obtain ⟨rs1, e1, x1⟩ := callK (W := .dat (wayD a b c n e)) (M := .dat m) (T := .dat t.d) (s5 := s5) (s6 := .dat d) (s7 := .dat A) (l := [36, 37, 38, 39, 40]) (s9 := s9) (s10 := s10) (N := 5) (v := .str "filter") rfl (by decide) (by decide) (fun k hk => told_x (flt hA hm hd ht k hk) rfl) rs
  exact ⟨_, rs1, pass1 (ne_at e1 rfl (by kernel_rfl)), rfl, x1⟩
theorem end_x {f : LW.Fs} {ev : Ev} {d l l1 : D} (g6 : getE ev 6 = some d) (g9 : getE ev 9 = some l) (q : ixD l (.int 1) = some l1) (h1 : f [.dat d] = pur (.bool false)) (h2 : f [.dat l1] = pur (.bool true)) :
    pRet (dAndV (dCmpE isD (dCl 1 f (dCons (dVar 6) (dNil))) (dLit (.bool false))) (dCmpE isD (dCl 1 f (dCons (dBin ixD (dVar 9) (dLit (.int 1))) (dNil))) (dLit (.bool true)))) ev = rtM (.bool true) := by
  have i1 : isD (.bool false) (.bool false) = some true := rfl
  have i2 : isD (.bool true) (.bool true) = some true := rfl
  simp [g6, g9, q, h1, h2, i1, i2, truD]
theorem s28_ok {d m' : D} (hd : d ∈ PR.oddF m') : c28 (lv (.dat (wayD a b c n e)) M T s5 (.dat d) s7 s8 (.dat PR.long) s10) = rtM (.bool true) :=
  end_x rfl rfl rfl (PR.flt_bad hd) PR.flt_long
def lawL (ftr ffl fse fta : LW.Fs) : Ev → Ms := seqM (c1 ftr ffl fse) (seqM c2 (seqM (c3 fta tkF) (seqM (seqM c4 (seqM c5 (seqM c6 (seqM c7 (seqM c8 (seqM c9 c10)))))) (seqM (c11 tkF) (seqM (c12 fBT) (seqM (seqM c13 (seqM c14 c15)) (seqM (c16 tkF) (seqM (seqM c17 c18) (seqM (c19 tkF) (seqM (seqM c20 (seqM c21 (seqM c22 c23))) (seqM (c24 tkF) (seqM (seqM c25 c26) (seqM (c27 tkF) c28)))))))))))))
theorem seq_at {f g : Ev → Ms} {ev ev' : Ev} {rs rs' : RS} (h : f ev rs = some (.nx ev', rs')) : seqM f g ev rs = g ev' rs' := by
  rw [seqM_eq]
  unfold sq
  rw [h]
theorem law_run (h1 : SpTree ftr) (h2 : LW.SpLawFlt ffl 2) (h3 : LW.SpLawSem fse) (h4 : SpTable fta) (rs : RS) : ∃ rs', lawL ftr ffl fse fta (lv .hid .hid .hid .hid .hid .hid .hid .hid .hid) rs = some (.ret (.bool true), rs') := by
  unfold lawL
  obtain ⟨ev1, r1, e1, ⟨a, b, c, n, e, x, t, x1, x2, ht, rfl⟩, _⟩ := s1_ok h1 h2 h3 rs
  have hm : PT.fChkF [.dat x.d] = pur .none := PT.chkF_sp x x1 (by omega)
  rw [seq_at e1, seq_at (congrFun s2_ok r1)]
  obtain ⟨ev3, r3, e3, ⟨d, A, hd, hA, rfl⟩, _⟩ := s3_ok (a := a) (b := b) (c := c) (n := n) (e := e) (M := .dat x.d) (T := .dat t.d) (s6 := .hid) (s7 := .hid) (s8 := .hid) (s9 := .hid) (s10 := .hid) h4 r1
  rw [seq_at e3, seq_at (congrFun w1_ok r3)]
  obtain ⟨ev11, r11, e11, rfl, _⟩ := s11_ok (M := .dat x.d) (T := .dat t.d) (s5 := .dat (.list (PR.oddS (PR.wl a b c n e)))) (s7 := .dat A) (s9 := .hid) (s10 := .hid) hd r3
  rw [seq_at e11]
  obtain ⟨ev12, r12, e12, ⟨d2, hd2, rfl⟩, _⟩ := s12_ok (a := a) (b := b) (c := c) (n := n) (e := e) (M := .dat x.d) (T := .dat t.d) (s5 := .dat (.list (PR.oddS (PR.wl a b c n e)))) (s6 := .dat d) (s7 := .dat A) (s8 := .fns (List.range 22)) (s9 := .hid) (s10 := .hid) r11
  rw [seq_at e12, seq_at (congrFun w2_ok r12)]
  obtain ⟨ev16, r16, e16, rfl, _⟩ := s16_ok (M := .dat x.d) (s5 := .dat (.list (PR.oddS (PR.wl a b c n e)))) (s9 := .hid) (s10 := .hid) hd2 hA ht r12
  rw [seq_at e16, seq_at (congrFun w3_ok r16)]
  obtain ⟨ev19, r19, e19, rfl, _⟩ := s19_ok (M := .dat x.d) (s5 := .dat (.list (PR.oddS (PR.wl a b c n e)))) (s9 := .hid) (s10 := .hid) hd2 hA ht r16
  rw [seq_at e19, seq_at (congrFun s20_ok r19)]
  obtain ⟨ev24, r24, e24, ⟨d3, hd3, rfl⟩, _⟩ := s24_ok (a := a) (b := b) (c := c) (n := n) (e := e) (M := .dat x.d) (T := .dat t.d) (O := PR.oddF x.d) (s6 := .dat d2) (s7 := .dat A) (s8 := .fns [30, 31, 32, 33, 34, 35]) (s9 := .dat PR.long) (s10 := .dat (.int 19)) rfl r19
  rw [seq_at e24, seq_at (congrFun w4_ok r24)]
  obtain ⟨ev27, r27, e27, rfl, _⟩ := s27_ok (s5 := .dat (.list (PR.oddF x.d))) (s9 := .dat PR.long) (s10 := .dat (.int 19)) hd3 hm hA ht r24
  rw [seq_at e27, s28_ok hd3]
  exact ⟨r27, rfl⟩
end
end K09
noncomputable section
namespace K09
open PySem PySem.Spec PyProof.Rows L2 DL LW PW LamX
section
variable [Xk] {G : Gm}
theorem seqM_as (f g h : Ev → Ms) : seqM (seqM f g) h = seqM f (seqM g h) := by
  funext ev rs
  simp only [seqM_eq]
  unfold sq
  cases f ev rs with
  | none => rfl
  | some q =>
    obtain ⟨q1, q2⟩ := q
    cases q1 <;> rfl
theorem s_all {X0 : Cx} {CS : Addr} {Cs : Nat → Addr} (B : Tp G) (h : Df G) (FN : IsFns X0 T_lam) (F7 : Wr7 G CS Cs) (W : FnW G "_law_wrong" st__law_wrong) : ∃ ftr ffl fse fta, (SpTree ftr ∧ LW.SpLawFlt ffl 2 ∧ LW.SpLawSem fse ∧ SpTable fta) ∧ SB G 42 sxL N_law [lawAt 1, lawAt 2, lawAt 3, lawAt 4, lawAt 5, lawAt 6, lawAt 7, lawAt 8, lawAt 9, lawAt 10, lawAt 11, lawAt 12, lawAt 13, lawAt 14, lawAt 15, lawAt 16, lawAt 17, lawAt 18, lawAt 19, lawAt 20, lawAt 21, lawAt 22, lawAt 23, lawAt 24, lawAt 25, lawAt 26, lawAt 27, lawAt 28] (lawL ftr ffl fse fta) := by
  obtain ⟨ftr, Ftr, pftr⟩ := fo__law_tree B h
  obtain ⟨ffl, Ffl, pffl⟩ := fo__law_filter B h 2
  obtain ⟨fse, Fse, pfse⟩ := fo__law_semantics B h
  obtain ⟨fta, Fta, pfta⟩ := fo__law_table B h
  have Fbt : FO G 2 "_law_bad_table" 2 fBT := fo_has (k := 1) h.h__law_bad_table sc__law_bad_table (s__law_bad_table B (fo_taken h.h__law_taken B) (by omega))
  have Fhf : FO G 5 "holds_for" 3 (PR.g_holds_for PR.z0) := fo_has (k := 4) h.h_holds_for sc_holds_for (s_holds_for B (cf_check_semantics B h) (by omega) (cf_check_identity B h) (by omega) (fo_zero (k := 1) h.h__are_arguments rfl) (by omega) (fo_zero (k := 1) h.h__names_of rfl) (by omega) (fo_zero (k := 1) h.h__value_of rfl) (by omega))
  have tk := fo_taken h.h__law_taken B
  have hT := (k_lam (k := 40) B (cf_union B h) (by omega) (cf_intersection B h) (by omega) (cf_difference B h) (by omega) (cf_select B h) (by omega) (cf_project B h) (by omega) (cf_join B h) (by omega) (cf_semijoin B h) (by omega) (cf_antijoin B h) (by omega) (cf_not_in B h) (by omega) (cf_distinct B h) (by omega) (cf_total B h) (by omega) (cf_truth B h) (by omega) (cf_evaluate B h) (by omega) (cf_count_at B h) (by omega) (cf_equal_for_all B h) (by omega) (cf_least_difference B h) (by omega) Fhf (by omega) (cf_holds B h) (by omega) (cf_counterexample B h) (by omega) (cf_profile B h) (by omega) (cf_is_table B h) (by omega) (cf_write_table B h) (by omega) (cf_write_filter B h) (by omega)).at_ (sc := sxL) ok_lam ms_ok
  refine ⟨ftr, ffl, fse, fta, ⟨pftr, pffl, pfse, pfta⟩, ?_⟩
  unfold lawL
  simp only [seqM_as]
  exact s_cons (s_1 (k := 40) B FN F7 W (by omega) hT Ftr (by omega) Ffl (by omega) Fse (by omega)) (s_cons (s_2 (k := 40) B FN F7 W (by omega) hT ) (s_cons (s_3 (k := 40) B FN F7 W (by omega) hT Fta (by omega) tk (by omega)) (s_cons (s_4 (k := 40) B FN F7 W (by omega) hT ) (s_cons (s_5 (k := 40) B FN F7 W (by omega) hT ) (s_cons (s_6 (k := 40) B FN F7 W (by omega) hT ) (s_cons (s_7 (k := 40) B FN F7 W (by omega) hT ) (s_cons (s_8 (k := 40) B FN F7 W (by omega) hT ) (s_cons (s_9 (k := 40) B FN F7 W (by omega) hT ) (s_cons (s_10 (k := 40) B FN F7 W (by omega) hT ) (s_cons (s_11 (k := 40) B FN F7 W (by omega) hT (cf_is_semantics B h) (by omega) tk (by omega)) (s_cons (s_12 (k := 40) B FN F7 W (by omega) hT Fbt (by omega)) (s_cons (s_13 (k := 40) B FN F7 W (by omega) hT ) (s_cons (s_14 (k := 40) B FN F7 W (by omega) hT ) (s_cons (s_15 (k := 40) B FN F7 W (by omega) hT ) (s_cons (s_16 (k := 40) B FN F7 W (by omega) hT (cf_is_table B h) (by omega) tk (by omega)) (s_cons (s_17 (k := 40) B FN F7 W (by omega) hT ) (s_cons (s_18 (k := 40) B FN F7 W (by omega) hT ) (s_cons (s_19 (k := 40) B FN F7 W (by omega) hT tk (by omega)) (s_cons (s_20 (k := 40) B FN F7 W (by omega) hT ) (s_cons (s_21 (k := 40) B FN F7 W (by omega) hT ) (s_cons (s_22 (k := 40) B FN F7 W (by omega) hT ) (s_cons (s_23 (k := 40) B FN F7 W (by omega) hT ) (s_cons (s_24 (k := 40) B FN F7 W (by omega) hT tk (by omega)) (s_cons (s_25 (k := 40) B FN F7 W (by omega) hT ) (s_cons (s_26 (k := 40) B FN F7 W (by omega) hT ) (s_cons (s_27 (k := 40) B FN F7 W (by omega) hT tk (by omega)) (s_one (s_28 (k := 40) B FN F7 W (by omega) hT (cf_is_filter B h) (by omega)))))))))))))))))))))))))))))
end
def spLaw (K : PySem.W.Frag) (P : Addr) : Sp := fun vs H Q _ => ∃ (a : Addr) (ns : List Int), vs = [.ref a] ∧ SqL K H a (ns.map V.int) ∧ H P = some (.tbl #[]) ∧ ∀ H', Q (.bl true) H'
def ev0 : Ev := lv .hid .hid .hid .hid .hid .hid .hid .hid .hid
theorem ev0_own (i : Nat) (ds : Ow) (e : ev0[i]? = some (DL.Slot.own ds)) : False := by
  have h : (DL.Slot.own ds) ∈ ev0 := List.mem_of_getElem? e
  simp [ev0, lv] at h
theorem tabS_nil {H : Hp} {P : Addr} {q : Str} (h : H P = some (.tbl #[])) : TabS H P q := ⟨#[], h, trivial, fun pos cv hc => by cases hc⟩
theorem ok_law {G : Gm} {CS c P fa : Addr} {Cs : Nat → Addr} {oc : Value} {od : Option Addr} {kV doc pm ct : Value} {an : Option Addr} {osl : Array (Option Value)} (B : Tp G) (h : Df G) (F7 : Wr7 G CS Cs) (W : FnW G "_law_wrong" st__law_wrong)
    (lk : G.K.lookup fa = some ⟨oc, od, .func (PySem.W.fnOf "law" "law" (defArgs st_law) (defBody st_law) (defScope st_law) .none kV doc pm an (.ref c) ct), osl⟩) (hcd : PySem.W.codeIn G.K (.ref c) "law" = true) (TB : TabB G.base G.mg c P) :
    FnOk G.P G.w G.K G.mg G.base (L2.CX G.P G.w) 43 fa (PySem.W.fnOf "law" "law" (defArgs st_law) (defBody st_law) (defScope st_law) .none kV doc pm an (.ref c) ct) ["script"] (spLaw G.K P) := by
  refine fn_of lk hcd sc_law (fun vs H Q E q => ?_) (fun A outer s H vs Q E hr hsp => ?_)
  · obtain ⟨a, ns, rfl, _⟩ := q
    rfl
  obtain ⟨a, ns, rfl, hS, hP, q⟩ := hsp
  obtain ⟨X, eX⟩ : ∃ X, X = cxOf (L2.CX G.P G.w) G.P G.w G.K G.mg G.base N_law "law" (defScope st_law) fa (.ref c) A outer s H E := ⟨_, rfl⟩
  have hcode : X.env.code = .ref c := by rw [eX]; rfl
  have hTB : TabB X.base X.mg c P := by rw [eX]; exact TB
  have hlq : lq X = X.env.qual ++ ("<lambda>" : Str) := rfl
  have m1 : (P, X.env.qual ++ ("<lambda>" : Str)) ∈ @Xk.tb (xkL P X T_lam) := by
    rw [← hlq]
    exact List.mem_singleton_self _
  have m2 : ∀ p ∈ @Xk.tb (xkL P X T_lam), p.1 = P → p.2 = X.env.qual ++ ("<lambda>" : Str) := fun p hp _ => by
    rw [← hlq]
    have z : p = (P, lq X) := List.mem_singleton.mp hp
    rw [z]
  have m3 : ∀ cl, @Xk.cl (xkL P X T_lam) = some cl → X.env.cells = cl := fun cl e => Option.some.inj (show some X.env.cells = some cl from e)
  have gd0 : ∀ (i : Xk), (P, X.env.qual ++ ("<lambda>" : Str)) ∈ i.tb → (∀ p ∈ i.tb, p.1 = P → p.2 = X.env.qual ++ ("<lambda>" : Str)) → (∀ cl, i.cl = some cl → X.env.cells = cl) → @Gd i G 42 sxL N_law X := fun i m1 m2 m3 => ⟨by rw [eX]; rfl, sc_law.nd, by rw [eX]; rfl, fun _ _ => by rw [eX]; rfl, by rw [eX]; rfl, by rw [eX]; exact hr, by rw [eX]; rfl, by rw [eX]; rfl, by rw [eX]; rfl, by rw [eX]; rfl, by rw [eX]; rfl, fun _ => by rw [eX]; rfl, fun _ _ => ⟨c, P, hcode, hTB, m1, m2, m3⟩⟩
  have gd := gd0 (xkL P X T_lam) m1 m2 m3
  have tk : Takes X (fun cls d _ H => E cls d H) := by rw [eX]; exact takes_of rfl rfl rfl rfl
  have po : PassesOwn (model X.prog X.w) X.A X.env X.xe := by rw [eX]; exact passes_of rfl
  have hN : X.N = N_law := by rw [eX]; rfl
  obtain ⟨ftr, ffl, fse, fta, ⟨h1, h2, h3, h4⟩, st⟩ := @s_all (xkL P X T_lam) G X CS Cs B h (isFns P X T_lam) F7 W
  have s0 : PS X (lawAt 0) _ := ps_set (i := 1) (by rw [hN]; exact sc_law.nd) (by rw [hN]; rfl) (by first | exact .inr (by rw [eX]; rfl) | exact .inl (by rw [eX]; rfl)) (pe_lst (pa_cons (pe_var (i := 0) (by rw [hN]; rfl) (.inl (by rw [eX]; rfl))) (pa_cons pe_int (pa_cons pe_int (pa_cons pe_int pa_nil))))) (hf := .inl (by rw [eX]; rfl))
  rw [← eX]
  refine ⟨_, pss_cons s0 (st X _ gd tk po), ?_⟩
  refine ⟨_, rfl, by show 4 ≤ sizeLine; exact size_ok 4, fun p hp => ?_⟩
  have hPp : P ≠ p := ne_of_none hP hp
  have sm : Same H (upd H p (.lst [.ref a, .int 0, .int 15329, .int 0])) := same_upd hp
  generalize hH1 : upd H p (.lst [.ref a, .int 0, .int 15329, .int 0]) = H1 at sm
  have hrow : H1 p = some (.lst [.ref a, .int 0, .int 15329, .int 0]) := by rw [← hH1]; exact upd_same
  have hTab : H1 P = some (.tbl #[]) := sm _ _ hP
  have R : @RelS (xkL P X T_lam) G.K (fun b => b = p ∨ b = P) ⟨p, a, ns⟩ (fun b o => H1 b = some o ∧ ¬ (b = p ∨ b = P)) ((L2.start N_law [.ref a]).set 1 (some (.ref p))) H1 ev0 ⟨ns, 0, 15329, 0, []⟩ fun _ => 0 := by
    letI : Xk := xkL P X T_lam
    have av : ∀ b, Av (fun b => b = p ∨ b = P) ev0 (fun _ => 0) b → b = p ∨ b = P := fun b m => m.elim id fun ⟨i, ⟨ds, e⟩, _⟩ => (ev0_own i ds e).elim
    refine ⟨⟨fun b z => .inl z, fun b m => ?_, ⟨⟨hrow, rfl, fun z => hPp z.symm, tabS_nil hTab⟩, ?_⟩, fun i s e => ?_, by show 12 ≤ 12; decide⟩, fun b z => z, fun b o q => q.1, fun b o z q => q.2 z, fun b m n => absurd m n, fun i ds e => (ev0_own i ds e).elim, fun i j ⟨ds, e⟩ => (ev0_own i ds e).elim⟩
    · rcases av b m with z | z
      · exact ⟨.lst [.ref a, .int 0, .int 15329, .int 0], by rw [z]; exact hrow, trivial⟩
      · exact ⟨.tbl #[], by rw [z]; exact hTab, z⟩
    · rcases hS with hS | hS
      · refine .inl ⟨?_, fun m => ?_⟩
        · rcases hS with z | ⟨o, z⟩
          · exact .inl (sm _ _ z)
          · exact .inr ⟨o, sm _ _ z⟩
        · have nn : a ≠ p ∧ a ≠ P := by
            rcases hS with z | ⟨o, z⟩
            · exact ⟨ne_of_none z hp, fun w => by rw [w, hP] at z; cases z⟩
            · exact ⟨ne_of_none z hp, fun w => by rw [w, hP] at z; cases z⟩
          exact (av _ m).elim nn.1 nn.2
      · exact .inr hS
    · match i, e with
      | 0, e => cases e; trivial
      | 1, e => cases e; exact rfl
      | 2, e => cases e; trivial
      | 3, e => cases e; trivial
      | 4, e => cases e; trivial
      | 5, e => cases e; trivial
      | 6, e => cases e; trivial
      | 7, e => cases e; trivial
      | 8, e => cases e; trivial
      | 9, e => cases e; trivial
      | 10, e => cases e; trivial
      | 11, e => cases e; trivial
      | i + 12, e => simp [ev0, lv] at e
  obtain ⟨rs', er⟩ := law_run h1 h2 h3 h4 ⟨ns, 0, 15329, 0, []⟩
  exact ⟨_, _, _, _, _, _, R, _, _, er, fun v H' pk w2 dv => by cases dv; exact q H'⟩
theorem law_mk {l : PySem.W.OpenLaw} {w : World} {K : PySem.W.Frag} {h : Heap} {mg : Str → Option Value} {fa f c P CS : Addr} {Cs : Nat → Addr} {oc : Value} {od : Option Addr} {kV doc pm ct : Value} {an : Option Addr} {osl : Array (Option Value)} (X : K.In h) (G : h.Ns mainGlobals mg) (hfa : mg "law" = some (.ref fa))
    (tp : ∀ base, Tp ⟨l.prog, w, K, mg, base⟩) (df : ∀ base, Df ⟨l.prog, w, K, mg, base⟩) (bf : ∀ base, Wr7 ⟨l.prog, w, K, mg, base⟩ CS Cs) (fb : ∀ base, FnW ⟨l.prog, w, K, mg, base⟩ "_law_wrong" st__law_wrong)
    (a : PySem.W.nsIn K mainGlobals "law" = some (some (.ref f))) (lk : K.lookup f = some ⟨oc, od, .func (PySem.W.fnOf "law" "law" (defArgs st_law) (defBody st_law) (defScope st_law) .none kV doc pm an (.ref c) ct), osl⟩) (cd : PySem.W.codeIn K (.ref c) "law" = true)
    (hc : PySem.W.codeHdIn K c P = true) (nP : K.lookup P = none) (hP : h.get? P = some (PySem.W.tabObj #[])) : LawAtS l w K (L2.CX l.prog w) 43 63 "script" mg fa h := by
  have e := hfa.symm.trans (PySem.W.mg_of X G a)
  cases e
  refine ⟨PySem.W.fnOf "law" "law" (defArgs st_law) (defBody st_law) (defScope st_law) .none kV doc pm an (.ref c) ct, [(c, P)], spLaw K P, fun q hq => ?_, fun q hq => ?_, fun q hq => ?_, fun s v => .of_eq rfl, fun H a ns _ _ hT hS => ?_, fun base _ _ hb => ?_⟩
  · cases hq with
    | head => exact hP
    | tail _ z => cases z
  · cases hq with
    | head => exact nP
    | tail _ z => cases z
  · cases hq with
    | head => exact PySem.W.codeHd_of_K X hc
    | tail _ z => cases z
  · exact ⟨a, ns, rfl, hS, hT _ (List.mem_cons_self), fun _ => rfl⟩
  · exact ok_law (G := ⟨l.prog, w, K, mg, base⟩) (tp base) (df base) (bf base) (fb base) lk cd (hb _ (List.mem_cons_self))
theorem cx_end {l : PySem.W.OpenLaw} (w : World) (H : Hp) (s : Shared) (e : Value) (s' : Shared) (h : L2.CX l.prog w [] H s (fun _ _ _ => False) e s') : False := by
  obtain ⟨_, _, _, _, _, _, _, _, _, _, _, _, z⟩ := h
  exact z
end K09
set_option maxHeartbeats 0
noncomputable section
namespace K09
open PySem PySem.W PySem.Calls PyProof.Rows HandSHeadRun HM DL
open L2 (defArgs defBody defScope)
section
variable {w : World} {K : PySem.W.Frag} {h base : Heap} {mg : Str → Option Value}
theorem nd_FORMS : (PW.t_FORMS.map (·.1)).Nodup := by decide +kernel
theorem tp_all (X : K.In h) (Gn : h.Ns mainGlobals mg) (c : HM.obsK sp0 K = HM.valK sp0 RW.prog w) (m : ∀ f ∈ moreL, f K = true) : Tp ⟨RW.prog, w, K, mg, base⟩ where
  b_all := f_no X Gn (fact c 0)
  b_any := f_no X Gn (fact c 1)
  b_bool := f_no X Gn (fact c 2)
  b_dict := f_no X Gn (fact c 3)
  b_enumerate := f_no X Gn (fact c 4)
  b_int := f_no X Gn (fact c 5)
  b_isinstance := f_no X Gn (fact c 6)
  b_len := f_no X Gn (fact c 7)
  b_list := f_no X Gn (fact c 8)
  b_range := f_no X Gn (fact c 9)
  b_sorted := f_no X Gn (fact c 10)
  b_str := f_no X Gn (fact c 11)
  b_sum := f_no X Gn (fact c 12)
  b_tuple := f_no X Gn (fact c 13)
  b_zip := f_no X Gn (fact c 14)
  c_CASE_LENGTH := f_con X Gn (fact c 15)
  c_DUPLICATES := f_con X Gn (fact c 16)
  c_GREATEST_COUNT := f_con X Gn (fact c 17)
  c_GREATEST_VALUE := f_con X Gn (fact c 18)
  c_MOST_LEAVES := f_con X Gn (fact c 19)
  c_MOST_ROWS := f_con X Gn (fact c 20)
  c_MOST_TUPLES_expressions := f_con X Gn (fact c 21)
  c_MOST_TUPLES_filters := f_con X Gn (fact c 22)
  c_NO_ROW := f_con X Gn (fact c 23)
  c_NULLS := f_con X Gn (fact c 24)
  c_ROW_LENGTH := f_con X Gn (fact c 25)
  c_TABLE_NAMES := f_con X Gn (fact c 26)
  c_WORDS := f_con X Gn (fact c 27)
  k_GREATEST := f_td X Gn c 0 rfl
  k_HOLDS_WITH := f_td X Gn c 1 rfl
  k_SIDES := f_td X Gn c 2 rfl
  t_FORMS := f_tt X Gn c 0 rfl nd_FORMS
  x_BadArguments := f_ex X Gn (fact c 28)
  x_BadCase := f_ex X Gn (fact c 29)
  x_BadFilter := f_ex X Gn (fact c 30)
  x_BadIdentity := f_ex X Gn (fact c 31)
  x_BadRow := f_ex X Gn (fact c 32)
  x_BadSemantics := f_ex X Gn (fact c 33)
  y_BadExpression := HM.exI_of X Gn (m (HM.supB RW.prog "BadExpression" "BadExpression.__init__") (by simp [moreL]))
  y_BadTable := HM.exI_of X Gn (m (HM.supB RW.prog "BadTable" "BadTable.__init__") (by simp [moreL]))
theorem df_all (X : K.In h) (Gn : h.Ns mainGlobals mg) (c : HM.obsK sp0 K = HM.valK sp0 RW.prog w) : Df ⟨RW.prog, w, K, mg, base⟩ where
  h_is_semantics := f_has X Gn c 0 34 rfl rfl fun _ _ _ _ _ _ us hl => match us, hl with | [_], _ => rfl
  h_check_semantics := f_has X Gn c 1 35 rfl rfl fun _ _ _ _ _ _ us hl => match us, hl with | [_], _ => rfl
  h_is_integer_to := f_has X Gn c 2 36 rfl rfl fun _ _ _ _ _ _ us hl => match us, hl with | [_, _], _ => rfl
  h_is_row := f_has X Gn c 3 37 rfl rfl fun _ _ _ _ _ _ us hl => match us, hl with | [_, _], _ => rfl
  h__is_value_under := f_has X Gn c 4 38 rfl rfl fun _ _ _ _ _ _ us hl => match us, hl with | [_, _], _ => rfl
  h_value_order := f_has X Gn c 5 39 rfl rfl fun _ _ _ _ _ _ us hl => match us, hl with | [_], _ => rfl
  h_row_order := f_has X Gn c 6 40 rfl rfl fun _ _ _ _ _ _ us hl => match us, hl with | [_], _ => rfl
  h_is_table := f_has X Gn c 7 41 rfl rfl fun _ _ _ _ _ _ us hl => match us, hl with | [_, _], _ => rfl
  h__is_ascending := f_has X Gn c 8 42 rfl rfl fun _ _ _ _ _ _ us hl => match us, hl with | [_, _], _ => rfl
  h_check_tables := f_has X Gn c 9 43 rfl rfl fun _ _ _ _ _ _ us hl => match us, hl with | [_, _], _ => rfl
  h_tuples_of := f_has X Gn c 10 44 rfl rfl fun _ _ _ _ _ _ us hl => match us, hl with | [_, _, _], _ => rfl
  h__has_form := f_has X Gn c 11 45 rfl rfl fun _ _ _ _ _ _ us hl => match us, hl with | [_, _], _ => rfl
  h__fits := f_has X Gn c 12 46 rfl rfl fun _ _ _ _ _ _ us hl => match us, hl with | [_, _], _ => rfl
  h__inner_tuples := f_has X Gn c 13 47 rfl rfl fun _ _ _ _ _ _ us hl => match us, hl with | [_, _], _ => rfl
  h_is_filter := f_has X Gn c 14 48 rfl rfl fun _ _ _ _ _ _ us hl => match us, hl with | [_], _ => rfl
  h_check_filter := f_has X Gn c 15 49 rfl rfl fun _ _ _ _ _ _ us hl => match us, hl with | [_], _ => rfl
  h_truth := f_has X Gn c 16 50 rfl rfl fun _ _ _ _ _ _ us hl => match us, hl with | [_, _, _], _ => rfl
  h_truth_of := f_has X Gn c 17 51 rfl rfl fun _ _ _ _ _ _ us hl => match us, hl with | [_, _, _], _ => rfl
  h_each_once := f_has X Gn c 18 52 rfl rfl fun _ _ _ _ _ _ us hl => match us, hl with | [_], _ => rfl
  h_union_of := f_has X Gn c 19 53 rfl rfl fun _ _ _ _ _ _ us hl => match us, hl with | [_, _, _], _ => rfl
  h_intersection_of := f_has X Gn c 20 54 rfl rfl fun _ _ _ _ _ _ us hl => match us, hl with | [_, _, _], _ => rfl
  h_difference_of := f_has X Gn c 21 55 rfl rfl fun _ _ _ _ _ _ us hl => match us, hl with | [_, _, _], _ => rfl
  h_selection_of := f_has X Gn c 22 56 rfl rfl fun _ _ _ _ _ _ us hl => match us, hl with | [_, _, _], _ => rfl
  h_projection_of := f_has X Gn c 23 57 rfl rfl fun _ _ _ _ _ _ us hl => match us, hl with | [_, _], _ => rfl
  h_join_of := f_has X Gn c 24 58 rfl rfl fun _ _ _ _ _ _ us hl => match us, hl with | [_, _, _], _ => rfl
  h_semijoin_of := f_has X Gn c 25 59 rfl rfl fun _ _ _ _ _ _ us hl => match us, hl with | [_, _, _], _ => rfl
  h_antijoin_of := f_has X Gn c 26 60 rfl rfl fun _ _ _ _ _ _ us hl => match us, hl with | [_, _, _], _ => rfl
  h_not_in_of := f_has X Gn c 27 61 rfl rfl fun _ _ _ _ _ _ us hl => match us, hl with | [_, _, _], _ => rfl
  h_total_of := f_has X Gn c 28 62 rfl rfl fun _ _ _ _ _ _ us hl => match us, hl with | [_, _], _ => rfl
  h_union := f_has X Gn c 29 63 rfl rfl fun _ _ _ _ _ _ us hl => match us, hl with | [_, _, _], _ => rfl
  h_intersection := f_has X Gn c 30 64 rfl rfl fun _ _ _ _ _ _ us hl => match us, hl with | [_, _, _], _ => rfl
  h_difference := f_has X Gn c 31 65 rfl rfl fun _ _ _ _ _ _ us hl => match us, hl with | [_, _, _], _ => rfl
  h_select := f_has X Gn c 32 66 rfl rfl fun _ _ _ _ _ _ us hl => match us, hl with | [_, _, _], _ => rfl
  h_project := f_has X Gn c 33 67 rfl rfl fun _ _ _ _ _ _ us hl => match us, hl with | [_, _], _ => rfl
  h_join := f_has X Gn c 34 68 rfl rfl fun _ _ _ _ _ _ us hl => match us, hl with | [_, _, _], _ => rfl
  h_semijoin := f_has X Gn c 35 69 rfl rfl fun _ _ _ _ _ _ us hl => match us, hl with | [_, _, _], _ => rfl
  h_antijoin := f_has X Gn c 36 70 rfl rfl fun _ _ _ _ _ _ us hl => match us, hl with | [_, _, _], _ => rfl
  h_not_in := f_has X Gn c 37 71 rfl rfl fun _ _ _ _ _ _ us hl => match us, hl with | [_, _, _], _ => rfl
  h_distinct := f_has X Gn c 38 72 rfl rfl fun _ _ _ _ _ _ us hl => match us, hl with | [_, _], _ => rfl
  h_total := f_has X Gn c 39 73 rfl rfl fun _ _ _ _ _ _ us hl => match us, hl with | [_, _], _ => rfl
  h_identities := f_has X Gn c 40 74 rfl rfl fun _ _ _ _ _ _ us hl => match us, hl with | [], _ => rfl
  h_is_identity := f_has X Gn c 41 75 rfl rfl fun _ _ _ _ _ _ us hl => match us, hl with | [_], _ => rfl
  h_check_identity := f_has X Gn c 42 76 rfl rfl fun _ _ _ _ _ _ us hl => match us, hl with | [_], _ => rfl
  h_shape := f_has X Gn c 43 77 rfl rfl fun _ _ _ _ _ _ us hl => match us, hl with | [_], _ => rfl
  h__names_of := f_has X Gn c 44 78 rfl rfl fun _ _ _ _ _ _ us hl => match us, hl with | [_], _ => rfl
  h_holds_for := f_has X Gn c 45 79 rfl rfl fun _ _ _ _ _ _ us hl => match us, hl with | [_, _, _], _ => rfl
  h__are_arguments := f_has X Gn c 46 80 rfl rfl fun _ _ _ _ _ _ us hl => match us, hl with | [_, _, _], _ => rfl
  h__value_of := f_has X Gn c 47 81 rfl rfl fun _ _ _ _ _ _ us hl => match us, hl with | [_, _, _], _ => rfl
  h_holds := f_has X Gn c 48 82 rfl rfl fun _ _ _ _ _ _ us hl => match us, hl with | [_, _], _ => rfl
  h_counterexample := f_has X Gn c 49 83 rfl rfl fun _ _ _ _ _ _ us hl => match us, hl with | [_, _], _ => rfl
  h__broken_by := f_has X Gn c 50 84 rfl rfl fun _ _ _ _ _ _ us hl => match us, hl with | [_, _], _ => rfl
  h__argument := f_has X Gn c 51 85 rfl rfl fun _ _ _ _ _ _ us hl => match us, hl with | [_], _ => rfl
  h_is_expression := f_has X Gn c 52 86 rfl rfl fun _ _ _ _ _ _ us hl => match us, hl with | [_], _ => rfl
  h__leaves_among := f_has X Gn c 53 87 rfl rfl fun _ _ _ _ _ _ us hl => match us, hl with | [_], _ => rfl
  h__check_expressions := f_has X Gn c 54 88 rfl rfl fun _ _ _ _ _ _ us hl => match us, hl with | [_], _ => rfl
  h_evaluate := f_has X Gn c 55 89 rfl rfl fun _ _ _ _ _ _ us hl => match us, hl with | [_, _, _, _, _, _], _ => rfl
  h_count_at := f_has X Gn c 56 90 rfl rfl fun _ _ _ _ _ _ us hl => match us, hl with | [_, _, _], _ => rfl
  h__is_case := f_has X Gn c 57 91 rfl rfl fun _ _ _ _ _ _ us hl => match us, hl with | [_, _], _ => rfl
  h__is_truth := f_has X Gn c 58 92 rfl rfl fun _ _ _ _ _ _ us hl => match us, hl with | [_, _], _ => rfl
  h__count_of := f_has X Gn c 59 93 rfl rfl fun _ _ _ _ _ _ us hl => match us, hl with | [_, _, _], _ => rfl
  h_equal_for_all := f_has X Gn c 60 94 rfl rfl fun _ _ _ _ _ _ us hl => match us, hl with | [_, _, _], _ => rfl
  h_least_difference := f_has X Gn c 61 95 rfl rfl fun _ _ _ _ _ _ us hl => match us, hl with | [_, _, _], _ => rfl
  h__greatest_needed := f_has X Gn c 62 96 rfl rfl fun _ _ _ _ _ _ us hl => match us, hl with | [_, _, _], _ => rfl
  h__cases := f_has X Gn c 63 97 rfl rfl fun _ _ _ _ _ _ us hl => match us, hl with | [_, _], _ => rfl
  h_profile := f_has X Gn c 64 98 rfl rfl fun _ _ _ _ _ _ us hl => match us, hl with | [_], _ => rfl
  h_value_text := f_has X Gn c 65 99 rfl rfl fun _ _ _ _ _ _ us hl => match us, hl with | [_], _ => rfl
  h_write_table := f_has X Gn c 66 100 rfl rfl fun _ _ _ _ _ _ us hl => match us, hl with | [_, _], _ => rfl
  h_write_filter := f_has X Gn c 67 101 rfl rfl fun _ _ _ _ _ _ us hl => match us, hl with | [_], _ => rfl
  h__text_of := f_has X Gn c 68 102 rfl rfl fun _ _ _ _ _ _ us hl => match us, hl with | [_], _ => rfl
  h__law_taken := f_has X Gn c 69 103 rfl rfl fun _ _ _ _ _ _ us hl => match us, hl with | [_, _], _ => rfl
  h__law_pick := f_has X Gn c 70 104 rfl rfl fun _ _ _ _ _ _ us hl => match us, hl with | [_, _], _ => rfl
  h__law_semantics := f_has X Gn c 71 105 rfl rfl fun _ _ _ _ _ _ us hl => match us, hl with | [_], _ => rfl
  h__law_rank := f_has X Gn c 72 106 rfl rfl fun _ _ _ _ _ _ us hl => match us, hl with | [_], _ => rfl
  h__law_sorted := f_has X Gn c 73 107 rfl rfl fun _ _ _ _ _ _ us hl => match us, hl with | [_], _ => rfl
  h__law_value := f_has X Gn c 74 108 rfl rfl fun _ _ _ _ _ _ us hl => match us, hl with | [_, _], _ => rfl
  h__law_table := f_has X Gn c 75 109 rfl rfl fun _ _ _ _ _ _ us hl => match us, hl with | [_, _, _], _ => rfl
  h__law_filter := f_has X Gn c 76 110 rfl rfl fun _ _ _ _ _ _ us hl => match us, hl with | [_, _], _ => rfl
  h__law_condition := f_has X Gn c 77 111 rfl rfl fun _ _ _ _ _ _ us hl => match us, hl with | [_, _], _ => rfl
  h__law_expression := f_has X Gn c 78 112 rfl rfl fun _ _ _ _ _ _ us hl => match us, hl with | [_, _], _ => rfl
  h__law_tuples := f_has X Gn c 79 113 rfl rfl fun _ _ _ _ _ _ us hl => match us, hl with | [_], _ => rfl
  h__law_tree := f_has X Gn c 80 114 rfl rfl fun _ _ _ _ _ _ us hl => match us, hl with | [_, _], _ => rfl
  h__law_wrong := f_has X Gn c 81 115 rfl rfl fun _ _ _ _ _ _ us hl => match us, hl with | [_], _ => rfl
  h__law_bad_table := f_has X Gn c 82 116 rfl rfl fun _ _ _ _ _ _ us hl => match us, hl with | [_, _], _ => rfl
end
abbrev dLaw : DefRec := topDef RW.prog 151
theorem e_pb : behindTheImports RW.prog = l1 ++ .Assign [tgOf fstS] (.Dict (keysOf fstS) (valsOf fstS) (pos2Of fstS)) (posOf fstS) :: l2 := by kernel_rfl
theorem e_pk : (keysOf fstS).all (fun k => match k with
      | some k => isTup k
      | none => false) = true := by kernel_rfl
theorem e_pl : (keysOf fstS).length = 17 := by kernel_rfl
theorem e_pv : (keysOf fstS).length = (valsOf fstS).length := by kernel_rfl
theorem e_ps (env : Env) : swapsWithSole [tgOf fstS] (.Dict (keysOf fstS) (valsOf fstS) (pos2Of fstS)) (posOf fstS).line env = pure false := by rfl
theorem e_o1 : opening RW.prog = plainProg RW.prog.main.scope.names := by kernel_rfl
theorem e_o2 (s : Shared) : fenceModules? RW.prog s = some s := by kernel_rfl
theorem e_o3 : chainsOk qv = true := by kernel_rfl
theorem e_h1 : defOf qv RW.name = some (dLaw, []) := by kernel_rfl
theorem e_h2 : RW.prog.theDef RW.name = some (dLaw.params, dLaw.body, dLaw.scope) := by kernel_rfl
theorem e_h3 : kwWritten? dLaw.params.kwonlyargs dLaw.params.kw_defaults = some [] := by rfl
theorem e_h6 : (chainsOk qv && opensWell RW.prog && (frees RW.toRowW && RW.within.isEmpty)) = true := by decide +kernel
theorem e_h7 : RW.prog.bare := ⟨rfl, rfl, rfl, rfl, rfl, by decide +kernel⟩
theorem e_nm : dLaw.name = ("law" : PySem.Str) := by kernel_rfl
theorem e_df : dLaw.params.defaults = [] := by kernel_rfl
theorem e_call : WalkO qv lse (XL qv []) (hookL sp1 RW.prog 11).says RW.toRowW dLaw [] fun f vs => PySem.call f vs := by
  refine LamX.walk_ofTsE (l := PySem.Challenge.rw_queryheld_k09_whole_refused) (n := 63) (k := 43) (x := "script") (CX := fun w => L2.CX (PySem.Challenge.rw_queryheld_k09_whole_refused).prog w) rfl (by decide) e_df ⟨rfl, by decide, by decide⟩ ?F cx_end
  intro w mg fa h Y G hmg0
  obtain ⟨K, cc, P, KX, c, hcd, nP, hP, hcode, hmore⟩ := Y
  refine ⟨K, KX, ?_⟩
  have hmg : mg ("law" : PySem.Str) = some (.ref fa) := by
    rw [← e_nm]
    exact hmg0
  obtain ⟨oc, od, osl, kV, doc, pm, an, cdv, ct, h1, h2, h3, h4⟩ := f_fun (st := st_law) KX G c 83 117 rfl rfl
  obtain ⟨oc', od', osl', kV', doc', pm', an', cdv', ct', q1, q2, q3, q4⟩ := f_fun (st := st__law_wrong) KX G c 81 115 rfl rfl
  have ec := code_is h2 hcode
  subst ec
  exact law_mk KX G hmg (fun base => tp_all KX G c (List.all_eq_true.mp hmore)) (fun base => df_all KX G c) (fun base => wr7_of KX G fun f hf => List.all_eq_true.mp hmore f (List.mem_append_left _ hf)) (fun base => HM.fw_mk KX G (glo_ns (fact c 115)) q2 q3 q4 fun _ _ _ _ _ _ us hl => match us, hl with | [_], _ => rfl) (glo_ns (fact c 117)) h2 h3 hcd nP hP
end K09
end
open PySem PySem.W PySem.Calls PyProof.Rows
theorem PySem.Challenge.cw_queryheld_k09_whole_refused_holds : PySem.Challenge.rw_queryheld_k09_whole_refused.Holds := by
  w_on; o_law
  refine HM.holds_behind (fun w => HM.behind_runL (pos := K09.posOf K09.fstS) (K09.size_w w) (K09.main_w w) (K09.dict_w w) (HM.parts_ok K09.e_pb K09.e_pk K09.e_pl K09.e_pv K09.e_ps) K09.e_o1 K09.e_o2 K09.e_o3) K09.e_h1 K09.e_h2 K09.e_h3 ?h4 ?h5 K09.e_h6 K09.e_h7 ?hw K09.e_call
  case h4 => decide +kernel
  case h5 => exact K09.e_h5
  case hw => w_witness2
